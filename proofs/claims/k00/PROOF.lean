import PyProof.Rows.All
import Wide.All
import OpenK.AllK
import Wide.FinOn
import HandS.ExcOwn
import HandS.Words
import HandS.HeadHook3
import HandS.HeadEnd
import HandS.Head0
import HandS.Head1
import HandS.Head2
import HandS.ForMost
import HandS.IsInst
import HandS.Flow
import HandS.Style
import HandS.Walk
import HandS.TupAny
import HandS.TupMul
import HandS.Zip
import HandS.Rev
import HandS.Strs
import HandS.SetBool
import HandS.SetKeys
import HandS.DeepEq
import HandS.NoneIn
import HandS.Wide
import HandS.ExcInit
import KE.KUnpackStar
import KE.KStar
import KE.KItemsList
import KE.KEqDict
import HandS.SetFor
import HandS.CallLocal
import HandS.More
import KE.GoesEnum
import KE.DataMinMax
import HandS.Conv
import KE.SortData
import HandS.SortInts
import HandS.Iter
import HandS.ExcIs
import KE.KExcIs
import HandS.ExcField
import HandS.OwnEq
import PySem.Challenge.RW_barewords_k00_errors_and_their_fields
set_option Elab.async false
set_option linter.all false
set_option maxRecDepth 100000
set_option maxHeartbeats 2000000
namespace B
open PySem PySem.Spec PyProof.Rows L2
set_option autoImplicit false
/-! ### the head's end, told by truth values of the part of the heap that the module's names reach -/
abbrev Chk : Type := PySem.W.Frag → Bool
def nextM (g : Addr → Option Obj) (as : List Addr) : List Addr := as.flatMap fun a => match g a with
  | some o => He.refsO o
  | none => []
/-- what the module's names reach: functions, classes, tables, what is in these, the classes' own, the code -/
def asM (g : Addr → Option Obj) : List Addr :=
  let l1 := nextM g [mainGlobals]
  let l2 := nextM g l1
  let l3 := nextM g l2
  mainGlobals :: cStatics :: (l1 ++ (l2 ++ (l3 ++ nextM g l3)))
abbrev AlM : Type := He.Al × List (Option (List (Option (Str × Int))))
def obsM (bs : List Chk) (fn : List He.FnD) (ts : List (Str × List Str)) (K : PySem.W.Frag) : AlM :=
  (((bs.all fun b => b K) && fn.all fun d => (He.Fa.code d.at_ d.qual).ok K, fn.map fun d => He.fnObs K d.at_), ts.map fun t => He.dicW K (He.ga K t.1))
def valM (fn : List He.FnD) (ts : List (Str × List Str)) (w : World) : AlM := ((true, fn.map He.FnD.val), ts.map fun t => some (He.keysIn w.params t.2))
def SaysM (bs : List Chk) (fn : List He.FnD) (ts : List (Str × List Str)) (w : World) (K : PySem.W.Frag) : Prop := obsM bs fn ts K = valM fn ts w
def hookM (bs : List Chk) (fn : List He.FnD) (ts : List (Str × List Str)) : PySem.W.Hook where
  α := AlM
  obs := fun s => obsM bs fn ts (He.frG s.heap.get? (asM s.heap.get?))
  val := fun w => valM fn ts w
  says := fun w h => ∃ K : PySem.W.Frag, K.In h ∧ SaysM bs fn ts w K
  of := fun _ _ e => ⟨_, He.frG_in, e⟩
  keeps := fun _ _ _ ⟨K, hK, c⟩ k => ⟨K, PySem.W.Frag.In.keeps hK k, c⟩
def obM (bs : List Chk) (fn : List He.FnD) (ts : List (Str × List Str)) (s : PySem.W.SharedT) : AlM := obsM bs fn ts (He.frG (HandSHeadRun.getT s) (asM (HandSHeadRun.getT s)))
theorem obM_eq (bs : List Chk) (fn : List He.FnD) (ts : List (Str × List Str)) (s : PySem.W.SharedT) : obM bs fn ts s = (hookM bs fn ts).obs s.abs := by
  have e : HandSHeadRun.getT s = s.abs.heap.get? := funext (HandSHeadRun.getT_eq s)
  unfold obM
  rw [e] <;> rfl
def intB (x : Str) (i : Int) : Chk := fun K => match PySem.W.nsIn K mainGlobals x with
  | some (some (.int j _)) => decide (j = i)
  | _ => false
def strsB : List Str → List Value → Bool
  | [], [] => true
  | x :: xs, .str y _ :: us => decide (x = y) && strsB xs us
  | _, _ => false
inductive Hd where
  | int (i : Int)
  | tup (xs : List Str)
  | fnc (x : Str)
def Hd.ok (K : PySem.W.Frag) : Hd → Value → Bool
  | .int i, .int j _ => decide (j = i)
  | .tup xs, .ref a => (match K.lookup a with
    | some ⟨.type c, _, .seq its _, _⟩ => decide (c = "tuple") && (decide (its.size ≤ sizeLine) && strsB xs its.toList)
    | _ => false)
  | .fnc x, .ref f => He.eqO (PySem.W.nsIn K mainGlobals x) (some (some (.ref f)))
  | _, _ => false
def tupB (x : Str) (xs : List Str) : Chk := fun K => (Hd.tup xs).ok K (.ref (He.ga K x))
def entsB (K : PySem.W.Frag) : List DictEntry → List (Str × Hd) → Bool
  | [], [] => true
  | ⟨_, .str x _, u⟩ :: es, (y, d) :: r => decide (x = y) && (d.ok K u && entsB K es r)
  | _, _ => false
def tableB (x : Str) (r : List (Str × Hd)) : Chk := fun K => match K.lookup (He.ga K x) with
  | some ⟨_, _, .dict es _, _⟩ => entsB K es.toList r
  | _ => false
def allC (cs : List Chk) : Chk := fun K => cs.all fun b => b K
def exB (K : PySem.W.Frag) (W0 C : Addr) : Bool := match K.lookup C with
  | some ⟨.type t, _, .cls cd, sl⟩ => (match cd.mro, sl.toList with
    | .ref C' :: .ref V :: r, [_, _, _, _, some (.builtin n), _] => decide (t = "type") && (decide (C' = C) && (decide (V = W0) && (decide (r = PySem.HandSPX.veTail) && (decide (n = "ValueError.__new__") && (cd.hasDict && !cd.hasDel)))))
    | _, _ => false)
  | _ => false
def efB (w0 c : Str) : Chk := fun K => He.eqO (PySem.W.nsIn K mainGlobals c) (some (some (.ref (He.ga K c)))) && (exB K (He.ga K w0) (He.ga K c) && (He.eqO (PySem.W.findIn K (.ref (He.ga K c)) "__setattr__") (some (some (.builtin "object.__setattr__"))) &&
  (He.eqO (PySem.W.findIn K (.ref (He.ga K c)) "__getattribute__") (some (some (.builtin "BaseException.__getattribute__"))) && (He.eqO (PySem.W.findIn K (.ref (He.ga K c)) "__getattr__") (some none) &&
  (He.eqO (PySem.W.findIn K (.ref (He.ga K c)) "__class__") (some (some (.builtin "object.__class__"))) && (decide (PySem.W.typeIn K (.ref (He.ga K c)) = some (.type "type")) && PySem.W.keepIn K (.ref (He.ga K c))))))))
def fcB (o : Option PySem.W.CFound) (u : Value) : Bool := match o with
  | some (.val v) => decide (v = u)
  | _ => false
end B

set_option Elab.async false
set_option linter.all false
set_option maxRecDepth 100000
namespace B
open PySem PySem.W HandSHeadRun PySem.Calls PyProof.Rows
/-- checks told in two runs hold in one -/
theorem run_two {r : OpenRow} {q : Program} {M : Nat} {loose : List PySem.Str} {w : World} {b1 b2 : List Chk} {f1 f2 : List He.FnD} {ts : List (PySem.Str × List PySem.Str)}
    (h1 : RunEq r q (hookM b1 f1 ts) (obM b1 f1 ts) M loose w) (h2 : RunEq r q (hookM b2 f2 []) (obM b2 f2 []) M loose w) : RunEq r q (hookM (b1 ++ b2) (f1 ++ f2) ts) (obM (b1 ++ b2) (f1 ++ f2) ts) M loose w := by
  intro os
  have e1 := h1 os
  have e2 := h2 os
  obtain ⟨s, hs, e1⟩ := Option.map_eq_some_iff.mp e1
  obtain ⟨s', hs', e2⟩ := Option.map_eq_some_iff.mp e2
  rw [hs] at hs'
  cases hs'
  refine Option.map_eq_some_iff.mpr ⟨s, hs, ?_⟩
  have a1 := congrArg (fun z => z.1) e1
  have a2 := congrArg (fun z => z.2.1) e1
  have a3 : obM b1 f1 ts s = valM f1 ts w := congrArg (fun z => z.2.2) e1
  have a4 : obM b2 f2 [] s = valM f2 [] w := congrArg (fun z => z.2.2) e2
  refine Prod.ext a1 (Prod.ext a2 ?_)
  show obM (b1 ++ b2) (f1 ++ f2) ts s = valM (f1 ++ f2) ts w
  have c1 : ((b1.all fun b => b _) && f1.all fun d => _) = true := congrArg (fun z : AlM => z.1.1) a3
  have c2 := congrArg (fun z : AlM => z.1.2) a3
  have c3 := congrArg (fun z : AlM => z.2) a3
  have d1 : ((b2.all fun b => b _) && f2.all fun d => _) = true := congrArg (fun z : AlM => z.1.1) a4
  have d2 := congrArg (fun z : AlM => z.1.2) a4
  obtain ⟨c4, c5⟩ := He.ba c1
  obtain ⟨d4, d5⟩ := He.ba d1
  refine Prod.ext (Prod.ext ?_ ?_) c3
  · show ((b1 ++ b2).all _ && (f1 ++ f2).all _) = true
    rw [List.all_append, List.all_append]
    exact Bool.and_eq_true_iff.mpr ⟨Bool.and_eq_true_iff.mpr ⟨c4, d4⟩, Bool.and_eq_true_iff.mpr ⟨c5, d5⟩⟩
  · show (f1 ++ f2).map _ = (f1 ++ f2).map _
    rw [List.map_append, List.map_append]
    exact congr (congrArg _ c2) d2
end B

set_option Elab.async false
set_option linter.all false
set_option maxRecDepth 100000
set_option maxHeartbeats 0
namespace K00t
open PySem PySem.Spec PyProof.Rows L2 B
def top (i : Nat) : Stmt := PySem.Challenge.pw_barewords_k00_errors_and_their_fields.main.body.getD i (.Pass ⟨0, 0, 0, 0⟩)
def inCls (s : Stmt) (j : Nat) : Stmt := match s with
  | .ClassDef _ _ _ b _ _ _ _ _ _ _ => b.getD j (.Pass ⟨0, 0, 0, 0⟩)
  | _ => .Pass ⟨0, 0, 0, 0⟩
abbrev s_is_tuple : Stmt := top 31
abbrev s_is_integer : Stmt := top 28
abbrev s_is_between : Stmt := top 29
abbrev s_letters_told : Stmt := top 60
abbrev s_choice_letters : Stmt := top 61
abbrev s_is_natural : Stmt := top 30
abbrev s_has_outer_form : Stmt := top 34
abbrev s_kinds_within : Stmt := top 35
abbrev s_is_kind : Stmt := top 42
abbrev s_names_what_is : Stmt := top 63
abbrev s_may_be_written : Stmt := top 64
abbrev s_is_way : Stmt := top 65
abbrev s_is_choice : Stmt := top 66
abbrev s_body_letters : Stmt := top 62
abbrev s_are_kinds : Stmt := top 43
abbrev s_head_of : Stmt := top 68
abbrev s_are_naturals : Stmt := top 32
abbrev s_word_has_form : Stmt := top 67
abbrev s_words_have_forms : Stmt := top 69
abbrev s_is_step : Stmt := top 70
abbrev s_is_end : Stmt := top 71
abbrev s_blocks_within : Stmt := top 72
abbrev s_rows_of : Stmt := top 73
abbrev s_body_rows : Stmt := top 74
abbrev s_has_right_kinds : Stmt := top 75
abbrev s_takes_numbers_alone : Stmt := top 76
abbrev s_body_fault : Stmt := top 77
abbrev s_form_fault : Stmt := top 78
abbrev s_num_kind : Stmt := top 87
abbrev s_nil_kind : Stmt := top 88
abbrev s_are_made_alike : Stmt := top 37
abbrev s_are_same : Stmt := top 39
abbrev s_are_there : Stmt := top 85
abbrev s_sum_kind : Stmt := top 89
abbrev s_row_kind : Stmt := top 90
abbrev s_there_with : Stmt := top 86
abbrev s_part_kind : Stmt := top 91
abbrev s_with_kinds : Stmt := top 36
abbrev s_all_kinds : Stmt := top 38
abbrev s_folded : Stmt := top 40
abbrev s_put_in : Stmt := top 41
abbrev s_all_put_in : Stmt := top 84
abbrev s_way_kind : Stmt := top 92
abbrev s_take_kind : Stmt := top 93
abbrev s_box_kind : Stmt := top 94
abbrev s_open_kind : Stmt := top 95
abbrev s_put_kind : Stmt := top 96
abbrev s_print_kind : Stmt := top 97
abbrev s_body_kind : Stmt := top 98
abbrev s_call_kind : Stmt := top 99
abbrev s_is_too_great : Stmt := top 101
abbrev s_made_kind : Stmt := top 102
abbrev s_come_ahead : Stmt := top 103
abbrev s_rows_and_tables : Stmt := top 104
abbrev s_Program___init__ : Stmt := inCls (top 106) 0
abbrev s__law_bag : Stmt := top 108
abbrev s__law_pick : Stmt := top 109
abbrev s__law_some : Stmt := top 110
abbrev s_Program___eq__ : Stmt := inCls (top 106) 1
abbrev s__law_is : Stmt := top 111
abbrev s__law_deep : Stmt := top 112
abbrev s__law_flags : Stmt := top 113
abbrev s__law_fields : Stmt := top 114
abbrev s_law : Stmt := top 115
abbrev s_NoKind___init__ : Stmt := inCls (top 2) 0
abbrev s_NoKinds___init__ : Stmt := inCls (top 3) 0
abbrev s_BadProgram___init__ : Stmt := inCls (top 4) 0
abbrev s_NoBody___init__ : Stmt := inCls (top 5) 0
abbrev s_NoPoint___init__ : Stmt := inCls (top 6) 0
abbrev s_NoInputs___init__ : Stmt := inCls (top 7) 0
abbrev s_NoNumber___init__ : Stmt := inCls (top 8) 0
abbrev s_IsOver___init__ : Stmt := inCls (top 9) 0
abbrev s_NoPlace___init__ : Stmt := inCls (top 10) 0
abbrev s_BadPlacer___init__ : Stmt := inCls (top 11) 0
abbrev s_TooMany___init__ : Stmt := inCls (top 12) 0
abbrev s_NoLot___init__ : Stmt := inCls (top 13) 0
abbrev s_NoSpot___init__ : Stmt := inCls (top 14) 0
abbrev s_NoSource___init__ : Stmt := inCls (top 15) 0
abbrev s_NoWords___init__ : Stmt := inCls (top 16) 0
abbrev s_NoKinding___init__ : Stmt := inCls (top 17) 0
abbrev s_NoOver___init__ : Stmt := inCls (top 18) 0
abbrev s_BadImage___init__ : Stmt := inCls (top 19) 0
abbrev s_NoText___init__ : Stmt := inCls (top 20) 0
abbrev s_NoRecord___init__ : Stmt := inCls (top 21) 0
abbrev s_BadText___init__ : Stmt := inCls (top 22) 0
abbrev s_NothingDone___init__ : Stmt := inCls (top 23) 0
abbrev s_NoForm___init__ : Stmt := inCls (top 24) 0
abbrev s_NoName___init__ : Stmt := inCls (top 25) 0
abbrev s_NothingChosen___init__ : Stmt := inCls (top 26) 0
def rw_END_FORMS : List (Str × Hd) := [("back", .tup ["place"]), ("if", .tup ["place", "block", "block"]), ("look", .tup ["place", "blocks"])]
def rw_STEP_FORMS : List (Str × Hd) := [("num", .tup ["number"]), ("nil", .tup []), ("sum", .tup ["place", "place"]), ("less", .tup ["place", "place"]), ("row", .tup ["row places"]), ("part", .tup ["place", "place"]), ("way", .tup ["choice", "kinds", "place", "places"]), ("take", .tup ["body", "kinds", "places"]), ("box", .tup ["place"]), ("open", .tup ["place"]), ("put", .tup ["place", "place"]), ("print", .tup ["place"]), ("body", .tup ["body", "kinds", "places"]), ("call", .tup ["place", "places"])]
def rw_STEP_KINDS : List (Str × Hd) := [("num", .fnc "num_kind"), ("nil", .fnc "nil_kind"), ("sum", .fnc "sum_kind"), ("less", .fnc "sum_kind"), ("row", .fnc "row_kind"), ("part", .fnc "part_kind"), ("way", .fnc "way_kind"), ("take", .fnc "take_kind"), ("box", .fnc "box_kind"), ("open", .fnc "open_kind"), ("put", .fnc "put_kind"), ("print", .fnc "print_kind"), ("body", .fnc "body_kind"), ("call", .fnc "call_kind")]
def cs0 : List Chk := [fun K => He.eqO (PySem.W.nsIn K mainGlobals "Program") (some (some (.ref (He.ga K "Program")))),
  fun K => He.eqO (PySem.W.nsIn K mainGlobals "is_tuple") (some (some (.ref (He.ga K "is_tuple")))),
  fun K => PySem.W.keepIn K (.ref (He.ga K "is_tuple")),
  fun K => He.eqO (PySem.W.nsIn K mainGlobals "is_integer") (some (some (.ref (He.ga K "is_integer")))),
  fun K => PySem.W.keepIn K (.ref (He.ga K "is_integer")),
  fun K => He.eqO (PySem.W.nsIn K mainGlobals "is_between") (some (some (.ref (He.ga K "is_between")))),
  fun K => PySem.W.keepIn K (.ref (He.ga K "is_between")),
  fun K => He.eqO (PySem.W.nsIn K mainGlobals "letters_told") (some (some (.ref (He.ga K "letters_told")))),
  fun K => PySem.W.keepIn K (.ref (He.ga K "letters_told")),
  fun K => He.eqO (PySem.W.nsIn K mainGlobals "choice_letters") (some (some (.ref (He.ga K "choice_letters")))),
  fun K => PySem.W.keepIn K (.ref (He.ga K "choice_letters")),
  fun K => He.eqO (PySem.W.nsIn K mainGlobals "is_natural") (some (some (.ref (He.ga K "is_natural")))),
  fun K => PySem.W.keepIn K (.ref (He.ga K "is_natural")),
  fun K => He.eqO (PySem.W.nsIn K mainGlobals "has_outer_form") (some (some (.ref (He.ga K "has_outer_form")))),
  fun K => PySem.W.keepIn K (.ref (He.ga K "has_outer_form")),
  fun K => He.eqO (PySem.W.nsIn K mainGlobals "kinds_within") (some (some (.ref (He.ga K "kinds_within")))),
  fun K => PySem.W.keepIn K (.ref (He.ga K "kinds_within")),
  fun K => He.eqO (PySem.W.nsIn K mainGlobals "is_kind") (some (some (.ref (He.ga K "is_kind")))),
  fun K => PySem.W.keepIn K (.ref (He.ga K "is_kind")),
  fun K => He.eqO (PySem.W.nsIn K mainGlobals "names_what_is") (some (some (.ref (He.ga K "names_what_is")))),
  fun K => PySem.W.keepIn K (.ref (He.ga K "names_what_is")),
  fun K => He.eqO (PySem.W.nsIn K mainGlobals "may_be_written") (some (some (.ref (He.ga K "may_be_written")))),
  fun K => PySem.W.keepIn K (.ref (He.ga K "may_be_written")),
  fun K => He.eqO (PySem.W.nsIn K mainGlobals "is_way") (some (some (.ref (He.ga K "is_way")))),
  fun K => PySem.W.keepIn K (.ref (He.ga K "is_way")),
  fun K => He.eqO (PySem.W.nsIn K mainGlobals "is_choice") (some (some (.ref (He.ga K "is_choice")))),
  fun K => PySem.W.keepIn K (.ref (He.ga K "is_choice")),
  fun K => He.eqO (PySem.W.nsIn K mainGlobals "body_letters") (some (some (.ref (He.ga K "body_letters")))),
  fun K => PySem.W.keepIn K (.ref (He.ga K "body_letters")),
  fun K => He.eqO (PySem.W.nsIn K mainGlobals "are_kinds") (some (some (.ref (He.ga K "are_kinds")))),
  fun K => PySem.W.keepIn K (.ref (He.ga K "are_kinds")),
  fun K => He.eqO (PySem.W.nsIn K mainGlobals "head_of") (some (some (.ref (He.ga K "head_of")))),
  fun K => PySem.W.keepIn K (.ref (He.ga K "head_of")),
  fun K => He.eqO (PySem.W.nsIn K mainGlobals "are_naturals") (some (some (.ref (He.ga K "are_naturals")))),
  fun K => PySem.W.keepIn K (.ref (He.ga K "are_naturals")),
  fun K => He.eqO (PySem.W.nsIn K mainGlobals "word_has_form") (some (some (.ref (He.ga K "word_has_form")))),
  fun K => PySem.W.keepIn K (.ref (He.ga K "word_has_form")),
  fun K => He.eqO (PySem.W.nsIn K mainGlobals "words_have_forms") (some (some (.ref (He.ga K "words_have_forms")))),
  fun K => PySem.W.keepIn K (.ref (He.ga K "words_have_forms")),
  fun K => He.eqO (PySem.W.nsIn K mainGlobals "is_step") (some (some (.ref (He.ga K "is_step"))))]
def cs1 : List Chk := [fun K => PySem.W.keepIn K (.ref (He.ga K "is_step")),
  fun K => He.eqO (PySem.W.nsIn K mainGlobals "is_end") (some (some (.ref (He.ga K "is_end")))),
  fun K => PySem.W.keepIn K (.ref (He.ga K "is_end")),
  fun K => He.eqO (PySem.W.nsIn K mainGlobals "blocks_within") (some (some (.ref (He.ga K "blocks_within")))),
  fun K => PySem.W.keepIn K (.ref (He.ga K "blocks_within")),
  fun K => He.eqO (PySem.W.nsIn K mainGlobals "rows_of") (some (some (.ref (He.ga K "rows_of")))),
  fun K => PySem.W.keepIn K (.ref (He.ga K "rows_of")),
  fun K => He.eqO (PySem.W.nsIn K mainGlobals "body_rows") (some (some (.ref (He.ga K "body_rows")))),
  fun K => PySem.W.keepIn K (.ref (He.ga K "body_rows")),
  fun K => He.eqO (PySem.W.nsIn K mainGlobals "has_right_kinds") (some (some (.ref (He.ga K "has_right_kinds")))),
  fun K => PySem.W.keepIn K (.ref (He.ga K "has_right_kinds")),
  fun K => He.eqO (PySem.W.nsIn K mainGlobals "takes_numbers_alone") (some (some (.ref (He.ga K "takes_numbers_alone")))),
  fun K => PySem.W.keepIn K (.ref (He.ga K "takes_numbers_alone")),
  fun K => He.eqO (PySem.W.nsIn K mainGlobals "body_fault") (some (some (.ref (He.ga K "body_fault")))),
  fun K => PySem.W.keepIn K (.ref (He.ga K "body_fault")),
  fun K => He.eqO (PySem.W.nsIn K mainGlobals "form_fault") (some (some (.ref (He.ga K "form_fault")))),
  fun K => PySem.W.keepIn K (.ref (He.ga K "form_fault")),
  fun K => He.eqO (PySem.W.nsIn K mainGlobals "num_kind") (some (some (.ref (He.ga K "num_kind")))),
  fun K => PySem.W.keepIn K (.ref (He.ga K "num_kind")),
  fun K => He.eqO (PySem.W.nsIn K mainGlobals "nil_kind") (some (some (.ref (He.ga K "nil_kind")))),
  fun K => PySem.W.keepIn K (.ref (He.ga K "nil_kind")),
  fun K => He.eqO (PySem.W.nsIn K mainGlobals "are_made_alike") (some (some (.ref (He.ga K "are_made_alike")))),
  fun K => PySem.W.keepIn K (.ref (He.ga K "are_made_alike")),
  fun K => He.eqO (PySem.W.nsIn K mainGlobals "are_same") (some (some (.ref (He.ga K "are_same")))),
  fun K => PySem.W.keepIn K (.ref (He.ga K "are_same")),
  fun K => He.eqO (PySem.W.nsIn K mainGlobals "are_there") (some (some (.ref (He.ga K "are_there")))),
  fun K => PySem.W.keepIn K (.ref (He.ga K "are_there")),
  fun K => He.eqO (PySem.W.nsIn K mainGlobals "sum_kind") (some (some (.ref (He.ga K "sum_kind")))),
  fun K => PySem.W.keepIn K (.ref (He.ga K "sum_kind")),
  fun K => He.eqO (PySem.W.nsIn K mainGlobals "row_kind") (some (some (.ref (He.ga K "row_kind")))),
  fun K => PySem.W.keepIn K (.ref (He.ga K "row_kind")),
  fun K => He.eqO (PySem.W.nsIn K mainGlobals "there_with") (some (some (.ref (He.ga K "there_with")))),
  fun K => PySem.W.keepIn K (.ref (He.ga K "there_with")),
  fun K => He.eqO (PySem.W.nsIn K mainGlobals "part_kind") (some (some (.ref (He.ga K "part_kind")))),
  fun K => PySem.W.keepIn K (.ref (He.ga K "part_kind")),
  fun K => He.eqO (PySem.W.nsIn K mainGlobals "with_kinds") (some (some (.ref (He.ga K "with_kinds")))),
  fun K => PySem.W.keepIn K (.ref (He.ga K "with_kinds")),
  fun K => He.eqO (PySem.W.nsIn K mainGlobals "all_kinds") (some (some (.ref (He.ga K "all_kinds")))),
  fun K => PySem.W.keepIn K (.ref (He.ga K "all_kinds")),
  fun K => He.eqO (PySem.W.nsIn K mainGlobals "folded") (some (some (.ref (He.ga K "folded"))))]
def cs2 : List Chk := [fun K => PySem.W.keepIn K (.ref (He.ga K "folded")),
  fun K => He.eqO (PySem.W.nsIn K mainGlobals "put_in") (some (some (.ref (He.ga K "put_in")))),
  fun K => PySem.W.keepIn K (.ref (He.ga K "put_in")),
  fun K => He.eqO (PySem.W.nsIn K mainGlobals "all_put_in") (some (some (.ref (He.ga K "all_put_in")))),
  fun K => PySem.W.keepIn K (.ref (He.ga K "all_put_in")),
  fun K => He.eqO (PySem.W.nsIn K mainGlobals "way_kind") (some (some (.ref (He.ga K "way_kind")))),
  fun K => PySem.W.keepIn K (.ref (He.ga K "way_kind")),
  fun K => He.eqO (PySem.W.nsIn K mainGlobals "take_kind") (some (some (.ref (He.ga K "take_kind")))),
  fun K => PySem.W.keepIn K (.ref (He.ga K "take_kind")),
  fun K => He.eqO (PySem.W.nsIn K mainGlobals "box_kind") (some (some (.ref (He.ga K "box_kind")))),
  fun K => PySem.W.keepIn K (.ref (He.ga K "box_kind")),
  fun K => He.eqO (PySem.W.nsIn K mainGlobals "open_kind") (some (some (.ref (He.ga K "open_kind")))),
  fun K => PySem.W.keepIn K (.ref (He.ga K "open_kind")),
  fun K => He.eqO (PySem.W.nsIn K mainGlobals "put_kind") (some (some (.ref (He.ga K "put_kind")))),
  fun K => PySem.W.keepIn K (.ref (He.ga K "put_kind")),
  fun K => He.eqO (PySem.W.nsIn K mainGlobals "print_kind") (some (some (.ref (He.ga K "print_kind")))),
  fun K => PySem.W.keepIn K (.ref (He.ga K "print_kind")),
  fun K => He.eqO (PySem.W.nsIn K mainGlobals "body_kind") (some (some (.ref (He.ga K "body_kind")))),
  fun K => PySem.W.keepIn K (.ref (He.ga K "body_kind")),
  fun K => He.eqO (PySem.W.nsIn K mainGlobals "call_kind") (some (some (.ref (He.ga K "call_kind")))),
  fun K => PySem.W.keepIn K (.ref (He.ga K "call_kind")),
  fun K => He.eqO (PySem.W.nsIn K mainGlobals "is_too_great") (some (some (.ref (He.ga K "is_too_great")))),
  fun K => PySem.W.keepIn K (.ref (He.ga K "is_too_great")),
  fun K => He.eqO (PySem.W.nsIn K mainGlobals "made_kind") (some (some (.ref (He.ga K "made_kind")))),
  fun K => PySem.W.keepIn K (.ref (He.ga K "made_kind")),
  fun K => He.eqO (PySem.W.nsIn K mainGlobals "come_ahead") (some (some (.ref (He.ga K "come_ahead")))),
  fun K => PySem.W.keepIn K (.ref (He.ga K "come_ahead")),
  fun K => He.eqO (PySem.W.nsIn K mainGlobals "rows_and_tables") (some (some (.ref (He.ga K "rows_and_tables")))),
  fun K => PySem.W.keepIn K (.ref (He.ga K "rows_and_tables")),
  fun K => He.eqO (PySem.W.findIn K (.ref (He.ga K "Program")) "__init__") (some (some (.ref (He.ma K (He.ga K "Program") "__init__")))),
  fun K => PySem.W.keepIn K (.ref (He.ma K (He.ga K "Program") "__init__")),
  fun K => PySem.W.makesIn K (He.ga K "Program"),
  fun K => PySem.W.isFn K (.ref (He.ma K (He.ga K "Program") "__init__")),
  fun K => PySem.W.keepIn K (.ref (He.ga K "Program")),
  fun K => He.eqO (PySem.W.nsIn K mainGlobals "_law_bag") (some (some (.ref (He.ga K "_law_bag")))),
  fun K => PySem.W.keepIn K (.ref (He.ga K "_law_bag")),
  fun K => He.eqO (PySem.W.nsIn K mainGlobals "_law_pick") (some (some (.ref (He.ga K "_law_pick")))),
  fun K => PySem.W.keepIn K (.ref (He.ga K "_law_pick")),
  fun K => He.eqO (PySem.W.nsIn K mainGlobals "_law_some") (some (some (.ref (He.ga K "_law_some")))),
  fun K => PySem.W.keepIn K (.ref (He.ga K "_law_some"))]
def cs3 : List Chk := [fun K => He.eqO (PySem.W.findIn K (.ref (He.ga K "Program")) "__eq__") (some (some (.ref (He.ma K (He.ga K "Program") "__eq__")))),
  fun K => PySem.W.keepIn K (.ref (He.ma K (He.ga K "Program") "__eq__")),
  fun K => PySem.W.isFn K (.ref (He.ma K (He.ga K "Program") "__eq__")),
  fun K => He.eqO (PySem.W.nsIn K mainGlobals "_law_is") (some (some (.ref (He.ga K "_law_is")))),
  fun K => PySem.W.keepIn K (.ref (He.ga K "_law_is")),
  fun K => He.eqO (PySem.W.nsIn K mainGlobals "_law_deep") (some (some (.ref (He.ga K "_law_deep")))),
  fun K => PySem.W.keepIn K (.ref (He.ga K "_law_deep")),
  fun K => He.eqO (PySem.W.nsIn K mainGlobals "_law_flags") (some (some (.ref (He.ga K "_law_flags")))),
  fun K => PySem.W.keepIn K (.ref (He.ga K "_law_flags")),
  fun K => He.eqO (PySem.W.nsIn K mainGlobals "_law_fields") (some (some (.ref (He.ga K "_law_fields")))),
  fun K => PySem.W.keepIn K (.ref (He.ga K "_law_fields")),
  fun K => He.eqO (PySem.W.nsIn K mainGlobals "law") (some (some (.ref (He.ga K "law")))),
  fun K => PySem.W.keepIn K (.ref (He.ga K "law")),
  fun K => PySem.W.plainGet K (He.ga K "Program") Str.empty,
  fun K => PySem.W.hasDictIn K (He.ga K "Program"),
  fun K => PySem.W.plainOver K (He.ga K "Program"),
  fun K => He.eqO (PySem.W.findIn K (.ref (He.ga K "Program")) "__setattr__") (some (some (.builtin "object.__setattr__"))),
  fun K => He.eqO (PySem.W.findIn K (.ref (He.ga K "Program")) "bodies") (some none),
  fun K => He.eqO (PySem.W.findIn K (.ref (He.ga K "Program")) "book") (some none),
  fun K => He.eqO (PySem.W.findIn K (.ref (He.ga K "Program")) "tables") (some none),
  intB "LARGEST" 1000000000000,
  intB "MOST_BLOCKS_DEEP" 6,
  intB "MOST_BODIES" 12,
  intB "MOST_BODY_LETTERS" 4,
  intB "MOST_CHOICES" 6,
  intB "MOST_CHOICE_LETTERS" 3,
  intB "MOST_KINDS" 40,
  intB "MOST_KINDS_DEEP" 8,
  intB "MOST_KINDS_IN_PLACE" 400,
  intB "MOST_LEFT" 3,
  intB "MOST_PARTS" 3,
  intB "MOST_PLACES" 5,
  intB "MOST_ROW" 4,
  intB "MOST_STEPS" 60,
  intB "MOST_WAYS" 4,
  fun K => He.eqO (PySem.W.nsIn K mainGlobals "NIL") (some (some (.ref (He.ga K "NIL")))),
  tupB "NIL" ["nil"],
  fun K => He.eqO (PySem.W.nsIn K mainGlobals "NUM") (some (some (.ref (He.ga K "NUM")))),
  tupB "NUM" ["num"],
  fun K => He.eqO (PySem.W.nsIn K mainGlobals "END_FORMS") (some (some (.ref (He.ga K "END_FORMS"))))]
def cs4 : List Chk := [tableB "END_FORMS" rw_END_FORMS,
  fun K => He.eqO (PySem.W.nsIn K mainGlobals "STEP_FORMS") (some (some (.ref (He.ga K "STEP_FORMS")))),
  tableB "STEP_FORMS" rw_STEP_FORMS,
  fun K => He.eqO (PySem.W.nsIn K mainGlobals "STEP_KINDS") (some (some (.ref (He.ga K "STEP_KINDS")))),
  tableB "STEP_KINDS" rw_STEP_KINDS,
  fun K => He.eqO (PySem.W.nsIn K mainGlobals "ValueError") (some none),
  fun K => He.eqO (PySem.W.nsIn K mainGlobals "abs") (some none),
  fun K => He.eqO (PySem.W.nsIn K mainGlobals "all") (some none),
  fun K => He.eqO (PySem.W.nsIn K mainGlobals "any") (some none),
  fun K => He.eqO (PySem.W.nsIn K mainGlobals "bool") (some none),
  fun K => He.eqO (PySem.W.nsIn K mainGlobals "enumerate") (some none),
  fun K => He.eqO (PySem.W.nsIn K mainGlobals "int") (some none),
  fun K => He.eqO (PySem.W.nsIn K mainGlobals "isinstance") (some none),
  fun K => He.eqO (PySem.W.nsIn K mainGlobals "len") (some none),
  fun K => He.eqO (PySem.W.nsIn K mainGlobals "list") (some none),
  fun K => He.eqO (PySem.W.nsIn K mainGlobals "max") (some none),
  fun K => He.eqO (PySem.W.nsIn K mainGlobals "range") (some none),
  fun K => He.eqO (PySem.W.nsIn K mainGlobals "reversed") (some none),
  fun K => He.eqO (PySem.W.nsIn K mainGlobals "str") (some none),
  fun K => He.eqO (PySem.W.nsIn K mainGlobals "sum") (some none),
  fun K => He.eqO (PySem.W.nsIn K mainGlobals "tuple") (some none),
  fun K => He.eqO (PySem.W.nsIn K mainGlobals "zip") (some none),
  fun K => He.eqO (PySem.W.nsIn K mainGlobals "WordsError") (some (some (.ref (He.ga K "WordsError")))),
  fun K => PySem.W.readsIn K (He.ga K "WordsError") (.type "type"),
  fun K => fcB (PySem.W.findCls K (.ref (He.ga K "WordsError")) (.type "type") "__init__") (.builtin "ValueError.__init__"),
  fun K => decide (PySem.W.typeIn K (.ref (He.ga K "WordsError")) = some (.type "type")),
  fun K => (PySem.W.clsIn K (He.ga K "WordsError")).isSome,
  fun K => He.eqO (PySem.W.specialIn K (.builtin "object.__class__") "__get__") (some (some (.builtin "getset_descriptor.__get__"))),
  fun K => decide (PySem.W.takesIn K (.builtin "object.__class__") = some true),
  fun K => He.eqO (PySem.W.findIn K (.ref (He.ga K "Program")) "__class__") (some (some (.builtin "object.__class__"))),
  fun K => decide (PySem.W.mroIn K (He.ga K "Program") (.type "object") = some true),
  fun K => decide (PySem.W.subIn K (.ref (He.ga K "Program")) (.type "bool") = some false),
  fun K => decide (PySem.W.subIn K (.ref (He.ga K "Program")) (.type "list") = some false),
  fun K => decide (PySem.W.subIn K (.ref (He.ga K "Program")) (.type "tuple") = some false),
  efB "WordsError" "NoKind",
  fun K => He.eqO (PySem.W.findIn K (.ref (He.ga K "NoKind")) "__init__") (some (some (.ref (He.ma K (He.ga K "NoKind") "__init__")))),
  fun K => PySem.W.keepIn K (.ref (He.ma K (He.ga K "NoKind") "__init__")),
  fun K => decide (PySem.W.typeIn K (.ref (He.ma K (He.ga K "NoKind") "__init__")) = some (.type "function")),
  fun K => He.eqO (PySem.W.findIn K (.ref (He.ga K "NoKind")) "line") (some none),
  fun K => He.eqO (PySem.W.findIn K (.ref (He.ga K "NoKind")) "most") (some none)]
def cs5 : List Chk := [fun K => He.eqO (PySem.W.findIn K (.ref (He.ga K "NoKind")) "name") (some none),
  fun K => He.eqO (PySem.W.findIn K (.ref (He.ga K "NoKind")) "number") (some none),
  fun K => He.eqO (PySem.W.findIn K (.ref (He.ga K "NoKind")) "part") (some none),
  efB "WordsError" "NoKinds",
  fun K => He.eqO (PySem.W.findIn K (.ref (He.ga K "NoKinds")) "__init__") (some (some (.ref (He.ma K (He.ga K "NoKinds") "__init__")))),
  fun K => PySem.W.keepIn K (.ref (He.ma K (He.ga K "NoKinds") "__init__")),
  fun K => decide (PySem.W.typeIn K (.ref (He.ma K (He.ga K "NoKinds") "__init__")) = some (.type "function")),
  fun K => He.eqO (PySem.W.findIn K (.ref (He.ga K "NoKinds")) "line") (some none),
  fun K => He.eqO (PySem.W.findIn K (.ref (He.ga K "NoKinds")) "most") (some none),
  fun K => He.eqO (PySem.W.findIn K (.ref (He.ga K "NoKinds")) "name") (some none),
  fun K => He.eqO (PySem.W.findIn K (.ref (He.ga K "NoKinds")) "number") (some none),
  fun K => He.eqO (PySem.W.findIn K (.ref (He.ga K "NoKinds")) "part") (some none),
  efB "WordsError" "BadProgram",
  fun K => He.eqO (PySem.W.findIn K (.ref (He.ga K "BadProgram")) "__init__") (some (some (.ref (He.ma K (He.ga K "BadProgram") "__init__")))),
  fun K => PySem.W.keepIn K (.ref (He.ma K (He.ga K "BadProgram") "__init__")),
  fun K => decide (PySem.W.typeIn K (.ref (He.ma K (He.ga K "BadProgram") "__init__")) = some (.type "function")),
  fun K => He.eqO (PySem.W.findIn K (.ref (He.ga K "BadProgram")) "line") (some none),
  fun K => He.eqO (PySem.W.findIn K (.ref (He.ga K "BadProgram")) "most") (some none),
  fun K => He.eqO (PySem.W.findIn K (.ref (He.ga K "BadProgram")) "name") (some none),
  fun K => He.eqO (PySem.W.findIn K (.ref (He.ga K "BadProgram")) "number") (some none),
  fun K => He.eqO (PySem.W.findIn K (.ref (He.ga K "BadProgram")) "part") (some none),
  efB "WordsError" "NoBody",
  fun K => He.eqO (PySem.W.findIn K (.ref (He.ga K "NoBody")) "__init__") (some (some (.ref (He.ma K (He.ga K "NoBody") "__init__")))),
  fun K => PySem.W.keepIn K (.ref (He.ma K (He.ga K "NoBody") "__init__")),
  fun K => decide (PySem.W.typeIn K (.ref (He.ma K (He.ga K "NoBody") "__init__")) = some (.type "function")),
  fun K => He.eqO (PySem.W.findIn K (.ref (He.ga K "NoBody")) "line") (some none),
  fun K => He.eqO (PySem.W.findIn K (.ref (He.ga K "NoBody")) "most") (some none),
  fun K => He.eqO (PySem.W.findIn K (.ref (He.ga K "NoBody")) "name") (some none),
  fun K => He.eqO (PySem.W.findIn K (.ref (He.ga K "NoBody")) "number") (some none),
  fun K => He.eqO (PySem.W.findIn K (.ref (He.ga K "NoBody")) "part") (some none),
  efB "WordsError" "NoPoint",
  fun K => He.eqO (PySem.W.findIn K (.ref (He.ga K "NoPoint")) "__init__") (some (some (.ref (He.ma K (He.ga K "NoPoint") "__init__")))),
  fun K => PySem.W.keepIn K (.ref (He.ma K (He.ga K "NoPoint") "__init__")),
  fun K => decide (PySem.W.typeIn K (.ref (He.ma K (He.ga K "NoPoint") "__init__")) = some (.type "function")),
  fun K => He.eqO (PySem.W.findIn K (.ref (He.ga K "NoPoint")) "line") (some none),
  fun K => He.eqO (PySem.W.findIn K (.ref (He.ga K "NoPoint")) "most") (some none),
  fun K => He.eqO (PySem.W.findIn K (.ref (He.ga K "NoPoint")) "name") (some none),
  fun K => He.eqO (PySem.W.findIn K (.ref (He.ga K "NoPoint")) "number") (some none),
  fun K => He.eqO (PySem.W.findIn K (.ref (He.ga K "NoPoint")) "part") (some none),
  efB "WordsError" "NoInputs"]
def cs6 : List Chk := [fun K => He.eqO (PySem.W.findIn K (.ref (He.ga K "NoInputs")) "__init__") (some (some (.ref (He.ma K (He.ga K "NoInputs") "__init__")))),
  fun K => PySem.W.keepIn K (.ref (He.ma K (He.ga K "NoInputs") "__init__")),
  fun K => decide (PySem.W.typeIn K (.ref (He.ma K (He.ga K "NoInputs") "__init__")) = some (.type "function")),
  fun K => He.eqO (PySem.W.findIn K (.ref (He.ga K "NoInputs")) "line") (some none),
  fun K => He.eqO (PySem.W.findIn K (.ref (He.ga K "NoInputs")) "most") (some none),
  fun K => He.eqO (PySem.W.findIn K (.ref (He.ga K "NoInputs")) "name") (some none),
  fun K => He.eqO (PySem.W.findIn K (.ref (He.ga K "NoInputs")) "number") (some none),
  fun K => He.eqO (PySem.W.findIn K (.ref (He.ga K "NoInputs")) "part") (some none),
  efB "WordsError" "NoNumber",
  fun K => He.eqO (PySem.W.findIn K (.ref (He.ga K "NoNumber")) "__init__") (some (some (.ref (He.ma K (He.ga K "NoNumber") "__init__")))),
  fun K => PySem.W.keepIn K (.ref (He.ma K (He.ga K "NoNumber") "__init__")),
  fun K => decide (PySem.W.typeIn K (.ref (He.ma K (He.ga K "NoNumber") "__init__")) = some (.type "function")),
  fun K => He.eqO (PySem.W.findIn K (.ref (He.ga K "NoNumber")) "line") (some none),
  fun K => He.eqO (PySem.W.findIn K (.ref (He.ga K "NoNumber")) "most") (some none),
  fun K => He.eqO (PySem.W.findIn K (.ref (He.ga K "NoNumber")) "name") (some none),
  fun K => He.eqO (PySem.W.findIn K (.ref (He.ga K "NoNumber")) "number") (some none),
  fun K => He.eqO (PySem.W.findIn K (.ref (He.ga K "NoNumber")) "part") (some none),
  efB "WordsError" "IsOver",
  fun K => He.eqO (PySem.W.findIn K (.ref (He.ga K "IsOver")) "__init__") (some (some (.ref (He.ma K (He.ga K "IsOver") "__init__")))),
  fun K => PySem.W.keepIn K (.ref (He.ma K (He.ga K "IsOver") "__init__")),
  fun K => decide (PySem.W.typeIn K (.ref (He.ma K (He.ga K "IsOver") "__init__")) = some (.type "function")),
  fun K => He.eqO (PySem.W.findIn K (.ref (He.ga K "IsOver")) "line") (some none),
  fun K => He.eqO (PySem.W.findIn K (.ref (He.ga K "IsOver")) "most") (some none),
  fun K => He.eqO (PySem.W.findIn K (.ref (He.ga K "IsOver")) "name") (some none),
  fun K => He.eqO (PySem.W.findIn K (.ref (He.ga K "IsOver")) "number") (some none),
  fun K => He.eqO (PySem.W.findIn K (.ref (He.ga K "IsOver")) "part") (some none),
  efB "WordsError" "NoPlace",
  fun K => He.eqO (PySem.W.findIn K (.ref (He.ga K "NoPlace")) "__init__") (some (some (.ref (He.ma K (He.ga K "NoPlace") "__init__")))),
  fun K => PySem.W.keepIn K (.ref (He.ma K (He.ga K "NoPlace") "__init__")),
  fun K => decide (PySem.W.typeIn K (.ref (He.ma K (He.ga K "NoPlace") "__init__")) = some (.type "function")),
  fun K => He.eqO (PySem.W.findIn K (.ref (He.ga K "NoPlace")) "line") (some none),
  fun K => He.eqO (PySem.W.findIn K (.ref (He.ga K "NoPlace")) "most") (some none),
  fun K => He.eqO (PySem.W.findIn K (.ref (He.ga K "NoPlace")) "name") (some none),
  fun K => He.eqO (PySem.W.findIn K (.ref (He.ga K "NoPlace")) "number") (some none),
  fun K => He.eqO (PySem.W.findIn K (.ref (He.ga K "NoPlace")) "part") (some none),
  efB "WordsError" "BadPlacer",
  fun K => He.eqO (PySem.W.findIn K (.ref (He.ga K "BadPlacer")) "__init__") (some (some (.ref (He.ma K (He.ga K "BadPlacer") "__init__")))),
  fun K => PySem.W.keepIn K (.ref (He.ma K (He.ga K "BadPlacer") "__init__")),
  fun K => decide (PySem.W.typeIn K (.ref (He.ma K (He.ga K "BadPlacer") "__init__")) = some (.type "function")),
  fun K => He.eqO (PySem.W.findIn K (.ref (He.ga K "BadPlacer")) "line") (some none)]
def cs7 : List Chk := [fun K => He.eqO (PySem.W.findIn K (.ref (He.ga K "BadPlacer")) "most") (some none),
  fun K => He.eqO (PySem.W.findIn K (.ref (He.ga K "BadPlacer")) "name") (some none),
  fun K => He.eqO (PySem.W.findIn K (.ref (He.ga K "BadPlacer")) "number") (some none),
  fun K => He.eqO (PySem.W.findIn K (.ref (He.ga K "BadPlacer")) "part") (some none),
  efB "WordsError" "TooMany",
  fun K => He.eqO (PySem.W.findIn K (.ref (He.ga K "TooMany")) "__init__") (some (some (.ref (He.ma K (He.ga K "TooMany") "__init__")))),
  fun K => PySem.W.keepIn K (.ref (He.ma K (He.ga K "TooMany") "__init__")),
  fun K => decide (PySem.W.typeIn K (.ref (He.ma K (He.ga K "TooMany") "__init__")) = some (.type "function")),
  fun K => He.eqO (PySem.W.findIn K (.ref (He.ga K "TooMany")) "line") (some none),
  fun K => He.eqO (PySem.W.findIn K (.ref (He.ga K "TooMany")) "most") (some none),
  fun K => He.eqO (PySem.W.findIn K (.ref (He.ga K "TooMany")) "name") (some none),
  fun K => He.eqO (PySem.W.findIn K (.ref (He.ga K "TooMany")) "number") (some none),
  fun K => He.eqO (PySem.W.findIn K (.ref (He.ga K "TooMany")) "part") (some none),
  efB "WordsError" "NoLot",
  fun K => He.eqO (PySem.W.findIn K (.ref (He.ga K "NoLot")) "__init__") (some (some (.ref (He.ma K (He.ga K "NoLot") "__init__")))),
  fun K => PySem.W.keepIn K (.ref (He.ma K (He.ga K "NoLot") "__init__")),
  fun K => decide (PySem.W.typeIn K (.ref (He.ma K (He.ga K "NoLot") "__init__")) = some (.type "function")),
  fun K => He.eqO (PySem.W.findIn K (.ref (He.ga K "NoLot")) "line") (some none),
  fun K => He.eqO (PySem.W.findIn K (.ref (He.ga K "NoLot")) "most") (some none),
  fun K => He.eqO (PySem.W.findIn K (.ref (He.ga K "NoLot")) "name") (some none),
  fun K => He.eqO (PySem.W.findIn K (.ref (He.ga K "NoLot")) "number") (some none),
  fun K => He.eqO (PySem.W.findIn K (.ref (He.ga K "NoLot")) "part") (some none),
  efB "WordsError" "NoSpot",
  fun K => He.eqO (PySem.W.findIn K (.ref (He.ga K "NoSpot")) "__init__") (some (some (.ref (He.ma K (He.ga K "NoSpot") "__init__")))),
  fun K => PySem.W.keepIn K (.ref (He.ma K (He.ga K "NoSpot") "__init__")),
  fun K => decide (PySem.W.typeIn K (.ref (He.ma K (He.ga K "NoSpot") "__init__")) = some (.type "function")),
  fun K => He.eqO (PySem.W.findIn K (.ref (He.ga K "NoSpot")) "line") (some none),
  fun K => He.eqO (PySem.W.findIn K (.ref (He.ga K "NoSpot")) "most") (some none),
  fun K => He.eqO (PySem.W.findIn K (.ref (He.ga K "NoSpot")) "name") (some none),
  fun K => He.eqO (PySem.W.findIn K (.ref (He.ga K "NoSpot")) "number") (some none),
  fun K => He.eqO (PySem.W.findIn K (.ref (He.ga K "NoSpot")) "part") (some none),
  efB "WordsError" "NoSource",
  fun K => He.eqO (PySem.W.findIn K (.ref (He.ga K "NoSource")) "__init__") (some (some (.ref (He.ma K (He.ga K "NoSource") "__init__")))),
  fun K => PySem.W.keepIn K (.ref (He.ma K (He.ga K "NoSource") "__init__")),
  fun K => decide (PySem.W.typeIn K (.ref (He.ma K (He.ga K "NoSource") "__init__")) = some (.type "function")),
  fun K => He.eqO (PySem.W.findIn K (.ref (He.ga K "NoSource")) "line") (some none),
  fun K => He.eqO (PySem.W.findIn K (.ref (He.ga K "NoSource")) "most") (some none),
  fun K => He.eqO (PySem.W.findIn K (.ref (He.ga K "NoSource")) "name") (some none),
  fun K => He.eqO (PySem.W.findIn K (.ref (He.ga K "NoSource")) "number") (some none),
  fun K => He.eqO (PySem.W.findIn K (.ref (He.ga K "NoSource")) "part") (some none)]
def cs8 : List Chk := [efB "WordsError" "NoWords",
  fun K => He.eqO (PySem.W.findIn K (.ref (He.ga K "NoWords")) "__init__") (some (some (.ref (He.ma K (He.ga K "NoWords") "__init__")))),
  fun K => PySem.W.keepIn K (.ref (He.ma K (He.ga K "NoWords") "__init__")),
  fun K => decide (PySem.W.typeIn K (.ref (He.ma K (He.ga K "NoWords") "__init__")) = some (.type "function")),
  fun K => He.eqO (PySem.W.findIn K (.ref (He.ga K "NoWords")) "line") (some none),
  fun K => He.eqO (PySem.W.findIn K (.ref (He.ga K "NoWords")) "most") (some none),
  fun K => He.eqO (PySem.W.findIn K (.ref (He.ga K "NoWords")) "name") (some none),
  fun K => He.eqO (PySem.W.findIn K (.ref (He.ga K "NoWords")) "number") (some none),
  fun K => He.eqO (PySem.W.findIn K (.ref (He.ga K "NoWords")) "part") (some none),
  efB "WordsError" "NoKinding",
  fun K => He.eqO (PySem.W.findIn K (.ref (He.ga K "NoKinding")) "__init__") (some (some (.ref (He.ma K (He.ga K "NoKinding") "__init__")))),
  fun K => PySem.W.keepIn K (.ref (He.ma K (He.ga K "NoKinding") "__init__")),
  fun K => decide (PySem.W.typeIn K (.ref (He.ma K (He.ga K "NoKinding") "__init__")) = some (.type "function")),
  fun K => He.eqO (PySem.W.findIn K (.ref (He.ga K "NoKinding")) "line") (some none),
  fun K => He.eqO (PySem.W.findIn K (.ref (He.ga K "NoKinding")) "most") (some none),
  fun K => He.eqO (PySem.W.findIn K (.ref (He.ga K "NoKinding")) "name") (some none),
  fun K => He.eqO (PySem.W.findIn K (.ref (He.ga K "NoKinding")) "number") (some none),
  fun K => He.eqO (PySem.W.findIn K (.ref (He.ga K "NoKinding")) "part") (some none),
  efB "WordsError" "NoOver",
  fun K => He.eqO (PySem.W.findIn K (.ref (He.ga K "NoOver")) "__init__") (some (some (.ref (He.ma K (He.ga K "NoOver") "__init__")))),
  fun K => PySem.W.keepIn K (.ref (He.ma K (He.ga K "NoOver") "__init__")),
  fun K => decide (PySem.W.typeIn K (.ref (He.ma K (He.ga K "NoOver") "__init__")) = some (.type "function")),
  fun K => He.eqO (PySem.W.findIn K (.ref (He.ga K "NoOver")) "line") (some none),
  fun K => He.eqO (PySem.W.findIn K (.ref (He.ga K "NoOver")) "most") (some none),
  fun K => He.eqO (PySem.W.findIn K (.ref (He.ga K "NoOver")) "name") (some none),
  fun K => He.eqO (PySem.W.findIn K (.ref (He.ga K "NoOver")) "number") (some none),
  fun K => He.eqO (PySem.W.findIn K (.ref (He.ga K "NoOver")) "part") (some none),
  efB "WordsError" "BadImage",
  fun K => He.eqO (PySem.W.findIn K (.ref (He.ga K "BadImage")) "__init__") (some (some (.ref (He.ma K (He.ga K "BadImage") "__init__")))),
  fun K => PySem.W.keepIn K (.ref (He.ma K (He.ga K "BadImage") "__init__")),
  fun K => decide (PySem.W.typeIn K (.ref (He.ma K (He.ga K "BadImage") "__init__")) = some (.type "function")),
  fun K => He.eqO (PySem.W.findIn K (.ref (He.ga K "BadImage")) "line") (some none),
  fun K => He.eqO (PySem.W.findIn K (.ref (He.ga K "BadImage")) "most") (some none),
  fun K => He.eqO (PySem.W.findIn K (.ref (He.ga K "BadImage")) "name") (some none),
  fun K => He.eqO (PySem.W.findIn K (.ref (He.ga K "BadImage")) "number") (some none),
  fun K => He.eqO (PySem.W.findIn K (.ref (He.ga K "BadImage")) "part") (some none),
  efB "WordsError" "NoText",
  fun K => He.eqO (PySem.W.findIn K (.ref (He.ga K "NoText")) "__init__") (some (some (.ref (He.ma K (He.ga K "NoText") "__init__")))),
  fun K => PySem.W.keepIn K (.ref (He.ma K (He.ga K "NoText") "__init__")),
  fun K => decide (PySem.W.typeIn K (.ref (He.ma K (He.ga K "NoText") "__init__")) = some (.type "function"))]
def cs9 : List Chk := [fun K => He.eqO (PySem.W.findIn K (.ref (He.ga K "NoText")) "line") (some none),
  fun K => He.eqO (PySem.W.findIn K (.ref (He.ga K "NoText")) "most") (some none),
  fun K => He.eqO (PySem.W.findIn K (.ref (He.ga K "NoText")) "name") (some none),
  fun K => He.eqO (PySem.W.findIn K (.ref (He.ga K "NoText")) "number") (some none),
  fun K => He.eqO (PySem.W.findIn K (.ref (He.ga K "NoText")) "part") (some none),
  efB "WordsError" "NoRecord",
  fun K => He.eqO (PySem.W.findIn K (.ref (He.ga K "NoRecord")) "__init__") (some (some (.ref (He.ma K (He.ga K "NoRecord") "__init__")))),
  fun K => PySem.W.keepIn K (.ref (He.ma K (He.ga K "NoRecord") "__init__")),
  fun K => decide (PySem.W.typeIn K (.ref (He.ma K (He.ga K "NoRecord") "__init__")) = some (.type "function")),
  fun K => He.eqO (PySem.W.findIn K (.ref (He.ga K "NoRecord")) "line") (some none),
  fun K => He.eqO (PySem.W.findIn K (.ref (He.ga K "NoRecord")) "most") (some none),
  fun K => He.eqO (PySem.W.findIn K (.ref (He.ga K "NoRecord")) "name") (some none),
  fun K => He.eqO (PySem.W.findIn K (.ref (He.ga K "NoRecord")) "number") (some none),
  fun K => He.eqO (PySem.W.findIn K (.ref (He.ga K "NoRecord")) "part") (some none),
  efB "WordsError" "BadText",
  fun K => He.eqO (PySem.W.findIn K (.ref (He.ga K "BadText")) "__init__") (some (some (.ref (He.ma K (He.ga K "BadText") "__init__")))),
  fun K => PySem.W.keepIn K (.ref (He.ma K (He.ga K "BadText") "__init__")),
  fun K => decide (PySem.W.typeIn K (.ref (He.ma K (He.ga K "BadText") "__init__")) = some (.type "function")),
  fun K => He.eqO (PySem.W.findIn K (.ref (He.ga K "BadText")) "line") (some none),
  fun K => He.eqO (PySem.W.findIn K (.ref (He.ga K "BadText")) "most") (some none),
  fun K => He.eqO (PySem.W.findIn K (.ref (He.ga K "BadText")) "name") (some none),
  fun K => He.eqO (PySem.W.findIn K (.ref (He.ga K "BadText")) "number") (some none),
  fun K => He.eqO (PySem.W.findIn K (.ref (He.ga K "BadText")) "part") (some none),
  efB "WordsError" "NothingDone",
  fun K => He.eqO (PySem.W.findIn K (.ref (He.ga K "NothingDone")) "__init__") (some (some (.ref (He.ma K (He.ga K "NothingDone") "__init__")))),
  fun K => PySem.W.keepIn K (.ref (He.ma K (He.ga K "NothingDone") "__init__")),
  fun K => decide (PySem.W.typeIn K (.ref (He.ma K (He.ga K "NothingDone") "__init__")) = some (.type "function")),
  fun K => He.eqO (PySem.W.findIn K (.ref (He.ga K "NothingDone")) "line") (some none),
  fun K => He.eqO (PySem.W.findIn K (.ref (He.ga K "NothingDone")) "most") (some none),
  fun K => He.eqO (PySem.W.findIn K (.ref (He.ga K "NothingDone")) "name") (some none),
  fun K => He.eqO (PySem.W.findIn K (.ref (He.ga K "NothingDone")) "number") (some none),
  fun K => He.eqO (PySem.W.findIn K (.ref (He.ga K "NothingDone")) "part") (some none),
  efB "WordsError" "NoForm",
  fun K => He.eqO (PySem.W.findIn K (.ref (He.ga K "NoForm")) "__init__") (some (some (.ref (He.ma K (He.ga K "NoForm") "__init__")))),
  fun K => PySem.W.keepIn K (.ref (He.ma K (He.ga K "NoForm") "__init__")),
  fun K => decide (PySem.W.typeIn K (.ref (He.ma K (He.ga K "NoForm") "__init__")) = some (.type "function")),
  fun K => He.eqO (PySem.W.findIn K (.ref (He.ga K "NoForm")) "line") (some none),
  fun K => He.eqO (PySem.W.findIn K (.ref (He.ga K "NoForm")) "most") (some none),
  fun K => He.eqO (PySem.W.findIn K (.ref (He.ga K "NoForm")) "name") (some none),
  fun K => He.eqO (PySem.W.findIn K (.ref (He.ga K "NoForm")) "number") (some none)]
def cs10 : List Chk := [fun K => He.eqO (PySem.W.findIn K (.ref (He.ga K "NoForm")) "part") (some none),
  efB "WordsError" "NoName",
  fun K => He.eqO (PySem.W.findIn K (.ref (He.ga K "NoName")) "__init__") (some (some (.ref (He.ma K (He.ga K "NoName") "__init__")))),
  fun K => PySem.W.keepIn K (.ref (He.ma K (He.ga K "NoName") "__init__")),
  fun K => decide (PySem.W.typeIn K (.ref (He.ma K (He.ga K "NoName") "__init__")) = some (.type "function")),
  fun K => He.eqO (PySem.W.findIn K (.ref (He.ga K "NoName")) "line") (some none),
  fun K => He.eqO (PySem.W.findIn K (.ref (He.ga K "NoName")) "most") (some none),
  fun K => He.eqO (PySem.W.findIn K (.ref (He.ga K "NoName")) "name") (some none),
  fun K => He.eqO (PySem.W.findIn K (.ref (He.ga K "NoName")) "number") (some none),
  fun K => He.eqO (PySem.W.findIn K (.ref (He.ga K "NoName")) "part") (some none),
  efB "WordsError" "NothingChosen",
  fun K => He.eqO (PySem.W.findIn K (.ref (He.ga K "NothingChosen")) "__init__") (some (some (.ref (He.ma K (He.ga K "NothingChosen") "__init__")))),
  fun K => PySem.W.keepIn K (.ref (He.ma K (He.ga K "NothingChosen") "__init__")),
  fun K => decide (PySem.W.typeIn K (.ref (He.ma K (He.ga K "NothingChosen") "__init__")) = some (.type "function")),
  fun K => He.eqO (PySem.W.findIn K (.ref (He.ga K "NothingChosen")) "line") (some none),
  fun K => He.eqO (PySem.W.findIn K (.ref (He.ga K "NothingChosen")) "most") (some none),
  fun K => He.eqO (PySem.W.findIn K (.ref (He.ga K "NothingChosen")) "name") (some none),
  fun K => He.eqO (PySem.W.findIn K (.ref (He.ga K "NothingChosen")) "number") (some none),
  fun K => He.eqO (PySem.W.findIn K (.ref (He.ga K "NothingChosen")) "part") (some none),
  fun K => decide (([(He.ga K "NoKind"), (He.ga K "NoKinds"), (He.ga K "BadProgram"), (He.ga K "NoBody"), (He.ga K "NoPoint"), (He.ga K "NoInputs"), (He.ga K "NoNumber"), (He.ga K "IsOver"), (He.ga K "NoPlace"), (He.ga K "BadPlacer"), (He.ga K "TooMany"), (He.ga K "NoLot"), (He.ga K "NoSpot"), (He.ga K "NoSource"), (He.ga K "NoWords"), (He.ga K "NoKinding"), (He.ga K "NoOver"), (He.ga K "BadImage"), (He.ga K "NoText"), (He.ga K "NoRecord"), (He.ga K "BadText"), (He.ga K "NothingDone"), (He.ga K "NoForm"), (He.ga K "NoName"), (He.ga K "NothingChosen")] : List Addr).Nodup),
  fun K => decide ((He.ga K "WordsError") ∉ ([(He.ga K "NoKind"), (He.ga K "NoKinds"), (He.ga K "BadProgram"), (He.ga K "NoBody"), (He.ga K "NoPoint"), (He.ga K "NoInputs"), (He.ga K "NoNumber"), (He.ga K "IsOver"), (He.ga K "NoPlace"), (He.ga K "BadPlacer"), (He.ga K "TooMany"), (He.ga K "NoLot"), (He.ga K "NoSpot"), (He.ga K "NoSource"), (He.ga K "NoWords"), (He.ga K "NoKinding"), (He.ga K "NoOver"), (He.ga K "BadImage"), (He.ga K "NoText"), (He.ga K "NoRecord"), (He.ga K "BadText"), (He.ga K "NothingDone"), (He.ga K "NoForm"), (He.ga K "NoName"), (He.ga K "NothingChosen")] : List Addr))]
def bs0 : List Chk := [allC cs0, allC cs1, allC cs2, allC cs3]
def fns0 : List He.FnD := [⟨("is_tuple", none), "is_tuple", "is_tuple", defArgs s_is_tuple, defBody s_is_tuple, defScope s_is_tuple⟩,
  ⟨("is_integer", none), "is_integer", "is_integer", defArgs s_is_integer, defBody s_is_integer, defScope s_is_integer⟩,
  ⟨("is_between", none), "is_between", "is_between", defArgs s_is_between, defBody s_is_between, defScope s_is_between⟩,
  ⟨("letters_told", none), "letters_told", "letters_told", defArgs s_letters_told, defBody s_letters_told, defScope s_letters_told⟩,
  ⟨("choice_letters", none), "choice_letters", "choice_letters", defArgs s_choice_letters, defBody s_choice_letters, defScope s_choice_letters⟩,
  ⟨("is_natural", none), "is_natural", "is_natural", defArgs s_is_natural, defBody s_is_natural, defScope s_is_natural⟩,
  ⟨("has_outer_form", none), "has_outer_form", "has_outer_form", defArgs s_has_outer_form, defBody s_has_outer_form, defScope s_has_outer_form⟩,
  ⟨("kinds_within", none), "kinds_within", "kinds_within", defArgs s_kinds_within, defBody s_kinds_within, defScope s_kinds_within⟩,
  ⟨("is_kind", none), "is_kind", "is_kind", defArgs s_is_kind, defBody s_is_kind, defScope s_is_kind⟩,
  ⟨("names_what_is", none), "names_what_is", "names_what_is", defArgs s_names_what_is, defBody s_names_what_is, defScope s_names_what_is⟩,
  ⟨("may_be_written", none), "may_be_written", "may_be_written", defArgs s_may_be_written, defBody s_may_be_written, defScope s_may_be_written⟩,
  ⟨("is_way", none), "is_way", "is_way", defArgs s_is_way, defBody s_is_way, defScope s_is_way⟩,
  ⟨("is_choice", none), "is_choice", "is_choice", defArgs s_is_choice, defBody s_is_choice, defScope s_is_choice⟩,
  ⟨("body_letters", none), "body_letters", "body_letters", defArgs s_body_letters, defBody s_body_letters, defScope s_body_letters⟩,
  ⟨("are_kinds", none), "are_kinds", "are_kinds", defArgs s_are_kinds, defBody s_are_kinds, defScope s_are_kinds⟩,
  ⟨("head_of", none), "head_of", "head_of", defArgs s_head_of, defBody s_head_of, defScope s_head_of⟩,
  ⟨("are_naturals", none), "are_naturals", "are_naturals", defArgs s_are_naturals, defBody s_are_naturals, defScope s_are_naturals⟩,
  ⟨("word_has_form", none), "word_has_form", "word_has_form", defArgs s_word_has_form, defBody s_word_has_form, defScope s_word_has_form⟩,
  ⟨("words_have_forms", none), "words_have_forms", "words_have_forms", defArgs s_words_have_forms, defBody s_words_have_forms, defScope s_words_have_forms⟩,
  ⟨("is_step", none), "is_step", "is_step", defArgs s_is_step, defBody s_is_step, defScope s_is_step⟩,
  ⟨("is_end", none), "is_end", "is_end", defArgs s_is_end, defBody s_is_end, defScope s_is_end⟩,
  ⟨("blocks_within", none), "blocks_within", "blocks_within", defArgs s_blocks_within, defBody s_blocks_within, defScope s_blocks_within⟩,
  ⟨("rows_of", none), "rows_of", "rows_of", defArgs s_rows_of, defBody s_rows_of, defScope s_rows_of⟩,
  ⟨("body_rows", none), "body_rows", "body_rows", defArgs s_body_rows, defBody s_body_rows, defScope s_body_rows⟩,
  ⟨("has_right_kinds", none), "has_right_kinds", "has_right_kinds", defArgs s_has_right_kinds, defBody s_has_right_kinds, defScope s_has_right_kinds⟩,
  ⟨("takes_numbers_alone", none), "takes_numbers_alone", "takes_numbers_alone", defArgs s_takes_numbers_alone, defBody s_takes_numbers_alone, defScope s_takes_numbers_alone⟩,
  ⟨("body_fault", none), "body_fault", "body_fault", defArgs s_body_fault, defBody s_body_fault, defScope s_body_fault⟩,
  ⟨("form_fault", none), "form_fault", "form_fault", defArgs s_form_fault, defBody s_form_fault, defScope s_form_fault⟩,
  ⟨("num_kind", none), "num_kind", "num_kind", defArgs s_num_kind, defBody s_num_kind, defScope s_num_kind⟩,
  ⟨("nil_kind", none), "nil_kind", "nil_kind", defArgs s_nil_kind, defBody s_nil_kind, defScope s_nil_kind⟩]
def bs1 : List Chk := [allC cs4, allC cs5, allC cs6]
def fns1 : List He.FnD := [⟨("are_made_alike", none), "are_made_alike", "are_made_alike", defArgs s_are_made_alike, defBody s_are_made_alike, defScope s_are_made_alike⟩,
  ⟨("are_same", none), "are_same", "are_same", defArgs s_are_same, defBody s_are_same, defScope s_are_same⟩,
  ⟨("are_there", none), "are_there", "are_there", defArgs s_are_there, defBody s_are_there, defScope s_are_there⟩,
  ⟨("sum_kind", none), "sum_kind", "sum_kind", defArgs s_sum_kind, defBody s_sum_kind, defScope s_sum_kind⟩,
  ⟨("row_kind", none), "row_kind", "row_kind", defArgs s_row_kind, defBody s_row_kind, defScope s_row_kind⟩,
  ⟨("there_with", none), "there_with", "there_with", defArgs s_there_with, defBody s_there_with, defScope s_there_with⟩,
  ⟨("part_kind", none), "part_kind", "part_kind", defArgs s_part_kind, defBody s_part_kind, defScope s_part_kind⟩,
  ⟨("with_kinds", none), "with_kinds", "with_kinds", defArgs s_with_kinds, defBody s_with_kinds, defScope s_with_kinds⟩,
  ⟨("all_kinds", none), "all_kinds", "all_kinds", defArgs s_all_kinds, defBody s_all_kinds, defScope s_all_kinds⟩,
  ⟨("folded", none), "folded", "folded", defArgs s_folded, defBody s_folded, defScope s_folded⟩,
  ⟨("put_in", none), "put_in", "put_in", defArgs s_put_in, defBody s_put_in, defScope s_put_in⟩,
  ⟨("all_put_in", none), "all_put_in", "all_put_in", defArgs s_all_put_in, defBody s_all_put_in, defScope s_all_put_in⟩,
  ⟨("way_kind", none), "way_kind", "way_kind", defArgs s_way_kind, defBody s_way_kind, defScope s_way_kind⟩,
  ⟨("take_kind", none), "take_kind", "take_kind", defArgs s_take_kind, defBody s_take_kind, defScope s_take_kind⟩,
  ⟨("box_kind", none), "box_kind", "box_kind", defArgs s_box_kind, defBody s_box_kind, defScope s_box_kind⟩,
  ⟨("open_kind", none), "open_kind", "open_kind", defArgs s_open_kind, defBody s_open_kind, defScope s_open_kind⟩,
  ⟨("put_kind", none), "put_kind", "put_kind", defArgs s_put_kind, defBody s_put_kind, defScope s_put_kind⟩,
  ⟨("print_kind", none), "print_kind", "print_kind", defArgs s_print_kind, defBody s_print_kind, defScope s_print_kind⟩,
  ⟨("body_kind", none), "body_kind", "body_kind", defArgs s_body_kind, defBody s_body_kind, defScope s_body_kind⟩,
  ⟨("call_kind", none), "call_kind", "call_kind", defArgs s_call_kind, defBody s_call_kind, defScope s_call_kind⟩,
  ⟨("is_too_great", none), "is_too_great", "is_too_great", defArgs s_is_too_great, defBody s_is_too_great, defScope s_is_too_great⟩,
  ⟨("made_kind", none), "made_kind", "made_kind", defArgs s_made_kind, defBody s_made_kind, defScope s_made_kind⟩,
  ⟨("come_ahead", none), "come_ahead", "come_ahead", defArgs s_come_ahead, defBody s_come_ahead, defScope s_come_ahead⟩,
  ⟨("rows_and_tables", none), "rows_and_tables", "rows_and_tables", defArgs s_rows_and_tables, defBody s_rows_and_tables, defScope s_rows_and_tables⟩,
  ⟨("Program", some "__init__"), "__init__", "Program.__init__", defArgs s_Program___init__, defBody s_Program___init__, defScope s_Program___init__⟩,
  ⟨("_law_bag", none), "_law_bag", "_law_bag", defArgs s__law_bag, defBody s__law_bag, defScope s__law_bag⟩,
  ⟨("_law_pick", none), "_law_pick", "_law_pick", defArgs s__law_pick, defBody s__law_pick, defScope s__law_pick⟩,
  ⟨("_law_some", none), "_law_some", "_law_some", defArgs s__law_some, defBody s__law_some, defScope s__law_some⟩,
  ⟨("Program", some "__eq__"), "__eq__", "Program.__eq__", defArgs s_Program___eq__, defBody s_Program___eq__, defScope s_Program___eq__⟩]
def bs2 : List Chk := [allC cs7, allC cs8, allC cs9, allC cs10]
def fns2 : List He.FnD := [⟨("_law_is", none), "_law_is", "_law_is", defArgs s__law_is, defBody s__law_is, defScope s__law_is⟩,
  ⟨("_law_deep", none), "_law_deep", "_law_deep", defArgs s__law_deep, defBody s__law_deep, defScope s__law_deep⟩,
  ⟨("_law_flags", none), "_law_flags", "_law_flags", defArgs s__law_flags, defBody s__law_flags, defScope s__law_flags⟩,
  ⟨("_law_fields", none), "_law_fields", "_law_fields", defArgs s__law_fields, defBody s__law_fields, defScope s__law_fields⟩,
  ⟨("law", none), "law", "law", defArgs s_law, defBody s_law, defScope s_law⟩,
  ⟨("NoKind", some "__init__"), "__init__", "NoKind.__init__", defArgs s_NoKind___init__, defBody s_NoKind___init__, defScope s_NoKind___init__⟩,
  ⟨("NoKinds", some "__init__"), "__init__", "NoKinds.__init__", defArgs s_NoKinds___init__, defBody s_NoKinds___init__, defScope s_NoKinds___init__⟩,
  ⟨("BadProgram", some "__init__"), "__init__", "BadProgram.__init__", defArgs s_BadProgram___init__, defBody s_BadProgram___init__, defScope s_BadProgram___init__⟩,
  ⟨("NoBody", some "__init__"), "__init__", "NoBody.__init__", defArgs s_NoBody___init__, defBody s_NoBody___init__, defScope s_NoBody___init__⟩,
  ⟨("NoPoint", some "__init__"), "__init__", "NoPoint.__init__", defArgs s_NoPoint___init__, defBody s_NoPoint___init__, defScope s_NoPoint___init__⟩,
  ⟨("NoInputs", some "__init__"), "__init__", "NoInputs.__init__", defArgs s_NoInputs___init__, defBody s_NoInputs___init__, defScope s_NoInputs___init__⟩,
  ⟨("NoNumber", some "__init__"), "__init__", "NoNumber.__init__", defArgs s_NoNumber___init__, defBody s_NoNumber___init__, defScope s_NoNumber___init__⟩,
  ⟨("IsOver", some "__init__"), "__init__", "IsOver.__init__", defArgs s_IsOver___init__, defBody s_IsOver___init__, defScope s_IsOver___init__⟩,
  ⟨("NoPlace", some "__init__"), "__init__", "NoPlace.__init__", defArgs s_NoPlace___init__, defBody s_NoPlace___init__, defScope s_NoPlace___init__⟩,
  ⟨("BadPlacer", some "__init__"), "__init__", "BadPlacer.__init__", defArgs s_BadPlacer___init__, defBody s_BadPlacer___init__, defScope s_BadPlacer___init__⟩,
  ⟨("TooMany", some "__init__"), "__init__", "TooMany.__init__", defArgs s_TooMany___init__, defBody s_TooMany___init__, defScope s_TooMany___init__⟩,
  ⟨("NoLot", some "__init__"), "__init__", "NoLot.__init__", defArgs s_NoLot___init__, defBody s_NoLot___init__, defScope s_NoLot___init__⟩,
  ⟨("NoSpot", some "__init__"), "__init__", "NoSpot.__init__", defArgs s_NoSpot___init__, defBody s_NoSpot___init__, defScope s_NoSpot___init__⟩,
  ⟨("NoSource", some "__init__"), "__init__", "NoSource.__init__", defArgs s_NoSource___init__, defBody s_NoSource___init__, defScope s_NoSource___init__⟩,
  ⟨("NoWords", some "__init__"), "__init__", "NoWords.__init__", defArgs s_NoWords___init__, defBody s_NoWords___init__, defScope s_NoWords___init__⟩,
  ⟨("NoKinding", some "__init__"), "__init__", "NoKinding.__init__", defArgs s_NoKinding___init__, defBody s_NoKinding___init__, defScope s_NoKinding___init__⟩,
  ⟨("NoOver", some "__init__"), "__init__", "NoOver.__init__", defArgs s_NoOver___init__, defBody s_NoOver___init__, defScope s_NoOver___init__⟩,
  ⟨("BadImage", some "__init__"), "__init__", "BadImage.__init__", defArgs s_BadImage___init__, defBody s_BadImage___init__, defScope s_BadImage___init__⟩,
  ⟨("NoText", some "__init__"), "__init__", "NoText.__init__", defArgs s_NoText___init__, defBody s_NoText___init__, defScope s_NoText___init__⟩,
  ⟨("NoRecord", some "__init__"), "__init__", "NoRecord.__init__", defArgs s_NoRecord___init__, defBody s_NoRecord___init__, defScope s_NoRecord___init__⟩,
  ⟨("BadText", some "__init__"), "__init__", "BadText.__init__", defArgs s_BadText___init__, defBody s_BadText___init__, defScope s_BadText___init__⟩,
  ⟨("NothingDone", some "__init__"), "__init__", "NothingDone.__init__", defArgs s_NothingDone___init__, defBody s_NothingDone___init__, defScope s_NothingDone___init__⟩,
  ⟨("NoForm", some "__init__"), "__init__", "NoForm.__init__", defArgs s_NoForm___init__, defBody s_NoForm___init__, defScope s_NoForm___init__⟩,
  ⟨("NoName", some "__init__"), "__init__", "NoName.__init__", defArgs s_NoName___init__, defBody s_NoName___init__, defScope s_NoName___init__⟩,
  ⟨("NothingChosen", some "__init__"), "__init__", "NothingChosen.__init__", defArgs s_NothingChosen___init__, defBody s_NothingChosen___init__, defScope s_NothingChosen___init__⟩]
def bs : List Chk := ((bs0 ++ bs1) ++ bs2)
def fns : List He.FnD := ((fns0 ++ fns1) ++ fns2)
def tbs : List (Str × List Str) := [("END_FORMS", ["back", "if", "look"]), ("STEP_FORMS", ["num", "nil", "sum", "less", "row", "part", "way", "take", "box", "open", "put", "print", "body", "call"]), ("STEP_KINDS", ["num", "nil", "sum", "less", "row", "part", "way", "take", "box", "open", "put", "print", "body", "call"])]
abbrev R : PySem.W.OpenRow := PySem.W.OpenLaw.row PySem.Challenge.rw_barewords_k00_errors_and_their_fields
def nm0 : List Str := ["WordsError", "NoKind", "NoKinds", "BadProgram", "NoBody", "NoPoint", "NoInputs", "NoNumber", "IsOver", "NoPlace", "BadPlacer", "TooMany", "NoLot", "NoSpot", "NoSource", "NoWords", "NoKinding", "NoOver", "BadImage", "NoText", "NoRecord", "BadText", "NothingDone", "NoForm", "NoName", "NothingChosen", "is_integer", "is_between", "is_natural", "is_tuple"]
def nm1 : List Str := ["are_naturals", "has_outer_form", "kinds_within", "with_kinds", "are_made_alike", "all_kinds", "are_same", "folded", "put_in", "is_kind", "are_kinds", "MOST_CHOICES", "MOST_CHOICE_LETTERS", "MOST_WAYS", "MOST_PARTS", "MOST_BODIES", "MOST_BODY_LETTERS", "MOST_PLACES", "MOST_BLOCKS_DEEP", "MOST_STEPS", "MOST_KINDS_DEEP", "MOST_KINDS", "MOST_ROW", "LARGEST", "STEP_FORMS", "END_FORMS", "letters_told", "choice_letters", "body_letters", "names_what_is"]
def nm2 : List Str := ["may_be_written", "is_way", "is_choice", "word_has_form", "head_of", "words_have_forms", "is_step", "is_end", "blocks_within", "rows_of", "body_rows", "has_right_kinds", "takes_numbers_alone", "body_fault", "form_fault", "NUM", "NIL", "MOST_KINDS_IN_PLACE", "MOST_LEFT", "all_put_in", "are_there", "there_with", "num_kind", "nil_kind", "sum_kind", "row_kind", "part_kind", "way_kind", "take_kind", "box_kind"]
def nm3 : List Str := ["open_kind", "put_kind", "print_kind", "body_kind", "call_kind", "STEP_KINDS", "is_too_great", "made_kind", "come_ahead", "rows_and_tables", "Program", "_law_bag", "_law_pick", "_law_some", "_law_is", "_law_deep", "_law_flags", "_law_fields"]
def names : List Str := nm0 ++ nm1 ++ nm2 ++ nm3
def LI : Nat := 115
theorem runfalse0 (w : PySem.World) : HandSHeadRun.RunEq R (PySem.W.view R.prog [115]) (B.hookM bs0 fns0 tbs) (B.obM bs0 fns0 tbs) 9400 names (w.withFollow "special-get-raises" false) := by
  intro os
  kernel_rfl
theorem runtrue0 (w : PySem.World) : HandSHeadRun.RunEq R (PySem.W.view R.prog [115]) (B.hookM bs0 fns0 tbs) (B.obM bs0 fns0 tbs) 9400 names (w.withFollow "special-get-raises" true) := by
  intro os
  kernel_rfl
theorem run0 (w : PySem.World) : HandSHeadRun.RunEq R (PySem.W.view R.prog [115]) (B.hookM bs0 fns0 tbs) (B.obM bs0 fns0 tbs) 9400 names w :=
  PySem.W.byRow2 "special-get-raises" (P := fun w => HandSHeadRun.RunEq R (PySem.W.view R.prog [115]) (B.hookM bs0 fns0 tbs) (B.obM bs0 fns0 tbs) 9400 names w) runfalse0 runtrue0 w
theorem runfalse1 (w : PySem.World) : HandSHeadRun.RunEq R (PySem.W.view R.prog [115]) (B.hookM bs1 fns1 []) (B.obM bs1 fns1 []) 9400 names (w.withFollow "special-get-raises" false) := by
  intro os
  kernel_rfl
theorem runtrue1 (w : PySem.World) : HandSHeadRun.RunEq R (PySem.W.view R.prog [115]) (B.hookM bs1 fns1 []) (B.obM bs1 fns1 []) 9400 names (w.withFollow "special-get-raises" true) := by
  intro os
  kernel_rfl
theorem run1 (w : PySem.World) : HandSHeadRun.RunEq R (PySem.W.view R.prog [115]) (B.hookM bs1 fns1 []) (B.obM bs1 fns1 []) 9400 names w :=
  PySem.W.byRow2 "special-get-raises" (P := fun w => HandSHeadRun.RunEq R (PySem.W.view R.prog [115]) (B.hookM bs1 fns1 []) (B.obM bs1 fns1 []) 9400 names w) runfalse1 runtrue1 w
theorem runfalse2 (w : PySem.World) : HandSHeadRun.RunEq R (PySem.W.view R.prog [115]) (B.hookM bs2 fns2 []) (B.obM bs2 fns2 []) 9400 names (w.withFollow "special-get-raises" false) := by
  intro os
  kernel_rfl
theorem runtrue2 (w : PySem.World) : HandSHeadRun.RunEq R (PySem.W.view R.prog [115]) (B.hookM bs2 fns2 []) (B.obM bs2 fns2 []) 9400 names (w.withFollow "special-get-raises" true) := by
  intro os
  kernel_rfl
theorem run2 (w : PySem.World) : HandSHeadRun.RunEq R (PySem.W.view R.prog [115]) (B.hookM bs2 fns2 []) (B.obM bs2 fns2 []) 9400 names w :=
  PySem.W.byRow2 "special-get-raises" (P := fun w => HandSHeadRun.RunEq R (PySem.W.view R.prog [115]) (B.hookM bs2 fns2 []) (B.obM bs2 fns2 []) 9400 names w) runfalse2 runtrue2 w
theorem run (w : PySem.World) : HandSHeadRun.RunEq R (PySem.W.view R.prog [115]) (B.hookM bs fns tbs) (B.obM bs fns tbs) 9400 names w := B.run_two (B.run_two (run0 w) (run1 w)) (run2 w)
end K00t

set_option Elab.async false
set_option linter.all false
set_option maxRecDepth 100000
namespace B
open PySem PySem.Spec L2
set_option autoImplicit false

/-! ### plain worths -/
/-- what a name holds: immutable things as trees; a thing that may change as its number in the store -/
inductive W where
  | non
  | bl (b : Bool)
  | int (i : Int)
  | str (x : Str)
  | tup (xs : List W)
  | fl (xs : List W)
  | ref (i : Nat)
  | ext (v : V)
  /-- a def of the module, by its name -/
  | fnc (x : Str)
  /-- an exception of a class of the module: the class, the name of its field, what it holds -/
  | exc (c f : Str) (ws : List W)

/-- an object of the store -/
inductive SO where
  | lst (xs : List W)
  | dct (kvs : List (Key × W))
  /-- a dict whose keys are tuples -/
  | dtt (kvs : List (List Key × W))
  /-- an instance of a class of the module -/
  | ins (c : Str) (fs : List (Str × W))
  /-- a dict with tuple keys, while it is walked -/
  | lkt (kvs : List (List Key × W))

abbrev Sto := List SO
abbrev M (α : Type) := Sto → Option (α × Sto)
@[simp] def ret {α : Type} (a : α) : M α := fun st => some (a, st)
@[simp] def bnd {α β : Type} (m : M α) (f : α → M β) : M β := fun st => match m st with
  | none => none
  | some (a, st') => f a st'
@[simp] def fail {α : Type} : M α := fun _ => none

abbrev En := List (Option W)
abbrev EM := En → M W
abbrev TM := En → M Bool
abbrev AM := En → M (List W)
inductive Fl where
  | nx | bk | ct
  | rt (w : W)
abbrev SM := En → M (Fl × En)

theorem bnd_some {α β : Type} {m : M α} {f : α → M β} {st : Sto} {r : β × Sto} (h : bnd m f st = some r) : ∃ a st1, m st = some (a, st1) ∧ f a st1 = some r := by
  unfold bnd at h
  split at h
  · cases h
  · rename_i a st1 e; exact ⟨a, st1, e, h⟩
theorem bnd_of {α β : Type} {m : M α} {f : α → M β} {st st1 : Sto} {a : α} (h : m st = some (a, st1)) : bnd m f st = f a st1 := by
  unfold bnd; rw [h]

/-! ### how worths lie in the heap -/
section
variable (K : PySem.W.Frag) (β : List Addr) (H : Hp)
/-- a list that nobody changes -/
def Fix (a : Addr) (vs : List V) : Prop := (∃ o, H a = some (.frz o (.lst vs))) ∨
    ∃ (o : Obj) (its : Array Value) (n : Nat), K.lookup a = some o ∧ o.cls = .type "list" ∧ o.dict = none ∧ o.data = .seq its n ∧ its.size ≤ sizeLine ∧ Vals vs its.toList
/-- a tuple: made while it ran, or one of the module's, of words alone -/
def TqT (a : Addr) (vs : List V) : Prop := H a = some (.tup vs) ∨
    ((∃ (o : Obj) (its : Array Value) (n : Nat), K.lookup a = some o ∧ o.cls = .type "tuple" ∧ o.data = .seq its n ∧ its.size ≤ sizeLine ∧ Vals vs its.toList) ∧ ∀ v ∈ vs, ∃ x, v = V.str x)
mutual
inductive RW : W → V → Prop
  | non : RW .non .non
  | bl (b : Bool) : RW (.bl b) (.bl b)
  | int (i : Int) : RW (.int i) (.int i)
  | str (x : Str) : RW (.str x) (.str x)
  | tup {a : Addr} {xs : List W} {vs : List V} : TqT K H a vs → RWs xs vs → RW (.tup xs) (.ref a)
  | fl {a : Addr} {xs : List W} {vs : List V} : Fix K H a vs → RWs xs vs → RW (.fl xs) (.ref a)
  | ref {i : Nat} {a : Addr} : β[i]? = some a → RW (.ref i) (.ref a)
  | ext (v : V) : RW (.ext v) v
  | fnc {x : Str} {f : Addr} : PySem.W.nsIn K mainGlobals x = some (some (.ref f)) → RW (.fnc x) (.ref f)
  | exc0 {c f : Str} {C a : Addr} : PySem.W.nsIn K mainGlobals c = some (some (.ref C)) → H a = some (exo a C none) → RW (.exc c f []) (.ref a)
  | exc1 {c f : Str} {C a dx : Addr} {w : W} {v : V} : PySem.W.nsIn K mainGlobals c = some (some (.ref C)) → H a = some (exo a C (some dx)) → H dx = some (exd dx [(f, v)]) → RW w v → RW (.exc c f [w]) (.ref a)
inductive RWs : List W → List V → Prop
  | nil : RWs [] []
  | cons {x : W} {v : V} {xs : List W} {vs : List V} : RW x v → RWs xs vs → RWs (x :: xs) (v :: vs)
end
inductive RKs {T : Type} : List (T × W) → List (T × V) → Prop
  | nil : RKs [] []
  | cons {k : T} {x : W} {v : V} {xs : List (T × W)} {vs : List (T × V)} : RW K β H x v → RKs xs vs → RKs ((k, x) :: xs) ((k, v) :: vs)
def RO (a : Addr) : SO → Prop
  | .lst xs => ∃ vs, H a = some (.lst vs) ∧ RWs K β H xs vs
  | .dct kvs => ∃ vs, H a = some (.dK vs) ∧ RKs K β H kvs vs
  | .dtt kvs => ∃ vs, H a = some (.dT vs) ∧ RKs K β H kvs vs
  | .ins c fs => ∃ A dx vs, PySem.W.nsIn K mainGlobals c = some (some (.ref A)) ∧ H a = some (.ins A dx vs) ∧ RKs K β H fs vs
  | .lkt kvs => ∃ o vs, H a = some (.frz o (.dT vs)) ∧ RKs K β H kvs vs
structure RS (st : Sto) : Prop where
  len : β.length = st.length
  nd : β.Nodup
  ob : ∀ (i : Nat) (o : SO), st[i]? = some o → ∃ a, β[i]? = some a ∧ RO K β H a o
structure RE (env : En) (σ : St) : Prop where
  len : env.length = σ.length
  at' : ∀ (i : Nat) (w : W), env[i]? = some (some w) → ∃ v, σ[i]? = some (some v) ∧ RW K β H w v
end
/-- what may become of the heap: more objects, those that never change stay -/
structure Ext (β : List Addr) (H : Hp) (β' : List Addr) (H' : Hp) : Prop where
  more : ∃ γ, β' = β ++ γ
  tups : ∀ a xs, H a = some (.tup xs) → H' a = some (.tup xs)
  frzs : ∀ a o u, H a = some (.frz o u) → H' a = some (.frz o u)
  /-- the fields of an exception -/
  xds : ∀ a fs, H a = some (.xd fs) → H' a = some (.xd fs)
  exts : ∀ a φ, H a = some (.ext φ) → H' a = some (.ext φ)

section
variable {K : PySem.W.Frag} {β β1 β2 : List Addr} {H H1 H2 : Hp}
theorem Ext.refl : Ext β H β H := ⟨⟨[], by simp⟩, fun _ _ h => h, fun _ _ _ h => h, fun _ _ h => h, fun _ _ h => h⟩
theorem Ext.trans (a : Ext β H β1 H1) (b : Ext β1 H1 β2 H2) : Ext β H β2 H2 := by
  obtain ⟨γ, rfl⟩ := a.more
  obtain ⟨δ, rfl⟩ := b.more
  exact ⟨⟨γ ++ δ, by simp⟩, fun c xs h => b.tups c xs (a.tups c xs h), fun c o u h => b.frzs c o u (a.frzs c o u h), fun c xs h => b.xds c xs (a.xds c xs h), fun c xs h => b.exts c xs (a.exts c xs h)⟩
theorem Ext.sqT (e : Ext β H β1 H1) {a : Addr} {xs : List V} (h : SqT K H a xs) : SqT K H1 a xs := by
  rcases h with (h | ⟨o, h⟩) | h
  · exact .inl (.inl (e.tups _ _ h))
  · exact .inl (.inr ⟨o, e.frzs _ _ _ h⟩)
  · exact .inr h
theorem TqT.sq {a : Addr} {vs : List V} (h : TqT K H a vs) : SqT K H a vs := by
  rcases h with h | ⟨h, _⟩
  · exact .inl (.inl h)
  · exact .inr h
theorem Ext.tqT (e : Ext β H β1 H1) {a : Addr} {xs : List V} (h : TqT K H a xs) : TqT K H1 a xs := by
  rcases h with h | h
  · exact .inl (e.tups _ _ h)
  · exact .inr h
theorem Ext.fix (e : Ext β H β1 H1) {a : Addr} {xs : List V} (h : Fix K H a xs) : Fix K H1 a xs := by
  rcases h with ⟨o, h⟩ | h
  · exact .inl ⟨o, e.frzs _ _ _ h⟩
  · exact .inr h
theorem Ext.ix (e : Ext β H β1 H1) {i : Nat} {a : Addr} (h : β[i]? = some a) : β1[i]? = some a := by
  obtain ⟨γ, rfl⟩ := e.more
  rw [List.getElem?_append_left (List.getElem?_eq_some_iff.mp h).1]
  exact h
mutual
theorem RW.ext' (e : Ext β H β1 H1) : ∀ {w : W} {v : V}, RW K β H w v → RW K β1 H1 w v
  | _, _, .non => .non
  | _, _, .bl b => .bl b
  | _, _, .int i => .int i
  | _, _, .str x => .str x
  | _, _, .tup h r => .tup (e.tqT h) (RWs.ext e r)
  | _, _, .fl h r => .fl (e.fix h) (RWs.ext e r)
  | _, _, .ref h => .ref (e.ix h)
  | _, _, .ext v => .ext v
  | _, _, .fnc h => .fnc h
  | _, _, .exc0 h1 h2 => .exc0 h1 (e.exts _ _ h2)
  | _, _, .exc1 h1 h2 h3 r => .exc1 h1 (e.exts _ _ h2) (e.exts _ _ h3) (RW.ext' e r)
theorem RWs.ext (e : Ext β H β1 H1) : ∀ {ws : List W} {vs : List V}, RWs K β H ws vs → RWs K β1 H1 ws vs
  | _, _, .nil => .nil
  | _, _, .cons r t => .cons (RW.ext' e r) (RWs.ext e t)
end
theorem RKs.ext {T : Type} (e : Ext β H β1 H1) : ∀ {ws : List (T × W)} {vs : List (T × V)}, RKs K β H ws vs → RKs K β1 H1 ws vs
  | _, _, .nil => .nil
  | _, _, .cons r t => .cons (RW.ext' e r) (RKs.ext e t)
theorem RE.ext (e : Ext β H β1 H1) {env : En} {σ : St} (h : RE K β H env σ) : RE K β1 H1 env σ :=
  ⟨h.len, fun i w hi => let ⟨v, a, b⟩ := h.at' i w hi; ⟨v, a, b.ext' e⟩⟩
theorem RE.set {env : En} {σ : St} (h : RE K β H env σ) {w : W} {v : V} (r : RW K β H w v) (i : Nat) : RE K β H (env.set i (some w)) (σ.set i (some v)) := by
  refine ⟨by simp [h.len], fun j x hj => ?_⟩
  by_cases e : i = j
  · subst e
    have hi : i < env.length := by
      have := (List.getElem?_eq_some_iff.mp hj).1
      simpa using this
    rw [List.getElem?_set_self hi] at hj
    cases hj
    exact ⟨v, List.getElem?_set_self (by rw [← h.len]; exact hi), r⟩
  · rw [List.getElem?_set_ne e] at hj
    obtain ⟨v', a, b⟩ := h.at' j x hj
    exact ⟨v', by rw [List.getElem?_set_ne e]; exact a, b⟩

theorem RWs.length : ∀ {ws : List W} {vs : List V}, RWs K β H ws vs → ws.length = vs.length
  | _, _, .nil => rfl
  | _, _, .cons _ t => by simp [RWs.length t]
theorem RWs.get : ∀ {ws : List W} {vs : List V} {i : Nat} {w : W}, RWs K β H ws vs → ws[i]? = some w → ∃ v, vs[i]? = some v ∧ RW K β H w v
  | _, _, _, _, .nil, h => by simp at h
  | _, _, 0, _, .cons r _, h => by simp at h; subst h; exact ⟨_, rfl, r⟩
  | _, _, i + 1, w, .cons _ t, h => by
    obtain ⟨v, a, b⟩ := RWs.get (i := i) t (by simpa using h)
    exact ⟨v, by simpa using a, b⟩
theorem RWs.getV : ∀ {ws : List W} {vs : List V} {i : Nat} {v : V}, RWs K β H ws vs → vs[i]? = some v → ∃ w, ws[i]? = some w ∧ RW K β H w v
  | _, _, _, _, .nil, h => by simp at h
  | _, _, 0, _, .cons r _, h => by simp at h; subst h; exact ⟨_, rfl, r⟩
  | _, _, i + 1, w, .cons _ t, h => by
    obtain ⟨v, a, b⟩ := RWs.getV (i := i) t (by simpa using h)
    exact ⟨v, by simpa using a, b⟩
theorem RWs.append : ∀ {ws ws' : List W} {vs vs' : List V}, RWs K β H ws vs → RWs K β H ws' vs' → RWs K β H (ws ++ ws') (vs ++ vs')
  | _, _, _, _, .nil, h => h
  | _, _, _, _, .cons r t, h => .cons r (RWs.append t h)
theorem RWs.take : ∀ {ws : List W} {vs : List V} (n : Nat), RWs K β H ws vs → RWs K β H (ws.take n) (vs.take n)
  | _, _, 0, _ => by simp; exact .nil
  | _, _, _ + 1, .nil => by simp; exact .nil
  | _, _, n + 1, .cons r t => .cons r (RWs.take n t)
theorem RWs.drop : ∀ {ws : List W} {vs : List V} (n : Nat), RWs K β H ws vs → RWs K β H (ws.drop n) (vs.drop n)
  | _, _, 0, h => h
  | _, _, _ + 1, .nil => by simp; exact .nil
  | _, _, n + 1, .cons _ t => RWs.drop n t
theorem RWs.reverse {ws : List W} {vs : List V} (h : RWs K β H ws vs) : RWs K β H ws.reverse vs.reverse := by
  induction ws generalizing vs with
  | nil => cases h; exact .nil
  | cons x xs ih =>
    cases h with
    | cons r t =>
      rw [List.reverse_cons, List.reverse_cons]
      exact (ih t).append (.cons r .nil)
theorem RWs.set {w : W} {v : V} (r : RW K β H w v) : ∀ {ws : List W} {vs : List V} (i : Nat), RWs K β H ws vs → RWs K β H (ws.set i w) (vs.set i v)
  | _, _, _, .nil => .nil
  | _, _, 0, .cons _ t => .cons r t
  | _, _, i + 1, .cons q t => .cons q (RWs.set r i t)
theorem RWs.eraseIdx : ∀ {ws : List W} {vs : List V} (i : Nat), RWs K β H ws vs → RWs K β H (ws.eraseIdx i) (vs.eraseIdx i)
  | _, _, _, .nil => .nil
  | _, _, 0, .cons _ t => t
  | _, _, i + 1, .cons q t => .cons q (RWs.eraseIdx i t)
theorem RWs.dropLast {ws : List W} {vs : List V} (h : RWs K β H ws vs) : RWs K β H ws.dropLast vs.dropLast := by
  rw [List.dropLast_eq_take, List.dropLast_eq_take, h.length]
  exact h.take _
theorem RWs.snoc {ws : List W} {vs : List V} {w : W} {v : V} (h : RWs K β H ws vs) (r : RW K β H w v) : RWs K β H (ws ++ [w]) (vs ++ [v]) := h.append (.cons r .nil)
theorem RW.int_inv {i : Int} {v : V} (h : RW K β H (.int i) v) : v = .int i := by cases h; rfl
theorem RW.bl_inv {i : Bool} {v : V} (h : RW K β H (.bl i) v) : v = .bl i := by cases h; rfl
theorem RW.str_inv {i : Str} {v : V} (h : RW K β H (.str i) v) : v = .str i := by cases h; rfl
theorem RW.non_inv {v : V} (h : RW K β H .non v) : v = .non := by cases h; rfl
theorem Fix.sq {a : Addr} {vs : List V} (h : Fix K H a vs) : SqL K H a vs := by
  rcases h with ⟨o, h⟩ | h
  · exact .inl (.inr ⟨o, h⟩)
  · exact .inr h

/-! ### a new object, a changed one -/
theorem RO.upd {a p : Addr} {o : SO} {u : HO} (h : RO K β H a o) (e : Ext β H β1 (upd H p u)) (n : a ≠ p) : RO K β1 (L2.upd H p u) a o := by
  cases o with
  | lst xs =>
    obtain ⟨vs, e1, r⟩ := h
    exact ⟨vs, by rw [upd_ne n]; exact e1, r.ext e⟩
  | dct kvs =>
    obtain ⟨vs, e1, r⟩ := h
    exact ⟨vs, by rw [upd_ne n]; exact e1, r.ext e⟩
  | dtt kvs =>
    obtain ⟨vs, e1, r⟩ := h
    exact ⟨vs, by rw [upd_ne n]; exact e1, r.ext e⟩
  | ins c fs =>
    obtain ⟨A, dx, vs, hc, e1, r⟩ := h
    exact ⟨A, dx, vs, hc, by rw [upd_ne n]; exact e1, r.ext e⟩
  | lkt kvs =>
    obtain ⟨ob, vs, e1, r⟩ := h
    exact ⟨ob, vs, by rw [upd_ne n]; exact e1, r.ext e⟩
theorem RO.there {a : Addr} {o : SO} (h : RO K β H a o) : ∃ u, H a = Option.some u := by
  cases o with
  | lst xs => obtain ⟨vs, e1, r⟩ := h; exact ⟨_, e1⟩
  | dct kvs => obtain ⟨vs, e1, r⟩ := h; exact ⟨_, e1⟩
  | dtt kvs => obtain ⟨vs, e1, r⟩ := h; exact ⟨_, e1⟩
  | ins c fs => obtain ⟨A, dx, vs, hc, e1, r⟩ := h; exact ⟨_, e1⟩
  | lkt kvs => obtain ⟨ob, vs, e1, r⟩ := h; exact ⟨_, e1⟩
theorem RO.some {a : Addr} {o : SO} (h : RO K β H a o) (hl : ∀ kvs, o ≠ .lkt kvs) : ∃ u, H a = Option.some u ∧ (∀ xs, u ≠ .tup xs) ∧ (∀ ob v, u ≠ .frz ob v) ∧ (∀ fs, u ≠ .xd fs) ∧ (∀ φ, u ≠ .ext φ) := by
  cases o with
  | lst xs =>
    obtain ⟨vs, e1, r⟩ := h
    exact ⟨_, e1, fun _ z => (nomatch z), fun _ _ z => (nomatch z), fun _ z => (nomatch z), fun _ z => (nomatch z)⟩
  | dct kvs =>
    obtain ⟨vs, e1, r⟩ := h
    exact ⟨_, e1, fun _ z => (nomatch z), fun _ _ z => (nomatch z), fun _ z => (nomatch z), fun _ z => (nomatch z)⟩
  | dtt kvs =>
    obtain ⟨vs, e1, r⟩ := h
    exact ⟨_, e1, fun _ z => (nomatch z), fun _ _ z => (nomatch z), fun _ z => (nomatch z), fun _ z => (nomatch z)⟩
  | ins c fs =>
    obtain ⟨A, dx, vs, hc, e1, r⟩ := h
    exact ⟨_, e1, fun _ z => (nomatch z), fun _ _ z => (nomatch z), fun _ z => (nomatch z), fun _ z => (nomatch z)⟩
  | lkt kvs => exact absurd rfl (hl kvs)
/-- an object at a free place that is not of the store (a tuple) -/
theorem Ext.new {p : Addr} {u : HO} (hp : H p = none) : Ext β H β (upd H p u) :=
  ⟨⟨[], by simp⟩, fun a xs h => by rw [upd_ne (ne_of_none h hp)]; exact h, fun a o v h => by rw [upd_ne (ne_of_none h hp)]; exact h, fun a fs h => by rw [upd_ne (ne_of_none h hp)]; exact h, fun a fs h => by rw [upd_ne (ne_of_none h hp)]; exact h⟩
theorem RS.new {st : Sto} (s : RS K β H st) {p : Addr} {u : HO} (hp : H p = none) : RS K β (upd H p u) st :=
  ⟨s.len, s.nd, fun i o hi => by
    obtain ⟨a, ha, r⟩ := s.ob i o hi
    obtain ⟨z, hz⟩ := r.there
    exact ⟨a, ha, r.upd (Ext.new hp) (ne_of_none hz hp)⟩⟩
/-- .. of the store -/
theorem Ext.alloc {p : Addr} {u : HO} (hp : H p = none) : Ext β H (β ++ [p]) (upd H p u) :=
  ⟨⟨[p], rfl⟩, fun a xs h => by rw [upd_ne (ne_of_none h hp)]; exact h, fun a o v h => by rw [upd_ne (ne_of_none h hp)]; exact h, fun a fs h => by rw [upd_ne (ne_of_none h hp)]; exact h, fun a fs h => by rw [upd_ne (ne_of_none h hp)]; exact h⟩
theorem RS.alloc {st : Sto} (s : RS K β H st) {p : Addr} {u : HO} {o : SO} (hp : H p = none) (r : RO K (β ++ [p]) (upd H p u) p o) : RS K (β ++ [p]) (upd H p u) (st ++ [o]) := by
  have hb : p ∉ β := fun hm => by
    obtain ⟨i, hi, e⟩ := List.mem_iff_getElem.mp hm
    have hs : i < st.length := by rw [← s.len]; exact hi
    obtain ⟨a, ha, r⟩ := s.ob i st[i] (by simp [hs])
    rw [List.getElem?_eq_getElem hi, e] at ha
    cases ha
    obtain ⟨z, hz⟩ := r.there
    rw [hp] at hz; cases hz
  refine ⟨by simp [s.len], ?_, fun i q hi => ?_⟩
  · rw [List.nodup_append]
    exact ⟨s.nd, by simp, fun a ha b hb' => by simp at hb'; subst hb'; exact fun z => hb (z ▸ ha)⟩
  · by_cases hl : i < st.length
    · rw [List.getElem?_append_left hl] at hi
      obtain ⟨a, ha, r⟩ := s.ob i q hi
      obtain ⟨z, hz⟩ := r.there
      exact ⟨a, (Ext.alloc (u := u) hp).ix ha, r.upd (Ext.alloc hp) (ne_of_none hz hp)⟩
    · rw [List.getElem?_append_right (by omega)] at hi
      have h0 : i - st.length = 0 := by
        have := (List.getElem?_eq_some_iff.mp hi).1
        simp at this; omega
      rw [h0] at hi
      simp at hi
      subst hi
      exact ⟨p, by rw [List.getElem?_append_right (by rw [s.len]; omega)]; simp [s.len, h0], r⟩
theorem alloc_ix {st : Sto} (s : RS K β H st) {p : Addr} : (β ++ [p])[st.length]? = some p := by
  rw [← s.len]; simp
/-- the object with number i is changed -/
theorem Ext.chg {a : Addr} {u : HO} {z : HO} (hz : H a = some z) (h1 : ∀ xs, z ≠ .tup xs) (h2 : ∀ ob v, z ≠ .frz ob v) (h3 : ∀ fs, z ≠ .xd fs := by intro _ e; cases e) (h4 : ∀ φ, z ≠ .ext φ := by intro _ e; cases e) : Ext β H β (upd H a u) :=
  ⟨⟨[], by simp⟩, fun b xs h => by rw [upd_ne (fun e => by subst e; rw [hz] at h; exact h1 xs (Option.some.inj h))]; exact h,
    fun b o v h => by rw [upd_ne (fun e => by subst e; rw [hz] at h; exact h2 o v (Option.some.inj h))]; exact h,
    fun b fs h => by rw [upd_ne (fun e => by subst e; rw [hz] at h; exact h3 fs (Option.some.inj h))]; exact h,
    fun b fs h => by rw [upd_ne (fun e => by subst e; rw [hz] at h; exact h4 fs (Option.some.inj h))]; exact h⟩
theorem RS.chg {st : Sto} (s : RS K β H st) {i : Nat} {o o' : SO} {a : Addr} {u : HO} (hi : st[i]? = some o) (ha : β[i]? = some a) (r : RO K β (upd H a u) a o') (hl : ∀ kvs, o ≠ .lkt kvs := by intro _ z; cases z) :
    Ext β H β (upd H a u) ∧ RS K β (upd H a u) (st.set i o') := by
  obtain ⟨a', ha', r0⟩ := s.ob i o hi
  rw [ha] at ha'; cases ha'
  obtain ⟨z, hz, h1, h2, h3, h4⟩ := r0.some hl
  have e : Ext β H β (L2.upd H a u) := Ext.chg hz h1 h2 h3 h4
  refine ⟨e, by simp [s.len], s.nd, fun j q hj => ?_⟩
  by_cases c : i = j
  · subst c
    rw [List.getElem?_set_self (List.getElem?_eq_some_iff.mp hi).1] at hj
    cases hj
    exact ⟨a, ha, r⟩
  · rw [List.getElem?_set_ne c] at hj
    obtain ⟨b, hb, rb⟩ := s.ob j q hj
    refine ⟨b, hb, rb.upd e fun z => c ?_⟩
    subst z
    have h1 := List.getElem?_eq_some_iff.mp ha
    have h2 := List.getElem?_eq_some_iff.mp hb
    exact (List.getElem_inj s.nd).mp (h1.2.trans h2.2.symm)
end

/-! ### the judgements -/
section
variable (K : PySem.W.Frag)
def tM (m : EM) : TE := fun σ H Q => ∃ β st env w st', RE K β H env σ ∧ RS K β H st ∧ m env st = some (w, st') ∧
  ∀ v H' β', Ext β H β' H' → RS K β' H' st' → RW K β' H' w v → Q v H'
def tMT (m : TM) : TT := fun σ H Q => ∃ β st env b st', RE K β H env σ ∧ RS K β H st ∧ m env st = some (b, st') ∧
  ∀ H' β', Ext β H β' H' → RS K β' H' st' → Q b H'
def tMA (m : AM) : TA := fun σ H Q => ∃ β st env ws st', RE K β H env σ ∧ RS K β H st ∧ m env st = some (ws, st') ∧
  ∀ vs H' β', Ext β H β' H' → RS K β' H' st' → RWs K β' H' ws vs → Q vs H'
def fin (D : Ends) (fl : Fl) (env : En) (σ : St) (β : List Addr) (H : Hp) : Prop := match fl with
  | .nx => D.nx σ H
  | .bk => D.bk σ H
  | .ct => D.ct σ H
  | .rt w => ∀ v, RW K β H w v → D.rt v H
def tMS (m : SM) : TS := fun D σ H => ∃ β st env fl env' st', RE K β H env σ ∧ RS K β H st ∧ m env st = some ((fl, env'), st') ∧
  ∀ σ' H' β', Ext β H β' H' → RS K β' H' st' → RE K β' H' env' σ' → fin K D fl env' σ' β' H'
end
structure SE (X : Cx) (e : Expr) (m : EM) : Prop where
  pe : PE X e (tM X.K m)
structure ST (X : Cx) (e : Expr) (m : TM) : Prop where
  pt : PT X e (tMT X.K m)
structure SA (X : Cx) (es : List Expr) (m : AM) : Prop where
  pa : PA X es (tMA X.K m)
  len : ∀ env st r, m env st = some r → r.1.length = es.length
structure SS (X : Cx) (st : Stmt) (m : SM) : Prop where
  ps : PS X st (tMS X.K m)
structure SB (X : Cx) (st : List Stmt) (m : SM) : Prop where
  pss : PSs X st (tMS X.K m)

theorem PEimp {X : Cx} {e : Expr} {t t' : TE} (h : PE X e t) (i : ∀ σ H Q, t' σ H Q → t σ H Q) : PE X e t' := ⟨fun pins s σ H Q I hq => h.run pins s σ H Q I (i σ H Q hq)⟩
theorem PTimp {X : Cx} {e : Expr} {t t' : TT} (h : PT X e t) (i : ∀ σ H Q, t' σ H Q → t σ H Q) : PT X e t' := ⟨fun pins s σ H Q I hq => h.run pins s σ H Q I (i σ H Q hq)⟩
theorem PAimp {X : Cx} {es : List Expr} {t t' : TA} (h : PA X es t) (i : ∀ σ H Q, t' σ H Q → t σ H Q) : PA X es t' := ⟨fun pos pins s σ H Q I hq => h.run pos pins s σ H Q I (i σ H Q hq)⟩
theorem PSimp {X : Cx} {st : Stmt} {t t' : TS} (h : PS X st t) (i : ∀ D σ H, t' D σ H → t D σ H) : PS X st t' := ⟨fun pins s σ H D I hq => h.run pins s σ H D I (i D σ H hq)⟩
theorem PSsimp {X : Cx} {st : List Stmt} {t t' : TS} (h : PSs X st t) (i : ∀ D σ H, t' D σ H → t D σ H) : PSs X st t' := ⟨fun pins s σ H D I hq => h.run pins s σ H D I (i D σ H hq)⟩
end B

set_option Elab.async false
set_option linter.all false
set_option maxRecDepth 100000
namespace B
open PySem PySem.Spec L2
set_option autoImplicit false

def sml (n : Nat) : Bool := Nat.ble n 1000000
theorem sml_le {n : Nat} (h : sml n = true) : n ≤ 1000000 := Nat.le_of_ble_eq_true h
theorem sml_line {n : Nat} (h : sml n = true) : n < sizeLine := Nat.lt_of_le_of_lt (sml_le h) (by rw [sizeLine_eq]; decide)
theorem sml_of {n : Nat} (h : n ≤ 1000000) : sml n = true := Nat.ble_eq_true_of_le h

/-! ### pure words -/
@[simp] def eVar (i : Nat) : EM := fun env st => match env[i]? with
  | some (some w) => some (w, st)
  | _ => none
@[simp] def eC (w : W) : EM := fun _ st => some (w, st)
@[simp] def eOp (f : W → W → M W) (a b : EM) : EM := fun env => bnd (a env) fun x => bnd (b env) fun y => f x y
@[simp] def eUn (f : W → M W) (a : EM) : EM := fun env => bnd (a env) f
@[simp] def aNil : AM := fun _ => ret []
@[simp] def aCons (a : EM) (r : AM) : AM := fun env => bnd (a env) fun x => bnd (r env) fun xs => ret (x :: xs)
@[simp] def mkTup (ws : List W) : M W := fun st => if sml ws.length = true then some (.tup ws, st) else none
@[simp] def mkLst (ws : List W) : M W := fun st => if sml ws.length = true then some (.ref st.length, st ++ [.lst ws]) else none
@[simp] def eTup (a : AM) : EM := fun env => bnd (a env) mkTup
@[simp] def eLst (a : AM) : EM := fun env => bnd (a env) mkLst
@[simp] def eCall (F : List W → M W) (a : AM) : EM := fun env => bnd (a env) F
/-- truth of a worth -/
@[simp] def truth (w : W) : M Bool := fun st => match w with
  | .non => some (false, st)
  | .bl b => some (b, st)
  | .int i => some (i != 0, st)
  | .tup xs => some (!xs.isEmpty, st)
  | .fl xs => some (!xs.isEmpty, st)
  | .ref i => match st[i]? with
    | some (.lst xs) => some (!xs.isEmpty, st)
    | some (.dct xs) => some (!xs.isEmpty, st)
    | _ => none
  | _ => none
@[simp] def isBl (w : W) : M Bool := fun st => match w with
  | .bl b => some (b, st)
  | _ => none
@[simp] def tVal (a : EM) : TM := fun env => bnd (a env) truth
@[simp] def tBl (a : EM) : TM := fun env => bnd (a env) isBl
@[simp] def tAndM (a b : TM) : TM := fun env => bnd (a env) fun c => if c = true then b env else ret false
@[simp] def tOrM (a b : TM) : TM := fun env => bnd (a env) fun c => if c = true then ret true else b env
@[simp] def tNotM (a : TM) : TM := fun env => bnd (a env) fun c => ret (!c)
@[simp] def eAnd (a b : EM) : EM := fun env => bnd (bnd (a env) isBl) fun c => if c = true then b env else ret (.bl false)
@[simp] def eOr (a b : EM) : EM := fun env => bnd (bnd (a env) isBl) fun c => if c = true then ret (.bl true) else b env
@[simp] def eNot (a : EM) : EM := fun env => bnd (bnd (a env) isBl) fun c => ret (.bl (!c))
@[simp] def eIf (c : TM) (a b : EM) : EM := fun env => bnd (c env) fun k => if k = true then a env else b env

section
variable {X : Cx}
/-! ### names and constants -/
theorem se_var (i : Nat) {x : Str} {pos : Pos} (hN : X.N[i]? = some x := by rfl) (hv : Vis X.env.scope x := by first | exact Or.inl rfl | exact Or.inr (Or.inl rfl) | exact Or.inr (Or.inr rfl)) (hd : (x == ("__debug__" : Str)) = false := by decide)
    (hcd : (x == ("__classdict__" : Str)) = false := by decide) : SE X (.Name x pos) (eVar i) := by
  refine ⟨PEimp (pe_var (i := i) hN hv hd hcd) ?_⟩
  rintro σ H Q ⟨β, st, env, w, st', hE, hS, hm, k⟩
  unfold eVar at hm
  split at hm
  · rename_i w' e
    cases hm
    obtain ⟨v, e2, r⟩ := hE.at' i w e
    exact ⟨v, e2, k v H β .refl hS r⟩
  · cases hm
theorem c_of {e : Expr} {w : W} {v : V} (h : PE X e (tC v)) (r : ∀ β H, RW X.K β H w v) : SE X e (eC w) := by
  refine ⟨PEimp h ?_⟩
  rintro σ H Q ⟨β, st, env, w', st', hE, hS, hm, k⟩
  cases hm
  exact k v H β .refl hS (r β H)
theorem se_int {i j pos} : SE X (.Constant (.int i) j pos) (eC (.int i)) := c_of pe_int fun _ _ => .int i
theorem se_bl {b j pos} : SE X (.Constant (.bool b) j pos) (eC (.bl b)) := c_of pe_bl fun _ _ => .bl b
theorem se_non {j pos} : SE X (.Constant .none j pos) (eC .non) := c_of pe_non fun _ _ => .non
theorem se_str {x j pos} : SE X (.Constant (.str x) j pos) (eC (.str x)) := c_of pe_str fun _ _ => .str x
/-- a built-in type as a value -/
theorem se_ty {x : Str} {T : String} {pos : Pos} (hg : Gl X x) (hm : X.mg x = none) (hv : bootBuiltins x = some (.type T) := by decide +kernel) (hn : x ≠ "__name__" := by decide) (hd : (x == ("__debug__" : Str)) = false := by decide) : SE X (.Name x pos) (eC (.ext (.ty T))) :=
  c_of (pe_bltn (v := .ty T) hg hm hv rfl hn hd) fun _ _ => .ext _

/-! ### arguments, tuples, lists -/
theorem sa_nil : SA X [] aNil := by
  refine ⟨PAimp pa_nil ?_, fun env st r h => by cases h; rfl⟩
  rintro σ H Q ⟨β, st, env, w, st', hE, hS, hm, k⟩
  cases hm
  exact k [] H β .refl hS .nil
theorem sa_cons {e : Expr} {es : List Expr} {m : EM} {r : AM} (ha : SE X e m) (hr : SA X es r) (hs : starEach (e :: es) X.env = (false, eval e X.env) :: starEach es X.env := by rfl) : SA X (e :: es) (aCons m r) := by
  refine ⟨PAimp (pa_cons ha.pe hr.pa hs) ?_, fun env st r h => ?_⟩
  rotate_left
  · obtain ⟨x, st1, h1, h2⟩ := bnd_some h
    obtain ⟨xs, st2, h3, h4⟩ := bnd_some h2
    cases h4
    have := hr.len _ _ _ h3
    simp at this ⊢
    exact this
  rintro σ H Q ⟨β, st, env, w, st', hE, hS, hm, k⟩
  obtain ⟨x, st1, h1, h2⟩ := bnd_some hm
  obtain ⟨xs, st2, h3, h4⟩ := bnd_some h2
  cases h4
  exact ⟨β, st, env, x, st1, hE, hS, h1, fun v H1 β1 e1 s1 r1 => ⟨β1, st1, env, xs, _, hE.ext e1, s1, h3, fun vs H2 β2 e2 s2 r2 => k _ _ _ (e1.trans e2) s2 (.cons (r1.ext' e2) r2)⟩⟩
theorem se_tup {es : List Expr} {x1 pos} {m : AM} (h : SA X es m) : SE X (.Tuple es x1 pos) (eTup m) := by
  refine ⟨PEimp (pe_tup h.pa) ?_⟩
  rintro σ H Q ⟨β, st, env, w, st', hE, hS, hm, k⟩
  obtain ⟨xs, st1, h1, h2⟩ := bnd_some hm
  unfold mkTup at h2
  split at h2
  · rename_i hz
    cases h2
    refine ⟨β, st, env, xs, st', hE, hS, h1, fun vs H1 β1 e1 s1 r1 => ?_⟩
    have hl := r1.length
    refine ⟨by rw [← hl]; exact Nat.le_of_lt (sml_line hz), fun p hp => ?_⟩
    exact k _ _ β1 (e1.trans (Ext.new hp)) (s1.new hp) (.tup (.inl upd_same) (r1.ext (Ext.new hp)))
  · cases h2
theorem ref_mkLst {σ : L2.St} {β : List Addr} {H : Hp} {st st' : Sto} {w : W} {xs : List W} {vs : List V} (hm : mkLst xs st = some (w, st')) (hS : RS X.K β H st) (r1 : RWs X.K β H xs vs) {Q : VK}
    (k : ∀ v H' β', Ext β H β' H' → RS X.K β' H' st' → RW X.K β' H' w v → Q v H') : vs.length ≤ sizeLine ∧ ∀ p, H p = none → Q (.ref p) (upd H p (.lst vs)) := by
  unfold mkLst at hm
  split at hm
  · rename_i hz
    cases hm
    have hl := r1.length
    refine ⟨by rw [← hl]; exact Nat.le_of_lt (sml_line hz), fun p hp => ?_⟩
    have e : Ext β H (β ++ [p]) (upd H p (.lst vs)) := Ext.alloc hp
    exact k _ _ _ e (hS.alloc hp ⟨vs, upd_same, r1.ext e⟩) (.ref (alloc_ix hS))
  · cases hm
theorem se_lst {es : List Expr} {pos} {m : AM} (h : SA X es m) : SE X (.List es pos) (eLst m) := by
  refine ⟨PEimp (pe_lst h.pa) ?_⟩
  rintro σ H Q ⟨β, st, env, w, st', hE, hS, hm, k⟩
  obtain ⟨xs, st1, h1, h2⟩ := bnd_some hm
  exact ⟨β, st, env, xs, st1, hE, hS, h1, fun vs H1 β1 e1 s1 r1 => ref_mkLst (σ := σ) h2 s1 r1 fun v H2 β2 e2 s2 r2 => k v H2 β2 (e1.trans e2) s2 r2⟩

/-! ### operators by values -/
/-- f is what the rule r asks, for worths -/
def Ref2 (K : PySem.W.Frag) (f : W → W → M W) (r : R2) : Prop := ∀ (β : List Addr) (H : Hp) (st st' : Sto) (x y w : W) (vx vy : V) (Q : VK), RS K β H st → RW K β H x vx → RW K β H y vy → f x y st = some (w, st') →
  (∀ v H' β', Ext β H β' H' → RS K β' H' st' → RW K β' H' w v → Q v H') → r vx vy H Q
def Ref1 (K : PySem.W.Frag) (f : W → M W) (r : V → Hp → VK → Prop) : Prop := ∀ (β : List Addr) (H : Hp) (st st' : Sto) (x w : W) (vx : V) (Q : VK), RS K β H st → RW K β H x vx → f x st = some (w, st') →
  (∀ v H' β', Ext β H β' H' → RS K β' H' st' → RW K β' H' w v → Q v H') → r vx H Q
def RefN (K : PySem.W.Frag) (f : List W → M W) (r : List V → Hp → VK → Prop) : Prop := ∀ (β : List Addr) (H : Hp) (st st' : Sto) (xs : List W) (w : W) (vs : List V) (Q : VK), RS K β H st → RWs K β H xs vs → f xs st = some (w, st') →
  (∀ v H' β', Ext β H β' H' → RS K β' H' st' → RW K β' H' w v → Q v H') → r vs H Q
theorem tM_op {f : W → W → M W} {r : R2} (hf : Ref2 X.K f r) {a b : EM} {σ : L2.St} {H : Hp} {Q : VK} (h : tM X.K (eOp f a b) σ H Q) : tOp r (tM X.K a) (tM X.K b) σ H Q := by
  obtain ⟨β, st, env, w, st', hE, hS, hm, k⟩ := h
  obtain ⟨x, st1, h1, h2⟩ := bnd_some hm
  obtain ⟨y, st2, h3, h4⟩ := bnd_some h2
  exact ⟨β, st, env, x, st1, hE, hS, h1, fun v H1 β1 e1 s1 r1 => ⟨β1, st1, env, y, st2, hE.ext e1, s1, h3, fun u H2 β2 e2 s2 r2 =>
    hf β2 H2 st2 st' x y w v u Q s2 (r1.ext' e2) r2 h4 fun z H3 β3 e3 s3 r3 => k z H3 β3 ((e1.trans e2).trans e3) s3 r3⟩⟩
theorem se_op {a b : Expr} {op : Operator} {pos : Pos} {ma mb : EM} {f : W → W → M W} {r : R2} (ho : OpR X (binaryOp op) r) (hf : Ref2 X.K f r) (ha : SE X a ma) (hb : SE X b mb) : SE X (.BinOp a op b pos) (eOp f ma mb) :=
  ⟨PEimp (pe_op ho ha.pe hb.pe) fun _ _ _ h => tM_op hf h⟩
theorem se_cmp {a b : Expr} {op : CmpOp} {pos : Pos} {ma mb : EM} {f : W → W → M W} {r : R2} (ho : OpR X (compareOp op) r) (hf : Ref2 X.K f r) (ha : SE X a ma) (hb : SE X b mb) (hm : behindInMarks op b = false := by first | exact nomark _ | rfl) : SE X (.Compare a [op] [b] pos) (eOp f ma mb) :=
  ⟨PEimp (pe_cmpR ho ha.pe hb.pe hm) fun _ _ _ h => tM_op hf h⟩
theorem tM_bl {f : EM} {σ : L2.St} {H : Hp} {Q : Bool → Hp → Prop} (h : tMT X.K (tBl f) σ H Q) : tM X.K f σ H (fun v H' => ∃ k, v = .bl k ∧ Q k H') := by
  obtain ⟨β, st, env, c, st', hE, hS, hm, k⟩ := h
  obtain ⟨x, st1, h1, h2⟩ := bnd_some hm
  unfold isBl at h2
  split at h2
  · cases h2
    exact ⟨β, st, env, _, _, hE, hS, h1, fun v H1 β1 e1 s1 r1 => ⟨_, r1.bl_inv, k H1 β1 e1 s1⟩⟩
  · cases h2
theorem st_cmp {a b : Expr} {op : CmpOp} {pos : Pos} {ma mb : EM} {f : W → W → M W} {r : R2} (ho : OpR X (compareOp op) r) (hf : Ref2 X.K f r) (ha : SE X a ma) (hb : SE X b mb) (hm : behindInMarks op b = false := by first | exact nomark _ | rfl) : ST X (.Compare a [op] [b] pos) (tBl (eOp f ma mb)) :=
  ⟨PTimp (pt_cmpR ho ha.pe hb.pe hm) fun _ _ _ h => tM_op hf (tM_bl h)⟩
/-- low <= x <= high -/
@[simp] def eChain (f g : W → W → M W) (a b c : EM) : EM := fun env => bnd (a env) fun x => bnd (b env) fun y => bnd (bnd (f x y) isBl) fun k => if k = true then bnd (c env) fun z => g y z else ret (.bl false)
theorem tM_chain {f g : W → W → M W} {r r' : R2} (hf : Ref2 X.K f r) (hg : Ref2 X.K g r') {a b c : EM} {σ : L2.St} {H : Hp} {Q : VK} (h : tM X.K (eChain f g a b c) σ H Q) : tChain r r' (tM X.K a) (tM X.K b) (tM X.K c) σ H Q := by
  obtain ⟨β, st, env, w, st', hE, hS, hm, k⟩ := h
  obtain ⟨x, st1, h1, h2⟩ := bnd_some hm
  obtain ⟨y, st2, h3, h4⟩ := bnd_some h2
  obtain ⟨b', st3, h5, h6⟩ := bnd_some h4
  obtain ⟨z, st4, h7, h8⟩ := bnd_some h5
  unfold isBl at h8
  split at h8
  · cases h8
    refine ⟨β, st, env, x, st1, hE, hS, h1, fun v H1 β1 e1 s1 r1 => ⟨β1, st1, env, y, st2, hE.ext e1, s1, h3, fun u H2 β2 e2 s2 r2 => ?_⟩⟩
    refine hf β2 H2 st2 _ x y _ v u _ s2 (r1.ext' e2) r2 h7 fun z H3 β3 e3 s3 r3 => ⟨_, r3.bl_inv, ?_⟩
    cases b' with
    | true =>
      obtain ⟨t, st5, h9, h10⟩ := bnd_some h6
      refine ⟨β3, _, env, t, st5, hE.ext ((e1.trans e2).trans e3), s3, h9, fun q H4 β4 e4 s4 r4 => ?_⟩
      exact hg β4 H4 st5 st' y t w u q Q s4 (r2.ext' (e3.trans e4)) r4 h10 fun q2 H5 β5 e5 s5 r5 => k q2 H5 β5 ((((e1.trans e2).trans e3).trans e4).trans e5) s5 r5
    | false =>
      cases h6
      exact k _ H3 β3 ((e1.trans e2).trans e3) s3 (.bl false)
  · cases h8
theorem se_chain {a b c : Expr} {op op' : CmpOp} {pos : Pos} {ma mb mc : EM} {f g : W → W → M W} {r r' : R2} (ho : OpR X (compareOp op) r) (ho' : OpR X (compareOp op') r') (hf : Ref2 X.K f r) (hg : Ref2 X.K g r') (ha : SE X a ma) (hb : SE X b mb) (hc : SE X c mc) (hm : lastMarks [op, op'] [b, c] = false := by with_unfolding_all rfl) :
    SE X (.Compare a [op, op'] [b, c] pos) (eChain f g ma mb mc) := ⟨PEimp (pe_chain ho ho' ha.pe hb.pe hc.pe hm) fun _ _ _ h => tM_chain hf hg h⟩
theorem st_chain {a b c : Expr} {op op' : CmpOp} {pos : Pos} {ma mb mc : EM} {f g : W → W → M W} {r r' : R2} (ho : OpR X (compareOp op) r) (ho' : OpR X (compareOp op') r') (hf : Ref2 X.K f r) (hg : Ref2 X.K g r') (ha : SE X a ma) (hb : SE X b mb) (hc : SE X c mc) (hm : lastMarks [op, op'] [b, c] = false := by with_unfolding_all rfl) :
    ST X (.Compare a [op, op'] [b, c] pos) (tBl (eChain f g ma mb mc)) := ⟨PTimp (pt_chain ho ho' ha.pe hb.pe hc.pe hm) fun _ _ _ h => tM_chain hf hg (tM_bl h)⟩
theorem se_un {a : Expr} {op : UnaryOp} {pos : Pos} {ma : EM} {f : W → M W} {r : V → Hp → VK → Prop} (ho : UnR X (unaryOp op) r) (hf : Ref1 X.K f r) (ha : SE X a ma) : SE X (.UnaryOp op a pos) (eUn f ma) := by
  refine ⟨PEimp (pe_un ho ha.pe) ?_⟩
  rintro σ H Q ⟨β, st, env, w, st', hE, hS, hm, k⟩
  obtain ⟨x, st1, h1, h2⟩ := bnd_some hm
  exact ⟨β, st, env, x, st1, hE, hS, h1, fun v H1 β1 e1 s1 r1 => hf β1 H1 st1 st' x w v Q s1 r1 h2 fun z H3 β3 e3 s3 r3 => k z H3 β3 (e1.trans e3) s3 r3⟩

/-! ### calls of what is built in -/
theorem tM_CB {f : List W → M W} {r : List V → Hp → VK → Prop} (hf : RefN X.K f r) {a : AM} {σ : L2.St} {H : Hp} {Q : VK} (h : tM X.K (eCall f a) σ H Q) : tCB r (tMA X.K a) σ H Q := by
  obtain ⟨β, st, env, w, st', hE, hS, hm, k⟩ := h
  obtain ⟨xs, st1, h1, h2⟩ := bnd_some hm
  exact ⟨β, st, env, xs, st1, hE, hS, h1, fun vs H1 β1 e1 s1 r1 => hf β1 H1 st1 st' xs w vs Q s1 r1 h2 fun z H3 β3 e3 s3 r3 => k z H3 β3 (e1.trans e3) s3 r3⟩
theorem se_callB {id : String} {x : Str} {p pos : Pos} {e : Expr} {es : List Expr} {f : List W → M W} {r : List V → Hp → VK → Prop} {a : AM} (hc : CallR X (.builtin id) r) (hf : RefN X.K f r) (hg : Gl X x) (hm : X.mg x = none) (ha : SA X (e :: es) a)
    (hv : bootBuiltins x = some (.builtin id) := by decide +kernel) (hn : x ≠ "__name__" := by decide) (hdb : (x == ("__debug__" : Str)) = false := by decide)
    (he : starEach (e :: es) X.env = (false, eval e X.env) :: starEach es X.env := by rfl) (hpl : (backTo pos (starEach es X.env)).any (·.1) = false := by rfl) : SE X (.Call (.Name x p) (e :: es) [] pos) (eCall f a) :=
  ⟨PEimp (pe_callB hc hg hm hv ha.pa hn hdb he hpl) fun _ _ _ h => tM_CB hf h⟩
theorem se_callTy {T : String} {x : Str} {p pos : Pos} {e : Expr} {es : List Expr} {f : List W → M W} {r : List V → Hp → VK → Prop} {a : AM} (hc : CallR X (.type T) r) (hf : RefN X.K f r) (hg : Gl X x) (hm : X.mg x = none) (ha : SA X (e :: es) a)
    (hv : bootBuiltins x = some (.type T) := by decide +kernel) (hn : x ≠ "__name__" := by decide) (hdb : (x == ("__debug__" : Str)) = false := by decide)
    (he : starEach (e :: es) X.env = (false, eval e X.env) :: starEach es X.env := by rfl) (hpl : (backTo pos (starEach es X.env)).any (·.1) = false := by rfl) : SE X (.Call (.Name x p) (e :: es) [] pos) (eCall f a) :=
  ⟨PEimp (pe_callTy hc hg hm hv ha.pa hn hdb he hpl) fun _ _ _ h => tM_CB hf h⟩

/-! ### tests -/
theorem truth_ok {β : List Addr} {H : Hp} {st st' : Sto} {w : W} {v : V} {b : Bool} (s : RS X.K β H st) (r : RW X.K β H w v) (h : truth w st = some (b, st')) : st' = st ∧ TruV X.K v H b := by
  unfold truth at h
  cases r with
  | non => cases h; exact ⟨rfl, rfl⟩
  | bl c => cases h; exact ⟨rfl, rfl⟩
  | int i => cases h; exact ⟨rfl, rfl⟩
  | str x => cases h
  | exc0 _ _ => cases h
  | exc1 _ _ _ _ => cases h
  | ext v => cases h
  | fnc _ => cases h
  | tup hq r =>
    cases h
    refine ⟨rfl, .inr (.inl ⟨_, hq.sq, ?_⟩)⟩
    have := r.length
    cases r <;> rfl
  | fl hq r =>
    cases h
    refine ⟨rfl, .inl ⟨_, hq.sq, ?_⟩⟩
    cases r <;> rfl
  | @ref i a hb =>
    dsimp only at h
    split at h
    · rename_i xs e
      cases h
      obtain ⟨a', ha, vs, e1, r⟩ := s.ob i _ e
      rw [hb] at ha; cases ha
      exact ⟨rfl, .inl ⟨_, SqL.of e1, by cases r <;> rfl⟩⟩
    · rename_i xs e
      cases h
      obtain ⟨a', ha, vs, e1, r⟩ := s.ob i _ e
      rw [hb] at ha; cases ha
      exact ⟨rfl, .inr (.inr ⟨_, e1, by cases r <;> rfl⟩)⟩
    · cases h
theorem st_val {e : Expr} {m : EM} (h : SE X e m) (he : ∀ whole, isTrue e X.env whole = (do let v ← whole; standAt e.pos; holding [v] (truthy v)) := by intro _; rfl) : ST X e (tVal m) := by
  refine ⟨PTimp (pt_truth h.pe he) ?_⟩
  rintro σ H Q ⟨β, st, env, c, st', hE, hS, hm, k⟩
  obtain ⟨x, st1, h1, h2⟩ := bnd_some hm
  refine ⟨β, st, env, x, st1, hE, hS, h1, fun v H1 β1 e1 s1 r1 => ?_⟩
  obtain ⟨rfl, t⟩ := truth_ok s1 r1 h2
  exact ⟨c, t, k H1 β1 e1 s1⟩
structure SWt (X : Cx) (e : Expr) (m : TM) : Prop where
  pw : PW X e (tMT X.K m)
theorem PWimp {e : Expr} {t t' : TT} (h : PW X e t) (i : ∀ σ H Q, t' σ H Q → t σ H Q) : PW X e t' := ⟨fun wh pins s σ H Q I hq => h.run wh pins s σ H Q I (i σ H Q hq)⟩
theorem sw_and1 {a : Expr} {pos : Pos} {m : TM} (ha : ST X a m) : SWt X (.BoolOp .And [a] pos) m := ⟨pw_and1 ha.pt⟩
theorem sw_or1 {a : Expr} {pos : Pos} {m : TM} (ha : ST X a m) : SWt X (.BoolOp .Or [a] pos) m := ⟨pw_or1 ha.pt⟩
theorem sw_and {a b : Expr} {rest : List Expr} {pos : Pos} {m n : TM} (ha : ST X a m) (hb : SWt X (.BoolOp .And (b :: rest) pos) n) : SWt X (.BoolOp .And (a :: b :: rest) pos) (tAndM m n) := by
  refine ⟨PWimp (pw_and ha.pt hb.pw) ?_⟩
  rintro σ H Q ⟨β, st, env, c, st', hE, hS, hm, k⟩
  obtain ⟨x, st1, h1, h2⟩ := bnd_some hm
  refine ⟨β, st, env, x, st1, hE, hS, h1, fun H1 β1 e1 s1 => ?_⟩
  cases x with
  | true => exact ⟨β1, st1, env, c, st', hE.ext e1, s1, h2, fun H2 β2 e2 s2 => k H2 β2 (e1.trans e2) s2⟩
  | false => cases h2; exact k H1 β1 e1 s1
theorem sw_or {a b : Expr} {rest : List Expr} {pos : Pos} {m n : TM} (ha : ST X a m) (hb : SWt X (.BoolOp .Or (b :: rest) pos) n) : SWt X (.BoolOp .Or (a :: b :: rest) pos) (tOrM m n) := by
  refine ⟨PWimp (pw_or ha.pt hb.pw) ?_⟩
  rintro σ H Q ⟨β, st, env, c, st', hE, hS, hm, k⟩
  obtain ⟨x, st1, h1, h2⟩ := bnd_some hm
  refine ⟨β, st, env, x, st1, hE, hS, h1, fun H1 β1 e1 s1 => ?_⟩
  cases x with
  | false => exact ⟨β1, st1, env, c, st', hE.ext e1, s1, h2, fun H2 β2 e2 s2 => k H2 β2 (e1.trans e2) s2⟩
  | true => cases h2; exact k H1 β1 e1 s1
theorem st_w {e : Expr} {m : TM} (h : SWt X e m) : ST X e m := ⟨h.pw.pt⟩
theorem st_not {a : Expr} {pos : Pos} {m : TM} (ha : ST X a m) : ST X (.UnaryOp .Not a pos) (tNotM m) := by
  refine ⟨PTimp (pt_not ha.pt) ?_⟩
  rintro σ H Q ⟨β, st, env, c, st', hE, hS, hm, k⟩
  obtain ⟨x, st1, h1, h2⟩ := bnd_some hm
  cases h2
  exact ⟨β, st, env, x, _, hE, hS, h1, fun H1 β1 e1 s1 => k H1 β1 e1 s1⟩
/-! .. as worths -/
theorem isBl_bnd {m : M W} {st : Sto} {r : Bool × Sto} (h : bnd m isBl st = some r) : m st = some (.bl r.1, r.2) := by
  obtain ⟨x, st1, h1, h2⟩ := bnd_some h
  unfold isBl at h2
  split at h2
  · cases h2; exact h1
  · cases h2
theorem se_one {a : Expr} {op} {pos : Pos} {m : EM} (ha : SE X a m) : SE X (.BoolOp op [a] pos) m := ⟨pe_one ha.pe⟩
theorem se_and {a b : Expr} {rest : List Expr} {pos : Pos} {m n : EM} (ha : SE X a m) (hb : SE X (.BoolOp .And (b :: rest) pos) n) : SE X (.BoolOp .And (a :: b :: rest) pos) (eAnd m n) := by
  refine ⟨PEimp (pe_and ha.pe hb.pe) ?_⟩
  rintro σ H Q ⟨β, st, env, w, st', hE, hS, hm, k⟩
  obtain ⟨c, st1, h1, h2⟩ := bnd_some hm
  have h1 := isBl_bnd h1
  refine ⟨β, st, env, _, st1, hE, hS, h1, fun v H1 β1 e1 s1 r1 => ⟨c, r1.bl_inv, ?_⟩⟩
  cases c with
  | true => exact ⟨β1, st1, env, w, st', hE.ext e1, s1, h2, fun v H2 β2 e2 s2 r2 => k v H2 β2 (e1.trans e2) s2 r2⟩
  | false => cases h2; exact k _ H1 β1 e1 s1 (.bl false)
theorem se_or {a b : Expr} {rest : List Expr} {pos : Pos} {m n : EM} (ha : SE X a m) (hb : SE X (.BoolOp .Or (b :: rest) pos) n) : SE X (.BoolOp .Or (a :: b :: rest) pos) (eOr m n) := by
  refine ⟨PEimp (pe_or ha.pe hb.pe) ?_⟩
  rintro σ H Q ⟨β, st, env, w, st', hE, hS, hm, k⟩
  obtain ⟨c, st1, h1, h2⟩ := bnd_some hm
  have h1 := isBl_bnd h1
  refine ⟨β, st, env, _, st1, hE, hS, h1, fun v H1 β1 e1 s1 r1 => ⟨c, r1.bl_inv, ?_⟩⟩
  cases c with
  | false => exact ⟨β1, st1, env, w, st', hE.ext e1, s1, h2, fun v H2 β2 e2 s2 r2 => k v H2 β2 (e1.trans e2) s2 r2⟩
  | true => cases h2; exact k _ H1 β1 e1 s1 (.bl true)
theorem se_not {a : Expr} {pos : Pos} {m : EM} (ha : SE X a m) : SE X (.UnaryOp .Not a pos) (eNot m) := by
  refine ⟨PEimp (pe_not ha.pe) ?_⟩
  rintro σ H Q ⟨β, st, env, w, st', hE, hS, hm, k⟩
  obtain ⟨c, st1, h1, h2⟩ := bnd_some hm
  have h1 := isBl_bnd h1
  cases h2
  exact ⟨β, st, env, _, _, hE, hS, h1, fun v H1 β1 e1 s1 r1 => ⟨c, r1.bl_inv, k _ H1 β1 e1 s1 (.bl (!c))⟩⟩
theorem se_if {c a b : Expr} {pos : Pos} {t : TM} {m n : EM} (hc : ST X c t) (ha : SE X a m) (hb : SE X b n) : SE X (.IfExp c a b pos) (eIf t m n) := by
  refine ⟨PEimp (pe_ifExp hc.pt ha.pe hb.pe) ?_⟩
  rintro σ H Q ⟨β, st, env, w, st', hE, hS, hm, k⟩
  obtain ⟨c, st1, h1, h2⟩ := bnd_some hm
  refine ⟨β, st, env, c, st1, hE, hS, h1, fun H1 β1 e1 s1 => ?_⟩
  cases c with
  | true => exact ⟨β1, st1, env, w, st', hE.ext e1, s1, h2, fun v H2 β2 e2 s2 r2 => k v H2 β2 (e1.trans e2) s2 r2⟩
  | false => exact ⟨β1, st1, env, w, st', hE.ext e1, s1, h2, fun v H2 β2 e2 s2 r2 => k v H2 β2 (e1.trans e2) s2 r2⟩
end
end B

set_option Elab.async false
set_option linter.all false
set_option maxRecDepth 100000
namespace B
open PySem PySem.Spec L2
set_option autoImplicit false

/-! ### targets -/
inductive Pat where
  | nm (i : Nat)
  | tp (ps : List Pat)
mutual
@[simp] def Pat.asg : Pat → W → En → M En
  | .nm i, w, env => ret (env.set i (some w))
  | .tp ps, w, env => match w with
    | .tup xs => Pat.asgs ps xs env
    | .fl xs => Pat.asgs ps xs env
    | .ref i => fun st => match st[i]? with
      | some (.lst xs) => Pat.asgs ps xs env st
      | _ => none
    | _ => fail
@[simp] def Pat.asgs : List Pat → List W → En → M En
  | [], [], env => ret env
  | p :: ps, x :: xs, env => bnd (Pat.asg p x env) fun env1 => Pat.asgs ps xs env1
  | _, _, _ => fail
end
mutual
def Pat.slots : Pat → List Nat
  | .nm i => [i]
  | .tp ps => Pat.slotss ps
def Pat.slotss : List Pat → List Nat
  | [] => []
  | p :: ps => p.slots ++ Pat.slotss ps
end
theorem wipe_set_mem {σ : L2.St} {i : Nat} {v : Option V} : ∀ {vs : List Nat}, i ∈ vs → wipe (σ.set i v) vs = wipe σ vs
  | [], h => by simp at h
  | a :: vs, h => by
    show (wipe (σ.set i v) vs).set a none = (wipe σ vs).set a none
    by_cases e : i ∈ vs
    · rw [wipe_set_mem e]
    · have ea : i = a := by simpa [e] using h
      subst ea
      have key : ∀ (vs : List Nat), i ∉ vs → wipe (σ.set i v) vs = (wipe σ vs).set i v := by
        intro vs
        induction vs with
        | nil => intro _; rfl
        | cons b bs ih =>
          intro hb
          simp only [List.mem_cons, not_or] at hb
          show (wipe (σ.set i v) bs).set b none = ((wipe σ bs).set b none).set i v
          rw [ih hb.2, List.set_comm _ _ hb.1]
      rw [key vs e, List.set_set]
def tMG (K : PySem.W.Frag) (p : Pat) : TG := fun v σ H Q => ∃ β st env w env' st', RE K β H env σ ∧ RS K β H st ∧ RW K β H w v ∧ p.asg w env st = some (env', st') ∧
  ∀ σ' H' β', Ext β H β' H' → RS K β' H' st' → RE K β' H' env' σ' → (∀ vs : List Nat, (∀ i ∈ p.slots, i ∈ vs) → wipe σ' vs = wipe σ vs) → Q σ' H'
def tMGs (K : PySem.W.Frag) (ps : List Pat) : TGs := fun vs σ H Q => ∃ β st env ws env' st', RE K β H env σ ∧ RS K β H st ∧ RWs K β H ws vs ∧ Pat.asgs ps ws env st = some (env', st') ∧
  ∀ σ' H' β', Ext β H β' H' → RS K β' H' st' → RE K β' H' env' σ' → (∀ us : List Nat, (∀ i ∈ Pat.slotss ps, i ∈ us) → wipe σ' us = wipe σ us) → Q σ' H'
structure SG (X : Cx) (e : Expr) (p : Pat) : Prop where
  pg : PG X e (tMG X.K p)
structure SGs (X : Cx) (es : List Expr) (ps : List Pat) : Prop where
  pgs : PGs X es (tMGs X.K ps)
  len : es.length = ps.length
section
variable {X : Cx}
theorem PGimp {e : Expr} {t t' : TG} (h : PG X e t) (i : ∀ v σ H Q, t' v σ H Q → t v σ H Q) : PG X e t' := ⟨fun pins s σ H v u Q I r hq => h.run pins s σ H v u Q I r (i v σ H Q hq)⟩
theorem PGsimp {e : List Expr} {t t' : TGs} (h : PGs X e t) (i : ∀ v σ H Q, t' v σ H Q → t v σ H Q) : PGs X e t' := ⟨fun pins s σ H v u Q I r hq => h.run pins s σ H v u Q I r (i v σ H Q hq)⟩
theorem sg_nm (i : Nat) {x : Str} {pos : Pos} (hN : X.N.Nodup) (hi : X.N[i]? = some x := by rfl) (hx : Loc X.env.scope x := by first | exact Or.inl rfl | exact Or.inr rfl)
    (hf : X.fn x = true ∨ X.env.scope.names.lookup x = some .local := by first | exact .inl rfl | exact .inr rfl) : SG X (.Name x pos) (.nm i) := by
  refine ⟨PGimp (pg_name (i := i) hN hi hx hf) ?_⟩
  rintro v σ H Q ⟨β, st, env, w, env', st', hE, hS, rw', hm, k⟩
  simp only [Pat.asg] at hm
  cases hm
  exact k _ H β .refl hS (hE.set rw' i) fun vs hv => wipe_set_mem (hv i (by simp [Pat.slots]))
theorem sgs_nil : SGs X [] [] := by
  refine ⟨PGsimp pgs_nil ?_, rfl⟩
  rintro v σ H Q ⟨β, st, env, ws, env', st', hE, hS, rw', hm, k⟩
  cases rw' with
  | nil =>
    simp only [Pat.asgs] at hm
    cases hm
    exact ⟨rfl, k σ H β .refl hS hE fun _ _ => rfl⟩
  | cons r t => simp only [Pat.asgs] at hm; cases hm
theorem sgs_cons {e : Expr} {es : List Expr} {p : Pat} {ps : List Pat} (h1 : SG X e p) (h2 : SGs X es ps) (hs : (assignEach (e :: es) X.env).map (·.2) = assign e X.env :: (assignEach es X.env).map (·.2) := by rfl) : SGs X (e :: es) (p :: ps) := by
  refine ⟨PGsimp (pgs_cons h1.pg h2.pgs hs) ?_, by simp [h2.len]⟩
  rintro v σ H Q ⟨β, st, env, ws, env', st', hE, hS, rw', hm, k⟩
  cases rw' with
  | nil => simp only [Pat.asgs] at hm; cases hm
  | cons r t =>
    simp only [Pat.asgs] at hm
    obtain ⟨env1, st1, h3, h4⟩ := bnd_some hm
    refine ⟨_, _, rfl, β, st, env, _, env1, st1, hE, hS, r, h3, fun σ1 H1 β1 e1 s1 E1 w1 => ?_⟩
    refine ⟨β1, st1, env1, _, env', st', E1, s1, t.ext e1, h4, fun σ2 H2 β2 e2 s2 E2 w2 => k σ2 H2 β2 (e1.trans e2) s2 E2 fun us hu => ?_⟩
    rw [w2 us fun i hi => hu i (by simp [Pat.slotss, hi]), w1 us fun i hi => hu i (by simp [Pat.slotss, hi])]
theorem asgs_len : ∀ (ps : List Pat) (xs : List W) (env : En) (st : Sto) (r : En × Sto), Pat.asgs ps xs env st = some r → xs.length = ps.length := by
  intro ps
  induction ps with
  | nil => intro xs env st r h; cases xs with | nil => rfl | cons _ _ => simp only [Pat.asgs] at h; cases h
  | cons p ps ih =>
    intro xs env st r h
    cases xs with
    | nil => simp only [Pat.asgs] at h; cases h
    | cons x xs =>
      simp only [Pat.asgs] at h
      obtain ⟨env1, st1, h1, h2⟩ := bnd_some h
      simp [ih xs env1 st1 r h2]
theorem PGor {e : Expr} {t t' : TG} (h : PG X e t) (h' : PG X e t') : PG X e (fun v σ H Q => t v σ H Q ∨ t' v σ H Q) := ⟨fun pins s σ H v u Q I r hq => hq.elim (h.run pins s σ H v u Q I r) (h'.run pins s σ H v u Q I r)⟩
theorem sg_tp {es : List Expr} {k : Nat} {pos : Pos} {ps : List Pat} (hc : X.calm = true) (h : SGs X es ps) (hn : (assignEach es X.env).length = ps.length := by rfl) (hst : (assignEach es X.env).findIdx? (·.1) = none := by rfl) : SG X (.Tuple es k pos) (.tp ps) := by
  refine ⟨PGimp (PGor (pg_tup hc h.pgs hn hst) (pg_unl hc h.pgs hn hst)) ?_⟩
  rintro v σ H Q ⟨β, st, env, w, env', st', hE, hS, rw', hm, k⟩
  simp only [Pat.asg] at hm
  cases rw' with
  | @tup a xs vs hq r =>
    exact .inl ⟨a, vs, rfl, hq.sq, by rw [← r.length]; exact asgs_len _ _ _ _ _ hm, β, st, env, xs, env', st', hE, hS, r, hm, fun σ1 H1 β1 e1 s1 E1 w1 => k σ1 H1 β1 e1 s1 E1 fun us hu => w1 us fun i hi => hu i (by simpa [Pat.slots] using hi)⟩
  | @fl a xs vs hq r =>
    exact .inr ⟨a, vs, rfl, hq.sq, by rw [← r.length]; exact asgs_len _ _ _ _ _ hm, β, st, env, xs, env', st', hE, hS, r, hm, fun σ1 H1 β1 e1 s1 E1 w1 => k σ1 H1 β1 e1 s1 E1 fun us hu => w1 us fun i hi => hu i (by simpa [Pat.slots] using hi)⟩
  | @ref i a ha =>
    dsimp only at hm
    split at hm
    · rename_i xs hi
      obtain ⟨b, hb, vs, e, r⟩ := hS.ob i _ hi
      rw [ha] at hb; cases hb
      exact .inr ⟨a, vs, rfl, SqL.of e, by rw [← r.length]; exact asgs_len _ _ _ _ _ hm, β, st, env, xs, env', st', hE, hS, r, hm, fun σ1 H1 β1 e1 s1 E1 w1 => k σ1 H1 β1 e1 s1 E1 fun us hu => w1 us fun i hi => hu i (by simpa [Pat.slots] using hi)⟩
    · cases hm
  | _ => cases hm

/-! ### statements -/
end
@[simp] def sSet (p : Pat) (e : EM) : SM := fun env => bnd (e env) fun w => bnd (p.asg w env) fun env' => ret (.nx, env')
@[simp] def sExpr (e : EM) : SM := fun env => bnd (e env) fun _ => ret (.nx, env)
@[simp] def sRet (e : EM) : SM := fun env => bnd (e env) fun w => ret (.rt w, env)
@[simp] def sRetN : SM := fun env => ret (.rt .non, env)
@[simp] def sPass : SM := fun env => ret (.nx, env)
@[simp] def sBreak : SM := fun env => ret (.bk, env)
@[simp] def sCont : SM := fun env => ret (.ct, env)
@[simp] def sNever : SM := fun _ => fail
@[simp] def sIf (t : TM) (a b : SM) : SM := fun env => bnd (t env) fun c => if c = true then a env else b env
@[simp] def bNil : SM := fun env => ret (.nx, env)
@[simp] def bCons (s b : SM) : SM := fun env => bnd (s env) fun r => match r.1 with
  | .nx => b r.2
  | f => ret (f, r.2)
def sAug (i : Nat) (f : W → W → M W) (e : EM) : SM := fun env st => match env[i]? with
  | some (some x) => (bnd (e env) fun y => bnd (f x y) fun z => ret (.nx, env.set i (some z))) st
  | _ => none
def sWhile (t : TM) (b : SM) : Nat → SM
  | 0 => fun _ => fail
  | n + 1 => fun env => bnd (t env) fun c => if c = true then bnd (b env) fun r => match r.1 with
      | .nx => sWhile t b n r.2
      | .ct => sWhile t b n r.2
      | .bk => ret (.nx, r.2)
      | .rt w => ret (.rt w, r.2)
    else ret (.nx, env)
/-- what a loop walks: at turn j, by the store: none: stuck; some none: it stops -/
abbrev Src := Nat → Sto → Option (Option W)
abbrev IM := En → M Src
def forGo (src : Src) (p : Pat) (b : SM) : Nat → Nat → SM
  | 0, _ => fun _ => fail
  | n + 1, j => fun env => fun st => match src j st with
    | none => none
    | some none => some ((.nx, env), st)
    | some (some w) => (bnd (p.asg w env) fun env1 => bnd (b env1) fun r => match r.1 with
      | .nx => forGo src p b n (j + 1) r.2
      | .ct => forGo src p b n (j + 1) r.2
      | .bk => ret (.nx, r.2)
      | .rt w => ret (.rt w, r.2)) st
def sFor (i : IM) (p : Pat) (b : SM) (n : Nat) : SM := fun env => bnd (i env) fun src => forGo src p b n 0 env

section
variable {X : Cx}
theorem ss_set {tg e : Expr} {p : Pat} {m : EM} {pos : Pos} (he : SE X e m) (hg : SG X tg p) (hs : swapsWithSole [tg] e pos.line X.env = pure false := by rfl) (hw : swappedStores [tg] e X.env = pure none := by rfl)
    (h1 : (assignEach [tg] X.env).map (·.2) = [assign tg X.env] := by rfl) : SS X (.Assign [tg] e pos) (sSet p m) := by
  refine ⟨PSimp (ps_asg he.pe hg.pg hs hw h1) ?_⟩
  rintro D σ H ⟨β, st, env, fl, env', st', hE, hS, hm, k⟩
  obtain ⟨w, st1, h1, h2⟩ := bnd_some hm
  obtain ⟨env1, st2, h3, h4⟩ := bnd_some h2
  cases h4
  exact ⟨β, st, env, w, st1, hE, hS, h1, fun v H1 β1 e1 s1 r1 => ⟨β1, st1, env, w, env', st', hE.ext e1, s1, r1, h3, fun σ2 H2 β2 e2 s2 E2 _ => k σ2 H2 β2 (e1.trans e2) s2 E2⟩⟩
theorem ss_expr {e : Expr} {m : EM} {pos : Pos} (he : SE X e m) (hs : swapsWith e none pos.line X.env = pure false := by rfl) : SS X (.Expr e pos) (sExpr m) := by
  refine ⟨PSimp (ps_expr he.pe hs) ?_⟩
  rintro D σ H ⟨β, st, env, fl, env', st', hE, hS, hm, k⟩
  obtain ⟨w, st1, h1, h2⟩ := bnd_some hm
  cases h2
  exact ⟨β, st, env, w, _, hE, hS, h1, fun v H1 β1 e1 s1 r1 => k σ H1 β1 e1 s1 (hE.ext e1)⟩
theorem ss_ret {e : Expr} {m : EM} {pos : Pos} (he : SE X e m) : SS X (.Return (some e) pos) (sRet m) := by
  refine ⟨PSimp (ps_ret he.pe) ?_⟩
  rintro D σ H ⟨β, st, env, fl, env', st', hE, hS, hm, k⟩
  obtain ⟨w, st1, h1, h2⟩ := bnd_some hm
  cases h2
  exact ⟨β, st, env, w, _, hE, hS, h1, fun v H1 β1 e1 s1 r1 => k σ H1 β1 e1 s1 (hE.ext e1) v r1⟩
theorem ss_retN {pos : Pos} : SS X (.Return none pos) sRetN := by
  refine ⟨PSimp ps_retN ?_⟩
  rintro D σ H ⟨β, st, env, fl, env', st', hE, hS, hm, k⟩
  cases hm
  exact k σ H β .refl hS hE .non .non
theorem ss_pass {pos : Pos} : SS X (.Pass pos) sPass := by
  refine ⟨PSimp ps_pass ?_⟩
  rintro D σ H ⟨β, st, env, fl, env', st', hE, hS, hm, k⟩
  cases hm
  exact k σ H β .refl hS hE
theorem ss_break {pos : Pos} : SS X (.Break pos) sBreak := by
  refine ⟨PSimp ps_break ?_⟩
  rintro D σ H ⟨β, st, env, fl, env', st', hE, hS, hm, k⟩
  cases hm
  exact k σ H β .refl hS hE
theorem ss_cont {pos : Pos} : SS X (.Continue pos) sCont := by
  refine ⟨PSimp ps_continue ?_⟩
  rintro D σ H ⟨β, st, env, fl, env', st', hE, hS, hm, k⟩
  cases hm
  exact k σ H β .refl hS hE
theorem ss_never {st : Stmt} : SS X st sNever := by
  refine ⟨PSimp ps_never ?_⟩
  rintro D σ H ⟨β, st, env, fl, env', st', hE, hS, hm, k⟩
  cases hm
theorem ss_doc {x j pos pos'} : SS X (.Expr (.Constant (.str x) j pos) pos') sPass := by
  refine ⟨PSimp ps_doc ?_⟩
  rintro D σ H ⟨β, st, env, fl, env', st', hE, hS, hm, k⟩
  cases hm
  exact k σ H β .refl hS hE
theorem ss_if {c : Expr} {a b : List Stmt} {t : TM} {m n : SM} {pos : Pos} (hc : ST X c t) (ha : SB X a m) (hb : SB X b n) : SS X (.If c a b pos) (sIf t m n) := by
  refine ⟨PSimp (ps_if hc.pt ha.pss hb.pss) ?_⟩
  rintro D σ H ⟨β, st, env, fl, env', st', hE, hS, hm, k⟩
  obtain ⟨c, st1, h1, h2⟩ := bnd_some hm
  refine ⟨β, st, env, c, st1, hE, hS, h1, fun H1 β1 e1 s1 => ?_⟩
  cases c with
  | true => exact ⟨β1, st1, env, fl, env', st', hE.ext e1, s1, h2, fun σ2 H2 β2 e2 s2 E2 => k σ2 H2 β2 (e1.trans e2) s2 E2⟩
  | false => exact ⟨β1, st1, env, fl, env', st', hE.ext e1, s1, h2, fun σ2 H2 β2 e2 s2 E2 => k σ2 H2 β2 (e1.trans e2) s2 E2⟩
theorem sb_nil : SB X [] bNil := by
  refine ⟨PSsimp pss_nil ?_⟩
  rintro D σ H ⟨β, st, env, fl, env', st', hE, hS, hm, k⟩
  cases hm
  exact k σ H β .refl hS hE
theorem sb_cons {s : Stmt} {rest : List Stmt} {m n : SM} (h1 : SS X s m) (h2 : SB X rest n) : SB X (s :: rest) (bCons m n) := by
  refine ⟨PSsimp (pss_cons h1.ps h2.pss) ?_⟩
  rintro D σ H ⟨β, st, env, fl, env', st', hE, hS, hm, k⟩
  obtain ⟨⟨f, env1⟩, st1, h3, h4⟩ := bnd_some hm
  refine ⟨β, st, env, f, env1, st1, hE, hS, h3, fun σ1 H1 β1 e1 s1 E1 => ?_⟩
  cases f with
  | nx => exact ⟨β1, st1, env1, fl, env', st', E1, s1, h4, fun σ2 H2 β2 e2 s2 E2 => k σ2 H2 β2 (e1.trans e2) s2 E2⟩
  | bk => cases h4; exact k σ1 H1 β1 e1 s1 E1
  | ct => cases h4; exact k σ1 H1 β1 e1 s1 E1
  | rt w => cases h4; exact k σ1 H1 β1 e1 s1 E1
/-- x op= e -/
theorem ss_aug {i : Nat} {x : Str} {e : Expr} {op : Operator} {m : EM} {f : W → W → M W} {r : R2} {pos pos' : Pos} (hN : X.N.Nodup) (ho : OpR X (inplaceOp op) r) (hf : Ref2 X.K f r) (he : SE X e m) (hi : X.N[i]? = some x := by rfl) (hx : Loc X.env.scope x := by first | exact Or.inl rfl | exact Or.inr rfl)
    (hfn : X.fn x = true ∨ X.env.scope.names.lookup x = some .local := by first | exact .inl rfl | exact .inr rfl) : SS X (.AugAssign (.Name x pos') op e pos) (sAug i f m) := by
  refine ⟨PSimp (ps_aug hN hi hx he.pe (ti := r) (fun pins s σ H x y v u Q I r1 r2 h => ho pins s σ H x y v u Q I r1 r2 h) hfn) ?_⟩
  rintro D σ H ⟨β, st, env, fl, env', st', hE, hS, hm, k⟩
  unfold sAug at hm
  split at hm
  · rename_i w ew
    obtain ⟨y, st1, h1, h2⟩ := bnd_some hm
    obtain ⟨z, st2, h3, h4⟩ := bnd_some h2
    cases h4
    obtain ⟨v, ev, rv⟩ := hE.at' i w ew
    refine ⟨v, ev, β, st, env, y, st1, hE, hS, h1, fun u H1 β1 e1 s1 r1 => ?_⟩
    exact hf β1 H1 st1 _ w y z v u _ s1 (rv.ext' e1) r1 h3 fun q H2 β2 e2 s2 r2 => k _ H2 β2 (e1.trans e2) s2 (((hE.ext e1).ext e2).set r2 i)
  · cases hm

/-! ### loops -/
theorem ss_while {c : Expr} {body : List Stmt} {t : TM} {b : SM} {pos : Pos} (n : Nat) (hp : PassesOwn (model X.prog X.w) X.A X.env X.xe) (hc : ST X c t) (hb : SB X body b) : SS X (.While c body [] pos) (sWhile t b n) := by
  refine ⟨PSimp (ps_while hp hc.pt hb.pss) ?_⟩
  rintro D σ H ⟨β, st, env, fl, env', st', hE, hS, hm, k⟩
  refine ⟨fun m σ H => ∃ β1 st1 env1, RE X.K β1 H env1 σ ∧ RS X.K β1 H st1 ∧ sWhile t b m env1 st1 = some ((fl, env'), st') ∧ ∀ σ' H' β', Ext β1 H β' H' → RS X.K β' H' st' → RE X.K β' H' env' σ' → fin X.K D fl env' σ' β' H', ⟨n, β, st, env, hE, hS, hm, k⟩, ?_⟩
  rintro m σ H ⟨β1, st1, env1, E1, S1, m1, k1⟩
  cases m with
  | zero => cases m1
  | succ m =>
    obtain ⟨c, st2, h1, h2⟩ := bnd_some m1
    refine ⟨β1, st1, env1, c, st2, E1, S1, h1, fun H2 β2 e2 s2 => ?_⟩
    cases c with
    | false =>
      cases h2
      exact k1 σ H2 β2 e2 s2 (E1.ext e2)
    | true =>
      rw [if_pos rfl] at h2 ⊢
      obtain ⟨⟨f, env3⟩, st3, h3, h4⟩ := bnd_some h2
      refine ⟨fun σ' H' => ∃ β3, RE X.K β3 H' env3 σ' ∧ RS X.K β3 H' st3 ∧ (f = .nx ∨ f = .ct) ∧ Ext β2 H2 β3 H', fun σ3 H3 ⟨β3, E3, S3, ef, e3⟩ => ⟨m, Nat.lt_succ_self m, β3, st3, env3, E3, S3, ?_, fun σ' H' β' e4 s4 E4 => k1 σ' H' β' ((e2.trans e3).trans e4) s4 E4⟩, ?_⟩
      · rcases ef with rfl | rfl <;> exact h4
      · refine ⟨β2, st2, env1, f, env3, st3, E1.ext e2, s2, h3, fun σ3 H3 β3 e3 s3 E3 => ?_⟩
        cases f with
        | nx => exact ⟨β3, E3, s3, .inl rfl, e3⟩
        | ct => exact ⟨β3, E3, s3, .inr rfl, e3⟩
        | bk => cases h4; exact k1 σ3 H3 β3 (e2.trans e3) s3 E3
        | rt w => cases h4; exact k1 σ3 H3 β3 (e2.trans e3) s3 E3
/-- an iterator goes as the source tells -/
def RSrc (K : PySem.W.Frag) (β : List Addr) (H : Hp) (J : It) (src : Src) : Prop := ∀ (β' : List Addr) (H' : Hp) (st' : Sto) (j : Nat), Ext β H β' H' → RS K β' H' st' →
  (src j st' = some none → J.stop j H') ∧ (∀ w, src j st' = some (some w) → J.go j H' ∧ ∀ x H2, J.yld j H' x H2 → Ext β' H' β' H2 ∧ RS K β' H2 st' ∧ RW K β' H2 w x)
def tMI (K : PySem.W.Frag) (m : IM) : TI := fun σ H R => ∃ β st env src st', RE K β H env σ ∧ RS K β H st ∧ m env st = some (src, st') ∧
  ∀ J H' β', Ext β H β' H' → RS K β' H' st' → RSrc K β' H' J src → R J H'
structure SI (X : Cx) (tg iter : Expr) (m : IM) : Prop where
  pi : PI X tg iter (tMI X.K m)
theorem PIimp {tg e : Expr} {t t' : TI} (h : PI X tg e t) (i : ∀ σ H R, t' σ H R → t σ H R) : PI X tg e t' := ⟨fun pins s σ H R I hq => h.run pins s σ H R I (i σ H R hq)⟩
theorem ss_for {tg iter : Expr} {body : List Stmt} {i : IM} {p : Pat} {b : SM} {pos : Pos} (n : Nat) (hp : PassesOwn (model X.prog X.w) X.A X.env X.xe) (hc : X.calm = true) (hi : SI X tg iter i) (hg : SG X tg p) (hb : SB X body b)
    (hs : ∀ x, foldedSetIterable iter X.env x = pure x := by intro _; rfl) : SS X (.For tg iter body [] pos) (sFor i p b n) := by
  refine ⟨PSimp (ps_for hp hc hi.pi hg.pg hb.pss hs) ?_⟩
  rintro D σ H ⟨β, st, env, fl, env', st', hE, hS, hm, k⟩
  obtain ⟨src, st1, h1, h2⟩ := bnd_some hm
  refine ⟨β, st, env, src, st1, hE, hS, h1, fun J H1 β1 e1 s1 rj => ?_⟩
  refine ⟨fun j m σ H => ∃ β2 st2 env2, Ext β1 H1 β2 H ∧ RE X.K β2 H env2 σ ∧ RS X.K β2 H st2 ∧ forGo src p b m j env2 st2 = some ((fl, env'), st') ∧ ∀ σ' H' β', Ext β2 H β' H' → RS X.K β' H' st' → RE X.K β' H' env' σ' → fin X.K D fl env' σ' β' H',
    ⟨n, β1, st1, env, .refl, hE.ext e1, s1, h2, fun σ' H' β' e s E => k σ' H' β' (e1.trans e) s E⟩, ?_⟩
  rintro j m σ H ⟨β2, st2, env2, e2, E2, S2, m2, k2⟩
  cases m with
  | zero => cases m2
  | succ m =>
    obtain ⟨rs, rg⟩ := rj β2 H st2 j e2 S2
    unfold forGo at m2
    split at m2
    · cases m2
    · rename_i e
      cases m2
      exact .inl ⟨rs e, k2 σ H β2 .refl S2 E2⟩
    · rename_i w e
      obtain ⟨go, yl⟩ := rg w e
      refine .inr ⟨go, ?_⟩
      obtain ⟨env3, st3, h3, h4⟩ := bnd_some m2
      obtain ⟨⟨f, env4⟩, st4, h5, h6⟩ := bnd_some h4
      refine ⟨fun σ' H' => ∃ β4, RE X.K β4 H' env4 σ' ∧ RS X.K β4 H' st4 ∧ (f = .nx ∨ f = .ct) ∧ Ext β2 H β4 H', fun σ5 H5 ⟨β5, E5, S5, ef, e5⟩ => ⟨m, Nat.lt_succ_self m, β5, st4, env4, e2.trans e5, E5, S5, ?_, fun σ' H' β' e6 s6 E6 => k2 σ' H' β' (e5.trans e6) s6 E6⟩, ?_⟩
      · rcases ef with rfl | rfl <;> exact h6
      · intro x H3 y
        obtain ⟨e3, s3, r3⟩ := yl x H3 y
        refine ⟨β2, st2, env2, w, env3, st3, E2.ext e3, s3, r3, h3, fun σ4 H4 β4 e4 s4 E4 _ => ?_⟩
        refine ⟨β4, st3, env3, f, env4, st4, E4, s4, h5, fun σ5 H5 β5 e5 s5 E5 => ?_⟩
        cases f with
        | nx => exact ⟨β5, E5, s5, .inl rfl, (e3.trans e4).trans e5⟩
        | ct => exact ⟨β5, E5, s5, .inr rfl, (e3.trans e4).trans e5⟩
        | bk => cases h6; exact k2 σ5 H5 β5 ((e3.trans e4).trans e5) s5 E5
        | rt w => cases h6; exact k2 σ5 H5 β5 ((e3.trans e4).trans e5) s5 E5
end
end B

set_option Elab.async false
set_option linter.all false
set_option maxRecDepth 100000
namespace B
open PySem PySem.Spec L2 RZ
set_option autoImplicit false

/-! ### sources -/
def srcTup (xs : List W) : Src := fun j _ => some xs[j]?
def srcRef (i : Nat) : Src := fun j st => match st[i]? with
  | some (.lst xs) => some xs[j]?
  | _ => none
def srcRng (lo : Int) (n : Nat) : Src := fun j _ => if j < n then some (some (.int (lo + j))) else some none
def srcRev (i n : Nat) : Src := fun j st => if j < n then (match st[i]? with
  | some (.lst xs) => match xs[n - 1 - j]? with
    | some x => some (some x)
    | none => none
  | _ => none) else some none
def srcZipT (xs ys : List W) : Src := fun j _ => match xs[j]?, ys[j]? with
  | some x, some y => some (some (.tup [x, y]))
  | _, _ => some none
def iSeq (e : EM) : IM := fun env => bnd (e env) fun w st => match w with
  | .tup xs => some (srcTup xs, st)
  | .fl xs => some (srcTup xs, st)
  | .ref i => match st[i]? with
    | some (.lst _) => some (srcRef i, st)
    | _ => none
  | _ => none
def iRng1M (a : AM) : IM := fun env => bnd (a env) fun ws st => match ws with
  | [.int n] => if decide (-(2 ^ 62) ≤ n ∧ n < 2 ^ 62) = true then some (srcRng 0 n.toNat, st) else none
  | _ => none
def iRng2M (a : AM) : IM := fun env => bnd (a env) fun ws st => match ws with
  | [.int lo, .int hi] => if decide (-(2 ^ 62) ≤ lo ∧ lo < 2 ^ 62 ∧ -(2 ^ 62) ≤ hi ∧ hi < 2 ^ 62) = true then some (srcRng lo (hi - lo).toNat, st) else none
  | _ => none
def iRevM (a : AM) : IM := fun env => bnd (a env) fun ws st => match ws with
  | [.ref i] => match st[i]? with
    | some (.lst xs) => some (srcRev i xs.length, st)
    | _ => none
  | _ => none
def iZipM (a : AM) : IM := fun env => bnd (a env) fun ws st => match ws with
  | [.tup xs, .tup ys] => some (srcZipT xs ys, st)
  | _ => none
theorem rs_lst {K : PySem.W.Frag} {β : List Addr} {H : Hp} {st : Sto} (s : RS K β H st) {i : Nat} {a : Addr} {xs : List W} (ha : β[i]? = some a) (hi : st[i]? = some (.lst xs)) : ∃ vs, H a = some (.lst vs) ∧ RWs K β H xs vs := by
  obtain ⟨b, hb, vs, e, r⟩ := s.ob i _ hi
  rw [ha] at hb; cases hb
  exact ⟨vs, e, r⟩
theorem rs_dct {K : PySem.W.Frag} {β : List Addr} {H : Hp} {st : Sto} (s : RS K β H st) {i : Nat} {a : Addr} {xs : List (Key × W)} (ha : β[i]? = some a) (hi : st[i]? = some (.dct xs)) : ∃ vs, H a = some (.dK vs) ∧ RKs K β H xs vs := by
  obtain ⟨b, hb, vs, e, r⟩ := s.ob i _ hi
  rw [ha] at hb; cases hb
  exact ⟨vs, e, r⟩
theorem rs_dtt {K : PySem.W.Frag} {β : List Addr} {H : Hp} {st : Sto} (s : RS K β H st) {i : Nat} {a : Addr} {xs : List (List Key × W)} (ha : β[i]? = some a) (hi : st[i]? = some (.dtt xs)) : ∃ vs, H a = some (.dT vs) ∧ RKs K β H xs vs := by
  obtain ⟨b, hb, vs, e, r⟩ := s.ob i _ hi
  rw [ha] at hb; cases hb
  exact ⟨vs, e, r⟩
section
variable {X : Cx}
theorem rsrc_tup {β : List Addr} {H : Hp} {a : Addr} {xs : List W} {vs : List V} (hq : SqT X.K H a vs) (r : RWs X.K β H xs vs) : RSrc X.K β H (Itt X.K a) (srcTup xs) := by
  intro β' H' st' j e s
  refine ⟨fun h => ⟨vs, e.sqT hq, ?_⟩, fun w h => ?_⟩
  · unfold srcTup at h
    have h := Option.some.inj h
    rw [List.getElem?_eq_none_iff] at h
    rw [← r.length]; exact h
  · unfold srcTup at h
    have h := Option.some.inj h
    obtain ⟨v, hv, rv⟩ := r.get h
    refine ⟨⟨vs, v, e.sqT hq, hv⟩, fun x H2 y => ?_⟩
    obtain ⟨rfl, y⟩ := y
    have := y vs (e.sqT hq)
    rw [hv] at this; cases this
    exact ⟨.refl, s, rv.ext' e⟩
theorem rsrc_fl {β : List Addr} {H : Hp} {a : Addr} {xs : List W} {vs : List V} (hq : Fix X.K H a vs) (r : RWs X.K β H xs vs) : RSrc X.K β H (Itl X.K a) (srcTup xs) := by
  intro β' H' st' j e s
  refine ⟨fun h => ⟨vs, (e.fix hq).sq, ?_⟩, fun w h => ?_⟩
  · unfold srcTup at h
    have h := Option.some.inj h
    rw [List.getElem?_eq_none_iff] at h
    rw [← r.length]; exact h
  · unfold srcTup at h
    have h := Option.some.inj h
    obtain ⟨v, hv, rv⟩ := r.get h
    refine ⟨⟨vs, v, (e.fix hq).sq, hv⟩, fun x H2 y => ?_⟩
    obtain ⟨rfl, y⟩ := y
    have := y vs (e.fix hq).sq
    rw [hv] at this; cases this
    exact ⟨.refl, s, rv.ext' e⟩
theorem rsrc_ref {β : List Addr} {H : Hp} {a : Addr} {i : Nat} (ha : β[i]? = some a) : RSrc X.K β H (Itl X.K a) (srcRef i) := by
  intro β' H' st' j e s
  refine ⟨fun h => ?_, fun w h => ?_⟩
  · unfold srcRef at h
    split at h
    · rename_i xs hi
      obtain ⟨vs, e1, r⟩ := rs_lst s (e.ix ha) hi
      have h := Option.some.inj h
      rw [List.getElem?_eq_none_iff] at h
      exact ⟨vs, SqL.of e1, by rw [← r.length]; exact h⟩
    · cases h
  · unfold srcRef at h
    split at h
    · rename_i xs hi
      obtain ⟨vs, e1, r⟩ := rs_lst s (e.ix ha) hi
      have h := Option.some.inj h
      obtain ⟨v, hv, rv⟩ := r.get h
      refine ⟨⟨vs, v, SqL.of e1, hv⟩, fun x H2 y => ?_⟩
      obtain ⟨rfl, y⟩ := y
      have := y vs (SqL.of e1)
      rw [hv] at this; cases this
      exact ⟨.refl, s, rv⟩
    · cases h
theorem rsrc_rng {β : List Addr} {H : Hp} {lo : Int} {n : Nat} : RSrc X.K β H (Itr lo n) (srcRng lo n) := by
  intro β' H' st' j e s
  unfold srcRng
  by_cases hj : j < n
  · refine ⟨fun h => (by rw [if_pos hj] at h; cases h), fun w h => ?_⟩
    rw [if_pos hj] at h
    cases h
    exact ⟨hj, fun x H2 y => by obtain ⟨rfl, rfl⟩ := y; exact ⟨.refl, s, .int _⟩⟩
  · refine ⟨fun _ => Nat.le_of_not_lt hj, fun w h => ?_⟩
    rw [if_neg hj] at h
    cases h
theorem rsrc_rev {β : List Addr} {H : Hp} {a : Addr} {i n : Nat} (ha : β[i]? = some a) : RSrc X.K β H (Itv X.K a n) (srcRev i n) := by
  intro β' H' st' j e s
  unfold srcRev
  by_cases hj : j < n
  · refine ⟨fun h => ?_, fun w h => ?_⟩
    · rw [if_pos hj] at h
      split at h
      · split at h <;> cases h
      · cases h
    · rw [if_pos hj] at h
      split at h
      · rename_i xs hi
        split at h
        · rename_i y hy
          cases h
          obtain ⟨vs, e1, r⟩ := rs_lst s (e.ix ha) hi
          obtain ⟨v, hv, rv⟩ := r.get hy
          refine ⟨⟨hj, vs, v, SqL.of e1, hv⟩, fun x H2 y => ?_⟩
          obtain ⟨rfl, y⟩ := y
          have := y vs (SqL.of e1)
          rw [hv] at this; cases this
          exact ⟨.refl, s, rv⟩
        · cases h
      · cases h
  · refine ⟨fun _ => Nat.le_of_not_lt hj, fun w h => ?_⟩
    rw [if_neg hj] at h
    cases h
theorem rsrc_zip {β : List Addr} {H : Hp} {a b : Addr} {xs ys : List W} {vs us : List V} (hq : SqT X.K H a vs) (hp : SqT X.K H b us) (r : RWs X.K β H xs vs) (r2 : RWs X.K β H ys us) : RSrc X.K β H (ItzT X.K a b) (srcZipT xs ys) := by
  intro β' H' st' j e s
  unfold srcZipT
  have hl := r.length
  have hl2 := r2.length
  split
  · rename_i x y hx hy
    refine ⟨fun h => (by cases h), fun w h => ?_⟩
    cases h
    obtain ⟨v, hv, rv⟩ := r.get hx
    obtain ⟨u, hu, ru⟩ := r2.get hy
    refine ⟨⟨vs, us, v, u, e.sqT hq, e.sqT hp, hv, hu⟩, fun z H2 yy => ?_⟩
    obtain ⟨T, x', y', rfl, hT, rfl, hx', hy'⟩ := yy
    have h1 := hx' vs (e.sqT hq)
    have h2 := hy' us (e.sqT hp)
    rw [hv] at h1; cases h1
    rw [hu] at h2; cases h2
    have en : Ext β' H' β' (upd H' T (.tup [v, u])) := Ext.new hT
    exact ⟨en, s.new hT, .tup (.inl upd_same) (.cons ((rv.ext' e).ext' en) (.cons ((ru.ext' e).ext' en) .nil))⟩
  · rename_i h
    refine ⟨fun _ => ⟨vs, us, e.sqT hq, e.sqT hp, ?_⟩, fun w h => (by cases h)⟩
    cases hx : xs[j]? with
    | none => exact .inl (by rw [← hl]; exact List.getElem?_eq_none_iff.mp hx)
    | some x =>
      cases hy : ys[j]? with
      | none => exact .inr (by rw [← hl2]; exact List.getElem?_eq_none_iff.mp hy)
      | some y => exact absurd hy (h x y hx)

/-- a list or a tuple that is walked -/
theorem pi_any {tg l : Expr} {tl : TE} (hl : PE X l tl) : PI X tg l (fun σ H R => tl σ H fun x H1 => ∃ a, x = .ref a ∧ (((∃ xs, SqL X.K H1 a xs) ∧ R (Itl X.K a) H1) ∨ ((∃ xs, SqT X.K H1 a xs) ∧ R (Itt X.K a) H1))) := by
  refine ⟨fun pins s σ H R I h => ?_⟩
  refine thn (hl.run pins s σ H _ I h) fun v s1 ⟨x, H1, I1, r1, q1⟩ => ?_
  obtain ⟨a, e, q1⟩ := q1
  subst e
  cases r1
  rcases q1 with ⟨⟨xs, hq⟩, q⟩ | ⟨⟨xs, hq⟩, q⟩
  · obtain ⟨its, rv, p, hz⟩ := I1.list hq
    refine wpAny_pyIter_list p.isList ?_
    refine ⟨s1.heap.objs.size, [s1.heap.objs.size], _, _, H1, rfl, I1.kept (t' := s1.toks) fun b o e => Heap.get?_push_of_some _ e, turn_list a _, ⟨_, Heap.get?_push_size _ rfl, rfl, rfl⟩, fun b hb => ?_, q⟩
    have e : b = s1.heap.objs.size := by simpa using hb
    subst e
    exact I1.fpOk (Nat.le_refl _) (I1.hok.fresh (Nat.le_refl _))
  · obtain ⟨its, rv, p, hz⟩ := I1.tuple hq
    refine PySem.wpAny_pyIter_tuple (show s1.heap.IsTuple a its.toArray from p) ?_
    refine ⟨s1.heap.objs.size, [s1.heap.objs.size], _, _, H1, rfl, I1.kept (t' := s1.toks) fun b o e => Heap.get?_push_of_some _ e, turn_tuple a _, ⟨_, Heap.get?_push_size _ rfl, rfl, rfl⟩, fun b hb => ?_, q⟩
    have e : b = s1.heap.objs.size := by simpa using hb
    subst e
    exact I1.fpOk (Nat.le_refl _) (I1.hok.fresh (Nat.le_refl _))
theorem si_seq {tg e : Expr} {m : EM} (h : SE X e m) : SI X tg e (iSeq m) := by
  refine ⟨PIimp (pi_any h.pe) ?_⟩
  rintro σ H R ⟨β, st, env, src, st', hE, hS, hm, k⟩
  obtain ⟨w, st1, h1, h2⟩ := bnd_some hm
  refine ⟨β, st, env, w, st1, hE, hS, h1, fun v H1 β1 e1 s1 r1 => ?_⟩
  cases r1 with
  | @tup a xs vs hq r =>
    cases h2
    exact ⟨a, rfl, .inr ⟨⟨vs, hq.sq⟩, k _ H1 β1 e1 s1 (rsrc_tup hq.sq r)⟩⟩
  | @fl a xs vs hq r =>
    cases h2
    exact ⟨a, rfl, .inl ⟨⟨vs, hq.sq⟩, k _ H1 β1 e1 s1 (rsrc_fl hq r)⟩⟩
  | @ref i a hb =>
    dsimp only at h2
    split at h2
    · rename_i xs hi
      cases h2
      obtain ⟨vs, e2, r⟩ := rs_lst s1 hb hi
      exact ⟨a, rfl, .inl ⟨⟨vs, SqL.of e2⟩, k _ H1 β1 e1 s1 (rsrc_ref hb)⟩⟩
    · cases h2
  | _ => cases h2
theorem si_rng1 {tg a : Expr} {m : AM} {p pos : Pos} (hg : Gl X "range") (hm : X.mg "range" = none) (ha : SA X [a] m) (hs : starEach [a] X.env = [(false, eval a X.env)] := by rfl) : SI X tg (.Call (.Name "range" p) [a] [] pos) (iRng1M m) := by
  refine ⟨PIimp (pi_range1 hg hm ha.pa hs) ?_⟩
  rintro σ H R ⟨β, st, env, src, st', hE, hS, hm, k⟩
  obtain ⟨ws, st1, h1, h2⟩ := bnd_some hm
  refine ⟨β, st, env, ws, st1, hE, hS, h1, fun vs H1 β1 e1 s1 r1 => ?_⟩
  split at h2
  · rename_i n
    split at h2
    · rename_i hc
      cases h2
      have hc := of_decide_eq_true hc
      cases r1 with
      | cons r t =>
        cases t
        cases r
        exact ⟨n, rfl, hc.1, hc.2, k _ H1 β1 e1 s1 rsrc_rng⟩
    · cases h2
  · cases h2
theorem si_rng2 {tg a b : Expr} {m : AM} {p pos : Pos} (hg : Gl X "range") (hm : X.mg "range" = none) (ha : SA X [a, b] m) (hs : starEach [a, b] X.env = [(false, eval a X.env), (false, eval b X.env)] := by rfl) (hs2 : starEach [b] X.env = [(false, eval b X.env)] := by rfl) : SI X tg (.Call (.Name "range" p) [a, b] [] pos) (iRng2M m) := by
  refine ⟨PIimp (pi_range2 hg hm ha.pa hs hs2) ?_⟩
  rintro σ H R ⟨β, st, env, src, st', hE, hS, hm, k⟩
  obtain ⟨ws, st1, h1, h2⟩ := bnd_some hm
  refine ⟨β, st, env, ws, st1, hE, hS, h1, fun vs H1 β1 e1 s1 r1 => ?_⟩
  split at h2
  · rename_i lo hi
    split at h2
    · rename_i hc
      cases h2
      have hc := of_decide_eq_true hc
      cases r1 with
      | cons r t =>
        cases t with
        | cons r2 t =>
          cases t
          cases r
          cases r2
          exact ⟨lo, hi, rfl, hc, k _ H1 β1 e1 s1 rsrc_rng⟩
    · cases h2
  · cases h2
theorem si_rev {tg e : Expr} {m : AM} {p pos : Pos} (hg : Gl X "reversed") (hm : X.mg "reversed" = none) (ha : SA X [e] m) (hs : starEach [e] X.env = [(false, eval e X.env)] := by rfl) : SI X tg (.Call (.Name "reversed" p) [e] [] pos) (iRevM m) := by
  refine ⟨PIimp (pi_reversed hg hm ha.pa hs) ?_⟩
  rintro σ H R ⟨β, st, env, src, st', hE, hS, hm, k⟩
  obtain ⟨ws, st1, h1, h2⟩ := bnd_some hm
  refine ⟨β, st, env, ws, st1, hE, hS, h1, fun vs H1 β1 e1 s1 r1 => ?_⟩
  split at h2
  · rename_i i
    split at h2
    · rename_i xs hi
      cases h2
      cases r1 with
      | cons r t =>
        cases t
        cases r with
        | @ref i a hb =>
          obtain ⟨vs, e2, r⟩ := rs_lst s1 hb hi
          refine ⟨a, vs, rfl, SqL.of e2, ?_⟩
          rw [← r.length]
          exact k _ H1 β1 e1 s1 (rsrc_rev hb)
    · cases h2
  · cases h2
theorem si_zip {elts : List Expr} {kk : Nat} {tpos : Pos} {e e2 : Expr} {m : AM} {p pos : Pos} (hg : Gl X "zip") (hm : X.mg "zip" = none) (ha : SA X [e, e2] m)
    (hs : starEach [e, e2] X.env = (false, eval e X.env) :: starEach [e2] X.env := by rfl) (hpl : (backTo pos (starEach [e2] X.env)).any (·.1) = false := by rfl) : SI X (.Tuple elts kk tpos) (.Call (.Name "zip" p) [e, e2] [] pos) (iZipM m) := by
  refine ⟨PIimp (pi_zipA hg hm ha.pa hs hpl) ?_⟩
  rintro σ H R ⟨β, st, env, src, st', hE, hS, hm, k⟩
  obtain ⟨ws, st1, h1, h2⟩ := bnd_some hm
  refine ⟨β, st, env, ws, st1, hE, hS, h1, fun vs H1 β1 e1 s1 r1 => ?_⟩
  split at h2
  · rename_i xs ys
    cases h2
    cases r1 with
    | cons r t =>
      cases t with
      | cons r2 t =>
        cases t
        cases r with
        | @tup a _ vs hq r =>
          cases r2 with
          | @tup b _ us hp r2 => exact ⟨a, b, vs, us, rfl, .inr ⟨hq.sq, hp.sq, k _ H1 β1 e1 s1 (rsrc_zip hq.sq hp.sq r r2)⟩⟩
  · cases h2
end

/-! ### comprehensions -/
def wipeE (env : En) : List Nat → En
  | [] => env
  | v :: vs => (wipeE env vs).set v none
theorem RE.wipe {K : PySem.W.Frag} {β : List Addr} {H : Hp} {env : En} {σ : L2.St} (h : RE K β H env σ) : ∀ vs, RE K β H (wipeE env vs) (L2.wipe σ vs)
  | [] => h
  | v :: vs => by
    have ih := RE.wipe h vs
    refine ⟨by show ((wipeE env vs).set v none).length = ((L2.wipe σ vs).set v none).length; simp [ih.len], fun i w hi => ?_⟩
    have hi : ((wipeE env vs).set v none)[i]? = some (some w) := hi
    by_cases e : v = i
    · subst e
      by_cases hl : v < (wipeE env vs).length
      · rw [List.getElem?_set_self hl] at hi; cases hi
      · rw [List.getElem?_eq_none (by simpa using hl)] at hi; cases hi
    · rw [List.getElem?_set_ne e] at hi
      obtain ⟨x, a, b⟩ := ih.at' i w hi
      exact ⟨x, by show ((L2.wipe σ vs).set v none)[i]? = _; rw [List.getElem?_set_ne e]; exact a, b⟩
theorem wipe_wipe (σ : L2.St) (vs : List Nat) : wipe (wipe σ vs) vs = wipe σ vs := by
  have key : ∀ us : List Nat, (∀ i ∈ us, i ∈ vs) → wipe (wipe σ vs) us = wipe σ vs := by
    intro us
    induction us with
    | nil => intro _; rfl
    | cons a us ih =>
      intro h
      show (wipe (wipe σ vs) us).set a none = wipe σ vs
      rw [ih fun i hi => h i (List.mem_cons_of_mem _ hi)]
      have ha : a ∈ vs := h a List.mem_cons_self
      have hn : ∀ vs : List Nat, a ∈ vs → ∀ x, (wipe σ vs)[a]? = some x → x = none := by
        intro vs
        induction vs with
        | nil => intro h; simp at h
        | cons b bs ih2 =>
          intro hm x hx
          have hx : ((wipe σ bs).set b none)[a]? = some x := hx
          by_cases e : b = a
          · subst e
            by_cases hl : b < (wipe σ bs).length
            · rw [List.getElem?_set_self hl] at hx; cases hx; rfl
            · rw [List.getElem?_eq_none (by simpa using hl)] at hx; cases hx
          · rw [List.getElem?_set_ne e] at hx
            exact ih2 (by simpa [Ne.symm e] using hm) x hx
      apply List.ext_getElem?
      intro i
      by_cases e : a = i
      · subst e
        by_cases hl : a < (wipe σ vs).length
        · rw [List.getElem?_set_self hl]
          have := hn vs ha _ (List.getElem?_eq_getElem hl)
          rw [List.getElem?_eq_getElem hl, this]
        · rw [List.getElem?_eq_none (by simpa using hl), List.getElem?_eq_none (by simpa using hl)]
      · rw [List.getElem?_set_ne e]
  exact key vs fun _ h => h
def push (k : Nat) (y : W) : M Unit := fun st => match st[k]? with
  | some (.lst xs) => if sml (xs.length + 1) = true then some ((), st.set k (.lst (xs ++ [y]))) else none
  | _ => none
def compGo (src : Src) (p : Pat) (t : TM) (e : EM) (k : Nat) : Nat → Nat → En → M Unit
  | 0, _, _ => fail
  | n + 1, j, env => fun st => match src j st with
    | none => none
    | some none => some ((), st)
    | some (some w) => (bnd (p.asg w env) fun env1 => bnd (t env1) fun c =>
        if c = true then bnd (e env1) fun y => bnd (push k y) fun _ => compGo src p t e k n (j + 1) env else compGo src p t e k n (j + 1) env) st
def tYesM : TM := fun _ => ret true
def eComp (i : IM) (p : Pat) (vs : List Nat) (t : TM) (e : EM) (n : Nat) : EM := fun env => bnd (i env) fun src st =>
  bnd (compGo src p t e st.length n 0 (wipeE env vs)) (fun _ => ret (.ref st.length)) (st ++ [.lst []])
structure STs (X : Cx) (ifs : List Expr) (m : TM) : Prop where
  pts : PTs X ifs (tMT X.K m)
section
variable {X : Cx}
theorem sts_nil : STs X [] tYesM := by
  refine ⟨⟨fun pins s σ H Q I h => ?_⟩⟩
  obtain ⟨β, st, env, b, st', hE, hS, hm, k⟩ := h
  cases hm
  exact (pts_nil (X := X)).run pins s σ H Q I (k H β .refl hS)
theorem sts_one {c : Expr} {m : TM} (h : ST X c m) : STs X [c] m := ⟨pts_one h.pt⟩
theorem tLc_of {i : IM} {p : Pat} {vs : List Nat} {t : TM} {e : EM} {n : Nat} (hp : ∀ i ∈ p.slots, i ∈ vs) {σ : L2.St} {H : Hp} {Q : VK} (h : tM X.K (eComp i p vs t e n) σ H Q) : tLc (tMI X.K i) (tMG X.K p) (tMT X.K t) (tM X.K e) vs σ H Q := by
  obtain ⟨β, st, env, w, st', hE, hS, hm, k⟩ := h
  obtain ⟨src, st1, h1, h2⟩ := bnd_some hm
  refine ⟨β, st, env, src, st1, hE, hS, h1, fun J H1 β1 e1 s1 rj D hD => ?_⟩
  obtain ⟨u, st2, h3, h4⟩ := bnd_some (m := compGo src p t e st1.length n 0 (wipeE env vs)) h2
  cases h4
  have ea : Ext β1 H1 (β1 ++ [D]) (upd H1 D (.lst [])) := Ext.alloc hD
  have sa : RS X.K (β1 ++ [D]) (upd H1 D (.lst [])) (st1 ++ [.lst []]) := s1.alloc hD ⟨[], upd_same, .nil⟩
  have hk0 : (β1 ++ [D])[st1.length]? = some D := alloc_ix s1
  refine ⟨fun j m H => ∃ β2 st2, Ext (β1 ++ [D]) (upd H1 D (.lst [])) β2 H ∧ RS X.K β2 H st2 ∧ compGo src p t e st1.length m j (wipeE env vs) st2 = some (u, st'), ⟨n, _, _, .refl, sa, h3⟩, ?_⟩
  rintro j m H2 ⟨β2, st2, e2, s2, m2⟩
  have hk : β2[st1.length]? = some D := e2.ix hk0
  cases m with
  | zero => cases m2
  | succ m =>
    obtain ⟨rs, rg⟩ := rj β2 H2 st2 j (ea.trans e2) s2
    unfold compGo at m2
    split at m2
    · cases m2
    · rename_i es
      cases m2
      exact .inl ⟨rs es, k _ H2 β2 ((e1.trans ea).trans e2) s2 (.ref hk)⟩
    · rename_i w es
      obtain ⟨go, yl⟩ := rg w es
      obtain ⟨env3, st3, h5, h6⟩ := bnd_some m2
      obtain ⟨c, st4, h7, h8⟩ := bnd_some h6
      refine .inr ⟨go, fun H' => ∃ β5 st5, Ext β2 H2 β5 H' ∧ RS X.K β5 H' st5 ∧ compGo src p t e st1.length m (j + 1) (wipeE env vs) st5 = some (u, st'), fun H' ⟨β5, st5, e5, s5, m5⟩ => ⟨m, Nat.lt_succ_self m, β5, st5, e2.trans e5, s5, m5⟩, fun x H3 y => ?_⟩
      obtain ⟨e3, s3, r3⟩ := yl x H3 y
      refine ⟨β2, st2, wipeE env vs, w, env3, st3, ((((hE.ext e1).ext ea).ext e2).ext e3).wipe vs, s3, r3, h5, fun σ4 H4 β4 e4 s4 E4 w4 => ⟨by rw [w4 vs hp, wipe_wipe], ?_⟩⟩
      refine ⟨β4, st3, env3, c, st4, E4, s4, h7, fun H5 β5 e5 s5 => ?_⟩
      cases c with
      | false => exact ⟨β5, st4, (e3.trans e4).trans e5, s5, h8⟩
      | true =>
        rw [if_pos rfl] at h8 ⊢
        obtain ⟨z, st6, h9, h10⟩ := bnd_some h8
        obtain ⟨_, st7, h11, h12⟩ := bnd_some h10
        refine ⟨β5, st4, env3, z, st6, E4.ext e5, s5, h9, fun v H6 β6 e6 s6 r6 => ?_⟩
        unfold push at h11
        split at h11
        · rename_i xs hx
          split at h11
          · rename_i hz
            cases h11
            have hkD : β6[st1.length]? = some D := e6.ix (e5.ix (e4.ix hk))
            obtain ⟨acc, ha, ra⟩ := rs_lst s6 hkD hx
            have hl := ra.length
            have hz' := sml_line hz
            have ec : Ext β6 H6 β6 (upd H6 D (.lst (acc ++ [v]))) := Ext.chg ha (fun _ z => (nomatch z)) (fun _ _ z => (nomatch z))
            obtain ⟨_, sc⟩ := s6.chg hx hkD (u := .lst (acc ++ [v])) (o' := .lst (xs ++ [z])) ⟨_, upd_same, (ra.ext ec).snoc (r6.ext' ec)⟩
            exact ⟨acc, ha, by omega, β6, _, (((e3.trans e4).trans e5).trans e6).trans ec, sc, h12⟩
          · cases h11
        · cases h11
theorem se_comp {elt tg iter : Expr} {ifs : List Expr} {scope : Scope} {pos : Pos} {i : IM} {p : Pat} {t : TM} {e : EM} (own : List (Str × Nat)) (n : Nat) (hc : X.calm = true) (hN : X.N.Nodup) (ok : BlkOk X.N X.env.scope scope own) (hp : ∀ i ∈ p.slots, i ∈ own.map (·.2)) (hi : SI X tg iter i)
    (hg : ∀ (s : Shared) (H : Hp) (C : Addr) (cl : List (Str × Addr)) (fp : List Addr), SG (X.blk s H scope (compEnvC scope cl C X.env) fp) tg p) (ht : ∀ (s : Shared) (H : Hp) (C : Addr) (cl : List (Str × Addr)) (fp : List Addr), STs (X.blk s H scope (compEnvC scope cl C X.env) fp) ifs t)
    (he : ∀ (s : Shared) (H : Hp) (C : Addr) (cl : List (Str × Addr)) (fp : List Addr), SE (X.blk s H scope (compEnvC scope cl C X.env) fp) elt e) (hs : ∀ x, foldedSetIterable iter X.env x = pure x := by intro _; rfl) :
    SE X (.ListComp elt [⟨tg, iter, ifs, 0⟩] scope pos) (eComp i p (own.map (·.2)) t e n) :=
  ⟨PEimp (pe_lc (g := tMG X.K p) (tt := tMT X.K t) (te := tM X.K e) hc hN hi.pi ok (fun s H C cl fp => (hg s H C cl fp).pg) (fun s H C cl fp => (ht s H C cl fp).pts) (fun s H C cl fp => (he s H C cl fp).pe) hs) fun _ _ _ h => tLc_of hp h⟩
theorem ss_setComp {j : Nat} {y : Str} {py : Pos} {elt tg iter : Expr} {ifs : List Expr} {scope : Scope} {pos spos : Pos} {i : IM} {p : Pat} {t : TM} {e : EM} (own : List (Str × Nat)) (n : Nat) (hc : X.calm = true) (hN : X.N.Nodup) (ok : BlkOk X.N X.env.scope scope own) (hp : ∀ i ∈ p.slots, i ∈ own.map (·.2))
    (hsw : swapsWith (.ListComp elt [⟨tg, iter, ifs, 0⟩] scope pos) (some (.Name y py)) spos.line X.env = pure true) (hi : SI X tg iter i)
    (hg : ∀ (s : Shared) (H : Hp) (C : Addr) (cl : List (Str × Addr)) (fp : List Addr), SG (X.blk s H scope (compEnvC scope cl C X.env) fp) tg p) (ht : ∀ (s : Shared) (H : Hp) (C : Addr) (cl : List (Str × Addr)) (fp : List Addr), STs (X.blk s H scope (compEnvC scope cl C X.env) fp) ifs t)
    (he : ∀ (s : Shared) (H : Hp) (C : Addr) (cl : List (Str × Addr)) (fp : List Addr), SE (X.blk s H scope (compEnvC scope cl C X.env) fp) elt e) (hy : X.N[j]? = some y := by rfl) (hyl : X.env.scope.names.lookup y = some .local := by rfl) (hs : ∀ x, foldedSetIterable iter X.env x = pure x := by intro _; rfl) :
    SS X (.Assign [.Name y py] (.ListComp elt [⟨tg, iter, ifs, 0⟩] scope pos) spos) (sSet (.nm j) (eComp i p (own.map (·.2)) t e n)) := by
  refine ⟨PSimp (ps_setLc (i := j) (g := tMG X.K p) (tt := tMT X.K t) (te := tM X.K e) hc hN hy hyl hsw hi.pi ok (fun s H C cl fp => (hg s H C cl fp).pg) (fun s H C cl fp => (ht s H C cl fp).pts) (fun s H C cl fp => (he s H C cl fp).pe) hs) ?_⟩
  rintro D σ H ⟨β, st, env, fl, env', st', hE, hS, hm, k⟩
  obtain ⟨w, st1, h1, h2⟩ := bnd_some hm
  obtain ⟨env1, st2, h3, h4⟩ := bnd_some h2
  simp only [Pat.asg] at h3
  cases h3
  cases h4
  refine tLc_of hp (Q := fun x H1 => gName j x σ H1 D.nx) ⟨β, st, env, w, _, hE, hS, h1, fun v H1 β1 e1 s1 r1 => ?_⟩
  exact k _ H1 β1 e1 s1 ((hE.ext e1).set r1 j)
end
end B

set_option Elab.async false
set_option linter.all false
set_option maxRecDepth 100000
namespace B
open PySem PySem.Spec L2
set_option autoImplicit false

/-! ### defs -/
@[simp] def fnM (n N : Nat) (body : SM) : List W → M W := fun ws st => if ws.length = n then
    match body (ws.map some ++ List.replicate (N - ws.length) none) st with
    | some ((.rt w, _), st') => some (w, st')
    | some ((.nx, _), st') => some (.non, st')
    | _ => none
  else none
def spM (K : PySem.W.Frag) (n : Nat) (F : List W → M W) : Sp := fun vs H Q _ => vs.length = n ∧ ∃ β st ws w st', RWs K β H ws vs ∧ RS K β H st ∧ F ws st = some (w, st') ∧
  ∀ v H' β', Ext β H β' H' → RS K β' H' st' → RW K β' H' w v → Q v H'
structure CallOk (P : Program) (w : World) (K : PySem.W.Frag) (mg : Str → Option Value) (base : Heap) (x : Str) (k n : Nat) (F : List W → M W) : Prop where
  ok : ∃ f fd ps, mg x = some (.ref f) ∧ PySem.W.keepIn K (.ref f) = true ∧ Binds K fd ps [] ∧ ps.length = n ∧ FnOk P w K mg base CX0 k f fd ps (spM K n F)
theorem CallOk.mono {P : Program} {w : World} {K : PySem.W.Frag} {mg : Str → Option Value} {base : Heap} {x : Str} {k j n : Nat} {F : List W → M W} (c : CallOk P w K mg base x k n F) (h : k ≤ j) : CallOk P w K mg base x j n F := by
  obtain ⟨f, fd, ps, a, b, d, e, g⟩ := c.ok
  exact ⟨f, fd, ps, a, b, d, e, g.mono h⟩
section
variable {X : Cx}
theorem se_call {x : Str} {p pos : Pos} {e : Expr} {es : List Expr} {m : AM} {k n : Nat} {F : List W → M W} (c : CallOk X.prog X.w X.K X.mg X.base x k n F) (hr : Room k X.A) (hg : Gl X x) (ha : SA X (e :: es) m) (hn : (e :: es).length = n := by rfl)
    (hdb : (x == ("__debug__" : Str)) = false := by decide) (he : starEach (e :: es) X.env = (false, eval e X.env) :: starEach es X.env := by rfl) (hpl : (backTo pos (starEach es X.env)).any (·.1) = false := by rfl) :
    SE X (.Call (.Name x p) (e :: es) [] pos) (eCall F m) := by
  obtain ⟨f, fd, ps, hm, hk, hb, hl, G⟩ := c.ok
  refine ⟨PEimp (pe_call G hr hg hm hk hb .nil (pass0 (X := X)) ha.pa hdb he hpl) ?_⟩
  rintro σ H Q ⟨β, st, env, w, st', hE, hS, hm, k⟩
  obtain ⟨ws, st1, h1, h2⟩ := bnd_some hm
  refine ⟨β, st, env, ws, st1, hE, hS, h1, fun vs H1 β1 e1 s1 r1 => ?_⟩
  show spM X.K n F (vs ++ []) H1 Q E0
  rw [List.append_nil]
  refine ⟨?_, β1, st1, ws, w, st', r1, s1, h2, fun v H2 β2 e2 s2 r2 => k v H2 β2 (e1.trans e2) s2 r2⟩
  rw [← r1.length, ← hn]
  exact ha.len _ _ _ h1
theorem se_call0 {x : Str} {p pos : Pos} {k : Nat} {F : List W → M W} (c : CallOk X.prog X.w X.K X.mg X.base x k 0 F) (hr : Room k X.A) (hg : Gl X x)
    (hdb : (x == ("__debug__" : Str)) = false := by decide) : SE X (.Call (.Name x p) [] [] pos) (eCall F aNil) := by
  obtain ⟨f, fd, ps, hm, hk, hb, hl, G⟩ := c.ok
  refine ⟨PEimp (pe_call0 G hr hg hm hk hb .nil (pass0 (X := X)) hdb) ?_⟩
  rintro σ H Q ⟨β, st, env, w, st', hE, hS, hm, k⟩
  obtain ⟨ws, st1, h1, h2⟩ := bnd_some hm
  cases h1
  exact ⟨rfl, β, _, [], w, st', .nil, hS, h2, fun v H2 β2 e2 s2 r2 => k v H2 β2 e2 s2 r2⟩
end
theorem re_start {K : PySem.W.Frag} {β : List Addr} {H : Hp} {N : List Str} {ws : List W} {vs : List V} (r : RWs K β H ws vs) : RE K β H (ws.map some ++ List.replicate (N.length - ws.length) none) (L2.start N vs) := by
  refine ⟨by unfold L2.start; simp [r.length], fun i w hi => ?_⟩
  unfold L2.start
  by_cases hl : i < ws.length
  · rw [List.getElem?_append_left (by simpa using hl), List.getElem?_map] at hi
    cases e : ws[i]? with
    | none => rw [e] at hi; cases hi
    | some w' =>
      rw [e] at hi
      cases hi
      obtain ⟨v, hv, rv⟩ := r.get e
      refine ⟨v, ?_, rv⟩
      rw [List.getElem?_append_left (by rw [List.length_map, ← r.length]; exact hl), List.getElem?_map, hv]
      rfl
  · rw [List.getElem?_append_right (by simpa using hl), List.getElem?_replicate] at hi
    split at hi <;> cases hi
theorem def_ok {P : Program} {w : World} {K : PySem.W.Frag} {mg : Str → Option Value} {base : Heap} {x qual : Str} {st : Stmt} {f : Addr} {fd : FuncData} {N ps : List Str} {k : Nat} {body : SM} (F : Fun K x qual st f fd) (S : FnScope N ps (defScope st))
    (hb : ∀ (cdv : Value) (A : Around) (outer : List Env) (s : Shared) (H : Hp) (E : XK), Room k (A.deeper (PyProof.Rows.envOfC qual (defScope st) s.heap.objs.size f cdv)) → SB (cxOf CX0 P w K mg base N qual (defScope st) f cdv A outer s H E).nox (defBody st) body) :
    FnOk P w K mg base CX0 (k + 1) f fd ps (spM K ps.length (fnM ps.length N.length body)) := by
  refine F.ok S (fun vs H Q E h => h.1) fun cdv A outer s H vs Q E hr h => ⟨_, (hb cdv A outer s H E hr).pss, ?_⟩
  obtain ⟨hl, β, sto, ws, w, st', r, hS, hm, kk⟩ := h
  unfold fnM at hm
  rw [if_pos (by rw [r.length, hl])] at hm
  split at hm
  · rename_i w' env' st2 e
    cases hm
    exact ⟨β, sto, _, _, _, _, re_start r, hS, e, fun σ' H' β' e' s' E' v rv => kk v H' β' e' s' rv⟩
  · rename_i env' st2 e
    cases hm
    exact ⟨β, sto, _, _, _, _, re_start r, hS, e, fun σ' H' β' e' s' E' => kk _ H' β' e' s' .non⟩
  · cases hm
theorem call_ok {P : Program} {w : World} {K : PySem.W.Frag} {mg : Str → Option Value} {base : Heap} {x qual : Str} {st : Stmt} {f : Addr} {fd : FuncData} {N ps : List Str} {k : Nat} {body : SM} (F : Fun K x qual st f fd) (hm : mg x = some (.ref f)) (S : FnScope N ps (defScope st))
    (b : Binds K fd ps [])
    (hb : ∀ (cdv : Value) (A : Around) (outer : List Env) (s : Shared) (H : Hp) (E : XK), Room k (A.deeper (PyProof.Rows.envOfC qual (defScope st) s.heap.objs.size f cdv)) → SB (cxOf CX0 P w K mg base N qual (defScope st) f cdv A outer s H E).nox (defBody st) body) :
    CallOk P w K mg base x (k + 1) ps.length (fnM ps.length N.length body) := ⟨f, fd, ps, hm, F.kp, b, rfl, def_ok F S hb⟩

/-! ### ints -/
@[simp] def fI0 (g : Int → Int → W) : W → W → M W := fun x y st => match x, y with
  | .int i, .int j => some (g i j, st)
  | _, _ => none
@[simp] def fI (c : Int → Int → Bool) (g : Int → Int → W) : W → W → M W := fun x y st => match x, y with
  | .int i, .int j => if c i j = true then some (g i j, st) else none
  | _, _ => none
section
variable {K : PySem.W.Frag}
theorem ref_I0 {g : Int → Int → W} {gv : Int → Int → V} (h : ∀ i j β H, RW K β H (g i j) (gv i j)) : Ref2 K (fI0 g) (rI0 gv) := by
  intro β H st st' x y w vx vy Q hS rx ry hm k
  unfold fI0 at hm
  split at hm
  · rename_i i j
    cases hm
    exact ⟨i, j, rx.int_inv, ry.int_inv, k _ H β .refl hS (h i j β H)⟩
  · cases hm
theorem ref_I {c : Int → Int → Bool} {C : Int → Int → Prop} {g : Int → Int → W} {gv : Int → Int → V} (hc : ∀ i j, c i j = true → C i j) (h : ∀ i j β H, RW K β H (g i j) (gv i j)) : Ref2 K (fI c g) (rI C gv) := by
  intro β H st st' x y w vx vy Q hS rx ry hm k
  unfold fI at hm
  split at hm
  · rename_i i j
    split at hm
    · rename_i hb
      cases hm
      exact ⟨i, j, rx.int_inv, ry.int_inv, hc i j hb, k _ H β .refl hS (h i j β H)⟩
    · cases hm
  · cases hm
@[simp] def fLt := fI0 fun i j => .bl (decide (i < j))
@[simp] def fLe := fI0 fun i j => .bl (decide (i ≤ j))
@[simp] def fGt := fI0 fun i j => .bl (decide (j < i))
@[simp] def fGe := fI0 fun i j => .bl (decide (j ≤ i))
theorem ref_lt : Ref2 K fLt (rI0 fun i j => .bl (decide (i < j))) := ref_I0 fun _ _ _ _ => .bl _
theorem ref_le : Ref2 K fLe (rI0 fun i j => .bl (decide (i ≤ j))) := ref_I0 fun _ _ _ _ => .bl _
theorem ref_gt : Ref2 K fGt (rI0 fun i j => .bl (decide (j < i))) := ref_I0 fun _ _ _ _ => .bl _
theorem ref_ge : Ref2 K fGe (rI0 fun i j => .bl (decide (j ≤ i))) := ref_I0 fun _ _ _ _ => .bl _
@[simp] def fSub := fI0 fun i j => .int (i - j)
theorem ref_sub : Ref2 K fSub (rI0 fun i j => .int (i - j)) := ref_I0 fun _ _ _ _ => .int _
@[simp] def fFdiv := fI (fun _ j => decide (0 < j ∧ j < 1073741824)) fun i j => .int (i / j)
theorem ref_fdiv : Ref2 K fFdiv (rI CDiv fun i j => .int (i / j)) := ref_I (fun i j h => (by first | (have := of_decide_eq_true h; exact this) | (have h := of_decide_eq_true h; unfold CDiv; exact h) | (have h := of_decide_eq_true h; unfold CPow; exact h) | (have h := of_decide_eq_true h; unfold CMul; exact h))) fun _ _ _ _ => .int _
@[simp] def fMod := fI (fun _ j => decide (0 < j)) fun i j => .int (i % j)
theorem ref_mod : Ref2 K fMod (rI (fun _ j => 0 < j) fun i j => .int (i % j)) := ref_I (fun i j h => (by first | (have := of_decide_eq_true h; exact this) | (have h := of_decide_eq_true h; unfold CDiv; exact h) | (have h := of_decide_eq_true h; unfold CPow; exact h) | (have h := of_decide_eq_true h; unfold CMul; exact h))) fun _ _ _ _ => .int _
@[simp] def fPow := fI (fun i j => decide (0 ≤ j ∧ j ≤ 1000000 ∧ i.natAbs < 2 ^ 64)) fun i j => .int (i ^ j.toNat)
theorem ref_pow : Ref2 K fPow (rI CPow fun i j => .int (i ^ j.toNat)) := ref_I (fun i j h => (by first | (have := of_decide_eq_true h; exact this) | (have h := of_decide_eq_true h; unfold CDiv; exact h) | (have h := of_decide_eq_true h; unfold CPow; exact h) | (have h := of_decide_eq_true h; unfold CMul; exact h))) fun _ _ _ _ => .int _
@[simp] def fMulI := fI (fun i j => decide ((-(2 ^ 64) < i ∧ i < 2 ^ 64) ∨ (-(2 ^ 64) < j ∧ j < 2 ^ 64))) fun i j => .int (i * j)
theorem ref_mulI : Ref2 K fMulI (rI CMul fun i j => .int (i * j)) := ref_I (fun i j h => (by first | (have := of_decide_eq_true h; exact this) | (have h := of_decide_eq_true h; unfold CDiv; exact h) | (have h := of_decide_eq_true h; unfold CPow; exact h) | (have h := of_decide_eq_true h; unfold CMul; exact h))) fun _ _ _ _ => .int _
@[simp] def fAddI := fI0 fun i j => .int (i + j)
theorem ref_addI : Ref2 K fAddI (rI0 fun i j => .int (i + j)) := ref_I0 fun _ _ _ _ => .int _
@[simp] def fNeg : W → M W := fun x st => match x with
  | .int i => some (.int (-i), st)
  | _ => none
theorem ref_neg : Ref1 K fNeg (rU fun i => .int (-i)) := by
  intro β H st st' x w vx Q hS rx hm k
  unfold fNeg at hm
  split at hm
  · rename_i i
    cases hm
    exact ⟨i, rx.int_inv, k _ H β .refl hS (.int _)⟩
  · cases hm

/-! ### sums of all sorts -/
@[simp] def fAdd : W → W → M W := fun x y st => match x, y with
  | .int i, .int j => some (.int (i + j), st)
  | .tup xs, .tup ys => if sml (xs.length + ys.length) = true then some (.tup (xs ++ ys), st) else none
  | .ref i, .ref j => match st[i]?, st[j]? with
    | some (.lst xs), some (.lst ys) => if sml (xs.length + ys.length) = true then some (.ref st.length, st ++ [.lst (xs ++ ys)]) else none
    | _, _ => none
  | _, _ => none
def rAddA (K : PySem.W.Frag) : R2 := fun x y H Q => (rI0 fun i j => .int (i + j)) x y H Q ∨ (rCatA K x y H Q ∨ rCat x y H Q)
theorem or_add {X : Cx} : OpR X (binaryOp .Add) (rAddA X.K) := op_add.or (op_catA.or op_cat)
theorem ref_add : Ref2 K fAdd (rAddA K) := by
  intro β H st st' x y w vx vy Q hS rx ry hm k
  unfold fAdd at hm
  split at hm
  · rename_i i j
    cases hm
    exact .inl ⟨i, j, rx.int_inv, ry.int_inv, k _ H β .refl hS (.int _)⟩
  · rename_i xs ys
    split at hm
    · rename_i hz
      cases hm
      cases rx with
      | @tup a _ vs hq r =>
        cases ry with
        | @tup b _ us hp r2 =>
          have h1 := r.length
          have h2 := r2.length
          have hz := sml_line hz
          refine .inr (.inl ⟨a, b, vs, us, rfl, rfl, hq.sq, hp.sq, by omega, fun e => ?_, fun e e' => ?_, fun _ _ p hf => ?_⟩)
          · subst e
            cases r
            exact k _ H β .refl hS (.tup hp r2)
          · subst e'
            cases r2
            rw [List.append_nil] at k
            exact k _ H β .refl hS (.tup hq r)
          · have e : Ext β H β (upd H p (.tup (vs ++ us))) := Ext.new hf
            exact k _ _ β e (hS.new hf) (.tup (.inl upd_same) ((r.append r2).ext e))
    · cases hm
  · rename_i i j
    split at hm
    · rename_i xs ys hi hj
      split at hm
      · rename_i hz
        cases hm
        cases rx with
        | @ref i a ha =>
          cases ry with
          | @ref j b hb =>
            obtain ⟨vs, e1, r⟩ := rs_lst hS ha hi
            obtain ⟨us, e2, r2⟩ := rs_lst hS hb hj
            have h1 := r.length
            have h2 := r2.length
            have hz := sml_line hz
            refine .inr (.inr ⟨a, b, vs, us, rfl, rfl, e1, e2, by omega, fun p hf => ?_⟩)
            have e : Ext β H (β ++ [p]) (upd H p (.lst (vs ++ us))) := Ext.alloc hf
            exact k _ _ _ e (hS.alloc hf ⟨_, upd_same, (r.append r2).ext e⟩) (.ref (alloc_ix hS))
      · cases hm
    · cases hm
  · cases hm
end
end B

set_option Elab.async false
set_option linter.all false
set_option maxRecDepth 100000
namespace B
open PySem PySem.Spec L2
set_option autoImplicit false

/-! ### data -/
mutual
def toD : W → Option PyData
  | .non => some .none
  | .bl b => some (.bool b)
  | .int i => some (.int i)
  | .str x => some (.str x)
  | .tup xs => match toDs xs with
    | some ds => some (.tuple ds)
    | none => none
  | .fl xs => match toDs xs with
    | some ds => some (.list ds)
    | none => none
  | .ref _ => none
  | .ext _ => none
  | .fnc _ => none
  | .exc _ _ _ => none
def toDs : List W → Option (List PyData)
  | [] => some []
  | x :: xs => match toD x, toDs xs with
    | some d, some ds => some (d :: ds)
    | _, _ => none
end
section
variable {K : PySem.W.Frag} {β : List Addr} {H : Hp}
mutual
theorem dp_of : ∀ (w : W) (v : V) (d : PyData), RW K β H w v → toD w = some d → Dp K H v d
  | .non, _, _, r, h => by cases r; simp only [toD] at h; cases h; exact .non
  | .bl b, _, _, r, h => by cases r; simp only [toD] at h; cases h; exact .bl b
  | .int i, _, _, r, h => by cases r; simp only [toD] at h; cases h; exact .int i
  | .str x, _, _, r, h => by cases r; simp only [toD] at h; cases h; exact .str x
  | .tup xs, _, _, r, h => by
    cases r with
    | tup hq r =>
      simp only [toD] at h
      split at h
      · rename_i ds e; cases h; exact .tup hq.sq (dps_of xs _ ds r e)
      · cases h
  | .fl xs, _, _, r, h => by
    cases r with
    | fl hq r =>
      simp only [toD] at h
      split at h
      · rename_i ds e; cases h; exact .lst hq.sq (dps_of xs _ ds r e)
      · cases h
  | .ref _, _, _, _, h => by simp only [toD] at h; cases h
  | .ext _, _, _, _, h => by simp only [toD] at h; cases h
  | .fnc _, _, _, _, h => by simp only [toD] at h; cases h
  | .exc _ _ _, _, _, _, h => by simp only [toD] at h; cases h
theorem dps_of : ∀ (ws : List W) (vs : List V) (ds : List PyData), RWs K β H ws vs → toDs ws = some ds → DpAll K H vs ds
  | [], _, _, r, h => by cases r; simp only [toDs] at h; cases h; exact .nil
  | w :: ws, _, _, r, h => by
    cases r with
    | cons r t =>
      simp only [toDs] at h
      split at h
      · rename_i d ds e1 e2; cases h; exact .cons (dp_of w _ d r e1) (dps_of ws _ ds t e2)
      · cases h
end
/-- .. also a list of the store -/
def toDS (w : W) (st : Sto) : Option PyData := match w with
  | .ref i => match st[i]? with
    | some (.lst xs) => match toDs xs with
      | some ds => some (.list ds)
      | none => none
    | _ => none
  | w => toD w
theorem dps_ofS {st : Sto} {w : W} {v : V} {d : PyData} (hS : RS K β H st) (r : RW K β H w v) (h : toDS w st = some d) : Dp K H v d := by
  unfold toDS at h
  split at h
  · rename_i i
    split at h
    · rename_i xs hi
      split at h
      · rename_i ds e
        cases h
        cases r with
        | ref hb =>
          obtain ⟨vs, e1, r⟩ := rs_lst hS hb hi
          exact .lst (SqL.of e1) (dps_of _ _ _ r e)
      · cases h
    · cases h
  · exact dp_of _ _ _ r h
def fEq : W → W → M W := fun x y st => match toDS x st, toDS y st with
  | some d, some e => if (SeqAt.shaped d && SeqAt.shaped e) = true then some (.bl (PyData.eqv d e), st) else none
  | _, _ => none
def fNe : W → W → M W := fun x y st => match toDS x st, toDS y st with
  | some d, some e => if (SeqAt.shaped d && SeqAt.shaped e) = true then some (.bl (!PyData.eqv d e), st) else none
  | _, _ => none
theorem ref_eq : Ref2 K fEq (rEqD K) := by
  intro β H st st' x y w vx vy Q hS rx ry hm k
  unfold fEq at hm
  split at hm
  · rename_i d e hd he
    split at hm
    · rename_i hc
      cases hm
      rw [Bool.and_eq_true] at hc
      exact ⟨d, e, dps_ofS hS rx hd, dps_ofS hS ry he, hc.1, hc.2, k _ H β .refl hS (.bl _)⟩
    · cases hm
  · cases hm
theorem ref_ne : Ref2 K fNe (rNeD K) := by
  intro β H st st' x y w vx vy Q hS rx ry hm k
  unfold fNe at hm
  split at hm
  · rename_i d e hd he
    split at hm
    · rename_i hc
      cases hm
      rw [Bool.and_eq_true] at hc
      exact ⟨d, e, dps_ofS hS rx hd, dps_ofS hS ry he, hc.1, hc.2, k _ H β .refl hS (.bl _)⟩
    · cases hm
  · cases hm
@[simp] def fIsN : W → W → M W := fun x y st => match y with
  | .non => match x with
    | .ext _ => none
    | .non => some (.bl true, st)
    | _ => some (.bl false, st)
  | _ => none
@[simp] def fNotN : W → W → M W := fun x y st => match y with
  | .non => match x with
    | .ext _ => none
    | .non => some (.bl false, st)
    | _ => some (.bl true, st)
  | _ => none
theorem ref_isN : Ref2 K fIsN (fun x y H Q => y = .non ∧ Q (.bl (decide (x = .non))) H) := by
  intro β H st st' x y w vx vy Q hS rx ry hm k
  unfold fIsN at hm
  split at hm
  · refine ⟨ry.non_inv, ?_⟩
    cases rx <;> first | (cases hm; done) | (cases hm; exact k _ H β .refl hS (.bl _))
  · cases hm
theorem ref_notN : Ref2 K fNotN (fun x y H Q => y = .non ∧ Q (.bl (!decide (x = .non))) H) := by
  intro β H st st' x y w vx vy Q hS rx ry hm k
  unfold fNotN at hm
  split at hm
  · refine ⟨ry.non_inv, ?_⟩
    cases rx <;> first | (cases hm; done) | (cases hm; exact k _ H β .refl hS (.bl _))
  · cases hm

/-! ### in -/
@[simp] def flatW : W → Bool
  | .non => true
  | .bl _ => true
  | .int _ => true
  | .str _ => true
  | _ => false
@[simp] def eqW : W → W → Bool
  | .non, .non => true
  | .bl a, .bl b => a == b
  | .bl a, .int b => (if a then 1 else 0) == b
  | .int a, .bl b => a == (if b then 1 else 0)
  | .int a, .int b => a == b
  | .str a, .str b => a == b
  | _, _ => false
theorem flatW_V {w : W} {v : V} (r : RW K β H w v) (h : flatW w = true) : flatV v = true := by cases r <;> first | rfl | cases h
theorem eqW_V {w u : W} {v z : V} (r : RW K β H w v) (r2 : RW K β H u z) (h : flatW w = true) (h2 : flatW u = true) : eqV v z = eqW w u := by
  cases r <;> first | (cases h; done) | (cases r2 <;> first | (cases h2; done) | rfl)
theorem anyW_V {x : W} {vx : V} (rx : RW K β H x vx) (hx : flatW x = true) : ∀ {ws : List W} {vs : List V}, RWs K β H ws vs → ws.all flatW = true → vs.all flatV = true ∧ inV vx vs = ws.any fun y => eqW y x
  | _, _, .nil, _ => ⟨rfl, rfl⟩
  | _, _, .cons r t, h => by
    rw [List.all_cons, Bool.and_eq_true] at h
    obtain ⟨h1, h2⟩ := anyW_V rx hx t h.2
    refine ⟨by rw [List.all_cons, flatW_V r h.1, h1]; rfl, ?_⟩
    unfold inV at h2 ⊢
    rw [List.any_cons, List.any_cons, h2, eqW_V r rx h.1 hx]
@[simp] def itemsOf (w : W) (st : Sto) : Option (List W) := match w with
  | .tup xs => some xs
  | .fl xs => some xs
  | .ref i => match st[i]? with
    | some (.lst xs) => some xs
    | _ => none
  | _ => none
theorem items_ok2 {st : Sto} {w : W} {v : V} {xs : List W} (hS : RS K β H st) (r : RW K β H w v) (h : itemsOf w st = some xs) : ∃ p vs, v = .ref p ∧ (SqL K H p vs ∨ TqT K H p vs) ∧ RWs K β H xs vs := by
  unfold itemsOf at h
  cases r with
  | tup hq r => cases h; exact ⟨_, _, rfl, .inr hq, r⟩
  | fl hq r => cases h; exact ⟨_, _, rfl, .inl hq.sq, r⟩
  | ref hb =>
    dsimp only at h
    split at h
    · rename_i xs hi
      cases h
      obtain ⟨vs, e, r⟩ := rs_lst hS hb hi
      exact ⟨_, _, rfl, .inl (SqL.of e), r⟩
    · cases h
  | _ => cases h
theorem items_ok {st : Sto} {w : W} {v : V} {xs : List W} (hS : RS K β H st) (r : RW K β H w v) (h : itemsOf w st = some xs) : ∃ p vs, v = .ref p ∧ (SqL K H p vs ∨ SqT K H p vs) ∧ RWs K β H xs vs := by
  unfold itemsOf at h
  cases r with
  | tup hq r => cases h; exact ⟨_, _, rfl, .inr hq.sq, r⟩
  | fl hq r => cases h; exact ⟨_, _, rfl, .inl hq.sq, r⟩
  | ref hb =>
    dsimp only at h
    split at h
    · rename_i xs hi
      cases h
      obtain ⟨vs, e, r⟩ := rs_lst hS hb hi
      exact ⟨_, _, rfl, .inl (SqL.of e), r⟩
    · cases h
  | _ => cases h
@[simp] def fInB (neg : Bool) : W → W → M W := fun x y st => match itemsOf y st with
  | some xs => if (flatW x && xs.all flatW) = true then some (.bl (if neg = true then !(xs.any fun y => eqW y x) else xs.any fun y => eqW y x), st) else none
  | none => none
theorem ref_in {neg : Bool} : Ref2 K (fInB neg) (rIn K neg) := by
  intro β H st st' x y w vx vy Q hS rx ry hm k
  unfold fInB at hm
  split at hm
  · rename_i xs hi
    split at hm
    · rename_i hc
      cases hm
      rw [Bool.and_eq_true] at hc
      obtain ⟨p, vs, rfl, hq, r⟩ := items_ok hS ry hi
      obtain ⟨h1, h2⟩ := anyW_V rx hc.1 r hc.2
      refine ⟨p, vs, rfl, hq, flatW_V rx hc.1, h1, ?_⟩
      rw [h2]
      exact k _ H β .refl hS (.bl _)
    · cases hm
  · cases hm

/-! ### built-in functions -/
@[simp] def bLen : List W → M W := fun xs st => match xs with
  | [w] => match itemsOf w st with
    | some ys => some (.int ys.length, st)
    | none => none
  | _ => none
theorem rws1 {x : W} {vs : List V} (r : RWs K β H [x] vs) : ∃ v, vs = [v] ∧ RW K β H x v := by
  cases r with
  | cons r t => cases t; exact ⟨_, rfl, r⟩
theorem rws2 {x y : W} {vs : List V} (r : RWs K β H [x, y] vs) : ∃ v u, vs = [v, u] ∧ RW K β H x v ∧ RW K β H y u := by
  cases r with
  | cons r t =>
    cases t with
    | cons r2 t => cases t; exact ⟨_, _, rfl, r, r2⟩
theorem ref_len : RefN K bLen (fun xs H Q => ∃ p ys, xs = [.ref p] ∧ (SqL K H p ys ∨ SqT K H p ys) ∧ Q (.int ys.length) H) := by
  intro β H st st' xs w vs Q hS r hm k
  unfold bLen at hm
  split at hm
  · rename_i x
    split at hm
    · rename_i ys hi
      cases hm
      obtain ⟨v, rfl, rx⟩ := rws1 r
      obtain ⟨p, us, rfl, hq, ru⟩ := items_ok hS rx hi
      refine ⟨p, us, rfl, hq, ?_⟩
      rw [← ru.length]
      exact k _ H β .refl hS (.int _)
    · cases hm
  · cases hm
@[simp] def bInt : List W → M W := fun xs st => match xs with
  | [.int i] => some (.int i, st)
  | [.bl b] => some (.int (if b then 1 else 0), st)
  | _ => none
theorem ref_int : RefN K bInt (fun xs H Q => (∃ i, xs = [.int i] ∧ Q (.int i) H) ∨ ∃ k, xs = [.bl k] ∧ Q (.int (if k then 1 else 0)) H) := by
  intro β H st st' xs w vs Q hS r hm k
  unfold bInt at hm
  split at hm
  · rename_i i
    cases hm
    obtain ⟨v, rfl, rx⟩ := rws1 r
    exact .inl ⟨i, by rw [rx.int_inv], k _ H β .refl hS (.int _)⟩
  · rename_i b
    cases hm
    obtain ⟨v, rfl, rx⟩ := rws1 r
    exact .inr ⟨b, by rw [rx.bl_inv], k _ H β .refl hS (.int _)⟩
  · cases hm
@[simp] def bAbs : List W → M W := fun xs st => match xs with
  | [.int i] => some (.int (if i < 0 then -i else i), st)
  | _ => none
theorem ref_abs : RefN K bAbs (fun xs H Q => ∃ i, xs = [.int i] ∧ Q (.int (if i < 0 then -i else i)) H) := by
  intro β H st st' xs w vs Q hS r hm k
  unfold bAbs at hm
  split at hm
  · rename_i i
    cases hm
    obtain ⟨v, rfl, rx⟩ := rws1 r
    exact ⟨i, by rw [rx.int_inv], k _ H β .refl hS (.int _)⟩
  · cases hm
def intsW : List W → Option (List Int)
  | [] => some []
  | .int i :: r => match intsW r with
    | some is => some (i :: is)
    | none => none
  | _ => none
theorem ints_ok : ∀ {ws : List W} {vs : List V} {is : List Int}, RWs K β H ws vs → intsW ws = some is → vs = is.map V.int
  | [], _, _, .nil, h => by cases h; rfl
  | .int i :: ws, _, _, .cons r t, h => by
    simp only [intsW] at h
    split at h
    · rename_i is e
      cases h
      rw [ints_ok t e, r.int_inv]; rfl
    · cases h
  | .non :: _, _, _, _, h => by simp only [intsW] at h; cases h
  | .bl _ :: _, _, _, _, h => by simp only [intsW] at h; cases h
  | .str _ :: _, _, _, _, h => by simp only [intsW] at h; cases h
  | .tup _ :: _, _, _, _, h => by simp only [intsW] at h; cases h
  | .fl _ :: _, _, _, _, h => by simp only [intsW] at h; cases h
  | .ref _ :: _, _, _, _, h => by simp only [intsW] at h; cases h
  | .ext _ :: _, _, _, _, h => by simp only [intsW] at h; cases h
def boolsW : List W → Option (List Bool)
  | [] => some []
  | .bl i :: r => match boolsW r with
    | some is => some (i :: is)
    | none => none
  | _ => none
theorem bools_ok : ∀ {ws : List W} {vs : List V} {is : List Bool}, RWs K β H ws vs → boolsW ws = some is → vs = is.map V.bl
  | [], _, _, .nil, h => by cases h; rfl
  | .bl i :: ws, _, _, .cons r t, h => by
    simp only [boolsW] at h
    split at h
    · rename_i is e
      cases h
      rw [bools_ok t e, r.bl_inv]; rfl
    · cases h
  | .non :: _, _, _, _, h => by simp only [boolsW] at h; cases h
  | .int _ :: _, _, _, _, h => by simp only [boolsW] at h; cases h
  | .str _ :: _, _, _, _, h => by simp only [boolsW] at h; cases h
  | .tup _ :: _, _, _, _, h => by simp only [boolsW] at h; cases h
  | .fl _ :: _, _, _, _, h => by simp only [boolsW] at h; cases h
  | .ref _ :: _, _, _, _, h => by simp only [boolsW] at h; cases h
  | .ext _ :: _, _, _, _, h => by simp only [boolsW] at h; cases h
/-- the items of a list -/
@[simp] def listOf (w : W) (st : Sto) : Option (List W) := match w with
  | .fl xs => some xs
  | .ref i => match st[i]? with
    | some (.lst xs) => some xs
    | _ => none
  | _ => none
theorem list_ok {st : Sto} {w : W} {v : V} {xs : List W} (hS : RS K β H st) (r : RW K β H w v) (h : listOf w st = some xs) : ∃ p vs, v = .ref p ∧ SqL K H p vs ∧ RWs K β H xs vs := by
  unfold listOf at h
  cases r with
  | fl hq r => cases h; exact ⟨_, _, rfl, hq.sq, r⟩
  | ref hb =>
    dsimp only at h
    split at h
    · rename_i xs hi
      cases h
      obtain ⟨vs, e, r⟩ := rs_lst hS hb hi
      exact ⟨_, _, rfl, SqL.of e, r⟩
    · cases h
  | _ => cases h
@[simp] def bSum : List W → M W := fun xs st => match xs with
  | [w] => match listOf w st with
    | some ys => match intsW ys with
      | some is => some (.int is.sum, st)
      | none => none
    | none => none
  | _ => none
theorem ref_sum : RefN K bSum (rSum K) := by
  intro β H st st' xs w vs Q hS r hm k
  unfold bSum at hm
  split at hm
  · split at hm
    · rename_i ys hi
      split at hm
      · rename_i is hj
        cases hm
        obtain ⟨v, rfl, rx⟩ := rws1 r
        obtain ⟨p, us, rfl, hq, ru⟩ := list_ok hS rx hi
        rw [ints_ok ru hj] at hq
        exact ⟨p, is, rfl, hq, k _ H β .refl hS (.int _)⟩
      · cases hm
    · cases hm
  · cases hm
@[simp] def bAll : List W → M W := fun xs st => match xs with
  | [w] => match listOf w st with
    | some ys => match boolsW ys with
      | some is => some (.bl (is.all id), st)
      | none => none
    | none => none
  | _ => none
@[simp] def bAny : List W → M W := fun xs st => match xs with
  | [w] => match listOf w st with
    | some ys => match boolsW ys with
      | some is => some (.bl (is.any id), st)
      | none => none
    | none => none
  | _ => none
theorem ref_all : RefN K bAll (rAll K) := by
  intro β H st st' xs w vs Q hS r hm k
  unfold bAll at hm
  split at hm
  · split at hm
    · rename_i ys hi
      split at hm
      · rename_i is hj
        cases hm
        obtain ⟨v, rfl, rx⟩ := rws1 r
        obtain ⟨p, us, rfl, hq, ru⟩ := list_ok hS rx hi
        rw [bools_ok ru hj] at hq
        exact ⟨p, is, rfl, hq, k _ H β .refl hS (.bl _)⟩
      · cases hm
    · cases hm
  · cases hm
theorem ref_any : RefN K bAny (rAny K) := by
  intro β H st st' xs w vs Q hS r hm k
  unfold bAny at hm
  split at hm
  · split at hm
    · rename_i ys hi
      split at hm
      · rename_i is hj
        cases hm
        obtain ⟨v, rfl, rx⟩ := rws1 r
        obtain ⟨p, us, rfl, hq, ru⟩ := list_ok hS rx hi
        rw [bools_ok ru hj] at hq
        exact ⟨p, is, rfl, hq, k _ H β .refl hS (.bl _)⟩
      · cases hm
    · cases hm
  · cases hm
@[simp] def bList : List W → M W := fun xs st => match xs with
  | [w] => match itemsOf w st with
    | some ys => some (.ref st.length, st ++ [.lst ys])
    | none => none
  | _ => none
theorem ref_list : RefN K bList (fun xs H Q => ∃ p ys, xs = [.ref p] ∧ (SqL K H p ys ∨ SqT K H p ys) ∧ ∀ l, H l = none → Q (.ref l) (upd H l (.lst ys))) := by
  intro β H st st' xs w vs Q hS r hm k
  unfold bList at hm
  split at hm
  · split at hm
    · rename_i ys hi
      cases hm
      obtain ⟨v, rfl, rx⟩ := rws1 r
      obtain ⟨p, us, rfl, hq, ru⟩ := items_ok hS rx hi
      refine ⟨p, us, rfl, hq, fun l hl => ?_⟩
      have e : Ext β H (β ++ [l]) (upd H l (.lst us)) := Ext.alloc hl
      exact k _ _ _ e (hS.alloc hl ⟨_, upd_same, ru.ext e⟩) (.ref (alloc_ix hS))
    · cases hm
  · cases hm
@[simp] def bTuple : List W → M W := fun xs st => match xs with
  | [w] => match itemsOf w st with
    | some ys => some (.tup ys, st)
    | none => none
  | _ => none
theorem ref_tuple : RefN K bTuple (fun xs H Q => ∃ p ys, xs = [.ref p] ∧ ((SqL K H p ys ∧ ∀ l, H l = none → Q (.ref l) (upd H l (.tup ys))) ∨ (SqT K H p ys ∧ Q (.ref p) H))) := by
  intro β H st st' xs w vs Q hS r hm k
  unfold bTuple at hm
  split at hm
  · split at hm
    · rename_i ys hi
      cases hm
      obtain ⟨v, rfl, rx⟩ := rws1 r
      obtain ⟨p, us, rfl, hq, ru⟩ := items_ok2 hS rx hi
      refine ⟨p, us, rfl, ?_⟩
      rcases hq with hq | hq
      · refine .inl ⟨hq, fun l hl => ?_⟩
        have e : Ext β H β (upd H l (.tup us)) := Ext.new hl
        exact k _ _ _ e (hS.new hl) (.tup (.inl upd_same) (ru.ext e))
      · exact .inr ⟨hq.sq, k _ H β .refl hS (.tup hq ru)⟩
    · cases hm
  · cases hm

/-! ### isinstance -/
def tyW (w : W) (st : Sto) : Option String := match w with
  | .non => some "NoneType"
  | .bl _ => some "bool"
  | .int _ => some "int"
  | .str _ => some "str"
  | .tup _ => some "tuple"
  | .fl _ => some "list"
  | .ref i => match st[i]? with
    | some (.lst _) => some "list"
    | some (.dct _) => some "dict"
    | some (.dtt _) => some "dict"
    | _ => none
  | .ext _ => none
  | .fnc _ => none
  | .exc _ _ _ => none
theorem tyW_ok {st : Sto} {w : W} {v : V} {t : String} (hS : RS K β H st) (r : RW K β H w v) (h : tyW w st = some t) : TyX K H v (.type t) := by
  unfold tyW at h
  cases r with
  | non => cases h; exact .base .non
  | bl b => cases h; exact .base (.bl b)
  | int b => cases h; exact .base (.int b)
  | str b => cases h; exact .base (.str b)
  | tup hq r =>
    cases h
    rcases hq with hq | ⟨⟨o, its, n, hk, hc, _⟩, _⟩
    · exact .base (.tup hq)
    · exact .kTuple hk hc
  | fl hq r =>
    cases h
    rcases hq with ⟨o, hq⟩ | ⟨o, its, n, hk, hc, _⟩
    · exact .base (.frz hq)
    · exact .kList hk hc
  | ref hb =>
    dsimp only at h
    split at h
    · rename_i xs hi
      cases h
      obtain ⟨vs, e, _⟩ := rs_lst hS hb hi
      exact .base (.lst e)
    · rename_i xs hi
      cases h
      obtain ⟨vs, e, _⟩ := rs_dct hS hb hi
      exact .base (.dK e)
    · rename_i xs hi
      cases h
      obtain ⟨vs, e, _⟩ := rs_dtt hS hb hi
      exact .base (.dT e)
    · cases h
  | ext _ => cases h
  | fnc _ => cases h
  | exc0 _ _ => cases h
  | exc1 _ _ _ _ => cases h
def bIsi : List W → M W := fun xs st => match xs with
  | [w, .ext (.ty T)] => match tyW w st with
    | some t => match kitB t T with
      | some b => some (.bl b, st)
      | none => none
    | none => none
  | _ => none
theorem ref_isi : RefN K bIsi (rIsi K) := by
  intro β H st st' xs w vs Q hS r hm k
  unfold bIsi at hm
  split at hm
  · rename_i x T
    split at hm
    · rename_i t ht
      split at hm
      · rename_i b hb
        cases hm
        obtain ⟨v, u, rfl, rx, ru⟩ := rws2 r
        cases ru
        exact ⟨v, .ty T, .type t, .type T, b, rfl, .ty T, tyW_ok hS rx ht, kit_ty hb, k _ H β .refl hS (.bl b)⟩
      · cases hm
    · cases hm
  · cases hm
end

/-! ### items, slices -/
section
variable {K : PySem.W.Frag}
@[simp] def fIx : W → W → M W := fun x y st => match y with
  | .int i => match itemsOf x st with
    | some xs => match atI xs i with
      | some w => some (w, st)
      | none => none
    | none => none
  | _ => none
theorem atI_rws {β : List Addr} {H : Hp} {ws : List W} {vs : List V} {i : Int} {w : W} (r : RWs K β H ws vs) (h : atI ws i = some w) : ∃ v, atI vs i = some v ∧ RW K β H w v := by
  unfold atI at h ⊢
  rw [← r.length]
  cases e : ixN ws.length i with
  | none => rw [e] at h; cases h
  | some j =>
    rw [e] at h
    exact r.get h
theorem ref_ix : Ref2 K fIx (rIx K) := by
  intro β H st st' x y w vx vy Q hS rx ry hm k
  unfold fIx at hm
  split at hm
  · rename_i i
    split at hm
    · rename_i xs hi
      split at hm
      · rename_i z hz
        cases hm
        obtain ⟨p, us, rfl, hq, ru⟩ := items_ok hS rx hi
        obtain ⟨v, hv, rv⟩ := atI_rws ru hz
        rcases hq with hq | hq
        · exact .inl ⟨p, us, i, v, rfl, ry.int_inv, hq, hv, k _ H β .refl hS rv⟩
        · exact .inr (.inl ⟨p, us, i, v, rfl, ry.int_inv, hq, hv, k _ H β .refl hS rv⟩)
      · cases hm
    · cases hm
  · cases hm
abbrev OM := En → M (Option Int)
@[simp] def oNone : OM := fun _ => ret none
@[simp] def oSome (e : EM) : OM := fun env => bnd (e env) fun w st => match w with
  | .int i => some (some i, st)
  | _ => none
def tMO (K : PySem.W.Frag) (m : OM) : TO := fun σ H Q => ∃ β st env o st', RE K β H env σ ∧ RS K β H st ∧ m env st = some (o, st') ∧
  ∀ H' β', Ext β H β' H' → RS K β' H' st' → Q o H'
structure SO' (X : Cx) (e : Option Expr) (m : OM) : Prop where
  po : PO X e (tMO X.K m)
def cutW (xs : List W) (lo hi : Option Int) : List W := (xs.drop (HT.sIx xs.length 0 lo)).take (HT.sIx xs.length xs.length hi - HT.sIx xs.length 0 lo)
theorem cut_rws {β : List Addr} {H : Hp} {ws : List W} {vs : List V} (r : RWs K β H ws vs) (lo hi : Option Int) : RWs K β H (cutW ws lo hi) (cutV vs lo hi) := by
  unfold cutW cutV
  rw [← r.length]
  exact (r.drop _).take _
@[simp] def fSl (x : W) (lo hi : Option Int) : M W := fun st => match x with
  | .tup xs => some (.tup (cutW xs lo hi), st)
  | .fl xs => some (.ref st.length, st ++ [.lst (cutW xs lo hi)])
  | .ref i => match st[i]? with
    | some (.lst xs) => some (.ref st.length, st ++ [.lst (cutW xs lo hi)])
    | _ => none
  | _ => none
@[simp] def eSl (e : EM) (lo hi : OM) : EM := fun env => bnd (e env) fun x => bnd (lo env) fun l => bnd (hi env) fun h => fSl x l h
section
variable {X : Cx}
theorem POimp {e : Option Expr} {t t' : TO} (h : PO X e t) (i : ∀ σ H Q, t' σ H Q → t σ H Q) : PO X e t' := ⟨fun pins s σ H Q I hq => h.run pins s σ H Q I (i σ H Q hq)⟩
theorem so_none : SO' X none oNone := ⟨POimp po_none fun σ H Q ⟨β, st, env, o, st', hE, hS, hm, k⟩ => by cases hm; exact k H β .refl hS⟩
theorem so_some {e : Expr} {m : EM} (h : SE X e m) : SO' X (some e) (oSome m) := by
  refine ⟨POimp (po_some h.pe) ?_⟩
  rintro σ H Q ⟨β, st, env, o, st', hE, hS, hm, k⟩
  obtain ⟨w, st1, h1, h2⟩ := bnd_some hm
  refine ⟨β, st, env, w, st1, hE, hS, h1, fun v H1 β1 e1 s1 r1 => ?_⟩
  split at h2
  · rename_i i
    cases h2
    exact ⟨i, r1.int_inv, k H1 β1 e1 s1⟩
  · cases h2
theorem se_ix {a b : Expr} {ma mb : EM} {pos : Pos} (ha : SE X a ma) (hb : SE X b mb) (hs : PlainIx b := by exact fun _ _ => rfl) : SE X (.Subscript a b pos) (eOp fIx ma mb) :=
  ⟨PEimp (pe_ix ix_seq ha.pe hb.pe hs) fun _ _ _ h => tM_op ref_ix h⟩
theorem se_slice {e : Expr} {lo hi : Option Expr} {p2 pos : Pos} {m : EM} {l h : OM} (he : SE X e m) (hl : SO' X lo l) (hh : SO' X hi h) : SE X (.Subscript e (.Slice lo hi none p2) pos) (eSl m l h) := by
  refine ⟨PEimp (pe_slice (sl_list.or sl_tupA) he.pe hl.po hh.po) ?_⟩
  rintro σ H Q ⟨β, st, env, w, st', hE, hS, hm, k⟩
  obtain ⟨x, st1, h1, h2⟩ := bnd_some hm
  obtain ⟨o1, st2, h3, h4⟩ := bnd_some h2
  obtain ⟨o2, st3, h5, h6⟩ := bnd_some h4
  refine ⟨β, st, env, x, st1, hE, hS, h1, fun v H1 β1 e1 s1 r1 => ⟨β1, st1, env, o1, st2, hE.ext e1, s1, h3, fun H2 β2 e2 s2 => ⟨β2, st2, env, o2, st3, (hE.ext e1).ext e2, s2, h5, fun H3 β3 e3 s3 => ?_⟩⟩⟩
  have rx := (r1.ext' e2).ext' e3
  have k' := fun v H' β' e s r => k v H' β' (((e1.trans e2).trans e3).trans e) s r
  unfold fSl at h6
  cases rx with
  | @tup a xs vs hq r =>
    cases h6
    refine .inr ⟨a, vs, rfl, hq.sq, fun hw => ?_, fun _ p hf => ?_⟩
    · have : cutW xs o1 o2 = xs := by
        unfold cutW
        rw [← r.length] at hw
        rw [hw.1, hw.2]
        simp
      rw [this] at k'
      exact k' _ H3 β3 .refl s3 (.tup hq r)
    · have e : Ext β3 H3 β3 (upd H3 p (.tup (cutV vs o1 o2))) := Ext.new hf
      exact k' _ _ β3 e (s3.new hf) (.tup (.inl upd_same) ((cut_rws r _ _).ext e))
  | @fl a xs vs hq r =>
    cases h6
    refine .inl ⟨a, vs, rfl, hq.sq, fun p hf => ?_⟩
    have e : Ext β3 H3 (β3 ++ [p]) (upd H3 p (.lst (cutV vs o1 o2))) := Ext.alloc hf
    exact k' _ _ _ e (s3.alloc hf ⟨_, upd_same, (cut_rws r _ _).ext e⟩) (.ref (alloc_ix s3))
  | @ref i a hb =>
    dsimp only at h6
    split at h6
    · rename_i xs hi
      cases h6
      obtain ⟨vs, e2', r⟩ := rs_lst s3 hb hi
      refine .inl ⟨a, vs, rfl, SqL.of e2', fun p hf => ?_⟩
      have e : Ext β3 H3 (β3 ++ [p]) (upd H3 p (.lst (cutV vs o1 o2))) := Ext.alloc hf
      exact k' _ _ _ e (s3.alloc hf ⟨_, upd_same, (cut_rws r _ _).ext e⟩) (.ref (alloc_ix s3))
    · cases h6
  | _ => cases h6
end
end
end B

set_option Elab.async false
set_option linter.all false
set_option maxRecDepth 100000
namespace B
open PySem PySem.Spec L2
set_option autoImplicit false

/-! ### a list is extended by a tuple -/
theorem list_extend_tup (l : Addr) (items : Array Value) (n : Nat) (b : Addr) (dd : Option Addr) (items2 : Array Value) (n2 : Nat) (sl : Array (Option Value)) (hs0 : ¬(!items.isEmpty && Builtin.List.listTooLong (items.size + items2.size)) = true) (hs1 : items.size ≤ sizeLine) (hs2 : items.size + items2.size ≤ sizeLine + 1) :
    Meets (Builtin.«list.extend» ⟨[.ref l, .ref b], []⟩) (fun _ R s => s.heap.get? l = some { cls := .type "list", dict := none, data := .seq items n, slots := #[] } ∧ s.heap.get? b = some { cls := .type "tuple", dict := dd, data := .seq items2 n2, slots := sl } ∧ R (.ok (.ret Value.none)) { s with heap := s.heap.update l (Obj.mapSeq fun x => x ++ items2), toks := s.toks }) :=
  .of_wp fun prog w A R s h => by
    obtain ⟨hp, g, d, tk, os⟩ := s; obtain ⟨hl, hb, h⟩ := h; have f1 := AutoSeq1.idx_int; have f2 := AutoSeq1.sub_tuple_tuple; have f3 := AutoSeq1.sub_list_list; have f4 := AutoSeq1.sub_tuple_list; have f5 := AutoSeq1.sub_list_tuple;
    have hz' : (items ++ items2).size ≤ sizeLine + 1 := by rw [Array.size_append]; exact hs2
    wp_walk using (wpAny_updateSeq hl rfl (hz := hs1) (_hz' := hz')), wpAny_loadPart' hl, wpAny_loadPart' hb; exact ⟨_, rfl, h⟩
def rExtT (K : PySem.W.Frag) : V → List V → Hp → VK → Prop := fun x vs H Q => ∃ l b xs zs, x = .ref l ∧ vs = [.ref b] ∧ H l = some (.lst xs) ∧ SqT K H b zs ∧ xs.length + zs.length ≤ sizeLine ∧ Q .non (upd H l (.lst (xs ++ zs)))
section
variable {X : Cx}
theorem mt_extT : MtR X "list.extend" (rExtT X.K) := by
  intro pins s σ H x vs v us Q I rx rv h
  obtain ⟨l, b, xs, zs, rfl, rfl, hH, hB, hz, q⟩ := h
  cases rx
  obtain ⟨u, rfl, ru⟩ := rv.one
  cases ru
  obtain ⟨z, its, n, r, hl, e⟩ := I.lstM hH
  obtain ⟨its2, r2, ⟨⟨c2, d2, data2, sl2⟩, e2, hc2, n2, hd2⟩, _⟩ := I.tuple hB
  dsimp only at hc2 hd2
  subst hc2 hd2
  have hl2 := r2.length
  have hsz : its.toArray.size + its2.toArray.size ≤ sizeLine := by rw [List.size_toArray, List.size_toArray]; omega
  have hlong : ¬ (!its.toArray.isEmpty && Builtin.List.listTooLong (its.toArray.size + its2.toArray.size)) = true := by
    rw [notLongL hsz, Bool.and_false]
    exact Bool.false_ne_true
  refine call_meets F.slot_list_extend ⟨_, e, rfl⟩ F.entry_list_extend (F.args_list_extend_2 _ _)
    (list_extend_tup l its.toArray n b d2 its2.toArray n2 sl2 hlong (by rw [List.size_toArray]; omega) (by omega)) ⟨e, e2, ?_⟩
  refine ⟨.non, _, I.lset (its' := its ++ its2) hH e (by simp) (r.append r2) ?_, rfl, q⟩
  rw [List.length_append]
  omega
end

/-! ### methods of lists -/
@[simp] def chkL (x : W) : M Unit := fun st => match listOf x st with
  | some _ => some ((), st)
  | none => none
@[simp] def eMeth (f : W → List W → M W) (o : EM) (a : AM) : EM := fun env => bnd (o env) fun x => bnd (chkL x) fun _ => bnd (a env) fun xs => f x xs
@[simp] def mApp : W → List W → M W := fun x xs st => match x, xs with
  | .ref i, [y] => match st[i]? with
    | some (.lst ys) => if sml (ys.length + 1) = true then some (.non, st.set i (.lst (ys ++ [y]))) else none
    | _ => none
  | _, _ => none
@[simp] def mPop : W → List W → M W := fun x xs st => match x, xs with
  | .ref i, [] => match st[i]? with
    | some (.lst ys) => match ys[ys.length - 1]? with
      | some y => some (y, st.set i (.lst ys.dropLast))
      | none => none
    | _ => none
  | _, _ => none
@[simp] def mPopAt : W → List W → M W := fun x xs st => match x, xs with
  | .ref i, [.int k] => match st[i]? with
    | some (.lst ys) => match seqIndex? k ys.length with
      | some j => match ys[j]? with
        | some y => if decide (-(2 ^ 63) ≤ k ∧ k < 2 ^ 63) = true then some (y, st.set i (.lst (ys.eraseIdx j))) else none
        | none => none
      | none => none
    | _ => none
  | _, _ => none
@[simp] def mExt : W → List W → M W := fun x xs st => match x, xs with
  | .ref i, [.ref j] => match st[i]?, st[j]? with
    | some (.lst ys), some (.lst zs) => if sml (ys.length + zs.length) = true then some (.non, st.set i (.lst (ys ++ zs))) else none
    | _, _ => none
  | .ref i, [.tup zs] => match st[i]? with
    | some (.lst ys) => if sml (ys.length + zs.length) = true then some (.non, st.set i (.lst (ys ++ zs))) else none
    | _ => none
  | _, _ => none
def RefM (K : PySem.W.Frag) (f : W → List W → M W) (r : V → List V → Hp → VK → Prop) : Prop := ∀ (β : List Addr) (H : Hp) (st st' : Sto) (x : W) (xs : List W) (w : W) (vx : V) (vs : List V) (Q : VK), RS K β H st → RW K β H x vx → RWs K β H xs vs → f x xs st = some (w, st') →
  (∀ v H' β', Ext β H β' H' → RS K β' H' st' → RW K β' H' w v → Q v H') → r vx vs H Q
section
variable {K : PySem.W.Frag}
theorem chg_lst {β : List Addr} {H : Hp} {st : Sto} (hS : RS K β H st) {i : Nat} {a : Addr} {ys zs : List W} {vs us : List V} (ha : β[i]? = some a) (hi : st[i]? = some (.lst ys)) (e : H a = some (.lst vs)) (r : RWs K β H zs us) :
    Ext β H β (upd H a (.lst us)) ∧ RS K β (upd H a (.lst us)) (st.set i (.lst zs)) := by
  have ec : Ext β H β (upd H a (.lst us)) := Ext.chg e (fun _ z => (nomatch z)) (fun _ _ z => (nomatch z))
  exact hS.chg hi ha (u := .lst us) (o' := .lst zs) ⟨_, upd_same, r.ext ec⟩
theorem ref_mApp : RefM K mApp rAppend := by
  intro β H st st' x xs w vx vs Q hS rx r hm k
  unfold mApp at hm
  split at hm
  · rename_i i y
    split at hm
    · rename_i ys hi
      split at hm
      · rename_i hz
        cases hm
        cases rx with
        | @ref i a hb =>
          obtain ⟨v, rfl, ry⟩ := rws1 r
          obtain ⟨us, e, ru⟩ := rs_lst hS hb hi
          have hl := ru.length
          have hz := sml_line hz
          obtain ⟨ec, sc⟩ := chg_lst hS hb hi e (ru.snoc ry)
          exact ⟨a, us, v, rfl, rfl, e, by omega, k _ _ β ec sc .non⟩
      · cases hm
    · cases hm
  · cases hm
theorem ref_mPop : RefM K mPop rPop := by
  intro β H st st' x xs w vx vs Q hS rx r hm k
  unfold mPop at hm
  split at hm
  · rename_i i
    split at hm
    · rename_i ys hi
      split at hm
      · rename_i y hy
        cases hm
        cases rx with
        | @ref i a hb =>
          cases r
          obtain ⟨us, e, ru⟩ := rs_lst hS hb hi
          have hl := ru.length
          obtain ⟨v, hv, rv⟩ := ru.get hy
          obtain ⟨ec, sc⟩ := chg_lst hS hb hi e ru.dropLast
          exact ⟨a, us, v, rfl, rfl, e, by rw [← hl]; exact hv, k _ _ β ec sc (rv.ext' ec)⟩
      · cases hm
    · cases hm
  · cases hm
theorem ref_mPopAt : RefM K mPopAt rPopAt := by
  intro β H st st' x xs w vx vs Q hS rx r hm k
  unfold mPopAt at hm
  split at hm
  · rename_i i kk
    split at hm
    · rename_i ys hi
      split at hm
      · rename_i j hj
        split at hm
        · rename_i y hy
          split at hm
          · rename_i hc
            cases hm
            have hc := of_decide_eq_true hc
            cases rx with
            | @ref i a hb =>
              obtain ⟨z, rfl, rz⟩ := rws1 r
              obtain ⟨us, e, ru⟩ := rs_lst hS hb hi
              have hl := ru.length
              obtain ⟨v, hv, rv⟩ := ru.get hy
              obtain ⟨ec, sc⟩ := chg_lst hS hb hi e (ru.eraseIdx j)
              exact ⟨a, us, kk, j, v, rfl, by rw [rz.int_inv], e, hc.1, hc.2, by rw [← hl]; exact hj, hv, k _ _ β ec sc (rv.ext' ec)⟩
          · cases hm
        · cases hm
      · cases hm
    · cases hm
  · cases hm
theorem ref_mExt : RefM K mExt (fun x vs H Q => rExtend x vs H Q ∨ rExtT K x vs H Q) := by
  intro β H st st' x xs w vx vs Q hS rx r hm k
  unfold mExt at hm
  split at hm
  · rename_i i j
    split at hm
    · rename_i ys zs hi hj
      split at hm
      · rename_i hz
        cases hm
        cases rx with
        | @ref i a hb =>
          obtain ⟨v, rfl, ry⟩ := rws1 r
          cases ry with
          | @ref j b hb2 =>
            obtain ⟨us, e, ru⟩ := rs_lst hS hb hi
            obtain ⟨ts, e2, rt⟩ := rs_lst hS hb2 hj
            have hl := ru.length
            have hl2 := rt.length
            have hz := sml_line hz
            obtain ⟨ec, sc⟩ := chg_lst hS hb hi e (ru.append rt)
            exact .inl ⟨a, b, us, ts, rfl, rfl, e, e2, by omega, k _ _ β ec sc .non⟩
      · cases hm
    · cases hm
  · rename_i i zs
    split at hm
    · rename_i ys hi
      split at hm
      · rename_i hz
        cases hm
        cases rx with
        | @ref i a hb =>
          obtain ⟨v, rfl, ry⟩ := rws1 r
          cases ry with
          | @tup b _ ts hq rt =>
            obtain ⟨us, e, ru⟩ := rs_lst hS hb hi
            have hl := ru.length
            have hl2 := rt.length
            have hz := sml_line hz
            obtain ⟨ec, sc⟩ := chg_lst hS hb hi e (ru.append rt)
            exact .inr ⟨a, b, us, ts, rfl, rfl, e, hq.sq, by omega, k _ _ β ec sc .non⟩
      · cases hm
    · cases hm
  · cases hm
end
section
variable {X : Cx}
theorem chkL_ok {β : List Addr} {H : Hp} {st st' : Sto} {x : W} {v : V} {u : Unit} (hS : RS X.K β H st) (r : RW X.K β H x v) (h : chkL x st = some (u, st')) : st' = st ∧ tyV X.K "list" v H := by
  unfold chkL at h
  split at h
  · rename_i xs e
    cases h
    obtain ⟨p, vs, rfl, hq, _⟩ := list_ok hS r e
    exact ⟨rfl, .inl ⟨rfl, _, hq⟩⟩
  · cases h
theorem se_meth {o e : Expr} {es : List Expr} {name : Str} {apos cpos : Pos} {id : String} {f : W → List W → M W} {r : V → List V → Hp → VK → Prop} {mo : EM} {ma : AM} (slot : Slot "list" name id) (hty : typeOf (.builtin id) = pure (.type "method_descriptor")) (hm : MtR X id r) (hf : RefM X.K f r) (ho : SE X o mo) (ha : SA X (e :: es) ma)
    (hbase : attributeBase o name X.env (eval o X.env) = eval o X.env := by rfl)
    (hfew : ((backTo cpos (starEach (e :: es) X.env)).all (fun x => !x.1) && (backToKw cpos (keywordEach [] X.env)).all (fun x => x.1.isSome)
      && decide ((e :: es).length + ([] : List Keyword).length + (if ([] : List Keyword).isEmpty then 0 else 1) < 30)) = true := by rfl)
    (hline : (apos.endLine == cpos.line) = true := by rfl) (hs : starEach (e :: es) X.env = (false, eval e X.env) :: starEach es X.env := by rfl) (hplain : (backTo cpos (starEach es X.env)).any (·.1) = false := by rfl) :
    SE X (.Call (.Attribute o name apos) (e :: es) [] cpos) (eMeth f mo ma) := by
  refine ⟨PEimp (pe_bm PySem.F.plainAttrs_list slot hty hm ho.pe ha.pa hbase hfew hline hs hplain) ?_⟩
  rintro σ H Q ⟨β, st, env, w, st', hE, hS, hm, k⟩
  obtain ⟨x, st1, h1, h2⟩ := bnd_some hm
  obtain ⟨_, st2, h3, h4⟩ := bnd_some h2
  obtain ⟨xs, st3, h5, h6⟩ := bnd_some h4
  refine ⟨β, st, env, x, st1, hE, hS, h1, fun v H1 β1 e1 s1 r1 => ?_⟩
  obtain ⟨rfl, ty⟩ := chkL_ok s1 r1 h3
  refine ⟨ty, β1, _, env, xs, st3, hE.ext e1, s1, h5, fun vs H2 β2 e2 s2 r2 => ?_⟩
  exact hf β2 H2 st3 st' x xs w v vs Q s2 (r1.ext' e2) r2 h6 fun z H3 β3 e3 s3 r3 => k z H3 β3 ((e1.trans e2).trans e3) s3 r3
theorem se_meth0 {o : Expr} {name : Str} {apos cpos : Pos} {id : String} {f : W → List W → M W} {r : V → List V → Hp → VK → Prop} {mo : EM} (slot : Slot "list" name id) (hty : typeOf (.builtin id) = pure (.type "method_descriptor")) (hm : MtR X id r) (hf : RefM X.K f r) (ho : SE X o mo)
    (hbase : attributeBase o name X.env (eval o X.env) = eval o X.env := by rfl) (hline : (apos.endLine == cpos.line) = true := by rfl) : SE X (.Call (.Attribute o name apos) [] [] cpos) (eMeth f mo aNil) := by
  refine ⟨PEimp (pe_bm0 PySem.F.plainAttrs_list slot hty hm ho.pe hbase hline) ?_⟩
  rintro σ H Q ⟨β, st, env, w, st', hE, hS, hm, k⟩
  obtain ⟨x, st1, h1, h2⟩ := bnd_some hm
  obtain ⟨_, st2, h3, h4⟩ := bnd_some h2
  obtain ⟨xs, st3, h5, h6⟩ := bnd_some h4
  cases h5
  refine ⟨β, st, env, x, st1, hE, hS, h1, fun v H1 β1 e1 s1 r1 => ?_⟩
  obtain ⟨rfl, ty⟩ := chkL_ok s1 r1 h3
  exact ⟨ty, hf β1 H1 _ st' x [] w v [] Q s1 r1 .nil h6 fun z H3 β3 e3 s3 r3 => k z H3 β3 (e1.trans e3) s3 r3⟩
theorem se_append {o e : Expr} {apos cpos : Pos} {mo me : EM} (ho : SE X o mo) (he : SE X e me)
    (hbase : attributeBase o "append" X.env (eval o X.env) = eval o X.env := by rfl)
    (hfew : ((backTo cpos (starEach [e] X.env)).all (fun x => !x.1) && (backToKw cpos (keywordEach [] X.env)).all (fun x => x.1.isSome)
      && decide ([e].length + ([] : List Keyword).length + (if ([] : List Keyword).isEmpty then 0 else 1) < 30)) = true := by rfl)
    (hline : (apos.endLine == cpos.line) = true := by rfl) (hs : starEach [e] X.env = (false, eval e X.env) :: starEach [] X.env := by rfl) :
    SE X (.Call (.Attribute o "append" apos) [e] [] cpos) (eMeth mApp mo (aCons me aNil)) :=
  se_meth PySem.F.slot_list_append PySem.F.type_list_append mt_append ref_mApp ho (sa_cons he sa_nil hs) hbase hfew hline hs rfl
theorem se_extend {o e : Expr} {apos cpos : Pos} {mo me : EM} (ho : SE X o mo) (he : SE X e me)
    (hbase : attributeBase o "extend" X.env (eval o X.env) = eval o X.env := by rfl)
    (hfew : ((backTo cpos (starEach [e] X.env)).all (fun x => !x.1) && (backToKw cpos (keywordEach [] X.env)).all (fun x => x.1.isSome)
      && decide ([e].length + ([] : List Keyword).length + (if ([] : List Keyword).isEmpty then 0 else 1) < 30)) = true := by rfl)
    (hline : (apos.endLine == cpos.line) = true := by rfl) (hs : starEach [e] X.env = (false, eval e X.env) :: starEach [] X.env := by rfl) :
    SE X (.Call (.Attribute o "extend" apos) [e] [] cpos) (eMeth mExt mo (aCons me aNil)) :=
  se_meth PySem.F.slot_list_extend PySem.F.type_list_extend (MtR.or mt_extend mt_extT) ref_mExt ho (sa_cons he sa_nil hs) hbase hfew hline hs rfl
theorem se_pop {o : Expr} {apos cpos : Pos} {mo : EM} (ho : SE X o mo)
    (hbase : attributeBase o "pop" X.env (eval o X.env) = eval o X.env := by rfl) (hline : (apos.endLine == cpos.line) = true := by rfl) :
    SE X (.Call (.Attribute o "pop" apos) [] [] cpos) (eMeth mPop mo aNil) :=
  se_meth0 PySem.F.slot_list_pop PySem.F.type_list_pop mt_pop ref_mPop ho hbase hline
theorem se_popAt {o e : Expr} {apos cpos : Pos} {mo me : EM} (ho : SE X o mo) (he : SE X e me)
    (hbase : attributeBase o "pop" X.env (eval o X.env) = eval o X.env := by rfl)
    (hfew : ((backTo cpos (starEach [e] X.env)).all (fun x => !x.1) && (backToKw cpos (keywordEach [] X.env)).all (fun x => x.1.isSome)
      && decide ([e].length + ([] : List Keyword).length + (if ([] : List Keyword).isEmpty then 0 else 1) < 30)) = true := by rfl)
    (hline : (apos.endLine == cpos.line) = true := by rfl) (hs : starEach [e] X.env = (false, eval e X.env) :: starEach [] X.env := by rfl) :
    SE X (.Call (.Attribute o "pop" apos) [e] [] cpos) (eMeth mPopAt mo (aCons me aNil)) :=
  se_meth PySem.F.slot_list_pop PySem.F.type_list_pop mt_popAt ref_mPopAt ho (sa_cons he sa_nil hs) hbase hfew hline hs rfl
end

/-! ### xs[i] = e -/
@[simp] def sSetIx (o i e : EM) : SM := fun env => bnd (e env) fun y => bnd (o env) fun x => bnd (i env) fun j => fun st => match x, j with
  | .ref k, .int n => match st[k]? with
    | some (.lst ys) => match ixN ys.length n with
      | some q => some ((.nx, env), st.set k (.lst (ys.set q y)))
      | none => none
    | _ => none
  | _, _ => none
theorem ss_setIx {X : Cx} {o i e : Expr} {pos pos' : Pos} {mo mi me : EM} (ho : SE X o mo) (hi : SE X i mi) (he : SE X e me)
    (ha : ∀ v, assign (.Subscript o i pos') X.env v = (do
      let ov ← holding [v] (eval o X.env)
      let iv ← holding [v, ov] (eval i X.env)
      standAt pos'
      holding [v, ov, iv] (setItem ov iv v)
      release [v, ov, iv] []) := by intro _; rfl) (hs : swapsWithSole [.Subscript o i pos'] e pos.line X.env = pure false := by rfl) (hw : swappedStores [.Subscript o i pos'] e X.env = pure none := by rfl)
    (h1 : (assignEach [.Subscript o i pos'] X.env).map (·.2) = [assign (.Subscript o i pos') X.env] := by rfl) : SS X (.Assign [.Subscript o i pos'] e pos) (sSetIx mo mi me) := by
  refine ⟨PSimp (ps_asg he.pe (pg_sub ho.pe hi.pe set_list ha) hs hw h1) ?_⟩
  rintro D σ H ⟨β, st, env, fl, env', st', hE, hS, hm, k⟩
  obtain ⟨y, st1, h1, h2⟩ := bnd_some hm
  obtain ⟨x, st2, h3, h4⟩ := bnd_some h2
  obtain ⟨j, st3, h5, h6⟩ := bnd_some h4
  refine ⟨β, st, env, y, st1, hE, hS, h1, fun vy H1 β1 e1 s1 r1 => ⟨β1, st1, env, x, st2, hE.ext e1, s1, h3, fun vx H2 β2 e2 s2 r2 => ⟨β2, st2, env, j, st3, (hE.ext e1).ext e2, s2, h5, fun vj H3 β3 e3 s3 r3 => ?_⟩⟩⟩
  split at h6
  · rename_i kk n
    split at h6
    · rename_i ys hk
      split at h6
      · rename_i q hq
        cases h6
        have rx := r2.ext' e3
        cases rx with
        | @ref kk a hb =>
          obtain ⟨us, e, ru⟩ := rs_lst s3 hb hk
          have hl := ru.length
          obtain ⟨ec, sc⟩ := chg_lst s3 hb hk e (ru.set ((r1.ext' e2).ext' e3) q)
          exact ⟨a, us, n, q, rfl, r3.int_inv, e, by rw [← hl]; exact hq, k _ _ β3 (((e1.trans e2).trans e3).trans ec) sc ((((hE.ext e1).ext e2).ext e3).ext ec)⟩
      · cases h6
    · cases h6
  · cases h6

/-! ### (*xs, y) -/
def tStar (K : PySem.W.Frag) (te : TE) (t : TA) : TA := fun σ H Q => te σ H fun x H1 => ∃ a xs, x = .ref a ∧ (SqL K H1 a xs ∨ SqT K H1 a xs) ∧ t σ H1 fun ys H2 => Q (xs ++ ys) H2
theorem star_any {X : Cx} {pins : List (Addr × Obj)} {s : Shared} {σ : L2.St} {H : Hp} {a : Addr} {xs : List V} {Q : List Value → Shared → Prop} {E : Value → Shared → Prop} (I : Inv X pins σ H s) (hq : SqL X.K H a xs ∨ SqT X.K H a xs)
    (h : ∀ h' us, Vals xs us → Inv X pins σ H { s with heap := h' } → Q us { s with heap := h' }) : PySem.W.StarOf (model X.prog X.w) X.A E (.ref a) Q s := by
  rcases hq with hq | hq
  · obtain ⟨its, r, ⟨o, n, ho, hc, hd', hs⟩, hz⟩ := I.list hq
    have hl := r.length
    have hT : s.TypeIs (.ref a) "list" := ⟨o, ho, hc⟩
    have z : wpAny (model X.prog X.w) X.A (collect (.ref a)) Q E s := by
      refine wpAny_collect_seq a (.inl rfl) ho hc hs (fun h' hk => ?_) (by rw [List.size_toArray]; omega)
      exact h h' _ (by simpa using r) (I.kept (t' := s.toks) hk)
    unfold PySem.W.StarOf notIterableAtAll
    exact wpAny_bind (wpAny_specialOf hT PySem.F.slot_list_iter.lookup (wpAny_pure ⟨rfl, z⟩))
  · obtain ⟨its, r, ⟨o, ho, hc, n, hs⟩, hz⟩ := I.tuple hq
    have hl := r.length
    have hT : s.TypeIs (.ref a) "tuple" := ⟨o, ho, hc⟩
    have z : wpAny (model X.prog X.w) X.A (collect (.ref a)) Q E s := by
      refine wpAny_collect_seq a (.inr rfl) ho hc hs (fun h' hk => ?_) (by rw [List.size_toArray]; omega)
      exact h h' _ (by simpa using r) (I.kept (t' := s.toks) hk)
    unfold PySem.W.StarOf notIterableAtAll
    exact wpAny_bind (wpAny_specialOf hT PySem.F.slot_tuple_iter.lookup (wpAny_pure ⟨rfl, z⟩))
theorem pa_star {X : Cx} {e : Expr} {es : List Expr} {p : Pos} {te : TE} {t : TA} (he : PE X e te) (hr : PA X es t) (hs : starEach (.Starred e p :: es) X.env = (true, eval e X.env) :: starEach es X.env := by rfl) : PA X (.Starred e p :: es) (tStar X.K te t) := by
  refine ⟨fun pos pins s σ H Q I h => ?_⟩
  refine PySem.W.items_star (thn (he.run pins s σ H _ I h) fun v s1 ⟨x, H1, I1, r1, q1⟩ => ?_) hs
  obtain ⟨a, xs, ex, hq, q⟩ := q1
  subst ex
  cases r1
  refine star_any I1 hq fun h' us ru I2 => ?_
  exact thn (hr.run pos pins _ σ H1 _ I2 q) fun vs s2 ⟨ys, H2, I3, r2, q2⟩ => ⟨xs ++ ys, H2, I3, ru.append r2, q2⟩
@[simp] def aStar (a : EM) (r : AM) : AM := fun env => bnd (a env) fun x => bnd (fun st => match itemsOf x st with
  | some xs => some (xs, st)
  | none => none) fun xs => bnd (r env) fun ys => ret (xs ++ ys)
structure SA' (X : Cx) (es : List Expr) (m : AM) : Prop where
  pa : PA X es (tMA X.K m)
theorem sa_star {X : Cx} {e : Expr} {es : List Expr} {p : Pos} {m : EM} {r : AM} (ha : SE X e m) (hr : PA X es (tMA X.K r)) (hs : starEach (.Starred e p :: es) X.env = (true, eval e X.env) :: starEach es X.env := by rfl) : SA' X (.Starred e p :: es) (aStar m r) := by
  refine ⟨PAimp (pa_star ha.pe hr hs) ?_⟩
  rintro σ H Q ⟨β, st, env, ws, st', hE, hS, hm, k⟩
  obtain ⟨x, st1, h1, h2⟩ := bnd_some hm
  obtain ⟨xs, st2, h3, h4⟩ := bnd_some h2
  obtain ⟨ys, st3, h5, h6⟩ := bnd_some h4
  cases h6
  refine ⟨β, st, env, x, st1, hE, hS, h1, fun v H1 β1 e1 s1 r1 => ?_⟩
  split at h3
  · rename_i zs hz
    cases h3
    obtain ⟨p, vs, rfl, hq, rv⟩ := items_ok s1 r1 hz
    exact ⟨p, vs, rfl, hq, β1, _, env, ys, st', hE.ext e1, s1, h5, fun us H2 β2 e2 s2 r2 => k _ H2 β2 (e1.trans e2) s2 ((rv.ext e2).append r2)⟩
  · cases h3
theorem se_tup' {X : Cx} {es : List Expr} {x1 pos} {m : AM} (h : PA X es (tMA X.K m)) : SE X (.Tuple es x1 pos) (eTup m) := by
  refine ⟨PEimp (pe_tup h) ?_⟩
  rintro σ H Q ⟨β, st, env, w, st', hE, hS, hm, k⟩
  obtain ⟨xs, st1, h1, h2⟩ := bnd_some hm
  unfold mkTup at h2
  split at h2
  · rename_i hz
    cases h2
    refine ⟨β, st, env, xs, st', hE, hS, h1, fun vs H1 β1 e1 s1 r1 => ?_⟩
    have hl := r1.length
    refine ⟨by rw [← hl]; exact Nat.le_of_lt (sml_line hz), fun p hp => ?_⟩
    exact k _ _ β1 (e1.trans (Ext.new hp)) (s1.new hp) (.tup (.inl upd_same) (r1.ext (Ext.new hp)))
  · cases h2
theorem se_lst' {X : Cx} {es : List Expr} {pos} {m : AM} (h : PA X es (tMA X.K m)) : SE X (.List es pos) (eLst m) := by
  refine ⟨PEimp (pe_lst h) ?_⟩
  rintro σ H Q ⟨β, st, env, w, st', hE, hS, hm, k⟩
  obtain ⟨xs, st1, h1, h2⟩ := bnd_some hm
  exact ⟨β, st, env, xs, st1, hE, hS, h1, fun vs H1 β1 e1 s1 r1 => ref_mkLst (σ := σ) h2 s1 r1 fun v H2 β2 e2 s2 r2 => k v H2 β2 (e1.trans e2) s2 r2⟩
end B

set_option Elab.async false
set_option linter.all false
set_option maxRecDepth 100000
set_option maxHeartbeats 1000000
namespace B
open PySem PySem.Spec L2
set_option autoImplicit false

/-! ### head, *rest = a tuple -/
section
variable {prog : Program} {w : World} {A : Around} {E : Value → Shared → Prop} {s : Shared}
theorem star_unpack {l : Addr} {items : Array Value} {n i : Nat} {first mids lasts : List Value} {Q : List Value → Shared → Prop} (hl : PyProof.Rows.IsTup s.heap l items) (hh : A.handled = none) (hi : i < n) (hn : n ≤ items.size + 1) (hz : items.size ≤ 16384)
    (h1 : items.toList.take i = first) (h2 : (items.toList.drop i).take (items.size + 1 - n) = mids) (h3 : (items.toList.drop i).drop (items.size + 1 - n) = lasts)
    (h : ∀ (h' : Heap) (tk : Nat), (∀ b o, s.heap.get? b = some o → h'.get? b = some o) → Q (first ++ [.ref h'.objs.size] ++ lasts) { s with heap := h'.push { cls := .type "list", data := .seq mids.toArray }, toks := tk }) :
    wpAny (model prog w) A (unpackItems (.ref l) n (some i)) Q E s := by
  subst h1 h2 h3
  have hlt : l ≠ s.heap.objs.size := by obtain ⟨o, ho, _⟩ := hl; exact Nat.ne_of_lt (Heap.lt_size ho)
  unfold unpackItems
  refine wpAny_bind ?_
  unfold notIterableAtAll
  refine wpAny_bind (wpAny_specialOf hl.typeIs F.slot_tuple_iter.lookup ?_)
  refine wpAny_pure ?_
  simp only [Bool.false_eq_true, if_false]
  refine wpAny_bind (wpAny_holding (PyProof.Rows.iter_tuple hl ?_))
  refine wpAny_bind (wpAny_holding (PyProof.Rows.draw_tuple hlt i 0 _ _ ⟨_, Heap.get?_push_size _ rfl, rfl, rfl⟩ (hl.push _) (by omega) fun h₁ hit₁ hs₁ => ?_))
  have hl₁ : PyProof.Rows.IsTup h₁ l items := (hl.push _).extBut hs₁.extBut hlt
  rw [Nat.zero_add] at hit₁
  have hit₁' := hit₁
  obtain ⟨oi, hoi, _⟩ := hit₁'
  have hl₁' := hl₁
  obtain ⟨ol, hol, _⟩ := hl₁'
  rw [List.drop_zero]
  have hfl : (items.toList.take i).length = i := by rw [List.length_take, Array.length_toList]; omega
  rw [if_neg (show ¬ ((items.toList.take i).length < i) by rw [hfl]; omega)]
  refine wpAny_bind (wpAny_holding (PySem.W.kun_collect (s := { s with heap := h₁ }) (T := "tuple_iterator") (.inr (.inr (.inr rfl))) (Walks.tuple (A := A.in1) hh s.heap.objs.size l hlt items) (fun j u st => st.1.typeIs) (k := i) (by omega) ⟨hit₁, hl₁⟩ (Heap.lt_size hoi) (Heap.lt_size hol) (fun h₂ tk hk => ?_) (by rw [sizeLine_eq]; omega)))
  have hrl : (items.toList.drop i).length = items.size - i := by rw [List.length_drop, Array.length_toList]
  have hmid : (items.toList.drop i).length - (n - 1 - i) = items.size + 1 - n := by rw [hrl]; omega
  show wpAny _ _ (if (items.toList.drop i).length < n - 1 - i then _ else _) _ _ _
  rw [if_neg (by rw [hrl]; omega)]
  show wpAny _ _ (newList ((items.toList.drop i).take ((items.toList.drop i).length - (n - 1 - i))) >>= fun d => pure (items.toList.take i ++ [d] ++ (items.toList.drop i).drop ((items.toList.drop i).length - (n - 1 - i)))) _ _ _
  rw [hmid]
  have he : ∀ b o, s.heap.get? b = some o → h₂.get? b = some o := fun b o e => by
    have hb : b ≠ s.heap.objs.size := Nat.ne_of_lt (Heap.lt_size e)
    exact hk b o hb (hs₁.extBut b o hb (Heap.get?_push_of_some _ e))
  exact wpAny_bind (wpAny_newList (s := { s with heap := h₂, toks := tk }) (wpAny_pure (h h₂ tk he)))
end
/-- head, *rest: the first item, a new list of the others -/
def gStar1 (K : PySem.W.Frag) (i j : Nat) : TG := fun v σ H Q => ∃ a x xs, v = .ref a ∧ SqT K H a (x :: xs) ∧ xs.length ≤ 16000 ∧ ∀ D, H D = none → Q ((σ.set i (some x)).set j (some (.ref D))) (upd H D (.lst xs))
section
variable {X : Cx}
theorem pg_star1 {i j k : Nat} {x y : Str} {p1 p2 p3 pos : Pos} (hc : X.calm = true) (h1 : PG X (.Name x p1) (gName i)) (h2 : PG X (.Name y p2) (gName j))
    (hn : (assignEach [.Name x p1, .Starred (.Name y p2) p3] X.env).length = 2 := by rfl) (hst : (assignEach [.Name x p1, .Starred (.Name y p2) p3] X.env).findIdx? (·.1) = some 1 := by rfl)
    (hm : (assignEach [.Name x p1, .Starred (.Name y p2) p3] X.env).map (·.2) = [assign (.Name x p1) X.env, assign (.Name y p2) X.env] := by rfl) : PG X (.Tuple [.Name x p1, .Starred (.Name y p2) p3] k pos) (gStar1 X.K i j) := by
  refine ⟨fun pins s σ H v u Q I r hw => ?_⟩
  obtain ⟨a, v0, vs, e1, hq, hz16, hw⟩ := hw
  subst e1
  cases r
  obtain ⟨its, rv, ht, hz⟩ := I.tuple hq
  cases rv with
  | @cons _ u0 _ us r0 rt =>
    rw [PyProof.Rows.assign_Tuple]
    refine wpAny_bind (wpAny_standAt ?_)
    unfold unpack
    rw [hn, hst, hm]
    have hl := rt.length
    refine wpAny_bind (wpAny_holding (star_unpack (i := 1) (n := 2) ht (I.ok.hd hc) (by omega) (by simp) (by simp; omega) (first := [u0]) (mids := us) (lasts := []) (by simp) (by simp) (by simp) fun h' tk hk => ?_))
    have I1 : Inv X pins σ H { s with heap := h', toks := tk } := I.kept hk
    have I2 := I1.lnew (t' := tk) rt (by rw [List.length_cons] at hz; omega)
    refine PyProof.Rows.assignInOrder_cons (thn (h1.run pins _ σ _ v0 u0 (fun σ' H' => σ' = σ.set i (some v0) ∧ H' = upd H h'.objs.size (.lst vs)) I2 r0 ⟨rfl, rfl⟩) fun _ s2 ⟨σ2, H2, I3, e1, e2⟩ => ?_)
    subst e1 e2
    refine PyProof.Rows.assignInOrder_cons (thn (h2.run pins s2 _ _ (.ref h'.objs.size) (.ref h'.objs.size) Q I3 rfl (hw _ I1.fresh)) fun _ s3 q => PyProof.Rows.assignInOrder_nil q)
end

@[simp] def sStar (i j : Nat) (e : EM) : SM := fun env => bnd (e env) fun w st => match w with
  | .tup (x :: xs) => if Nat.ble xs.length 16000 = true then some ((.nx, (env.set i (some x)).set j (some (.ref st.length))), st ++ [.lst xs]) else none
  | _ => none
theorem ss_star {X : Cx} {i j k : Nat} {x y : Str} {e : Expr} {m : EM} {p1 p2 p3 pos' pos : Pos} (hN : X.N.Nodup) (hc : X.calm = true) (he : SE X e m) (hi : X.N[i]? = some x := by rfl) (hx : Loc X.env.scope x := by first | exact Or.inl rfl | exact Or.inr rfl)
    (hf : X.fn x = true ∨ X.env.scope.names.lookup x = some .local := by first | exact .inl rfl | exact .inr rfl) (hj : X.N[j]? = some y := by rfl) (hy : Loc X.env.scope y := by first | exact Or.inl rfl | exact Or.inr rfl)
    (hg : X.fn y = true ∨ X.env.scope.names.lookup y = some .local := by first | exact .inl rfl | exact .inr rfl)
    (hn : (assignEach [.Name x p1, .Starred (.Name y p2) p3] X.env).length = 2 := by rfl) (hst : (assignEach [.Name x p1, .Starred (.Name y p2) p3] X.env).findIdx? (·.1) = some 1 := by rfl)
    (hm : (assignEach [.Name x p1, .Starred (.Name y p2) p3] X.env).map (·.2) = [assign (.Name x p1) X.env, assign (.Name y p2) X.env] := by rfl)
    (hs : swapsWithSole [.Tuple [.Name x p1, .Starred (.Name y p2) p3] k pos'] e pos.line X.env = pure false := by rfl) (hw : swappedStores [.Tuple [.Name x p1, .Starred (.Name y p2) p3] k pos'] e X.env = pure none := by rfl)
    (h1 : (assignEach [.Tuple [.Name x p1, .Starred (.Name y p2) p3] k pos'] X.env).map (·.2) = [assign (.Tuple [.Name x p1, .Starred (.Name y p2) p3] k pos') X.env] := by rfl) : SS X (.Assign [.Tuple [.Name x p1, .Starred (.Name y p2) p3] k pos'] e pos) (sStar i j m) := by
  refine ⟨PSimp (ps_asg he.pe (pg_star1 hc (pg_name hN hi hx hf) (pg_name hN hj hy hg) hn hst hm) hs hw h1) ?_⟩
  rintro D σ H ⟨β, st, env, fl, env', st', hE, hS, hm, k⟩
  obtain ⟨w, st1, h1, h2⟩ := bnd_some hm
  refine ⟨β, st, env, w, st1, hE, hS, h1, fun v H1 β1 e1 s1 r1 => ?_⟩
  split at h2
  · rename_i x xs
    split at h2
    · rename_i hz
      cases h2
      cases r1 with
      | @tup a _ vs hq r =>
        cases r with
        | @cons _ v0 _ us r0 rt =>
          refine ⟨a, v0, us, rfl, hq.sq, by rw [← rt.length]; exact Nat.le_of_ble_eq_true hz, fun D hD => ?_⟩
          have ea : Ext β1 H1 (β1 ++ [D]) (upd H1 D (.lst us)) := Ext.alloc hD
          exact k _ _ _ (e1.trans ea) (s1.alloc hD ⟨us, upd_same, rt.ext ea⟩) ((((hE.ext e1).ext ea).set (r0.ext' ea) i).set (.ref (alloc_ix s1)) j)
    · cases h2
  · cases h2

/-! ### del xs[a:] -/
theorem filt_take {α : Type} (sel : Nat → Bool) (a n : Nat) (hs : ∀ k, sel k = (decide (a ≤ k) && decide (k < n))) : ∀ (xs : List α) (i : Nat), i + xs.length = n →
    (xs.zipIdx i).filterMap (fun p => if sel p.2 = true then none else some p.1) = xs.take (a - i)
  | [], i, _ => by simp
  | x :: xs, i, h => by
    have h' : i + 1 + xs.length = n := by rw [List.length_cons] at h; omega
    rw [List.zipIdx_cons, List.filterMap_cons]
    have ih := filt_take sel a n hs xs (i + 1) h'
    dsimp only
    rw [hs i, ih]
    by_cases c : a ≤ i
    · rw [decide_eq_true c, decide_eq_true (show i < n by omega)]
      have e1 : a - i = 0 := by omega
      have e2 : a - (i + 1) = 0 := by omega
      simp [e1, e2]
    · rw [decide_eq_false c]
      have e1 : a - i = (a - (i + 1)) + 1 := by omega
      rw [e1, List.take_succ_cons]
      simp
section
variable {prog : Program} {w : World} {A : Around} {E : Value → Shared → Prop} {s : Shared}
theorem delItem_cut {l sl : Addr} {items : Array Value} {n : Nat} {vl : Value} {a : Nat} {Q : Unit → Shared → Prop}
    (e : s.heap.get? l = some { cls := .type "list", data := .seq items n })
    (hs : s.heap.IsSliceOf sl vl .none .none) (pl : IsPart vl (some (a : Int))) (ha : a ≤ items.size) (hsz : items.size ≤ sizeLine)
    (h : ∀ f : Array Value → Array Value, f items = (items.toList.take a).toArray → Q () { s with heap := s.heap.update l (Obj.mapSeq f) }) :
    wpAny (model prog w) A (delItem (.ref l) (.ref sl)) Q E s := by
  have hl : s.heap.IsList l items := PySem.IsL.isList e
  obtain ⟨os, hos, hcs, hds⟩ := id hs
  have hTs : s.TypeIs (.ref sl) "slice" := ⟨os, hos, hcs⟩
  have hstep : ¬ ((rawPart none == rawInt 0) = true) := Bool.false_ne_true
  refine wpAny_delItem_slot hl.typeIs (by decide) F.slot_list_delitem (wpAny_call_entry F.slot_list_delitem hl.typeIs F.entry_list_delitem ?_ (F.args_list_delitem_2 _ _))
  show wpAny _ _ (Builtin.List.listSubscript? (.ref sl) >>= _) _ _ s
  refine wpAny_bind ?_
  unfold Builtin.List.listSubscript?
  refine wpAny_bind (wpAny_specialOf hTs slice_no_index ?_)
  simp only [Option.isNone_none, if_true]
  refine wpAny_pure ?_
  show wpAny _ _ (typeOf (.ref sl) >>= _) _ _ s
  refine wpAny_bind (wpAny_typeOf hTs ?_)
  first
    | rw [if_neg (by decide)]
    | refine PySem.W.KFB.if_not (by decide) ?_
  rw [listSliceParts_eq]
  refine wpAny_bind (wpAny_bind (wpAny_field hos hds (x := .none) rfl (wpAny_bind (wpAny_listPart .none ?_))))
  rw [if_neg hstep]
  refine wpAny_bind (wpAny_field hos hds (x := vl) rfl (wpAny_bind (wpAny_listPart pl ?_)))
  refine wpAny_bind (wpAny_field hos hds (x := .none) rfl (wpAny_bind (wpAny_listPart .none (wpAny_pure ?_))))
  refine wpAny_bind (m := Builtin.List.listItems (.ref l)) ?_
  unfold Builtin.List.listItems
  refine wpAny_bind (wpAny_seqItems e rfl (wpAny_pure ?_))
  have hb : sliceBounds (some (a : Int)) none none items.size = ((a : Int), (items.size : Int), 1) := by
    simp only [sliceBounds, Option.getD_none]
    have h1 : ¬ ((a : Int) < 0) := by omega
    simp only [h1, if_false, show (1 : Int) > 0 by decide, if_true]
    congr 1
    omega
  refine wpAny_bind (wpAny_of_eq ((sliceIndices_raw (some (a : Int)) none none items.size (by simp)).trans (congrArg (pure : Int × Int × Int → Sem (Int × Int × Int)) hb)) ?_)
  refine wpAny_bind (wpAny_rule ?_)
  have key : ∀ xs : Array Value, xs.size = items.size → (List.filterMap (fun (p : Value × Nat) => if (if (1 : Int) > 0 then decide ((a : Int) ≤ (p.2 : Int)) && decide ((p.2 : Int) < (items.size : Int)) && (((p.2 : Int) - (a : Int)) % 1 == 0) else false) = true then none else some p.1) xs.toList.zipIdx).toArray = (xs.toList.take a).toArray := by
    intro xs hx
    congr 1
    have := filt_take (α := Value) (fun k => if (1 : Int) > 0 then decide ((a : Int) ≤ (k : Int)) && decide ((k : Int) < (items.size : Int)) && (((k : Int) - (a : Int)) % 1 == 0) else false) a items.size (fun k => by
      rw [if_pos (by decide)]
      have h0 : ((k : Int) - (a : Int)) % 1 = 0 := Int.emod_one _
      rw [h0]
      by_cases c1 : a ≤ k
      · by_cases c2 : k < items.size
        · simp [c1, c2]
        · simp [c1, c2]
      · simp [c1]) xs.toList 0 (by rw [Array.length_toList, hx]; omega)
    simpa using this
  refine wpAny_bind (m := Builtin.List.listUpdate (.ref l) _) ?_
  show wpAny _ _ (updateSeq l _) _ _ s
  refine wpAny_updateSeq (hz := hsz) (_hz' := ?_) e rfl ?_
  · refine wpAny_bind (wpAny_letGo ?_)
    exact wpAny_pure ⟨.none, rfl, h _ (key items rfl)⟩
  · refine Nat.le_trans (m := items.size) ?_ (by omega)
    rw [List.size_toArray]
    refine Nat.le_trans (List.length_filterMap_le _ _) ?_
    simp
end
def tDelCut (to : TE) (th : TO) : TS := fun D σ H => to σ H fun x H1 => th σ H1 fun y H2 => ∃ (l : Addr) (xs : List V) (i : Int), x = .ref l ∧ y = some i ∧ H2 l = some (.lst xs) ∧ 0 ≤ i ∧ i.toNat ≤ xs.length ∧ D.nx σ (upd H2 l (.lst (xs.take i.toNat)))
theorem ps_delCut {X : Cx} {o : Expr} {i : Option Expr} {to : TE} {th : TO} {p2 tpos pos : Pos} (ho : PE X o to) (hi : PO X i th) : PS X (.Delete [.Subscript o (.Slice i none none p2) tpos] pos) (tDelCut to th) := by
  refine ⟨fun pins s σ H D I h => ?_⟩
  refine wpAny_Delete (wpAny_deleteEach_cons (wpAny_delete_Subscript (thn (ho.run pins s σ H _ I h) fun u s1 ⟨x, H1, I1, rx, q1⟩ => ?_)))
  refine wpAny_Slice (thn (hi.run pins s1 σ H1 _ I1 q1) fun vl s2 ⟨o1, H2, I2, pl, l, xs, j, ex, ej, hH, h0, hle, q2⟩ => ?_)
  subst ex ej
  cases (show u = Value.ref l from rx)
  rw [evalPart_none]
  refine wpAny_pure (wpAny_pure ?_)
  have I3 : Inv X pins σ H2 { s2 with heap := s2.heap.push { cls := .type "slice", data := .fields #[vl, .none, .none] } } := I2.kept (t' := s2.toks) fun b ob q => Heap.get?_push_of_some _ q
  obtain ⟨z, its, n, r, hl, e⟩ := I3.lstM hH
  obtain ⟨j', rfl⟩ := Int.eq_ofNat_of_zero_le h0
  rw [Int.toNat_natCast] at hle q2
  refine delItem_cut (a := j') e (Heap.IsSliceOf.new ..) pl (by rw [List.size_toArray]; omega) (by rw [List.size_toArray]; omega) fun f hf => wpAny_deleteEach_nil ⟨σ, _, ?_, q2⟩
  refine I3.lset (its' := its.take j') (t' := s2.toks) hH e (by rw [hf]) (r.take _) ?_
  rw [List.length_take]
  omega
@[simp] def sDelFrom (o : EM) (lo : OM) : SM := fun env => bnd (o env) fun x => bnd (lo env) fun a st => match x, a with
  | .ref i, some a => match st[i]? with
    | some (.lst ys) => if decide (0 ≤ a ∧ a.toNat ≤ ys.length) = true then some ((.nx, env), st.set i (.lst (ys.take a.toNat))) else none
    | _ => none
  | _, _ => none
theorem ss_delFrom {X : Cx} {o : Expr} {i : Option Expr} {mo : EM} {mi : OM} {p2 tpos pos : Pos} (ho : SE X o mo) (hi : SO' X i mi) : SS X (.Delete [.Subscript o (.Slice i none none p2) tpos] pos) (sDelFrom mo mi) := by
  refine ⟨PSimp (ps_delCut ho.pe hi.po) ?_⟩
  rintro D σ H ⟨β, st, env, fl, env', st', hE, hS, hm, k⟩
  obtain ⟨x, st1, h1, h2⟩ := bnd_some hm
  obtain ⟨a, st2, h3, h4⟩ := bnd_some h2
  refine ⟨β, st, env, x, st1, hE, hS, h1, fun v H1 β1 e1 s1 r1 => ⟨β1, st1, env, a, st2, hE.ext e1, s1, h3, fun H2 β2 e2 s2 => ?_⟩⟩
  split at h4
  · rename_i i a
    split at h4
    · rename_i ys hi
      split at h4
      · rename_i hc
        cases h4
        have hc := of_decide_eq_true hc
        have rx := r1.ext' e2
        cases rx with
        | @ref i p hb =>
          obtain ⟨us, e, ru⟩ := rs_lst s2 hb hi
          obtain ⟨ec, sc⟩ := chg_lst s2 hb hi e (ru.take a.toNat)
          exact ⟨p, us, a, rfl, rfl, e, hc.1, by rw [← ru.length]; exact hc.2, k _ _ _ ((e1.trans e2).trans ec) sc (((hE.ext e1).ext e2).ext ec)⟩
      · cases h4
    · cases h4
  · cases h4

/-! ### t[::-1] of a tuple -/
theorem adj_rev (n : Nat) : Builtin.Slice.sliceAdjust none none (-1) (n : Int) = ((n : Int) - 1, -1) := by
  unfold Builtin.Slice.sliceAdjust
  simp
theorem places_rev (n : Nat) : Builtin.Slice.slicePlaces ((n : Int) - 1) (-1) (-1) = n := by
  unfold Builtin.Slice.slicePlaces
  simp
  split <;> omega
section
variable {prog : Program} {w : World} {A : Around} {E : Value → Shared → Prop} {s : Shared}
theorem sliceApplied_rev {sl : Addr} {vs : Value} {n : Nat} {Q : Int × Int × Nat → Shared → Prop} (hs : s.heap.IsSliceOf sl .none .none vs) (ps : IsPart vs (some (-1)))
    (h : Q ((n : Int) - 1, -1, n) s) : wpAny (model prog w) A (Builtin.Slice.sliceApplied (.ref sl) (pure (n : Int))) Q E s := by
  obtain ⟨os, hos, hcs, hds⟩ := id hs
  unfold Builtin.Slice.sliceApplied Builtin.Slice.sliceFields
  refine wpAny_bind (wpAny_bind (wpAny_field hos hds (x := .none) rfl (wpAny_bind (wpAny_field hos hds (x := .none) rfl (wpAny_bind (wpAny_field hos hds (x := vs) rfl (wpAny_pure ?_)))))))
  refine wpAny_bind (HT.slicePart_ ps ?_)
  show wpAny _ _ (if ((-1 : Int) == 0) = true then _ else _) _ _ s
  rw [if_neg (by decide)]
  refine wpAny_bind (HT.slicePart_ .none (wpAny_bind (HT.slicePart_ .none (wpAny_bind (wpAny_pure ?_)))))
  show wpAny _ _ (match Builtin.Slice.sliceAdjust none none (-1) (n : Int) with | (lo, hi) => pure (lo, (-1 : Int), Builtin.Slice.slicePlaces lo hi (-1))) _ _ s
  rw [adj_rev]
  show wpAny _ _ (pure ((n : Int) - 1, (-1 : Int), Builtin.Slice.slicePlaces ((n : Int) - 1) (-1) (-1))) _ _ s
  rw [places_rev]
  exact wpAny_pure h
theorem pick_rev (xs : Array Value) : ((List.range xs.size).filterMap fun (m : Nat) => xs[((xs.size : Int) - 1 + (m : Int) * (-1)).toNat]?).toArray = xs.toList.reverse.toArray := by
  congr 1
  have key : ∀ k, k ≤ xs.size → (List.range k).filterMap (fun (m : Nat) => xs[((xs.size : Int) - 1 + (m : Int) * (-1)).toNat]?) = xs.toList.reverse.take k := by
    intro k
    induction k with
    | zero => intro _; simp
    | succ k ih =>
      intro hk
      rw [List.range_succ, List.filterMap_append, ih (by omega)]
      have e1 : ((xs.size : Int) - 1 + (k : Int) * (-1)).toNat = xs.size - 1 - k := by omega
      have hlt : xs.size - 1 - k < xs.size := by omega
      have e3 : k < xs.toList.reverse.length := by simp; omega
      rw [List.take_succ, List.getElem?_eq_getElem e3]
      simp only [List.filterMap_cons, List.filterMap_nil, e1, Array.getElem?_eq_getElem hlt]
      simp [List.getElem_reverse]
  rw [key xs.size (Nat.le_refl _), List.take_of_length_le (by simp)]
theorem getItem_tuple_rev {t sl : Addr} {items : Array Value} {vs : Value} {Q : Value → Shared → Prop} (ht : PyProof.Rows.IsTup s.heap t items) (hs : s.heap.IsSliceOf sl .none .none vs) (ps : IsPart vs (some (-1)))
    (h : Q (.ref s.heap.objs.size) { s with heap := s.heap.push { cls := .type "tuple", data := .seq items.toList.reverse.toArray } })
    (hsz : items.size ≤ sizeLine) : wpAny (model prog w) A (getItem (.ref t) (.ref sl)) Q E s := by
  have htake : sizeOk (.seq items.toList.reverse.toArray) := by
    show items.toList.reverse.toArray.size ≤ sizeLine
    rw [List.size_toArray, List.length_reverse, Array.length_toList]
    omega
  obtain ⟨os, hos, hcs, hds⟩ := id hs
  have hTs : s.TypeIs (.ref sl) "slice" := ⟨os, hos, hcs⟩
  unfold getItem
  try with_reducible refine wpAny_holding ?_
  first | refine wpAny_bind (wpAny_pure ?_) | skip
  refine wpAny_bind (wpAny_sequenceKey ht.typeIs (by decide) ?_)
  refine wpAny_bind (wpAny_callSpecial?_slot (name := Str.ofString "__getitem__") ht.typeIs PyProof.Rows.slot_tuple_getitem
    (wpAny_call_entry PyProof.Rows.slot_tuple_getitem ht.typeIs PyProof.Rows.entry_tuple_getitem ?_ (PyProof.Rows.args_tuple_getitem _ _)))
  show wpAny _ _ (Builtin.Tuple.tupleItemsOf (.ref t) >>= _) _ _ s
  refine wpAny_bind (PyProof.Rows.tupleItemsOf_ ht ?_)
  refine wpAny_bind (wpAny_typeOf hTs ?_)
  rw [if_pos (by decide)]
  refine wpAny_bind (sliceApplied_rev hs ps ?_)
  have hno : ¬ ((((items.size : Int) - 1) == 0 && (-1 : Int) == 1 && items.size == items.size) = true) := by
    intro q
    rw [Bool.and_eq_true, Bool.and_eq_true] at q
    exact absurd (eq_of_beq q.1.2) (by decide)
  show wpAny _ _ (if (((items.size : Int) - 1) == 0 && (-1 : Int) == 1 && items.size == items.size) = true then _ else _) _ _ s
  rw [if_neg hno, pick_rev]
  first
    | exact wpAny_bind (m := Builtin.Tuple.tupleExact _) (wpAny_newObj_type (wpAny_pure ⟨_, rfl, wpAny_pure h⟩) htake)
    | exact wpAny_bind (m := Builtin.Tuple.tupleExact _) (wpAny_newObj_type (wpAny_bind (wpAny_pure (wpAny_pure ⟨_, rfl, wpAny_pure h⟩))) htake)
    | exact wpAny_bind (wpAny_bind (m := Builtin.Tuple.tupleExact _) (wpAny_newObj_type (wpAny_pure (wpAny_pure ⟨_, rfl, wpAny_pure h⟩)) htake))
    | exact wpAny_bind (wpAny_bind (m := Builtin.Tuple.tupleExact _) (wpAny_newObj_type (wpAny_pure ⟨_, rfl, wpAny_pure h⟩) htake))
end
/-- of a list or a tuple -/
def tRevA (K : PySem.W.Frag) (te : TE) : TE := fun σ H Q => te σ H fun x H1 => ∃ a xs, x = .ref a ∧ ((SqL K H1 a xs ∧ ∀ p, H1 p = none → Q (.ref p) (upd H1 p (.lst xs.reverse))) ∨ (SqT K H1 a xs ∧ ∀ p, H1 p = none → Q (.ref p) (upd H1 p (.tup xs.reverse))))
theorem pe_revA {X : Cx} {e : Expr} {te : TE} {k : Nat} {p1 p2 p3 pos : Pos} (he : PE X e te) : PE X (.Subscript e (.Slice none none (some (.UnaryOp .USub (.Constant (.int 1) k p1) p2)) p3) pos) (tRevA X.K te) := by
  refine ⟨fun pins s σ H Q I h => ?_⟩
  refine PyProof.Rows.Subscript_ (thn (he.run pins s σ H _ I h) fun v s1 ⟨x, H1, I1, r1, q1⟩ => ?_)
  obtain ⟨a, xs, ex, q⟩ := q1
  subst ex
  cases r1
  have hst : PO X (some (.UnaryOp .USub (.Constant (.int 1) k p1) p2)) (tPart (tUn (rU fun i => .int (-i)) (tC (.int 1)))) := po_some (pe_un un_neg pe_int)
  refine wpAny_Slice (thn (po_none.run pins s1 σ H1 (fun o H2 => o = none ∧ H2 = H1) I1 ⟨rfl, rfl⟩) fun vl s2 ⟨l, H2, I2, pl, el, e2⟩ => ?_)
  subst el e2
  refine thn (po_none.run pins s2 σ H2 (fun o H3 => o = none ∧ H3 = H2) I2 ⟨rfl, rfl⟩) fun vu s3 ⟨u, H3, I3, pu, eu, e3⟩ => ?_
  subst eu e3
  refine thn (hst.run pins s3 σ H3 (fun o H4 => o = some (-1) ∧ H4 = H3) I3 ⟨1, rfl, -1, rfl, rfl, rfl⟩) fun vs s4 ⟨o, H4, I4, ps, eo, e4⟩ => ?_
  subst eo e4
  have I5 : Inv X pins σ H4 { s4 with heap := s4.heap.push { cls := .type "slice", data := .fields #[vl, vu, vs] } } := I4.kept (t' := s4.toks) fun b ob q => Heap.get?_push_of_some _ q
  rcases q with ⟨hx, q⟩ | ⟨hx, q⟩
  · obtain ⟨its, r, ht, hz⟩ := I5.list hx
    have hlen := r.length
    show wpAny (model X.prog X.w) X.A (PyProof.Rows.subscriptTail e (.Slice none none (some (.UnaryOp .USub (.Constant (.int 1) k p1) p2)) p3) (.ref a) (.ref s4.heap.objs.size)) (EP X pins σ Q) X.xe { s4 with heap := s4.heap.push { cls := .type "slice", data := .fields #[vl, vu, vs] } }
    refine PyProof.Rows.tail_any (ops := [.ref a, .ref s4.heap.objs.size]) ht.isList.typeIs (PySem.slot_list_getitem.lookup) ?_ (by with_unfolding_all rfl)
    refine wpAny_getItem_list_slice ht.isList (Heap.IsSliceOf.new _ vl vu vs) pl pu ps (by decide) ?_ (by rw [List.size_toArray]; omega)
    rw [PySem.W.krv_pick]
    refine ⟨.ref _, _, I5.laid (t' := s4.toks) (o := .lst xs.reverse) (fun b ob q => Heap.get?_push_of_some _ q) (Nat.le_refl _) ?_, rfl, q _ (I5.hok.fresh (Nat.le_refl _))⟩
    exact ⟨by rw [List.length_reverse]; exact hz, _, 0, r.reverse, Heap.get?_push_size _ rfl⟩
  · obtain ⟨its, r, ht, hz⟩ := I5.tuple hx
    have hlen := r.length
    cases pl
    cases pu
    show wpAny (model X.prog X.w) X.A (PyProof.Rows.subscriptTail e (.Slice none none (some (.UnaryOp .USub (.Constant (.int 1) k p1) p2)) p3) (.ref a) (.ref s4.heap.objs.size)) (EP X pins σ Q) X.xe { s4 with heap := s4.heap.push { cls := .type "slice", data := .fields #[.none, .none, vs] } }
    refine PyProof.Rows.tail_any (ops := [.ref a, .ref s4.heap.objs.size]) ht.typeIs (PyProof.Rows.slot_tuple_getitem.lookup) ?_ (by with_unfolding_all rfl)
    refine getItem_tuple_rev ht (Heap.IsSliceOf.new _ .none .none vs) ps ?_ (by rw [List.size_toArray]; omega)
    refine ⟨.ref _, _, I5.laid (t' := s4.toks) (o := .tup xs.reverse) (fun b ob q => Heap.get?_push_of_some _ q) (Nat.le_refl _) ?_, rfl, q _ (I5.hok.fresh (Nat.le_refl _))⟩
    refine ⟨by rw [List.length_reverse]; exact hz, its.reverse, r.reverse, ⟨_, Heap.get?_push_size _ rfl, rfl, 0, ?_⟩⟩
    simp
@[simp] def fRev (x : W) : M W := fun st => match x with
  | .tup xs => some (.tup xs.reverse, st)
  | .fl xs => some (.ref st.length, st ++ [.lst xs.reverse])
  | .ref i => match st[i]? with
    | some (.lst xs) => some (.ref st.length, st ++ [.lst xs.reverse])
    | _ => none
  | _ => none
theorem se_rev {X : Cx} {e : Expr} {m : EM} {k : Nat} {p1 p2 p3 pos : Pos} (he : SE X e m) : SE X (.Subscript e (.Slice none none (some (.UnaryOp .USub (.Constant (.int 1) k p1) p2)) p3) pos) (eUn fRev m) := by
  refine ⟨PEimp (pe_revA he.pe) ?_⟩
  rintro σ H Q ⟨β, st, env, w, st', hE, hS, hm, k⟩
  obtain ⟨x, st1, h1, h2⟩ := bnd_some hm
  refine ⟨β, st, env, x, st1, hE, hS, h1, fun v H1 β1 e1 s1 r1 => ?_⟩
  unfold fRev at h2
  cases r1 with
  | @tup a xs vs hq r =>
    cases h2
    refine ⟨a, vs, rfl, .inr ⟨hq.sq, fun p hf => ?_⟩⟩
    have e : Ext β1 H1 β1 (upd H1 p (.tup vs.reverse)) := Ext.new hf
    exact k _ _ β1 (e1.trans e) (s1.new hf) (.tup (.inl upd_same) (r.reverse.ext e))
  | @fl a xs vs hq r =>
    cases h2
    refine ⟨a, vs, rfl, .inl ⟨hq.sq, fun p hf => ?_⟩⟩
    have e : Ext β1 H1 (β1 ++ [p]) (upd H1 p (.lst vs.reverse)) := Ext.alloc hf
    exact k _ _ _ (e1.trans e) (s1.alloc hf ⟨_, upd_same, r.reverse.ext e⟩) (.ref (alloc_ix s1))
  | @ref i a hb =>
    dsimp only at h2
    split at h2
    · rename_i xs hi
      cases h2
      obtain ⟨vs, e2', r⟩ := rs_lst s1 hb hi
      refine ⟨a, vs, rfl, .inl ⟨SqL.of e2', fun p hf => ?_⟩⟩
      have e : Ext β1 H1 (β1 ++ [p]) (upd H1 p (.lst vs.reverse)) := Ext.alloc hf
      exact k _ _ _ (e1.trans e) (s1.alloc hf ⟨_, upd_same, r.reverse.ext e⟩) (.ref (alloc_ix s1))
    · cases h2
  | _ => cases h2
end B

set_option Elab.async false
set_option linter.all false
set_option maxRecDepth 100000
set_option maxHeartbeats 1000000
namespace B
open PySem PySem.Spec L2 RZ
set_option autoImplicit false

/-! ### list(zip(t1, t2)) -/
def IsZipF (h : Heap) (z TI TO a : Addr) (f : Bool) : Prop :=
  h.get? z = some { cls := .type "zip", dict := none, data := .fields #[rawInt a, .bool f, .bool false, .ref TI, .ref TO], slots := #[] }
section
variable {prog : Program} {w : World} {A : Around} {E : Value → Shared → Prop} {s : Shared}
theorem owned_not {z TI TO a : Addr} {f : Bool} {oa : Obj} {Q : Bool → Shared → Prop} (hz : IsZipF s.heap z TI TO a f) (ha : s.heap.get? a = some oa)
    (hQ : ∀ h₁, IsZipF h₁ z TI TO a true → Heap.SameBut z s.heap h₁ → Q false { s with heap := h₁ }) : wpAny (model prog w) A (Builtin.SmallTypes.ownedTupleIsFree (.ref z)) Q E s := by
  unfold Builtin.SmallTypes.ownedTupleIsFree
  refine wpAny_bind (wpAny_field hz rfl (x := rawInt a) rfl ?_)
  show wpAny _ _ (loadIfAlive ((a : Int).toNat) >>= _) _ _ _
  rw [Int.toNat_natCast]
  refine wpAny_bind (PySem.W.kdx_alive ha ?_)
  simp only [Option.isNone_some, Bool.false_eq_true, if_false]
  refine wpAny_bind (wpAny_field hz rfl (x := .bool f) rfl ?_)
  cases f with
  | true =>
    rw [if_neg (show ¬ ((Value.bool true != Value.bool true) = true) from Bool.false_ne_true)]
    exact wpAny_pure (hQ _ hz (Heap.SameBut.refl _ _))
  | false =>
    rw [if_pos (show (Value.bool false != Value.bool true) = true from rfl)]
    refine wpAny_bind (wpAny_setField_rec hz (by simp) fun h₃ he₃ hs₃ => ?_)
    exact wpAny_pure (hQ _ he₃ hs₃)
theorem zipT_next_out {z TI TO i1 i2 l1 l2 a : Addr} {f : Bool} {oa : Obj} {k1 k2 : Nat} {xs ys : Array Value} {x y : Value} {Q : Value → Shared → Prop} (D : ZipApart z TI TO i1 i2 l1 l2)
    (hz : IsZipF s.heap z TI TO a f) (ha : s.heap.get? a = some oa) (hTI : IsPair s.heap TI (.ref i1) (.ref i2))
    (h1 : s.heap.IsTupleIter i1 l1 k1) (h2 : s.heap.IsTupleIter i2 l2 k2) (hl1 : s.heap.IsTuple l1 xs) (hl2 : s.heap.IsTuple l2 ys) (hx : xs[k1]? = some x) (hy : ys[k2]? = some y)
    (hQ : ∀ h', IsZipF h' z TI TO a true → h'.IsTupleIter i1 l1 (k1 + 1) → h'.IsTupleIter i2 l2 (k2 + 1) → IsPair h' s.heap.objs.size x y → h'.objs.size = s.heap.objs.size + 1 →
      (∀ c o, c ≠ z → c ≠ i1 → c ≠ i2 → s.heap.get? c = some o → h'.get? c = some o) → Q (.ref s.heap.objs.size) { s with heap := h' }) :
    wpAny (model prog w) A (Builtin.«zip.__next__» ⟨[.ref z], []⟩) (fun fin s' => ∃ v, fin = .done (.ret v) ∧ Q v s') E s := by
  show wpAny _ _ (field (.ref z) 2 >>= _) _ _ _
  refine wpAny_bind (wpAny_field hz rfl (x := .bool false) rfl ?_)
  show wpAny _ _ (field (.ref z) 3 >>= _) _ _ _
  refine wpAny_bind (wpAny_field hz rfl (x := .ref TI) rfl ?_)
  refine wpAny_bind (wpAny_seqItems hTI rfl ?_)
  show wpAny _ _ (Builtin.SmallTypes.ownedTupleIsFree (.ref z) >>= _) _ _ _
  refine wpAny_bind (owned_not hz ha fun h₁ hz₁ hs₁ => ?_)
  simp only [Bool.false_eq_true, if_false]
  refine wpAny_bind ?_
  simp only [List.forIn_toArray, List.forIn_cons, List.forIn_nil]
  refine wpAny_bind (wpAny_bind (wpAny_holding ?_))
  show wpAny _ _ (Builtin.SmallTypes.nextOf (.ref i1) >>= _) _ _ _
  refine wpAny_bind (nextOf_tuple_item (h1.extBut hs₁.extBut D.i1z) (hl1.extBut hs₁.extBut D.l1z) hx fun h₂ h1₂ hs₂ => wpAny_pure ?_)
  refine wpAny_pure ?_
  refine wpAny_bind (wpAny_bind (wpAny_holding ?_))
  show wpAny _ _ (Builtin.SmallTypes.nextOf (.ref i2) >>= _) _ _ _
  refine wpAny_bind (nextOf_tuple_item ((h2.extBut hs₁.extBut D.i2z).extBut hs₂.extBut D.i12.symm)
    ((hl2.extBut hs₁.extBut D.l2z).extBut hs₂.extBut D.l2i1) hy fun h₃ h2₃ hs₃ => wpAny_pure ?_)
  refine wpAny_pure (wpAny_pure ?_)
  refine wpAny_bind (wpAny_newTuple (hsz := by show (2 : Nat) ≤ sizeLine; rw [sizeLine_eq]; decide) (wpAny_pure ⟨_, rfl, ?_⟩))
  have hsz : h₃.objs.size = s.heap.objs.size := by rw [hs₃.1, hs₂.1, hs₁.1]
  show Q (.ref h₃.objs.size) _
  have hz₃ : IsZipF h₃ z TI TO a true := hs₃.extBut _ _ D.i2z.symm (hs₂.extBut _ _ D.i1z.symm hz₁)
  have h1₃ : h₃.IsTupleIter i1 l1 (k1 + 1) := h1₂.extBut hs₃.extBut D.i12
  rw [hsz]
  refine hQ _ (Heap.get?_push_of_some _ hz₃) (h1₃.at fun o e => Heap.get?_push_of_some _ e) (h2₃.at fun o e => Heap.get?_push_of_some _ e) ?_ (by rw [Heap.size_push, hsz]) fun c o c1 c2 c3 e => Heap.get?_push_of_some _ (hs₃.extBut _ _ c3 (hs₂.extBut _ _ c2 (hs₁.extBut _ _ c1 e)))
  rw [← hsz]
  exact Heap.get?_push_size _ rfl
theorem zipT_end_out {z TI TO i1 i2 l1 l2 a : Addr} {f : Bool} {oa : Obj} {k1 k2 : Nat} {xs ys : Array Value} {Q : Fin → Shared → Prop} (hh : A.handled = none) (D : ZipApart z TI TO i1 i2 l1 l2)
    (hz : IsZipF s.heap z TI TO a f) (ha : s.heap.get? a = some oa) (hTI : IsPair s.heap TI (.ref i1) (.ref i2))
    (h1 : s.heap.IsTupleIter i1 l1 k1) (h2 : s.heap.IsTupleIter i2 l2 k2) (hl1 : s.heap.IsTuple l1 xs) (hl2 : s.heap.IsTuple l2 ys) (hend : xs[k1]? = none ∨ ys[k2]? = none)
    (hE : ∀ h' e, (∀ c o, c ≠ z → c ≠ i1 → c ≠ i2 → s.heap.get? c = some o → h'.get? c = some o) → (∃ o, h'.get? e = some o ∧ o.cls = .type "StopIteration") → E (.ref e) { s with heap := h' }) :
    wpAny (model prog w) A (Builtin.«zip.__next__» ⟨[.ref z], []⟩) Q E s := by
  show wpAny _ _ (field (.ref z) 2 >>= _) _ _ _
  refine wpAny_bind (wpAny_field hz rfl (x := .bool false) rfl ?_)
  show wpAny _ _ (field (.ref z) 3 >>= _) _ _ _
  refine wpAny_bind (wpAny_field hz rfl (x := .ref TI) rfl ?_)
  refine wpAny_bind (wpAny_seqItems hTI rfl ?_)
  show wpAny _ _ (Builtin.SmallTypes.ownedTupleIsFree (.ref z) >>= _) _ _ _
  refine wpAny_bind (owned_not hz ha fun h₁ hz₁ hs₁ => ?_)
  simp only [Bool.false_eq_true, if_false]
  refine wpAny_bind ?_
  simp only [List.forIn_toArray, List.forIn_cons, List.forIn_nil]
  refine wpAny_bind (wpAny_bind (wpAny_holding ?_))
  show wpAny _ _ (Builtin.SmallTypes.nextOf (.ref i1) >>= _) _ _ _
  cases hx : xs[k1]? with
  | none =>
    refine wpAny_bind (nextOf_tuple_end hh (h1.extBut hs₁.extBut D.i1z) (hl1.extBut hs₁.extBut D.l1z) hx fun h₂ e hs₂ he => ?_)
    exact hE h₂ e (fun c o c1 c2 _ x => hs₂ _ _ c2 (hs₁.extBut _ _ c1 x)) he
  | some x =>
    have hy : ys[k2]? = none := by rcases hend with h | h; rw [hx] at h; cases h; exact h
    refine wpAny_bind (nextOf_tuple_item (h1.extBut hs₁.extBut D.i1z) (hl1.extBut hs₁.extBut D.l1z) hx fun h₂ h1₂ hs₂ => wpAny_pure ?_)
    refine wpAny_pure ?_
    refine wpAny_bind (wpAny_bind (wpAny_holding ?_))
    show wpAny _ _ (Builtin.SmallTypes.nextOf (.ref i2) >>= _) _ _ _
    refine wpAny_bind (nextOf_tuple_end hh ((h2.extBut hs₁.extBut D.i2z).extBut hs₂.extBut D.i12.symm)
      ((hl2.extBut hs₁.extBut D.l2z).extBut hs₂.extBut D.l2i1) hy fun h₄ e hs₄ he => ?_)
    exact hE h₄ e (fun c o c1 c2 c3 x => hs₄ _ _ c3 (hs₂.extBut _ _ c2 (hs₁.extBut _ _ c1 x))) he
theorem pyNext_zipT_out {z TI TO i1 i2 l1 l2 a : Addr} {f : Bool} {oa : Obj} {k1 k2 : Nat} {xs ys : Array Value} {x y : Value} {Q : Option Value → Shared → Prop} (D : ZipApart z TI TO i1 i2 l1 l2)
    (hz : IsZipF s.heap z TI TO a f) (ha : s.heap.get? a = some oa) (hTI : IsPair s.heap TI (.ref i1) (.ref i2))
    (h1 : s.heap.IsTupleIter i1 l1 k1) (h2 : s.heap.IsTupleIter i2 l2 k2) (hl1 : s.heap.IsTuple l1 xs) (hl2 : s.heap.IsTuple l2 ys) (hx : xs[k1]? = some x) (hy : ys[k2]? = some y)
    (hQ : ∀ h', IsZipF h' z TI TO a true → h'.IsTupleIter i1 l1 (k1 + 1) → h'.IsTupleIter i2 l2 (k2 + 1) → IsPair h' s.heap.objs.size x y → h'.objs.size = s.heap.objs.size + 1 →
      (∀ c o, c ≠ z → c ≠ i1 → c ≠ i2 → s.heap.get? c = some o → h'.get? c = some o) → Q (some (.ref s.heap.objs.size)) { s with heap := h' }) :
    wpAny (model prog w) A (pyNext (.ref z)) Q E s := by
  have hT : s.TypeIs (.ref z) "zip" := ⟨_, hz, rfl⟩
  unfold pyNext
  exact wpAny_bind (wpAny_attempt (wpAny_callSpecial?_slot (name := Str.ofString "__next__") hT F.slot_zip_next
    (wpAny_call_entry F.slot_zip_next hT F.entry_zip_next
      (zipT_next_out D hz ha hTI h1 h2 hl1 hl2 hx hy fun h' a1 a2 a3 a4 a5 a6 => wpAny_pure (hQ h' a1 a2 a3 a4 a5 a6)) (F.args_zip_next_1 _))))
theorem pyNext_zipT_endO {z TI TO i1 i2 l1 l2 a : Addr} {f : Bool} {oa : Obj} {k1 k2 : Nat} {xs ys : Array Value} {Q : Option Value → Shared → Prop} (hh : A.handled = none) (D : ZipApart z TI TO i1 i2 l1 l2)
    (hz : IsZipF s.heap z TI TO a f) (ha : s.heap.get? a = some oa) (hTI : IsPair s.heap TI (.ref i1) (.ref i2))
    (h1 : s.heap.IsTupleIter i1 l1 k1) (h2 : s.heap.IsTupleIter i2 l2 k2) (hl1 : s.heap.IsTuple l1 xs) (hl2 : s.heap.IsTuple l2 ys) (hend : xs[k1]? = none ∨ ys[k2]? = none)
    (hQ : ∀ h', (∀ c o, c ≠ z → c ≠ i1 → c ≠ i2 → s.heap.get? c = some o → h'.get? c = some o) → Q none { s with heap := h' }) : wpAny (model prog w) A (pyNext (.ref z)) Q E s := by
  have hT : s.TypeIs (.ref z) "zip" := ⟨_, hz, rfl⟩
  unfold pyNext
  refine wpAny_bind (wpAny_attempt (wpAny_callSpecial?_slot (name := Str.ofString "__next__") hT F.slot_zip_next
    (wpAny_call_entry F.slot_zip_next hT F.entry_zip_next (zipT_end_out hh D hz ha hTI h1 h2 hl1 hl2 hend fun h' e hk he => ?_) (F.args_zip_next_1 _))))
  obtain ⟨o, ho, hc⟩ := he
  refine wpAny_bind (wpAny_isInstance (T := "StopIteration") (b := true) ⟨o, ho, hc⟩ isSubtype_stop ?_)
  exact wpAny_pure (hQ _ hk)
end
/-- the iterator ahead of turn i -/
def ZSt (h : Heap) (z TI TO i1 i2 l1 l2 : Addr) (i : Nat) : Prop :=
  IsPair h TI (.ref i1) (.ref i2) ∧ h.IsTupleIter i1 l1 i ∧ h.IsTupleIter i2 l2 i ∧
    ((IsZip h z TI TO .none ∧ ∃ x y, IsPair h TO x y) ∨ ∃ a f x y, IsZipF h z TI TO a f ∧ IsPair h a x y ∧ a ≠ z ∧ a ≠ i1 ∧ a ≠ i2)
section
variable {prog : Program} {w : World} {A : Around} {E : Value → Shared → Prop} {s : Shared}
theorem zst_item {z TI TO i1 i2 l1 l2 : Addr} {i : Nat} {xs ys : Array Value} {x y : Value} {Q : Option Value → Shared → Prop} (D : ZipApart z TI TO i1 i2 l1 l2) (st : ZSt s.heap z TI TO i1 i2 l1 l2 i)
    (hl1 : s.heap.IsTuple l1 xs) (hl2 : s.heap.IsTuple l2 ys) (hx : xs[i]? = some x) (hy : ys[i]? = some y)
    (hQ : ∀ h', ZSt h' z TI TO i1 i2 l1 l2 (i + 1) → IsPair h' s.heap.objs.size x y → h'.objs.size = s.heap.objs.size + 1 →
      (∀ c o, c ≠ z → c ≠ TO → c ≠ i1 → c ≠ i2 → s.heap.get? c = some o → h'.get? c = some o) → Q (some (.ref s.heap.objs.size)) { s with heap := h' }) :
    wpAny (model prog w) A (pyNext (.ref z)) Q E s := by
  obtain ⟨hTI, h1, h2, hz⟩ := st
  have hi1 : i1 < s.heap.objs.size := by obtain ⟨_, e, _⟩ := h1; exact Heap.lt_size e
  have hi2 : i2 < s.heap.objs.size := by obtain ⟨_, e, _⟩ := h2; exact Heap.lt_size e
  rcases hz with ⟨hz, x0, y0, hTO⟩ | ⟨a, f, x0, y0, hz, ha, n1, n2, n3⟩
  · have hzl : z < s.heap.objs.size := Heap.lt_size hz
    refine pyNext_zipT_item D hz hTI hTO h1 h2 hl1 hl2 hx hy fun h' z' TO' h1' h2' hT hsz hk => hQ h' ⟨hk _ _ D.TIz D.TITO D.TIi1 D.TIi2 hTI, h1', h2', .inr ⟨_, false, x, y, z', hT, Nat.ne_of_gt hzl, Nat.ne_of_gt hi1, Nat.ne_of_gt hi2⟩⟩ hT hsz hk
  · refine pyNext_zipT_out D hz ha hTI h1 h2 hl1 hl2 hx hy fun h' z' h1' h2' hT hsz hk => hQ h' ⟨hk _ _ D.TIz D.TIi1 D.TIi2 hTI, h1', h2', .inr ⟨a, true, x0, y0, z', hk _ _ n1 n2 n3 ha, n1, n2, n3⟩⟩ hT hsz fun c o c1 _ c3 c4 e => hk c o c1 c3 c4 e
theorem zst_end {z TI TO i1 i2 l1 l2 : Addr} {i : Nat} {xs ys : Array Value} {Q : Option Value → Shared → Prop} (hh : A.handled = none) (D : ZipApart z TI TO i1 i2 l1 l2) (st : ZSt s.heap z TI TO i1 i2 l1 l2 i)
    (hl1 : s.heap.IsTuple l1 xs) (hl2 : s.heap.IsTuple l2 ys) (hend : xs[i]? = none ∨ ys[i]? = none)
    (hQ : ∀ h', (∀ c o, c ≠ z → c ≠ TO → c ≠ i1 → c ≠ i2 → s.heap.get? c = some o → h'.get? c = some o) → Q none { s with heap := h' }) : wpAny (model prog w) A (pyNext (.ref z)) Q E s := by
  obtain ⟨hTI, h1, h2, hz⟩ := st
  rcases hz with ⟨hz, x0, y0, hTO⟩ | ⟨a, f, x0, y0, hz, ha, n1, n2, n3⟩
  · exact pyNext_zipT_end hh D hz hTI hTO h1 h2 hl1 hl2 hend hQ
  · exact pyNext_zipT_endO hh D hz ha hTI h1 h2 hl1 hl2 hend fun h' hk => hQ h' fun c o c1 _ c3 c4 e => hk c o c1 c3 c4 e
end
theorem ZSt.keep {h h' : Heap} {z TI TO i1 i2 l1 l2 : Addr} {i : Nat} (st : ZSt h z TI TO i1 i2 l1 l2 i) (k : ∀ c o, h.get? c = some o → (∃ p, o.data = .fields p) ∨ o.cls = .type "tuple" → h'.get? c = some o) : ZSt h' z TI TO i1 i2 l1 l2 i := by
  obtain ⟨hTI, ⟨o1, e1, c1, d1⟩, ⟨o2, e2, c2, d2⟩, hz⟩ := st
  refine ⟨k _ _ hTI (.inr rfl), ⟨o1, k _ _ e1 (.inl ⟨_, d1⟩), c1, d1⟩, ⟨o2, k _ _ e2 (.inl ⟨_, d2⟩), c2, d2⟩, ?_⟩
  rcases hz with ⟨hz, x0, y0, hTO⟩ | ⟨a, f, x0, y0, hz, ha, n⟩
  · exact .inl ⟨k _ _ hz (.inl ⟨_, rfl⟩), x0, y0, k _ _ hTO (.inr rfl)⟩
  · exact .inr ⟨a, f, x0, y0, k _ _ hz (.inl ⟨_, rfl⟩), k _ _ ha (.inr rfl), n⟩
/-- what the pairs of a new list are -/
def PairsAt (H : Hp) (rs : List V) (xs ys : List V) : Prop := ∀ (j : Nat) (r : V), rs[j]? = some r → ∃ (T : Addr) (x y : V), r = V.ref T ∧ xs[j]? = some x ∧ ys[j]? = some y ∧ H T = some (HO.tup [x, y])
theorem PairsAt.mono {H H' : Hp} {rs xs ys : List V} (p : PairsAt H rs xs ys) (h : ∀ T a b, H T = some (.tup [a, b]) → H' T = some (.tup [a, b])) : PairsAt H' rs xs ys := by
  intro j r hj
  obtain ⟨T, x, y, e1, e2, e3, e4⟩ := p j r hj
  exact ⟨T, x, y, e1, e2, e3, h _ _ _ e4⟩
section
variable {X : Cx} {pins : List (Addr × Obj)} {σ : L2.St}
theorem zl_loop {S z TI TO i1 i2 l1 l2 : Addr} {res : Value} {R : Result → Shared → Prop} {A : Around} {xs ys : List V} {H0 : Hp} (D : ZipApart z TI TO i1 i2 l1 l2) (hh : A.handled = none) (hz : xs.length ≤ 1000000) (hq1 : SqT X.K H0 l1 xs) (hq2 : SqT X.K H0 l2 ys)
    (hS0 : S ∉ [z, TI, TO, i1, i2])
    (hR : ∀ s' H' rs, Inv X pins σ H' s' → H' S = some (.lst rs) → rs.length = min xs.length ys.length → PairsAt H' rs xs ys → (∀ c u, c ≠ S → H0 c = some u → H' c = some u) → R (.ok (.ret res)) s') :
    ∀ (k i : Nat) (H : Hp) (s : Shared) (rs : List V), min xs.length ys.length - i = k → i ≤ min xs.length ys.length → Inv X pins σ H s → H S = some (.lst rs) → rs.length = i → PairsAt H rs xs ys → (∀ c u, c ≠ S → H0 c = some u → H c = some u) →
      (∀ a ps, H0 a = some (.tup ps) → a ≠ S) → (∀ a ob ps, H0 a = some (.frz ob ps) → a ≠ S) → ZSt s.heap z TI TO i1 i2 l1 l2 i → (∀ c ∈ [z, TI, TO, i1, i2], FpOk X pins H c ∧ c < s.heap.objs.size) →
      codeAny (model X.prog X.w) A (.builtin "list.extend.loop" ⟨[.ref S, .ref z, res], []⟩) R s := by
  intro k
  induction k with
  | zero =>
    intro i H s rs hk hi I hS hl hP hx h1 h2 st hf
    have q1 : SqT X.K H l1 xs := by
      rcases hq1 with (q | ⟨o, q⟩) | q
      · exact .inl (.inl (hx _ _ (h1 _ _ q) q))
      · exact .inl (.inr ⟨o, hx _ _ (h2 _ _ _ q) q⟩)
      · exact .inr q
    have q2 : SqT X.K H l2 ys := by
      rcases hq2 with (q | ⟨o, q⟩) | q
      · exact .inl (.inl (hx _ _ (h1 _ _ q) q))
      · exact .inl (.inr ⟨o, hx _ _ (h2 _ _ _ q) q⟩)
      · exact .inr q
    obtain ⟨its, rv, p, _⟩ := I.tuple q1
    obtain ⟨its2, rv2, p2, _⟩ := I.tuple q2
    have hl1 := rv.length
    have hl2 := rv2.length
    refine codeAny_builtin PySem.F.entry_extend_loop ?_
    rw [Around.under_plainId PySem.F.plain_extend_loop _]
    show wpAny _ A.in1 (pyNext (.ref z) >>= _) _ _ _
    refine wpAny_bind (zst_end (A := A.in1) hh D st p p2 ?_ fun h' hk' => ?_)
    · have : its.length ≤ i ∨ its2.length ≤ i := by omega
      rcases this with h | h
      · left; simpa using h
      · right; simpa using h
    · refine wpAny_pure (hR _ H rs (I.turnedL (t' := s.toks) (ch := [z, TI, TO, i1, i2]) (fun b o hb q => hk' b o (fun e => hb (by simp [e])) (fun e => hb (by simp [e])) (fun e => hb (by simp [e])) (fun e => hb (by simp [e])) q) (fun b hb => (hf b hb).1)) hS (by omega) hP hx)
  | succ k ih =>
    intro i H s rs hk hi I hS hl hP hx h1 h2 st hf
    have q1 : SqT X.K H l1 xs := by
      rcases hq1 with (q | ⟨o, q⟩) | q
      · exact .inl (.inl (hx _ _ (h1 _ _ q) q))
      · exact .inl (.inr ⟨o, hx _ _ (h2 _ _ _ q) q⟩)
      · exact .inr q
    have q2 : SqT X.K H l2 ys := by
      rcases hq2 with (q | ⟨o, q⟩) | q
      · exact .inl (.inl (hx _ _ (h1 _ _ q) q))
      · exact .inl (.inr ⟨o, hx _ _ (h2 _ _ _ q) q⟩)
      · exact .inr q
    obtain ⟨its, rv, p, _⟩ := I.tuple q1
    obtain ⟨its2, rv2, p2, _⟩ := I.tuple q2
    have hl1 := rv.length
    have hl2 := rv2.length
    have hix : i < xs.length := by omega
    have hiy : i < ys.length := by omega
    obtain ⟨u, hu, ru⟩ := rv.get (List.getElem?_eq_getElem hix)
    obtain ⟨u2, hu2, ru2⟩ := rv2.get (List.getElem?_eq_getElem hiy)
    refine codeAny_builtin PySem.F.entry_extend_loop ?_
    rw [Around.under_plainId PySem.F.plain_extend_loop _]
    show wpAny _ A.in1 (pyNext (.ref z) >>= _) _ _ _
    refine wpAny_bind (zst_item (A := A.in1) D st p p2 (x := u) (y := u2) (by simpa using hu) (by simpa using hu2) fun h' st' hT hsz hkp => ?_)
    have new : ObjOk X.prog X.w (upd H s.heap.objs.size (.tup [xs[i], ys[i]])) h' s.heap.objs.size (.tup [xs[i], ys[i]]) :=
      ⟨by show 2 ≤ sizeLine; rw [sizeLine_eq]; decide, [u, u2], .cons ru (.cons ru2 .nil), ⟨_, hT, rfl, _, rfl⟩⟩
    have hn : H s.heap.objs.size = none := I.fresh
    have I1 : Inv X pins σ (upd H s.heap.objs.size (.tup [xs[i], ys[i]])) { s with heap := h' } :=
      I.turnedNew (t' := s.toks) (ch := [z, TI, TO, i1, i2]) (fun b o hb q => hkp b o (fun e => hb (by simp [e])) (fun e => hb (by simp [e])) (fun e => hb (by simp [e])) (fun e => hb (by simp [e])) q) (fun b hb => (hf b hb).1) (Nat.le_refl _) new
    have hSs : S ≠ s.heap.objs.size := ne_of_none hS hn
    have hS1 : (upd H s.heap.objs.size (.tup [xs[i], ys[i]])) S = some (.lst rs) := by rw [upd_ne hSs]; exact hS
    obtain ⟨zz, its3, n3, r3, hl3, e3⟩ := I1.lstM hS1
    show wpAny _ A.in1 (updateSeq S (·.push (Value.ref s.heap.objs.size)) >>= _) _ _ _
    have hsm : rs.length ≤ 1000000 := by omega
    have hline : (1000000 : Nat) + 1 ≤ sizeLine := by rw [sizeLine_eq]; decide
    refine wpAny_bind (wpAny_updateSeq (hz := by rw [List.size_toArray]; omega) (_hz' := by rw [Array.size_push, List.size_toArray]; omega) e3 rfl ?_)
    have I2 := I1.lset (ys := rs ++ [.ref s.heap.objs.size]) (its' := its3 ++ [.ref s.heap.objs.size]) (f := (·.push (Value.ref s.heap.objs.size))) (t' := s.toks) hS1 e3 (by simp) (Paired.snoc r3 (show RelV (.ref s.heap.objs.size) (.ref s.heap.objs.size) from rfl)) (by rw [List.length_append]; simp; omega)
    refine wpAny_pure ⟨plainId_quiet PySem.F.plain_extend_loop _, ih (i + 1) _ _ (rs ++ [.ref s.heap.objs.size]) (by omega) (by omega) I2 upd_same (by rw [List.length_append, hl]; rfl) ?_ ?_ h1 h2 ?_ ?_⟩
    · intro j r hj
      rcases Nat.lt_or_ge j rs.length with h | h
      · rw [List.getElem?_append_left h] at hj
        obtain ⟨T, x, y, e1, e2, e4, e5⟩ := hP j r hj
        refine ⟨T, x, y, e1, e2, e4, ?_⟩
        rw [upd_ne (fun e => by subst e; rw [hS] at e5; cases e5), upd_ne (ne_of_none e5 hn)]
        exact e5
      · rw [List.getElem?_append_right h] at hj
        have h0 : j - rs.length = 0 := by
          have := (List.getElem?_eq_some_iff.mp hj).1
          simp at this; omega
        rw [h0] at hj
        have ej : j = i := by omega
        subst ej
        simp at hj
        refine ⟨_, xs[j], ys[j], hj.symm, List.getElem?_eq_getElem hix, List.getElem?_eq_getElem hiy, ?_⟩
        rw [upd_ne (Ne.symm hSs)]
        exact upd_same
    · intro c w hc hw
      have hw' := hx c w hc hw
      rw [upd_ne hc, upd_ne (ne_of_none hw' hn)]
      exact hw'
    · refine ZSt.keep st' fun c o hc ho => ?_
      have hcS : c ≠ S := by
        intro e
        subst e
        rw [e3] at hc
        cases hc
        rcases ho with ⟨p, hp⟩ | hp
        · cases hp
        · simp at hp
      exact (Heap.get?_update_other _ _ (Ne.symm hcS)).trans hc
    · intro c hc
      obtain ⟨⟨f1, f2⟩, hlt⟩ := hf c hc
      have hcS : c ≠ S := fun e => hS0 (e ▸ hc)
      refine ⟨⟨?_, f2⟩, by show c < (h'.update _ _).objs.size; rw [Heap.size_update, hsz]; exact Nat.lt_succ_of_lt hlt⟩
      rw [upd_ne hcS, upd_ne (Nat.ne_of_lt hlt)]
      exact f1
end
theorem zip_no_len : typeLookup (.type "zip") "__len__" = pure none := by rw [typeLookup_type, builtinLookup_eq_fast]; kernel_rfl
theorem zip_no_hint : typeLookup (.type "zip") "__length_hint__" = pure none := by rw [typeLookup_type, builtinLookup_eq_fast]; kernel_rfl
section
variable {X : Cx} {pins : List (Addr × Obj)} {σ : L2.St}
theorem call_listzip {z TI TO i1 i2 l1 l2 : Addr} {H : Hp} {s : Shared} {xs ys : List V} {Q : Value → Shared → Prop} (I : Inv X pins σ H s) (D : ZipApart z TI TO i1 i2 l1 l2) (hh : X.A.handled = none) (hz : xs.length ≤ 1000000) (hq1 : SqT X.K H l1 xs) (hq2 : SqT X.K H l2 ys)
    (hz0 : IsZip s.heap z TI TO .none) (st : ZSt s.heap z TI TO i1 i2 l1 l2 0) (hf : ∀ c ∈ [z, TI, TO, i1, i2], FpOk X pins H c ∧ c < s.heap.objs.size)
    (hQ : ∀ s' H' rs S, Inv X pins σ H' s' → H S = none → H' S = some (.lst rs) → rs.length = min xs.length ys.length → PairsAt H' rs xs ys → (∀ c u, H c = some u → H' c = some u) → Q (.ref S) s') :
    wpAny (model X.prog X.w) X.A (call (.type "list") [.ref z]) Q X.xe s := by
  refine callType_codes (Q₁ := fun obj s₁ => obj = .ref s.heap.objs.size ∧ s₁ = { s with heap := s.heap.push { cls := .type "list", data := .seq #[] } }) PySem.F.called_list (PySem.F.typeCall_list_1 _) PySem.F.entry_list_init
    (code_list_new _ ⟨rfl, rfl⟩) fun obj s₁ h₁ => ?_
  obtain ⟨rfl, rfl⟩ := h₁
  have hn : H s.heap.objs.size = none := I.fresh
  have hS : (s.heap.push { cls := .type "list", data := .seq #[] }).get? s.heap.objs.size = some { cls := .type "list", data := .seq #[] } := Heap.get?_push_size _ rfl
  have I1 : Inv X pins σ (upd H s.heap.objs.size (.lst [])) { s with heap := s.heap.push { cls := .type "list", data := .seq #[] } } := I.lnew (its := []) (t' := s.toks) .nil (Nat.zero_le _)
  refine ⟨⟨_, hS, rfl⟩, PySem.F.args_list_init_2 _ _, ?_⟩
  show wpAny _ _ (do let old ← Builtin.List.listItems (.ref s.heap.objs.size); Builtin.List.listUpdate (.ref s.heap.objs.size) (fun _ => #[]); letGo old.toList.reverse; Builtin.List.listExtendWith (.ref s.heap.objs.size) (.ref z) .none) _ _ _
  refine wpAny_bind ?_
  unfold Builtin.List.listItems
  refine wpAny_bind (wpAny_seqItems hS rfl (wpAny_pure ?_))
  show wpAny _ _ (updateSeq s.heap.objs.size (fun _ => #[]) >>= fun _ => letGo (#[] : Array Value).toList.reverse >>= fun _ => Builtin.List.listExtendWith (.ref s.heap.objs.size) (.ref z) .none) _ _ _
  refine wpAny_bind (wpAny_updateSeq hS rfl ?_)
  have I2 := I1.lset (its := []) (n := 0) (ys := []) (its' := []) (f := fun _ => (#[] : Array Value)) (t' := s.toks) upd_same hS rfl .nil (Nat.zero_le _)
  obtain ⟨_, its2, n2, r2, hl2, e2⟩ := I2.lstM (l := s.heap.objs.size) (xs := []) upd_same
  cases r2
  refine wpAny_bind (wpAny_letGo ?_)
  have hzS : z ≠ s.heap.objs.size := Nat.ne_of_lt (Heap.lt_size hz0)
  have keep1 : ∀ c o, s.heap.get? c = some o → ((s.heap.push { cls := .type "list", data := .seq #[] }).update s.heap.objs.size (Obj.mapSeq fun _ => (#[] : Array Value))).get? c = some o := fun c o e =>
    (Heap.get?_update_other _ _ (Nat.ne_of_gt (Heap.lt_size e))).trans (Heap.get?_push_of_some _ e)
  have hT : ∀ s2 : Shared, (∀ c o, s.heap.get? c = some o → s2.heap.get? c = some o) → s2.TypeIs (.ref z) "zip" := fun s2 k => ⟨_, k _ _ hz0, rfl⟩
  unfold Builtin.List.listExtendWith
  refine wpAny_bind (wpAny_typeOf (T := "zip") (hT _ keep1) ?_)
  have h1 : Builtin.List.listSameRef (.ref s.heap.objs.size) (.ref z) = false := by simp [Builtin.List.listSameRef, Ne.symm hzS]
  have h2 : (Value.type "zip" == Value.type "list") = false := by decide
  have h3 : (Value.type "zip" == Value.type "tuple") = false := by decide
  simp only [h1, h2, h3, Bool.or_false, Bool.false_eq_true, if_false]
  refine wpAny_bind (wpAny_pyIter_zip (keep1 _ _ hz0) ?_)
  refine wpAny_bind (wpAny_holding ?_)
  unfold Builtin.List.listLengthHint
  refine wpAny_bind (wpAny_specialOf (hT _ keep1) zip_no_len ?_)
  show wpAny _ _ (specialOf (Value.ref z) (Str.ofString "__length_hint__") >>= _) _ _ _
  refine wpAny_bind (wpAny_specialOf (hT _ keep1) zip_no_hint ?_)
  refine wpAny_pure ?_
  show wpAny _ _ (rule "list.extend.makes-room" >>= fun _ => Builtin.List.listTouch (.ref s.heap.objs.size) >>= fun _ =>
    again (.builtin "list.extend.loop" ⟨[.ref s.heap.objs.size, .ref z, .none], []⟩)) _ _ _
  refine wpAny_bind (wpAny_rule ?_)
  refine wpAny_bind ?_
  show wpAny _ _ (updateSeq s.heap.objs.size (·.push .none) >>= fun _ => updateSeq s.heap.objs.size (·.pop)) _ _ _
  refine wpAny_bind (wpAny_updateSeq e2 rfl ?_)
  have I3 := I2.lset (ys := [.non]) (its' := [.none]) (f := (·.push Value.none)) (t' := s.toks) upd_same e2 (by simp) (.cons rfl .nil) (by rw [sizeLine_eq]; decide)
  obtain ⟨_, its3, n3, r3, hl3, e3⟩ := I3.lstM (l := s.heap.objs.size) (xs := [.non]) upd_same
  refine wpAny_updateSeq (hz := by rw [List.size_toArray, ← hl3, sizeLine_eq]; decide) (_hz' := by rw [Array.size_pop, List.size_toArray, ← hl3, sizeLine_eq]; decide) e3 rfl ?_
  have I4 := I3.lset (ys := []) (its' := []) (f := (·.pop)) (t' := s.toks) upd_same e3 (by
    cases r3 with
    | cons a b => cases b; rfl) .nil (Nat.zero_le _)
  have hup : ∀ c, c ≠ s.heap.objs.size → upd (upd (upd (upd H s.heap.objs.size (.lst [])) s.heap.objs.size (.lst [])) s.heap.objs.size (.lst [.non])) s.heap.objs.size (.lst []) c = H c := fun c hc => by
    rw [upd_ne hc, upd_ne hc, upd_ne hc, upd_ne hc]
  have keep4 : ∀ c o, s.heap.get? c = some o → ((((s.heap.push { cls := .type "list", data := .seq #[] }).update s.heap.objs.size (Obj.mapSeq fun _ => (#[] : Array Value))).update s.heap.objs.size (Obj.mapSeq (·.push Value.none))).update s.heap.objs.size (Obj.mapSeq (·.pop))).get? c = some o := fun c o e => by
    have hc := Nat.ne_of_gt (Heap.lt_size e)
    exact (Heap.get?_update_other _ _ hc).trans ((Heap.get?_update_other _ _ hc).trans (keep1 c o e))
  refine wpAny_pure ⟨plainId_quiet PySem.F.plain_extend_loop _, ?_⟩
  refine zl_loop (A := X.A.in1) (H0 := H) D hh hz hq1 hq2 (fun hm => absurd (hf _ hm).2 (Nat.lt_irrefl _)) (fun s' H' rs J hS' hl hP hx => ?_) _ 0 _ _ [] rfl (Nat.zero_le _) I4 upd_same rfl (fun j r hj => by simp at hj) (fun c u hc hu => by rw [hup c hc]; exact hu) (fun a ps ha => ne_of_none ha hn) (fun a ob ps ha => ne_of_none ha hn) (st.keep fun c o hc _ => keep4 c o hc) fun c hc => ?_
  · exact ⟨rfl, hQ s' H' rs _ J hn hS' hl hP fun c u hu => hx c u (ne_of_none hu hn) hu⟩
  · obtain ⟨⟨f1, f2⟩, hlt⟩ := hf c hc
    refine ⟨⟨(hup c (Nat.ne_of_lt hlt)).trans f1, f2⟩, ?_⟩
    show c < (Heap.update _ _ _).objs.size
    rw [Heap.size_update, Heap.size_update, Heap.size_update, Heap.size_push]
    exact Nat.lt_succ_of_lt hlt
end
/-- list(zip(t1, t2)) of two tuples -/
def tLZip (K : PySem.W.Frag) (ta : TA) : TE := fun σ H Q => ta σ H fun vs H1 => ∃ a b xs ys, vs = [.ref a, .ref b] ∧ SqT K H1 a xs ∧ SqT K H1 b ys ∧ xs.length ≤ 1000000 ∧
  ∀ S H2 rs, H1 S = none → H2 S = some (.lst rs) → rs.length = min xs.length ys.length → PairsAt H2 rs xs ys → (∀ c u, H1 c = some u → H2 c = some u) → Q (.ref S) H2
theorem pe_lzip {X : Cx} {e e2 : Expr} {ta : TA} {p p' p2 pos : Pos} (hc : X.calm = true) (hgl : Gl X "list") (hml : X.mg "list" = none) (hg : Gl X "zip") (hm : X.mg "zip" = none) (ha : PA X [e, e2] ta)
    (hs : starEach [e, e2] X.env = (false, eval e X.env) :: starEach [e2] X.env := by rfl) (hpl : (backTo p2 (starEach [e2] X.env)).any (·.1) = false := by rfl)
    (hs1 : starEach [.Call (.Name "zip" p') [e, e2] [] p2] X.env = (false, eval (.Call (.Name "zip" p') [e, e2] [] p2) X.env) :: starEach [] X.env := by rfl) :
    PE X (.Call (.Name "list" p) [.Call (.Name "zip" p') [e, e2] [] p2] [] pos) (tLZip X.K ta) := by
  refine ⟨fun pins s σ H Q I h => ?_⟩
  refine wpAny_Call_Name_kw (ld_blt I hgl hml (show bootBuiltins "list" = some (.type "list") by decide +kernel) ?_ (by decide) (by decide))
  refine PyProof.Rows.callWith_type1 ?_ hs1 rfl
  refine PyProof.Rows.args_cons ?_ hs1
  refine PyProof.Rows.Call_ (ld_blt I hg hm PyProof.Rows.boot_zip (PyProof.Rows.callWith_type1 (thn (ha.run p2 pins s σ H _ I h) fun us s1 ⟨vs, H1, I1, r1, q1⟩ => ?_) hs hpl))
  obtain ⟨a, b, xs, ys, ex, hqx, hqy, hz, q⟩ := q1
  subst ex
  cases r1 with
  | cons r rr =>
    cases rr with
    | cons r' rr =>
      cases rr
      cases r
      cases r'
      obtain ⟨its, rv, p1, _⟩ := I1.tuple hqx
      obtain ⟨its2, rv2, p2, _⟩ := I1.tuple hqy
      obtain ⟨o1, ho1, _⟩ := id p1
      obtain ⟨o2, ho2, _⟩ := id p2
      refine call_zipT (show s1.heap.IsTuple a its.toArray from p1) (show s1.heap.IsTuple b its2.toArray from p2) fun h' hz' hTI hTO h1 h2 hsz hk => PyProof.Rows.args_nil ?_
      have I2 : Inv X pins σ H1 { s1 with heap := h' } := I1.kept (t' := s1.toks) hk
      refine call_listzip I2 (PySem.W.ktu_apart s1.heap.objs.size a b (Heap.lt_size ho1) (Heap.lt_size ho2)) (I2.ok.hd hc) hz hqx hqy hz' ⟨hTI, h1, h2, .inl ⟨hz', _, _, hTO⟩⟩ (fun c hcm => ?_) fun s' H' rs S J hn hS' hl hP hx => ⟨.ref S, H', J, rfl, q S H' rs hn hS' hl hP hx⟩
      have e' : c = s1.heap.objs.size + 4 ∨ c = s1.heap.objs.size + 2 ∨ c = s1.heap.objs.size + 3 ∨ c = s1.heap.objs.size ∨ c = s1.heap.objs.size + 1 := by simpa using hcm
      have hle : s1.heap.objs.size ≤ c ∧ c < s1.heap.objs.size + 5 := by
        rcases e' with z | z | z | z | z <;> subst z
        · exact ⟨Nat.le_add_right _ _, Nat.add_lt_add_left (by decide) _⟩
        · exact ⟨Nat.le_add_right _ _, Nat.add_lt_add_left (by decide) _⟩
        · exact ⟨Nat.le_add_right _ _, Nat.add_lt_add_left (by decide) _⟩
        · exact ⟨Nat.le_refl _, Nat.lt_add_of_pos_right (by decide)⟩
        · exact ⟨Nat.le_add_right _ _, Nat.add_lt_add_left (by decide) _⟩
      exact ⟨I1.fpOk hle.1 (I1.hok.fresh hle.1), by show c < h'.objs.size; rw [hsz]; exact hle.2⟩
@[simp] def bLZip : List W → M W := fun ws st => match ws with
  | [.tup xs, .tup ys] => if sml xs.length = true then some (.ref st.length, st ++ [.lst ((xs.zip ys).map fun p => .tup [p.1, p.2])]) else none
  | _ => none
theorem pairs_rws {K : PySem.W.Frag} {β : List Addr} {H : Hp} : ∀ {xs ys : List W} {vs us rs : List V}, RWs K β H xs vs → RWs K β H ys us → rs.length = min vs.length us.length → PairsAt H rs vs us → RWs K β H ((xs.zip ys).map fun p => W.tup [p.1, p.2]) rs
  | [], _, _, _, rs, .nil, _, hl, _ => by
    have : rs = [] := List.eq_nil_of_length_eq_zero (by simpa using hl)
    subst this; exact .nil
  | _ :: _, [], _, _, rs, .cons _ _, .nil, hl, _ => by
    have : rs = [] := List.eq_nil_of_length_eq_zero (by simpa using hl)
    subst this; exact .nil
  | x :: xs, y :: ys, _, _, [], .cons r t, .cons r2 t2, hl, _ => by simp at hl
  | x :: xs, y :: ys, _, _, q :: rs, .cons r t, .cons r2 t2, hl, hP => by
    obtain ⟨T, a, b, e1, e2, e3, e4⟩ := hP 0 q rfl
    simp at e2 e3
    subst e1 e2 e3
    refine .cons (.tup (.inl e4) (.cons r (.cons r2 .nil))) (pairs_rws t t2 (by simpa using hl) fun j w hj => ?_)
    obtain ⟨T', a, b, e1, e2, e3, e4⟩ := hP (j + 1) w (by simpa using hj)
    exact ⟨T', a, b, e1, by simpa using e2, by simpa using e3, e4⟩
theorem se_lzip {X : Cx} {e e2 : Expr} {ta : AM} {p p' p2 pos : Pos} (hc : X.calm = true) (hgl : Gl X "list") (hml : X.mg "list" = none) (hg : Gl X "zip") (hm : X.mg "zip" = none) (ha : SA X [e, e2] ta)
    (hs : starEach [e, e2] X.env = (false, eval e X.env) :: starEach [e2] X.env := by rfl) (hpl : (backTo p2 (starEach [e2] X.env)).any (·.1) = false := by rfl)
    (hs1 : starEach [.Call (.Name "zip" p') [e, e2] [] p2] X.env = (false, eval (.Call (.Name "zip" p') [e, e2] [] p2) X.env) :: starEach [] X.env := by rfl) :
    SE X (.Call (.Name "list" p) [.Call (.Name "zip" p') [e, e2] [] p2] [] pos) (eCall bLZip ta) := by
  refine ⟨PEimp (pe_lzip hc hgl hml hg hm ha.pa hs hpl hs1) ?_⟩
  rintro σ H Q ⟨β, st, env, w, st', hE, hS, hm, k⟩
  obtain ⟨ws, st1, h1, h2⟩ := bnd_some hm
  refine ⟨β, st, env, ws, st1, hE, hS, h1, fun vs H1 β1 e1 s1 r1 => ?_⟩
  unfold bLZip at h2
  split at h2
  · rename_i xs ys
    split at h2
    · rename_i hz
      cases h2
      obtain ⟨v, u, rfl, ra, rb⟩ := rws2 r1
      cases ra with
      | @tup a _ vs hq r =>
        cases rb with
        | @tup b _ us hp r2 =>
          refine ⟨a, b, vs, us, rfl, hq.sq, hp.sq, by rw [← r.length]; exact sml_le hz, fun S H2 rs hn hS' hl hP hx => ?_⟩
          have ex : Ext β1 H1 (β1 ++ [S]) H2 := ⟨⟨[S], rfl⟩, fun a xs h => hx _ _ h, fun a o v h => hx _ _ h, fun a fs h => hx _ _ h, fun a fs h => hx _ _ h⟩
          have s2 : RS X.K (β1 ++ [S]) H2 (st1 ++ [.lst ((xs.zip ys).map fun p => .tup [p.1, p.2])]) := by
            have hb : S ∉ β1 := fun hm => by
              obtain ⟨i, hi, e⟩ := List.mem_iff_getElem.mp hm
              have hs : i < st1.length := by rw [← s1.len]; exact hi
              obtain ⟨a, ha, r⟩ := s1.ob i st1[i] (by simp [hs])
              rw [List.getElem?_eq_getElem hi, e] at ha
              cases ha
              obtain ⟨z, hz⟩ := r.there
              rw [hn] at hz; cases hz
            refine ⟨by simp [s1.len], ?_, fun i q hi => ?_⟩
            · rw [List.nodup_append]
              exact ⟨s1.nd, by simp, fun a ha b hb' => by simp at hb'; subst hb'; exact fun z => hb (z ▸ ha)⟩
            · by_cases hl' : i < st1.length
              · rw [List.getElem?_append_left hl'] at hi
                obtain ⟨a, ha, r⟩ := s1.ob i q hi
                refine ⟨a, ex.ix ha, ?_⟩
                cases q with
                | lst zs => obtain ⟨ws, e1, r⟩ := r; exact ⟨ws, hx _ _ e1, r.ext ex⟩
                | dct zs => obtain ⟨ws, e1, r⟩ := r; exact ⟨ws, hx _ _ e1, r.ext ex⟩
                | dtt zs => obtain ⟨ws, e1, r⟩ := r; exact ⟨ws, hx _ _ e1, r.ext ex⟩
                | ins c fs => obtain ⟨A, dx, ws, hc, e1, r⟩ := r; exact ⟨A, dx, ws, hc, hx _ _ e1, r.ext ex⟩
                | lkt zs => obtain ⟨ob, ws, e1, r⟩ := r; exact ⟨ob, ws, hx _ _ e1, r.ext ex⟩
              · rw [List.getElem?_append_right (by omega)] at hi
                have h0 : i - st1.length = 0 := by
                  have := (List.getElem?_eq_some_iff.mp hi).1
                  simp at this; omega
                rw [h0] at hi
                simp at hi
                subst hi
                refine ⟨S, by rw [List.getElem?_append_right (by rw [s1.len]; omega)]; simp [s1.len, h0], rs, hS', pairs_rws (r.ext ex) (r2.ext ex) hl hP⟩
          exact k _ _ _ (e1.trans ex) s2 (.ref (alloc_ix s1))
    · cases h2
  · cases h2
end B

set_option Elab.async false
set_option linter.all false
set_option maxRecDepth 100000
set_option maxHeartbeats 1000000
namespace B
open PySem PySem.Spec L2
set_option autoImplicit false

/-! ### dicts by ints and texts -/
@[simp] def keyW : W → Option Key
  | .int i => some (.inl i)
  | .str x => some (.inr x)
  | _ => none
def valW {T : Type} [DecidableEq T] (kvs : List (T × W)) (k : T) : Option W := (kvs.find? fun kv => decide (kv.1 = k)).map (·.2)
def putW {T : Type} [DecidableEq T] (kvs : List (T × W)) (k : T) (v : W) : List (T × W) :=
  if (kvs.any fun kv => decide (kv.1 = k)) = true then kvs.map (fun kv => if kv.1 = k then (kv.1, v) else kv) else kvs ++ [(k, v)]
section
variable {K : PySem.W.Frag} {β : List Addr} {H : Hp}
theorem keyW_ok {w : W} {v : V} {k : Key} (r : RW K β H w v) (h : keyW w = some k) : v = kV k := by
  unfold keyW at h
  cases r <;> first | (cases h; done) | (cases h; rfl)
theorem RKs.length {T : Type} [DecidableEq T] {ks : List (T × W)} {vs : List (T × V)} (r : RKs K β H ks vs) : ks.length = vs.length := by
  induction ks generalizing vs with
  | nil => cases r; rfl
  | cons p ps ih => cases r with | cons r t => simp [ih t]
theorem RKs.val {T : Type} [DecidableEq T] (k : T) : ∀ {ks : List (T × W)} {vs : List (T × V)}, RKs K β H ks vs → (valW ks k = none ∧ valV vs k = none) ∨ ∃ w v, valW ks k = some w ∧ valV vs k = some v ∧ RW K β H w v
  | [], _, .nil => .inl ⟨rfl, rfl⟩
  | (j, x) :: ks, _, .cons r t => by
    by_cases e : j = k
    · refine .inr ⟨x, _, ?_, ?_, r⟩
      · simp [valW, e]
      · exact valV_pos e
    · rcases RKs.val k t with ⟨a, b⟩ | ⟨w, v, a, b, c⟩
      · refine .inl ⟨?_, ?_⟩
        · simpa [valW, e] using a
        · rw [valV_neg e]; exact b
      · refine .inr ⟨w, v, ?_, ?_, c⟩
        · simpa [valW, e] using a
        · rw [valV_neg e]; exact b
theorem RKs.any {T : Type} [DecidableEq T] (k : T) {ks : List (T × W)} {vs : List (T × V)} (r : RKs K β H ks vs) : (ks.any fun kv => decide (kv.1 = k)) = vs.any fun kv => decide (kv.1 = k) := by
  induction ks generalizing vs with
  | nil => cases r; rfl
  | cons p ps ih => cases r with | cons r t => simp [ih t]
theorem RKs.repl {T : Type} [DecidableEq T] (k : T) {y : W} {u : V} (ry : RW K β H y u) {ks : List (T × W)} {vs : List (T × V)} (r : RKs K β H ks vs) :
    RKs K β H (ks.map fun kv => if kv.1 = k then (kv.1, y) else kv) (vs.map fun kv => if kv.1 = k then (kv.1, u) else kv) := by
  induction ks generalizing vs with
  | nil => cases r; exact .nil
  | cons p ps ih =>
    cases r with
    | @cons j x v _ vs r t =>
      rw [List.map_cons, List.map_cons]
      by_cases e : j = k
      · simp only [e, if_true]
        exact .cons ry (by simpa using ih t)
      · simp only [e, if_false]
        exact .cons r (ih t)
theorem RKs.snoc {T : Type} [DecidableEq T] {k : T} {y : W} {u : V} (ry : RW K β H y u) {ks : List (T × W)} {vs : List (T × V)} (r : RKs K β H ks vs) : RKs K β H (ks ++ [(k, y)]) (vs ++ [(k, u)]) := by
  induction ks generalizing vs with
  | nil => cases r; exact .cons ry .nil
  | cons p ps ih => cases r with | cons r t => exact .cons r (ih t)
theorem RKs.put {T : Type} [DecidableEq T] {k : T} {y : W} {u : V} (ry : RW K β H y u) {ks : List (T × W)} {vs : List (T × V)} (r : RKs K β H ks vs) : RKs K β H (putW ks k y) (putK vs k u) := by
  unfold putW putK
  rw [r.any k]
  split
  · exact r.repl k ry
  · exact r.snoc ry
theorem chg_dct {st : Sto} (hS : RS K β H st) {i : Nat} {a : Addr} {ys zs : List (Key × W)} {vs us : List (Key × V)} (ha : β[i]? = some a) (hi : st[i]? = some (.dct ys)) (e : H a = some (.dK vs)) (r : RKs K β H zs us) :
    Ext β H β (upd H a (.dK us)) ∧ RS K β (upd H a (.dK us)) (st.set i (.dct zs)) := by
  have ec : Ext β H β (upd H a (.dK us)) := Ext.chg e (fun _ z => (nomatch z)) (fun _ _ z => (nomatch z))
  exact hS.chg hi ha (u := .dK us) (o' := .dct zs) ⟨_, upd_same, r.ext ec⟩
end
@[simp] def dctOf (w : W) (st : Sto) : Option (Nat × List (Key × W)) := match w with
  | .ref i => match st[i]? with
    | some (.dct xs) => some (i, xs)
    | _ => none
  | _ => none
theorem dct_ok {K : PySem.W.Frag} {β : List Addr} {H : Hp} {st : Sto} {w : W} {v : V} {i : Nat} {xs : List (Key × W)} (hS : RS K β H st) (r : RW K β H w v) (h : dctOf w st = some (i, xs)) :
    ∃ a vs, v = .ref a ∧ β[i]? = some a ∧ st[i]? = some (.dct xs) ∧ H a = some (.dK vs) ∧ RKs K β H xs vs := by
  unfold dctOf at h
  cases r with
  | ref hb =>
    dsimp only at h
    split at h
    · rename_i xs hi
      cases h
      obtain ⟨vs, e, r⟩ := rs_dct hS hb hi
      exact ⟨_, vs, rfl, hb, hi, e, r⟩
    · cases h
  | _ => cases h
@[simp] def eDict0 : EM := fun _ st => some (.ref st.length, st ++ [.dct []])
@[simp] def fDGet : W → W → M W := fun x y st => match dctOf x st, keyW y with
  | some (_, kvs), some k => match valW kvs k with
    | some w => some (w, st)
    | none => none
  | _, _ => none
/-- y in d -/
@[simp] def fDIn : W → W → M W := fun y x st => match dctOf x st, keyW y with
  | some (_, kvs), some k => some (.bl (valW kvs k).isSome, st)
  | _, _ => none
@[simp] def sDSet (o i e : EM) : SM := fun env => bnd (e env) fun y => bnd (o env) fun x => bnd (i env) fun j => fun st => match dctOf x st, keyW j with
  | some (q, kvs), some k => if sml kvs.length = true then some ((.nx, env), st.set q (.dct (putW kvs k y))) else none
  | _, _ => none
@[simp] def eSetD (o a b : EM) : EM := fun env => bnd (o env) fun x => bnd (fun st => match dctOf x st with
  | some _ => some ((), st)
  | none => none) fun _ => bnd (a env) fun j => bnd (b env) fun y => fun st => match dctOf x st, keyW j with
  | some (q, kvs), some k => if sml kvs.length = true then (match valW kvs k with
      | some w => some (w, st)
      | none => some (y, st.set q (.dct (putW kvs k y)))) else none
  | _, _ => none
section
variable {X : Cx}
theorem se_dict0 {pos : Pos} : SE X (.Dict [] [] pos) eDict0 := by
  refine ⟨PEimp pe_dnewK ?_⟩
  rintro σ H Q ⟨β, st, env, w, st', hE, hS, hm, k⟩
  cases hm
  intro p hf
  have e : Ext β H (β ++ [p]) (upd H p (.dK [])) := Ext.alloc hf
  exact k _ _ _ e (hS.alloc hf ⟨_, upd_same, .nil⟩) (.ref (alloc_ix hS))
theorem se_dget {o i : Expr} {mo mi : EM} {pos : Pos} (hu : X.A.units + 1 < cLine) (ho : SE X o mo) (hi : SE X i mi) (hs : NoSl i := by exact fun _ _ => rfl) : SE X (.Subscript o i pos) (eOp fDGet mo mi) := by
  refine ⟨PEimp (pe_dget hu ho.pe hi.pe hs) ?_⟩
  rintro σ H Q ⟨β, st, env, w, st', hE, hS, hm, k⟩
  obtain ⟨x, st1, h1, h2⟩ := bnd_some hm
  obtain ⟨y, st2, h3, h4⟩ := bnd_some h2
  refine ⟨β, st, env, x, st1, hE, hS, h1, fun v H1 β1 e1 s1 r1 => ⟨β1, st1, env, y, st2, hE.ext e1, s1, h3, fun u H2 β2 e2 s2 r2 => ?_⟩⟩
  unfold fDGet at h4
  split at h4
  · rename_i q kvs kk hd hk
    split at h4
    · rename_i w' hw
      cases h4
      obtain ⟨a, vs, rfl, hb, hi, e, r⟩ := dct_ok s2 (r1.ext' e2) hd
      rw [keyW_ok r2 hk]
      rcases r.val kk with ⟨z, _⟩ | ⟨w2, v2, z1, z2, z3⟩
      · rw [z] at hw; cases hw
      · rw [z1] at hw; cases hw
        refine ⟨a, v2, rfl, ?_, k _ H2 β2 (e1.trans e2) s2 z3⟩
        rw [← z2]
        exact DGet.k e
    · cases h4
  · cases h4
theorem din_of {y x : EM} {σ : L2.St} {H : Hp} {Q : VK} (h : tM X.K (eOp fDIn y x) σ H Q) : tDIn (tM X.K y) (tM X.K x) σ H Q := by
  obtain ⟨β, st, env, w, st', hE, hS, hm, k⟩ := h
  obtain ⟨y, st1, h1, h2⟩ := bnd_some hm
  obtain ⟨x, st2, h3, h4⟩ := bnd_some h2
  refine ⟨β, st, env, y, st1, hE, hS, h1, fun v H1 β1 e1 s1 r1 => ⟨β1, st1, env, x, st2, hE.ext e1, s1, h3, fun u H2 β2 e2 s2 r2 => ?_⟩⟩
  unfold fDIn at h4
  split at h4
  · rename_i q kvs kk hd hk
    cases h4
    obtain ⟨a, vs, rfl, hb, hi, e, r⟩ := dct_ok s2 r2 hd
    rw [keyW_ok (r1.ext' e2) hk]
    refine ⟨a, valV vs kk, rfl, DGet.k e, ?_⟩
    rcases r.val kk with ⟨z1, z2⟩ | ⟨w2, v2, z1, z2, z3⟩
    · rw [z2]; rw [z1] at k; exact k _ H2 β2 (e1.trans e2) s2 (.bl _)
    · rw [z2]; rw [z1] at k; exact k _ H2 β2 (e1.trans e2) s2 (.bl _)
  · cases h4
theorem se_din {o i : Expr} {mo mi : EM} {pos : Pos} (hu : X.A.units + 1 < cLine) (hi : SE X i mi) (ho : SE X o mo) (h1 : behindInMarks .In o = false := by rfl) : SE X (.Compare i [.In] [o] pos) (eOp fDIn mi mo) :=
  ⟨PEimp (pe_cmp (pc_din hu hi.pe ho.pe) h1) fun _ _ _ h => din_of h⟩
theorem st_din {o i : Expr} {mo mi : EM} {pos : Pos} (hu : X.A.units + 1 < cLine) (hi : SE X i mi) (ho : SE X o mo) (h1 : behindInMarks .In o = false := by rfl) : ST X (.Compare i [.In] [o] pos) (tBl (eOp fDIn mi mo)) := by
  refine ⟨PTimp (pt_cmp (pc_din hu hi.pe ho.pe) h1) fun σ H Q h => ?_⟩
  exact din_of (tM_bl h)
theorem ss_dput {o i e : Expr} {mo mi me : EM} {pos pos' : Pos} (hu : X.A.units + 1 < cLine) (ho : SE X o mo) (hi : SE X i mi) (he : SE X e me) (hs : swapsWith e (some (.Subscript o i pos')) pos.line X.env = pure false := by rfl) :
    SS X (.Assign [.Subscript o i pos'] e pos) (sDSet mo mi me) := by
  refine ⟨PSimp (ps_dput hu ho.pe hi.pe he.pe hs) ?_⟩
  rintro D σ H ⟨β, st, env, fl, env', st', hE, hS, hm, k⟩
  obtain ⟨y, st1, h1, h2⟩ := bnd_some hm
  obtain ⟨x, st2, h3, h4⟩ := bnd_some h2
  obtain ⟨j, st3, h5, h6⟩ := bnd_some h4
  refine ⟨β, st, env, y, st1, hE, hS, h1, fun vy H1 β1 e1 s1 r1 => ⟨β1, st1, env, x, st2, hE.ext e1, s1, h3, fun vx H2 β2 e2 s2 r2 => ⟨β2, st2, env, j, st3, (hE.ext e1).ext e2, s2, h5, fun vj H3 β3 e3 s3 r3 => ?_⟩⟩⟩
  split at h6
  · rename_i q kvs kk hd hk
    split at h6
    · rename_i hz
      cases h6
      obtain ⟨a, vs, rfl, hb, hi, e, r⟩ := dct_ok s3 (r2.ext' e3) hd
      rw [keyW_ok r3 hk]
      obtain ⟨ec, sc⟩ := chg_dct s3 hb hi e (r.put (k := kk) ((r1.ext' e2).ext' e3))
      refine ⟨a, _, rfl, DPut.k e (by rw [← r.length]; exact sml_line hz), k _ _ _ (((e1.trans e2).trans e3).trans ec) sc ((((hE.ext e1).ext e2).ext e3).ext ec)⟩
    · cases h6
  · cases h6
theorem se_setd {o a b : Expr} {mo ma mb : EM} {apos cpos : Pos} (ho : SE X o mo) (ha : SE X a ma) (hb : SE X b mb) (m : M2 X o "setdefault" apos a b cpos) : SE X (.Call (.Attribute o "setdefault" apos) [a, b] [] cpos) (eSetD mo ma mb) := by
  refine ⟨PEimp (pe_dsetd ho.pe ha.pe hb.pe m) ?_⟩
  rintro σ H Q ⟨β, st, env, w, st', hE, hS, hm, k⟩
  obtain ⟨x, st1, h1, h2⟩ := bnd_some hm
  obtain ⟨_, st2, h3, h4⟩ := bnd_some h2
  obtain ⟨j, st3, h5, h6⟩ := bnd_some h4
  obtain ⟨y, st4, h7, h8⟩ := bnd_some h6
  refine ⟨β, st, env, x, st1, hE, hS, h1, fun v H1 β1 e1 s1 r1 => ?_⟩
  split at h3
  · rename_i qk hd
    cases h3
    obtain ⟨q0, kvs0⟩ := qk
    obtain ⟨a0, vs0, rfl, hb0, hi0, e0, r0⟩ := dct_ok s1 r1 hd
    refine ⟨a0, rfl, .inl ⟨vs0, .inl e0⟩, β1, _, env, j, st3, hE.ext e1, s1, h5, fun vj H2 β2 e2 s2 r2 => ⟨β2, st3, env, y, st4, (hE.ext e1).ext e2, s2, h7, fun vy H3 β3 e3 s3 r3 => ?_⟩⟩
    split at h8
    · rename_i q kvs kk hd hk
      split at h8
      · rename_i hz
        obtain ⟨a, vs, ea, hb, hi, e, r⟩ := dct_ok s3 ((r1.ext' e2).ext' e3) hd
        cases ea
        refine ⟨vs, kk, e, keyW_ok (r2.ext' e3) hk, by rw [← r.length]; exact sml_line hz, fun v0 hv => ?_, fun hv => ?_⟩
        · rcases r.val kk with ⟨_, z⟩ | ⟨w2, v2, z1, z2, z3⟩
          · rw [z] at hv; cases hv
          · rw [z2] at hv; cases hv
            rw [z1] at h8
            cases h8
            exact k _ H3 β3 ((e1.trans e2).trans e3) s3 z3
        · rcases r.val kk with ⟨z, _⟩ | ⟨w2, v2, z1, z2, z3⟩
          · rw [z] at h8
            cases h8
            obtain ⟨ec, sc⟩ := chg_dct s3 hb hi e (r.put (k := kk) r3)
            exact k _ _ _ (((e1.trans e2).trans e3).trans ec) sc (r3.ext' ec)
          · rw [z2] at hv; cases hv
      · cases h8
    · cases h8
  · cases h3
end

/-! ### dict != dict, None != None -/
def hitsW (ls : List (Key × W)) : List (Key × W) → Option Bool
  | [] => some true
  | (k, v) :: r => match valW ls k with
    | none => some false
    | some u => match toD v, toD u with
      | some d, some e => if (SeqAt.shaped d && SeqAt.shaped e) = true then (match hitsW ls r with
          | some b => some (PyData.eqv d e && b)
          | none => none) else none
      | _, _ => none
def eqDW (ks ls : List (Key × W)) : Option Bool := match hitsW ls ks with
  | some b => some (ks.length == ls.length && b)
  | none => none
def fNeDict : W → W → M W := fun x y st => match x, y with
  | .non, .non => some (.bl false, st)
  | _, _ => match dctOf x st, dctOf y st with
    | some (_, ks), some (_, ls) => match eqDW ks ls with
      | some b => some (.bl (!b), st)
      | none => none
    | _, _ => none
def rNeDict (K : PySem.W.Frag) : R2 := fun x y H Q => (x = .non ∧ y = .non ∧ Q (.bl false) H) ∨
  ∃ a b vs us β ks ls r, x = .ref a ∧ y = .ref b ∧ H a = some (.dK vs) ∧ H b = some (.dK us) ∧ RKs K β H ks vs ∧ RKs K β H ls us ∧ eqDW ks ls = some r ∧ Q (.bl (!r)) H
section
variable {X : Cx} {pins : List (Addr × Obj)} {σ : L2.St} {H : Hp} {s : Shared}
theorem hits_of (I : Inv X pins σ H s) {A : Around} (hu : A.in1.units + 64 < cLine) {β : List Addr} {ls : List (Key × W)} {us : List (Key × V)} {vb : List (Key × Value)} (rl : RKs X.K β H ls us) (rb : KV us vb) : ∀ {ks : List (Key × W)} {vs : List (Key × V)} {va : List (Key × Value)} {r : Bool},
    RKs X.K β H ks vs → KV vs va → hitsW ls ks = some r → PySem.W.KeqHits A.in1 s vb va r
  | [], _, _, _, .nil, ra, h => by
    cases ra
    simp only [hitsW] at h
    cases h
    exact .nil
  | (k, w) :: ks, _, _, r, .cons rw' rt, ra, h => by
    cases ra with
    | @cons p q ps qs hpq t =>
      obtain ⟨kq, vq⟩ := q
      obtain ⟨h1, h2⟩ := hpq
      have h1 : k = kq := h1
      subst h1
      simp only [hitsW] at h
      rcases rl.val k with ⟨z1, z2⟩ | ⟨w2, v2, z1, z2, z3⟩
      · rw [z1] at h
        cases h
        refine .miss ?_
        have := rb.val k
        rw [z2] at this
        exact RelO.none_of this
      · rw [z1] at h
        dsimp only at h
        split at h
        · rename_i d e hd he
          split at h
          · rename_i hc
            rw [Bool.and_eq_true] at hc
            split at h
            · rename_i b hb
              cases h
              have := rb.val k
              rw [z2] at this
              obtain ⟨y, hy, ry⟩ := RelO.some_of this
              obtain ⟨as, r1⟩ := Dp.reads I d _ _ (dp_of _ _ _ rw' hd) h2
              obtain ⟨bs, r2⟩ := Dp.reads I e _ _ (dp_of _ _ _ z3 he) ry
              exact .hit hy (PySem.W.keq_at r1 r2 hc.1 hc.2 hu) (hits_of I hu rl rb rt t hb)
            · cases h
          · cases h
        · cases h
end
section
variable {X : Cx}
theorem op_neDict (hu : X.A.units + 100 < cLine) : OpR X (compareOp .NotEq) (rNeDict X.K) := by
  intro pins s σ H x y v u Q I rx ry h
  rcases h with ⟨rfl, rfl, q⟩ | ⟨a, b, vs, us, β, ks, ls, r, rfl, rfl, ha, hb, ra, rb, hr, q⟩
  · cases rx
    cases ry
    exact PySem.EqNone.ne_none_none ⟨.bl false, H, I, rfl, q⟩
  · cases rx
    cases ry
    obtain ⟨_, ya, va, ka, da⟩ := dk_of I.hok ha
    obtain ⟨_, yb, vb, kb, db⟩ := dk_of I.hok hb
    unfold eqDW at hr
    split at hr
    · rename_i b0 hb0
      cases hr
      refine PySem.W.keq_ne (knd := mixKind X.prog X.w) (r := b0) ya yb da db (by omega) (fun _ => hits_of I (A := X.A) (by show X.A.units + 1 + 64 < cLine; omega) rb kb ra ka hb0) ⟨.bl (!(va.length == vb.length && b0)), H, I, rfl, ?_⟩
      rw [← ka.length, ← kb.length, ← ra.length, ← rb.length]
      exact q
    · cases hr
theorem ref_neDict {K : PySem.W.Frag} : Ref2 K fNeDict (rNeDict K) := by
  intro β H st st' x y w vx vy Q hS rx ry hm k
  unfold fNeDict at hm
  split at hm
  · cases hm
    exact .inl ⟨rx.non_inv, ry.non_inv, k _ H β .refl hS (.bl _)⟩
  · split at hm
    · rename_i q1 ks q2 ls h1 h2
      split at hm
      · rename_i b hb
        cases hm
        obtain ⟨a, vs, rfl, _, _, e, r⟩ := dct_ok hS rx h1
        obtain ⟨a2, vs2, rfl, _, _, e2, r2⟩ := dct_ok hS ry h2
        exact .inr ⟨a, a2, vs, vs2, β, ks, ls, b, rfl, rfl, e, e2, r, r2, hb, k _ H β .refl hS (.bl _)⟩
      · cases hm
    · cases hm
end
end B

set_option Elab.async false
set_option linter.all false
set_option maxRecDepth 100000
set_option maxHeartbeats 4000000
namespace B
open PySem PySem.Spec PyProof.Rows L2 PpSet
set_option autoImplicit false

/-! ### sets of ints (the ways of the library's lemmas for tuples and truth values, gone for lists and ints) -/
section
variable {P : Program} {w : World} {A : Around} {E : Value → Shared → Prop} {s : Shared}
theorem call_set_lstI {l : Addr} {items : Array Value} (ns : List Int) {Q : Value → Shared → Prop} (hh : A.handled = none) (hl : s.heap.IsList l items) (hit : IntsAre items.toList ns) (hb : ns.length + 1 < scanBound)
    (h : ∀ (h' : Heap) (tk c : Nat), SetR w h' s.heap.objs.size (fun j => decide (j ∈ ns)) c → c ≤ ns.length → (∀ b o, s.heap.get? b = some o → h'.get? b = some o) → Q (.ref s.heap.objs.size) { s with heap := h', toks := tk }) :
    wpAny (model P w) A (call (.type "set") [.ref l]) Q E s := by
  have hisz : items.size = ns.length := by
    have q := IntsAre.length hit
    rw [Array.length_toList] at q
    exact q
  obtain ⟨c, tl, hmro⟩ := F.called_set.mro
  have hmade := F.called_set.made
  have hsub := F.called_set.sub
  refine wpAny_call (codeAny_of_tree ?_)
  show wpAny _ _ (callAny (.type "set") _) _ _ _
  refine wpAny_pure ⟨Code.quiet_builtin _ (by decide +kernel), codeAny_builtin F.entry_type_call ?_⟩
  rw [Around.under_plain (weight_type_call_type "set" [.ref l] []) rfl]
  have h1 := F.called_set.notType
  have h2 := F.called_set.canCreate
  have hct := F.typeCall_set_1 (.ref l)
  repeat (any_goals (first | assumption | wp_step))

  refine codeAny_mono (code_set_led1 (.ref l) (E := E) (Q₁ := fun obj s₁ => obj = .ref s.heap.objs.size ∧ s₁ = { s with heap := s.heap.push { cls := .type "set", dict := none, data := .set #[] 0 (.fresh 0 0 (!w.params.followText "set-order")) } }) ⟨rfl, rfl⟩) fun r s₁ hr => ?_
  cases r with
  | error e => exact hr
  | ok fl =>
    cases fl with
    | ret obj =>
      obtain ⟨rfl, rfl⟩ := hr
      have hS : (s.heap.push { cls := .type "set", dict := none, data := .set #[] 0 (.fresh 0 0 (!w.params.followText "set-order")) }).get? s.heap.objs.size = some { cls := .type "set", dict := none, data := .set #[] 0 (.fresh 0 0 (!w.params.followText "set-order")) } := Heap.get?_push_size _ rfl
      have hT : Shared.TypeIs { s with heap := s.heap.push { cls := .type "set", dict := none, data := .set #[] 0 (.fresh 0 0 (!w.params.followText "set-order")) } } (.ref s.heap.objs.size) "set" := ⟨_, hS, rfl⟩
      have hli := F.called_set.init.lookup
      have hbi := F.called_set.init.bind (.ref s.heap.objs.size)
      repeat (any_goals (first | assumption | wp_step))

      refine codeAny_mono (codeAny_call_builtin (R := wants (fun r s₂ => r = .none ∧ ∃ h' tk c, s₂ = { s with heap := h', toks := tk } ∧ SetR w h' s.heap.objs.size (fun j => decide (j ∈ ns)) c ∧ c ≤ ns.length ∧
          (∀ b o, s.heap.get? b = some o → h'.get? b = some o)) E) F.called_set.init.plain F.entry_set_init (check_set_init_1 hT ?_)) fun r₂ s₂ hr₂ => ?_
      · obtain ⟨ol, hol, hcl, nl, hdl⟩ := hl
        obtain ⟨ocls, odict, odata, oslots⟩ := ol
        simp only at hcl hdl
        subst hcl; subst hdl
        have hol' : (s.heap.push { cls := .type "set", dict := none, data := .set #[] 0 (.fresh 0 0 (!w.params.followText "set-order")) }).get? l = some { cls := .type "list", dict := odict, data := .seq items nl, slots := oslots } := Heap.get?_push_of_some _ hol
        have hsls := F.sub_list_set
        have hslf := F.sub_list_frozenset
        have hne : (Value.type "list" == Value.type "dict") = false := by decide
        have hl1 : (s.heap.push { cls := .type "set", dict := none, data := .set #[] 0 (.fresh 0 0 (!w.params.followText "set-order")) }).IsList l items := ⟨_, hol', rfl, nl, rfl⟩
        unfold Builtin.«set.__init__» noKeywords Builtin.Frozenset.updateFrom
        generalize hPI : pyIter = PI
        wp_walk
        subst hPI

        refine wpAny_pyIter_list hl1 ?_
        refine wpAny_bind (wpAny_runValue ?_)
        have hlS : l < s.heap.objs.size := Heap.lt_size hol
        have hh3 : A.in1.in1.in1.handled = none := by simp [hh]
        have hz1 : (s.heap.push { cls := .type "set", dict := none, data := .set #[] 0 (.fresh 0 0 (!w.params.followText "set-order")) }).objs.size = s.heap.objs.size + 1 := Heap.size_push ..
        have hneI : l ≠ (s.heap.push { cls := .type "set", dict := none, data := .set #[] 0 (.fresh 0 0 (!w.params.followText "set-order")) }).objs.size := by
          rw [Heap.size_push]; exact Nat.ne_of_lt (Nat.lt_succ_of_lt hlS)
        have hSf : s.heap.objs.size ∉ [(s.heap.push { cls := .type "set", dict := none, data := .set #[] 0 (.fresh 0 0 (!w.params.followText "set-order")) }).objs.size, l] := by
          rw [Heap.size_push]; simp only [List.mem_cons, List.mem_singleton, List.not_mem_nil, or_false, not_or]
          exact ⟨Nat.ne_of_lt (Nat.lt_succ_self _), Nat.ne_of_gt hlS⟩
        have hval : ∀ (i : Nat) (v : Value), items[i]? = some v → ∃ k t, ns[i]? = some k ∧ v = .int k t := fun i v hv => by
          have hi : i < ns.length := by rw [← hisz]; exact (Array.getElem?_eq_some_iff.mp hv).1
          obtain ⟨t, e⟩ := PyProof.Rows.IntsAre.int_at hit i v (by rw [Array.getElem?_toList]; exact hv)
          refine ⟨ns[i], t, List.getElem?_eq_getElem hi, ?_⟩
          rw [e, List.getD_eq_getElem?_getD, List.getElem?_eq_getElem hi] <;> rfl
        refine set_update_ints ((Walks.list hh3 _ l hneI items).toS) s.heap.objs.size
          hSf ns hisz hb hval (items.size - 0) 0 _ (by omega) (Nat.zero_le _)
          ⟨⟨_, Heap.get?_push_size _ rfl, rfl, rfl⟩, (hl1.push _)⟩ ?hS0 ?hR
        case hS0 =>
          have hget : ((s.heap.push { cls := .type "set", dict := none, data := .set #[] 0 (.fresh 0 0 (!w.params.followText "set-order")) }).push { cls := .type "list_iterator", data := .fields #[.ref l, .int 0 0] }).get? s.heap.objs.size
              = some { cls := .type "set", dict := none, data := .set #[] 0 (.fresh 0 0 (!w.params.followText "set-order")) } := Heap.get?_push_of_some _ hS
          exact ⟨0, Nat.le_refl 0, setR_new_at hget⟩
        case hR =>
          intro s' c' hm hc' hS'
          obtain ⟨h', g2, d', tk', os'⟩ := s'
          have eg : g2 = s.gens := hm.gens
          have ed : d' = s.drawn := hm.drawn
          have eo : os' = s.os := hm.os
          subst eg; subst ed; subst eo
          show wpAny _ _ _ _ _ _
          refine wpAny_pure ?_
          show wpAny _ _ (PySem.ret Value.none) _ _ _
          rw [hisz] at hc'
          refine wpAny_pure ⟨rfl, h', tk', c', rfl, hS', hc', fun b o e => ?_⟩
          have hb0 : b < s.heap.objs.size := Heap.lt_size e
          have hb1 : b ≠ s.heap.objs.size := Nat.ne_of_lt hb0
          have hb2 : b ≠ (s.heap.push { cls := .type "set", dict := none, data := .set #[] 0 (.fresh 0 0 (!w.params.followText "set-order")) }).objs.size := by
            rw [Heap.size_push]; exact Nat.ne_of_lt (Nat.lt_succ_of_lt hb0)
          exact hm.heap b o (by simp only [List.mem_cons, List.mem_singleton, List.not_mem_nil, or_false, not_or]; exact ⟨hb1, hb2⟩) (Heap.get?_push_of_some _ (Heap.get?_push_of_some _ e))

      · cases r₂ with
        | error e => exact hr₂
        | ok fl₂ =>
          cases fl₂ with
          | ret r =>
            obtain ⟨rfl, h', tk, c', rfl, hS', hc', hk'⟩ := hr₂
            repeat (any_goals (first | assumption | wp_step))
            exact h _ _ _ hS' hc' hk'
          | _ => exact hr₂.elim
    | _ => exact hr.elim
end
section
variable {X : Cx}
theorem addI_ok {pins : List (Addr × Obj)} {σ : L2.St} {H : Hp} {s : Shared} {E : Value → Shared → Prop} {D : Addr} {S : Int → Bool} {n : Nat} {y : Int} {t : Tok} {Q : Value → Shared → Prop} (I : Inv X pins σ H s) (hD : H D = some (SetO X.w D S n)) (room : n + 1 < scanBound)
    (h : ∀ s', Inv X pins σ (upd H D (SetO X.w D (fun j => S j || decide (j = y)) (if S y = true then n else n + 1))) s' → Q .none s') : wpAny (model X.prog X.w) X.A (call (.builtin "set.add") [.ref D, .int y t]) Q E s := by
  refine setR_add (setO_get I hD) room fun h' sb new => ?_
  have he : ∃ u, h'.get? D = some u := by
    have ⟨o, _, _, _, ho, _⟩ := new
    exact ⟨o, ho⟩
  exact h _ (I.write (e := D) (t' := s.toks + 1) (by rw [hD]; trivial) (.inl rfl) (fun b u hb hu => (sb.2 b hb).trans hu) he (setO_new new))
end
section
variable {X : Cx}
/-- {elt for target in iter if ..}, elt an int: D the new set -/
def tSci (w : World) (wi : TI) (g : TG) (tt : TT) (te : TE) (vs : List Nat) : TE := fun σ H Q => wi σ H fun J H1 => ∀ D, H1 D = none → ∃ W : Nat → Nat → Hp → Prop, (∃ m, W 0 m (upd H1 D (SetO w D (fun _ => false) 0))) ∧ ∀ i m H, W i m H →
  (J.stop i H ∧ Q (.ref D) H) ∨ (J.go i H ∧ ∃ Nx : Hp → Prop, (∀ H', Nx H' → ∃ m', m' < m ∧ W (i + 1) m' H') ∧ ∀ x H', J.yld i H x H' → g x (wipe σ vs) H' fun σ2 H2 => wipe σ2 vs = wipe σ vs ∧ tt σ2 H2 fun b H3 =>
    if b = true then te σ2 H3 fun y H4 => ∃ (c : Int) (S : Int → Bool) (n : Nat), y = .int c ∧ H4 D = some (SetO w D S n) ∧ n + 1 < scanBound ∧ Nx (upd H4 D (SetO w D (fun j => S j || decide (j = c)) (if S c = true then n else n + 1))) else Nx H3)
theorem sci_core {pins : List (Addr × Obj)} {s : Shared} {σ : L2.St} {H : Hp} {Q : VK} {elt tg iter : Expr} {ifs : List Expr} {scope : Scope} {own : List (PySem.Str × Nat)} {pos pos' : Pos} {wi : TI} {g : TG} {tt : TT} {te : TE} {use : Option (Value → Sem Unit)} {Qf : Value → Shared → Prop}
    (hc : X.calm = true) (hN : X.N.Nodup) (I : Inv X pins σ H s) (hi : PI X tg iter wi) (ok : BlkOk X.N X.env.scope scope own)
    (hg : ∀ (s : Shared) (H : Hp) (C : Addr) (cl : List (PySem.Str × Addr)) (fp : List Addr), PG (X.blk s H scope (compEnvC scope cl C X.env) fp) tg g) (ht : ∀ (s : Shared) (H : Hp) (C : Addr) (cl : List (PySem.Str × Addr)) (fp : List Addr), PTs (X.blk s H scope (compEnvC scope cl C X.env) fp) ifs tt)
    (he : ∀ (s : Shared) (H : Hp) (C : Addr) (cl : List (PySem.Str × Addr)) (fp : List Addr), PE (X.blk s H scope (compEnvC scope cl C X.env) fp) elt te) (hs : ∀ x, foldedSetIterable iter X.env x = pure x)
    (h : tSci X.w wi g tt te (own.map (·.2)) σ H Q)
    (hRR : ∀ D C s' m H', Inv X pins σ H' s' → Q (.ref D) H' → s'.heap.Ns C m → FpOk X pins H' C → compPost (model X.prog X.w) X.A X.xe use Qf (.ref D) C (.ok .next) s') :
    wpAny (model X.prog X.w) X.A (comprehension (.SetComp elt [⟨tg, iter, ifs, 0⟩] scope pos) scope X.env pos' (newSet (.type "set")) false (eval iter X.env) use) Qf X.xe s := by
  have hfree : ∀ y ∈ scope.names, y.2 = .free → ∃ c, X.env.cells.lookup y.1 = some c := fun y hy e => by
    rcases ok.free y hy e with k | k
    · exact I.ok.has _ (.inl k)
    · exact I.ok.has _ (.inr k)
  refine wpAny_comprehension_free (use := use) rfl hs (closure_ok hfree) ok.kind (fun y hy e => by rw [ok.uniq y hy, e])
    (thn (hi.run pins s σ H _ I h) fun xv s1 hx => thn hx fun itv s2 h2 => ?_)
  obtain ⟨it, fp, tn, J, H2, e, I2, T, st2, f2, q⟩ := h2
  subst e
  refine newSet_ok (newEnv_comp ?_)
  generalize hD : s2.heap.objs.size = D
  have hDn : H2 D = none := I2.hok.fresh (Nat.le_of_eq hD)
  obtain ⟨W, ⟨m0, w0⟩, turn⟩ := q D hDn
  -- the new list
  generalize hs3 : ({ s2 with heap := s2.heap.push { cls := .type "set", dict := none, data := .set #[] 0 (.fresh 0 0 (!X.w.params.followText "set-order")) } } : Shared) = s3
  have I3 : Inv X pins σ (upd H2 D (SetO X.w D (fun _ => false) 0)) s3 := by
    rw [← hs3]
    refine I2.laid (t' := s2.toks) (fun b o e => Heap.get?_push_of_some _ e) (Nat.le_of_eq hD) ?_
    rw [← hD]
    exact setO_new (setR_fresh X.w)
  have h3 : s3.heap = s2.heap.push { cls := .type "set", dict := none, data := .set #[] 0 (.fresh 0 0 (!X.w.params.followText "set-order")) } := by rw [← hs3]
  have sz : ∀ b ∈ fp, b < s2.heap.objs.size := fun b hb => by
    obtain ⟨o, e, _⟩ := T.obj _ _ st2 b hb
    exact Heap.lt_size e
  have f3 : ∀ b ∈ fp, FpOk X pins (upd H2 D (SetO X.w D (fun _ => false) 0)) b ∧ b < s3.heap.objs.size := fun b hb => by
    have hlt := sz b hb
    refine ⟨⟨?_, (f2 b hb).2⟩, by rw [h3, Heap.size_push]; exact Nat.lt_succ_of_lt hlt⟩
    rw [upd_ne (by rw [← hD]; exact Nat.ne_of_lt hlt)]
    exact (f2 b hb).1
  have st3 : tn 0 s3.heap := T.keep _ _ _ st2 fun b _ o e => by rw [h3]; exact Heap.get?_push_of_some _ e
  have I4 := block_start I3 ok hN f3
  have pg := hg s3 (upd H2 D (SetO X.w D (fun _ => false) 0)) s3.heap.objs.size (cellsFrom (s3.heap.objs.size + 1) scope.names (cloFrom X.env.cells scope.names [])) fp
  have pt := ht s3 (upd H2 D (SetO X.w D (fun _ => false) 0)) s3.heap.objs.size (cellsFrom (s3.heap.objs.size + 1) scope.names (cloFrom X.env.cells scope.names [])) fp
  have pe := he s3 (upd H2 D (SetO X.w D (fun _ => false) 0)) s3.heap.objs.size (cellsFrom (s3.heap.objs.size + 1) scope.names (cloFrom X.env.cells scope.names [])) fp
  show codeAny _ _ (.compStart (.SetComp elt [⟨tg, iter, ifs, 0⟩] scope pos) 0 (.ref it) (.ref D) (compEnvC scope (cellsFrom (s3.heap.objs.size + 1) scope.names (cloFrom X.env.cells scope.names [])) s3.heap.objs.size X.env)) (compPost (model X.prog X.w) X.A X.xe use Qf (.ref D) s3.heap.objs.size) { s3 with heap := pushCells (s3.heap.push { cls := .type "dict", data := .dict #[] }) scope.names }
  have nfp : ∀ b ∈ fp, (upd H2 D (SetO X.w D (fun _ => false) 0)) b = none := fun b hb => (f3 b hb).1.1
  generalize hce : compEnvC scope (cellsFrom (s3.heap.objs.size + 1) scope.names (cloFrom X.env.cells scope.names [])) s3.heap.objs.size X.env = ce at I4 pg pt pe ⊢
  have cL : ce.locals = s3.heap.objs.size := by subst hce; rfl
  generalize hH3 : upd H2 D (SetO X.w D (fun _ => false) 0) = H3 at I3 I4 pg pt pe w0 nfp f3
  generalize hs4 : ({ s3 with heap := pushCells (s3.heap.push { cls := .type "dict", data := .dict #[] }) scope.names } : Shared) = s4 at I4 ⊢
  have st4 : tn 0 s4.heap := T.keep _ _ _ st3 fun b _ o e => by rw [← hs4]; exact pushCells_keeps _ _ _ _ (Heap.get?_push_of_some _ e)
  have stat : ∀ {σ' : L2.St} {H' : Hp} {s' : Shared}, Inv (X.blk s3 H3 scope ce fp) [] σ' H' s' → (∀ b ∈ fp, H' b = none) → ∀ b ∈ fp, FpOk (X.blk s3 H3 scope ce fp) [] H' b := fun {σ' H' s'} I' hn b hb =>
    ⟨hn b hb, (I'.ok.exf b hb).1, I'.ok.exfs b hb, .inl hb, fun x c e => (I'.ok.exf b hb).2 x c e, fun p hp => absurd (show p ∈ ([] : List (Addr × Obj)) ++ [] from hp) (by simp)⟩
  have loop : codeAny (model X.prog X.w) X.A (.compLoop (.SetComp elt [⟨tg, iter, ifs, 0⟩] scope pos) 0 (.ref it) (.ref D) ce) (compPost (model X.prog X.w) X.A X.xe use Qf (.ref D) s3.heap.objs.size) s4 := by
    refine compLoopS_any (fun n s' => ∃ i H', Inv (X.blk s3 H3 scope ce fp) [] (wipe σ (own.map (·.2))) H' s' ∧ tn i s'.heap ∧ (∀ b ∈ fp, H' b = none) ∧ W i n H') ?_ m0 ⟨0, H3, I4, st4, nfp, w0⟩
    rintro n s5 ⟨i, H5, I5, st5, n5, w5⟩
    rcases turn i n H5 w5 with ⟨stop, qq⟩ | ⟨go, Nx, hNx, step⟩
    · have td := T.done (X.blk s3 H3 scope ce fp) rfl rfl rfl hc i [] s5 _ H5 (fun _ _ => False) I5 (stat I5 n5) st5 stop
      refine thnF td fun r s6 ⟨hr, I6⟩ => ?_
      subst hr
      -- back in the def's context
      have I7 : Inv X pins σ H5 s6 := I3.call' (ch := fp) I6.os I6.base I6.hok I6.bare fun b hb => ⟨(f3 b hb).1.2.2.2.1, (f3 b hb).1.2.1, (f3 b hb).1.2.2.2.2.1, (f3 b hb).1.2.2.2.2.2⟩
      have nC : H5 s3.heap.objs.size = none := by
        have z : H5 ce.locals = none := I6.free
        rw [cL] at z
        exact z
      obtain ⟨m, hn, _⟩ := I6.loc
      have hn : s6.heap.Ns ce.locals m := hn
      rw [cL] at hn
      exact hRR D s3.heap.objs.size s6 m H5 I7 qq hn (I3.fpOk (Nat.le_refl _) nC)
    · have ti := T.item (X.blk s3 H3 scope ce fp) rfl rfl rfl hc i [] s5 _ H5 (fun _ _ => False) I5 (stat I5 n5) st5 go
      refine thnF ti fun r s6 ⟨u, hr, h6⟩ => ?_
      subst hr
      refine thnF h6 fun _ s7 ⟨x, H7, I7, r7, y7, st7, n7⟩ => ?_
      have I7' := I7.pinned (stat I7 n7) (T.obj _ _ st7)
      refine thnF (pg.run _ s7 _ H7 x u _ I7' r7 (step x H7 y7)) fun _ s8 ⟨σ8, H8, I8, hw8, q8⟩ => ?_
      refine thnF (pt.run _ s8 σ8 H8 _ I8 q8) fun b s9 ⟨H9, I9, q9⟩ => ?_
      -- the turn's end
      have fin : ∀ {s' : Shared} {H' : Hp}, Inv (X.blk s3 H3 scope ce fp) ([] ++ pinsAt fp s7.heap) σ8 H' s' → Nx H' → ∃ m, m < n ∧ ∃ i H', Inv (X.blk s3 H3 scope ce fp) [] (wipe σ (own.map (·.2))) H' s' ∧ tn i s'.heap ∧ (∀ b ∈ fp, H' b = none) ∧ W i m H' := fun {s' H'} I' nx => by
        obtain ⟨m', hm, w'⟩ := hNx H' nx
        have pin' : ∀ b ∈ fp, ∀ o, s7.heap.get? b = some o → s'.heap.get? b = some o ∧ H' b = none := fun b hb o e =>
          let z := I'.pin (b, o) (List.mem_append_right _ (List.mem_append_right _ (mem_pinsAt hb e)))
          ⟨z.1, z.2.1⟩
        have hl : (wipe σ (own.map (·.2))).length = σ8.length := by rw [← hw8, wipe_length]
        refine ⟨m', hm, i + 1, H', (I'.unpinned (pins := [])).weak hl (fun j v e => ?_), T.keep _ _ _ st7 fun b hb o e => (pin' b hb o e).1, fun b hb => ?_, w'⟩
        · rw [← hw8] at e
          exact (wipe_some e).1
        · obtain ⟨o, e, _⟩ := T.obj _ _ st7 b hb
          exact (pin' b hb o e).2
      cases b with
      | false =>
        simp only [Bool.false_eq_true, if_false] at q9 ⊢
        exact fin I9 q9
      | true =>
        simp only [if_true] at q9 ⊢
        refine thnF (pe.run _ s9 σ8 H9 _ I9 q9) fun z s10 ⟨yv, H10, I10, r10, cb, S0, n0, ey, hD10, hz10, nx⟩ => ?_
        subst ey
        obtain ⟨tz, rfl⟩ := (show ∃ t, z = Value.int cb t from r10)
        exact addI_ok (X := X.blk s3 H3 scope ce fp) I10 hD10 hz10 fun s11 I11 => fin I11 nx
  exact codeAny_compStart_set loop (T.self X.A 0 _ _ _ st4 loop)
/-- as a value -/
theorem pe_sci {elt tg iter : Expr} {ifs : List Expr} {scope : Scope} {own : List (PySem.Str × Nat)} {pos : Pos} {wi : TI} {g : TG} {tt : TT} {te : TE} (hc : X.calm = true) (hN : X.N.Nodup) (hi : PI X tg iter wi) (ok : BlkOk X.N X.env.scope scope own)
    (hg : ∀ (s : Shared) (H : Hp) (C : Addr) (cl : List (PySem.Str × Addr)) (fp : List Addr), PG (X.blk s H scope (compEnvC scope cl C X.env) fp) tg g) (ht : ∀ (s : Shared) (H : Hp) (C : Addr) (cl : List (PySem.Str × Addr)) (fp : List Addr), PTs (X.blk s H scope (compEnvC scope cl C X.env) fp) ifs tt)
    (he : ∀ (s : Shared) (H : Hp) (C : Addr) (cl : List (PySem.Str × Addr)) (fp : List Addr), PE (X.blk s H scope (compEnvC scope cl C X.env) fp) elt te) (hs : ∀ x, foldedSetIterable iter X.env x = pure x := by intro _; rfl) :
    PE X (.SetComp elt [⟨tg, iter, ifs, 0⟩] scope pos) (tSci X.w wi g tt te (own.map (·.2))) := by
  refine ⟨fun pins s σ H Q I h => ?_⟩
  rw [eval_SetComp]
  refine sci_core hc hN I hi ok hg ht he hs h fun D C s' m H' I' q hn f => ⟨m, hn, fun h'' sb => ?_⟩
  obtain ⟨f0, f1, f2, f3, f4, f5⟩ := f
  exact ⟨.ref D, H', I'.turned (t' := s'.toks) (fun b o hb e => (sb.2 b hb).trans e) f0 f1 f3 f4 f5, rfl, q⟩
end
end B

set_option Elab.async false
set_option linter.all false
set_option maxRecDepth 100000
set_option maxHeartbeats 1000000
namespace B
open PySem PySem.Spec L2
set_option autoImplicit false

/-! ### ascending lists without doubles -/
def insU (y : Int) : List Int → List Int
  | [] => [y]
  | x :: xs => if y < x then y :: x :: xs else if y = x then x :: xs else x :: insU y xs
theorem mem_insU (y k : Int) : ∀ xs : List Int, k ∈ insU y xs ↔ k ∈ xs ∨ k = y
  | [] => by simp [insU]
  | x :: xs => by
    unfold insU
    split
    · rw [List.mem_cons]; exact Or.comm
    · split
      · rename_i h; subst h
        simp only [List.mem_cons]
        constructor
        · exact .inl
        · rintro (h | h)
          · exact h
          · exact .inl h
      · simp only [List.mem_cons, mem_insU y k xs]
        constructor
        · rintro (h | h | h)
          · exact .inl (.inl h)
          · exact .inl (.inr h)
          · exact .inr h
        · rintro ((h | h) | h)
          · exact .inl h
          · exact .inr (.inl h)
          · exact .inr (.inr h)
theorem pw_insU (y : Int) : ∀ xs : List Int, xs.Pairwise (· < ·) → (insU y xs).Pairwise (· < ·)
  | [], _ => by simp [insU]
  | x :: xs, h => by
    obtain ⟨h1, h2⟩ := List.pairwise_cons.mp h
    unfold insU
    split
    · rename_i c
      refine List.pairwise_cons.mpr ⟨fun z hz => ?_, h⟩
      rcases List.mem_cons.mp hz with e | e
      · subst e; exact c
      · exact Int.lt_trans c (h1 z e)
    · split
      · exact h
      · rename_i c1 c2
        refine List.pairwise_cons.mpr ⟨fun z hz => ?_, pw_insU y xs h2⟩
        rcases (mem_insU y z xs).mp hz with e | e
        · exact h1 z e
        · omega
theorem len_insU (y : Int) : ∀ xs : List Int, xs.Pairwise (· < ·) → (insU y xs).length = if y ∈ xs then xs.length else xs.length + 1
  | [], _ => by simp [insU]
  | x :: xs, h => by
    obtain ⟨h1, h2⟩ := List.pairwise_cons.mp h
    unfold insU
    split
    · rename_i c
      have hn : y ∉ x :: xs := fun hm => by
        rcases List.mem_cons.mp hm with e | e
        · omega
        · have := h1 y e; omega
      rw [if_neg hn]; simp
    · split
      · rename_i c
        rw [if_pos (by rw [c]; exact List.mem_cons_self)]
      · rename_i c1 c2
        rw [List.length_cons, len_insU y xs h2]
        by_cases hm : y ∈ xs
        · rw [if_pos hm, if_pos (List.mem_cons_of_mem _ hm)]; simp
        · rw [if_neg hm, if_neg (fun q => by rcases List.mem_cons.mp q with e | e; exact c2 e; exact hm e)]; simp
theorem pw_uniq : ∀ {xs ys : List Int}, xs.Pairwise (· < ·) → ys.Pairwise (· < ·) → (∀ k, k ∈ xs ↔ k ∈ ys) → xs = ys
  | [], [], _, _, _ => rfl
  | [], y :: ys, _, _, h => absurd ((h y).mpr List.mem_cons_self) (by simp)
  | x :: xs, [], _, _, h => absurd ((h x).mp List.mem_cons_self) (by simp)
  | x :: xs, y :: ys, hx, hy, h => by
    obtain ⟨a1, a2⟩ := List.pairwise_cons.mp hx
    obtain ⟨b1, b2⟩ := List.pairwise_cons.mp hy
    have e : x = y := by
      have m1 := (h x).mp List.mem_cons_self
      have m2 := (h y).mpr List.mem_cons_self
      rcases List.mem_cons.mp m1 with e | e
      · exact e
      · rcases List.mem_cons.mp m2 with e' | e'
        · exact e'.symm
        · have := b1 x e; have := a1 y e'; omega
    subst e
    rw [pw_uniq a2 b2 fun k => ?_]
    constructor
    · intro hk
      rcases List.mem_cons.mp ((h k).mp (List.mem_cons_of_mem _ hk)) with e | e
      · subst e; exact absurd (a1 k hk) (Int.lt_irrefl k)
      · exact e
    · intro hk
      rcases List.mem_cons.mp ((h k).mpr (List.mem_cons_of_mem _ hk)) with e | e
      · subst e; exact absurd (b1 k hk) (Int.lt_irrefl k)
      · exact e

/-! ### sorted(set(a list of ints)) -/
def insAll (l : List Int) : List Int := l.foldr insU []
theorem pw_insAll (l : List Int) : (insAll l).Pairwise (· < ·) := by
  induction l with
  | nil => exact .nil
  | cons x xs ih => exact pw_insU x _ ih
theorem mem_insAll (k : Int) (l : List Int) : k ∈ insAll l ↔ k ∈ l := by
  induction l with
  | nil => simp [insAll]
  | cons x xs ih =>
    show k ∈ insU x (insAll xs) ↔ _
    rw [mem_insU, ih, List.mem_cons]
    exact Or.comm
theorem setR_count {w : World} {h : Heap} {a : Addr} {ns : List Int} {c : Nat} (R : SetR w h a (fun j => decide (j ∈ ns)) c) : c = (insAll ns).length := by
  obtain ⟨o, es, ep, t, ho, hex, hd, g, nd, hm, hb, hf, hn, hr, hl⟩ := R
  have hp : (es.toList.map keyOf).Perm (insAll ns) := (List.perm_ext_iff_of_nodup nd ((pw_insAll ns).imp fun h => Int.ne_of_lt h)).mpr fun k => by
    rw [← hm k, mem_insAll, decide_eq_true_eq]
  rw [← hn, ← hp.length_eq, List.length_map, Array.length_toList]
def rSetOfL (K : PySem.W.Frag) (w : World) : List V → Hp → VK → Prop := fun vs H Q => ∃ (a : Addr) (ns : List Int), vs = [.ref a] ∧ SqL K H a (ns.map V.int) ∧ ns.length < 4000 ∧ ∀ p c, H p = none → c = (insAll ns).length → Q (.ref p) (upd H p (SetO w p (fun j => decide (j ∈ ns)) c))
theorem cr_setOfL {X : Cx} (hc : X.calm = true) : CallR X (.type "set") (rSetOfL X.K X.w) := by
  intro pins s σ H vs us Q I r h
  obtain ⟨a, ns, rfl, hq, hz, q⟩ := h
  rw [Vals.ref1 r]
  obtain ⟨its, rv, p, _⟩ := I.list hq
  have hi : PyProof.Rows.IntsAre its.toArray.toList ns := by simpa using Vals.ints rv
  refine call_set_lstI ns (I.ok.hd hc) p.isList hi (by unfold scanBound; omega) fun h' tk c R hcn hk => ?_
  have I1 : Inv X pins σ (upd H s.heap.objs.size (SetO X.w s.heap.objs.size (fun j => decide (j ∈ ns)) c)) { s with heap := h', toks := tk } :=
    I.laid hk (Nat.le_refl _) (setO_new R)
  exact ⟨.ref _, _, I1, rfl, q _ c I.fresh (setR_count R)⟩
@[simp] def fSortSet (x : W) : M W := fun st => match listOf x st with
  | some ys => match intsW ys with
    | some ns => if (Nat.blt ns.length 4000 && Nat.blt (insAll ns).length 64) = true then some (.ref st.length, st ++ [.lst ((insAll ns).map .int)]) else none
    | none => none
  | none => none
theorem rws_ints {K : PySem.W.Frag} {β : List Addr} {H : Hp} : ∀ ns : List Int, RWs K β H (ns.map W.int) (ns.map V.int)
  | [] => .nil
  | n :: ns => .cons (.int n) (rws_ints ns)
theorem se_sortSet {X : Cx} {e : Expr} {m : EM} {p p' p2 pos : Pos} (hc : X.calm = true) (hg : Gl X "sorted") (hm : X.mg "sorted" = none) (hgs : Gl X "set") (hms : X.mg "set" = none) (he : SE X e m)
    (hs : starEach [e] X.env = (false, eval e X.env) :: starEach [] X.env := by rfl)
    (hs1 : starEach [.Call (.Name "set" p') [e] [] p2] X.env = (false, eval (.Call (.Name "set" p') [e] [] p2) X.env) :: starEach [] X.env := by rfl) :
    SE X (.Call (.Name "sorted" p) [.Call (.Name "set" p') [e] [] p2] [] pos) (eUn fSortSet m) := by
  have h1 := pe_callTy (p := p') (pos := p2) (cr_setOfL hc) hgs hms (by decide +kernel) (pa_cons he.pe pa_nil hs) (by decide) (by decide) hs rfl
  refine ⟨PEimp (pe_callB (cr_sortedSet hc) hg hm (by decide +kernel) (pa_cons h1 pa_nil hs1) (by decide) (by decide) hs1 rfl) ?_⟩
  rintro σ H Q ⟨β, st, env, w, st', hE, hS, hm, k⟩
  obtain ⟨x, st1, h1, h2⟩ := bnd_some hm
  refine ⟨β, st, env, x, st1, hE, hS, h1, fun v H1 β1 e1 s1 r1 => ?_⟩
  unfold fSortSet at h2
  split at h2
  · rename_i ys hl
    split at h2
    · rename_i ns hn
      split at h2
      · rename_i hz
        cases h2
        rw [Bool.and_eq_true] at hz
        have hz2 : (insAll ns).length < 64 := Nat.blt_eq.mp hz.2
        have hz : ns.length < 4000 := Nat.blt_eq.mp hz.1
        obtain ⟨a, us, rfl, hq, ru⟩ := list_ok s1 r1 hl
        rw [ints_ok ru hn] at hq
        refine ⟨a, ns, rfl, hq, hz, fun D c hD hcn => ⟨D, _, c, rfl, upd_same, by omega, fun os p hp hm hl hfp => ?_⟩⟩
        have e : os = insAll ns := pw_uniq hp (pw_insAll ns) fun k => by
          rw [hm k, mem_insAll]
          exact decide_eq_true_iff
        subst e
        have ex : Ext β1 H1 β1 (upd H1 D (SetO X.w D (fun j => decide (j ∈ ns)) c)) := Ext.new hD
        have sx : RS X.K β1 (upd H1 D (SetO X.w D (fun j => decide (j ∈ ns)) c)) st1 := s1.new hD
        have ea : Ext β1 (upd H1 D (SetO X.w D (fun j => decide (j ∈ ns)) c)) (β1 ++ [p]) (upd (upd H1 D (SetO X.w D (fun j => decide (j ∈ ns)) c)) p (.lst ((insAll ns).map V.int))) := Ext.alloc hfp
        exact k _ _ _ ((e1.trans ex).trans ea) (sx.alloc hfp ⟨_, upd_same, rws_ints _⟩) (.ref (alloc_ix sx))
      · cases h2
    · cases h2
  · cases h2

/-! ### sorted({x[i] for x in a list if x[j] == 'c'}) -/
def pickGo (i j : Int) (c : Str) : List W → List Int → Option (List Int)
  | [], acc => some acc
  | .tup t :: xs, acc => match atI t j with
    | some (.str y) => if (SeqAt.shaped (.str y) && SeqAt.shaped (.str c)) = true then if (y == c) = true then (match atI t i with
        | some (.int n) => if Nat.blt (acc.length + 1) 64 = true then pickGo i j c xs (insU n acc) else none
        | _ => none) else pickGo i j c xs acc else none
    | _ => none
  | _ :: _, _ => none
@[simp] def fSortPick (i j : Int) (c : Str) (x : W) : M W := fun st => match x with
  | .ref q => match st[q]? with
    | some (.lst xs) => match pickGo i j c xs [] with
      | some ns => some (.ref st.length, st ++ [.lst (ns.map .int)])
      | none => none
    | _ => none
  | _ => none
@[simp] def eSortPick (vi : Nat) (i j : Int) (c : Str) (m : EM) : EM := fun env => if Nat.blt vi env.length = true then eUn (fSortPick i j c) m env else fail
theorem pick_tup {K : PySem.W.Frag} {w : World} {D : Addr} {β : List Addr} {Hs : Hp} {a : Addr} {vi : Nat} {i j : Int} {c : Str} {xs : List W} {vsl : List V} {vs : List Nat} {σ : L2.St} {out : List Int} {Qd : Hp → Prop}
    (hvi : vi ∈ vs) (hlen : vi < σ.length) (hD : Hs D = none) (e : Hs a = some (.lst vsl)) (r : RWs K β Hs xs vsl) (hp : pickGo i j c xs [] = some out)
    (hd : (out.Pairwise (· < ·)) → out.length < 64 → Qd (upd Hs D (SetO w D (fun k => decide (k ∈ out)) out.length))) :
    ∃ Wm : Nat → Nat → Hp → Prop, (∃ m, Wm 0 m (upd Hs D (SetO w D (fun _ => false) 0))) ∧ ∀ n m H, Wm n m H →
      ((Itl K a).stop n H ∧ Qd H) ∨ ((Itl K a).go n H ∧ ∃ Nx : Hp → Prop, (∀ H', Nx H' → ∃ m', m' < m ∧ Wm (n + 1) m' H') ∧ ∀ x H', (Itl K a).yld n H x H' → gName vi x (wipe σ vs) H' fun σ2 H2 => wipe σ2 vs = wipe σ vs ∧ tTest (tOp (rEqD K) (tOp (rIx K) (tVar vi) (tC (.int j))) (tC (.str c))) σ2 H2 fun b H3 =>
        if b = true then tOp (rIx K) (tVar vi) (tC (.int i)) σ2 H3 fun y H4 => ∃ (cb : Int) (S : Int → Bool) (n : Nat), y = .int cb ∧ H4 D = some (SetO w D S n) ∧ n + 1 < scanBound ∧ Nx (upd H4 D (SetO w D (fun j => S j || decide (j = cb)) (if S cb = true then n else n + 1))) else Nx H3) := by
  have hDa : a ≠ D := ne_of_none e hD
  have hst : ∀ (S : Int → Bool) (n : Nat), SqL K (upd Hs D (SetO w D S n)) a vsl := fun S n => SqL.of (by rw [upd_ne hDa]; exact e)
  refine ⟨fun n m H => m = xs.length - n ∧ n ≤ xs.length ∧ ∃ acc : List Int, acc.Pairwise (· < ·) ∧ acc.length < 64 ∧ H = upd Hs D (SetO w D (fun k => decide (k ∈ acc)) acc.length) ∧ pickGo i j c (xs.drop n) acc = some out, ⟨xs.length, rfl, Nat.zero_le _, [], .nil, by decide, by simp, by simpa using hp⟩, ?_⟩
  rintro n m H ⟨rfl, hn, acc, hpw, h64, rfl, hp⟩
  by_cases hlt : n < xs.length
  · have hx : xs[n]? = some xs[n] := List.getElem?_eq_getElem hlt
    obtain ⟨v, hv, rv⟩ := r.get hx
    have hdrop : xs.drop n = xs[n] :: xs.drop (n + 1) := List.drop_eq_getElem_cons hlt
    rw [hdrop] at hp
    refine .inr ⟨⟨vsl, v, hst _ _, hv⟩, fun H' => n + 1 ≤ xs.length ∧ ∃ acc' : List Int, acc'.Pairwise (· < ·) ∧ acc'.length < 64 ∧ H' = upd Hs D (SetO w D (fun k => decide (k ∈ acc')) acc'.length) ∧ pickGo i j c (xs.drop (n + 1)) acc' = some out, fun H' h' => ⟨xs.length - (n + 1), by omega, rfl, h'⟩, fun x H2 y => ?_⟩
    obtain ⟨rfl, y⟩ := y
    have hxv := y vsl (hst _ _)
    rw [hv] at hxv
    cases hxv
    generalize hw : xs[n] = wn at rv hp
    cases wn with
    | tup t =>
      simp only [pickGo] at hp
      cases rv with
      | @tup ta _ tv hq rt =>
        have hq2 : SqT K (upd Hs D (SetO w D (fun k => decide (k ∈ acc)) acc.length)) ta tv := (Ext.new (β := β) hD).sqT hq.sq
        cases hj : atI t j with
        | none => rw [hj] at hp; cases hp
        | some wj =>
          rw [hj] at hp
          obtain ⟨vj, hvj, rj⟩ := atI_rws rt hj
          cases wj with
          | str yv =>
            dsimp only at hp
            cases rj
            cases hsh : (SeqAt.shaped (.str yv) && SeqAt.shaped (.str c)) with
            | false => rw [hsh, if_neg (by decide)] at hp; cases hp
            | true =>
            rw [hsh, if_pos rfl] at hp
            rw [Bool.and_eq_true] at hsh
            refine ⟨wipe_set_mem hvi |>.trans (wipe_wipe σ vs), ⟨V.ref ta, ?_, ?_⟩⟩
            · rw [List.getElem?_set_self (by rw [wipe_length]; exact hlen)]
            · refine .inr (.inl ⟨ta, tv, j, .str yv, rfl, rfl, hq2, hvj, .str yv, .str c, .str yv, .str c, hsh.1, hsh.2, yv == c, rfl, ?_⟩)
              cases hyc : (yv == c) with
              | true =>
                rw [hyc] at hp
                rw [if_pos rfl] at hp ⊢
                cases hi : atI t i with
                | none => rw [hi] at hp; cases hp
                | some wi =>
                  rw [hi] at hp
                  obtain ⟨vi', hvi', ri⟩ := atI_rws rt hi
                  cases wi with
                  | int nn =>
                    dsimp only at hp
                    cases ri
                    split at hp
                    · rename_i hz
                      have hz : acc.length + 1 < 64 := Nat.blt_eq.mp hz
                      refine ⟨V.ref ta, ?_, .inr (.inl ⟨ta, tv, i, .int nn, rfl, rfl, hq2, hvi', nn, _, _, rfl, upd_same, by unfold scanBound; omega, by omega, insU nn acc, pw_insU nn acc hpw, ?_, ?_, hp⟩)⟩
                      · rw [List.getElem?_set_self (by rw [wipe_length]; exact hlen)]
                      · rw [len_insU nn acc hpw]; split <;> omega
                      · have eS : (fun jj => decide (jj ∈ acc) || decide (jj = nn)) = fun k => decide (k ∈ insU nn acc) := by
                          funext k
                          rw [Bool.eq_iff_iff]
                          simp [mem_insU]
                        have en : (if decide (nn ∈ acc) = true then acc.length else acc.length + 1) = (insU nn acc).length := by
                          rw [len_insU nn acc hpw]
                          by_cases hm : nn ∈ acc
                          · simp [hm]
                          · simp [hm]
                        rw [eS, en]
                        funext b
                        by_cases hb : b = D
                        · subst hb; rw [upd_same, upd_same]
                        · rw [upd_ne hb, upd_ne hb, upd_ne hb]
                    · cases hp
                  | _ => cases hp
              | false =>
                rw [hyc] at hp
                rw [if_neg (by decide)] at hp ⊢
                exact ⟨by omega, acc, hpw, h64, rfl, hp⟩
          | _ => cases hp
    | _ => simp only [pickGo] at hp; cases hp
  · have en : n = xs.length := by omega
    subst en
    rw [List.drop_length] at hp
    simp only [pickGo] at hp
    cases hp
    exact .inl ⟨⟨vsl, hst _ _, by rw [← r.length]; exact Nat.le_refl _⟩, hd hpw h64⟩
theorem se_sortPick {X : Cx} {it : Expr} {m : EM} {x : Str} {i j : Int} {c : Str} {ki kj kc : Nat} {scope : Scope} {p p1 p2 p3 p4 p5 p6 p7 p8 p9 ps pos : Pos} (own : List (Str × Nat)) (vi : Nat) (hc : X.calm = true) (hN : X.N.Nodup) (hu : X.A.units + 64 < cLine) (hg : Gl X "sorted") (hmg : X.mg "sorted" = none) (ok : BlkOk X.N X.env.scope scope own)
    (hvi : vi ∈ own.map (·.2)) (he : SE X it m) (hNi : X.N[vi]? = some x := by rfl) (hl : scope.names.lookup x = some .local := by rfl) (hd : (x == ("__debug__" : Str)) = false := by decide) (hcd : (x == ("__classdict__" : Str)) = false := by decide)
    (hs : ∀ y, foldedSetIterable it X.env y = pure y := by intro _; rfl)
    (hs1 : starEach [.SetComp (.Subscript (.Name x p1) (.Constant (.int i) ki p2) p3) [⟨.Name x p4, it, [.Compare (.Subscript (.Name x p5) (.Constant (.int j) kj p6) p7) [.Eq] [.Constant (.str c) kc p8] p9], 0⟩] scope ps] X.env = (false, eval (.SetComp (.Subscript (.Name x p1) (.Constant (.int i) ki p2) p3) [⟨.Name x p4, it, [.Compare (.Subscript (.Name x p5) (.Constant (.int j) kj p6) p7) [.Eq] [.Constant (.str c) kc p8] p9], 0⟩] scope ps) X.env) :: starEach [] X.env := by rfl) :
    SE X (.Call (.Name "sorted" p) [.SetComp (.Subscript (.Name x p1) (.Constant (.int i) ki p2) p3) [⟨.Name x p4, it, [.Compare (.Subscript (.Name x p5) (.Constant (.int j) kj p6) p7) [.Eq] [.Constant (.str c) kc p8] p9], 0⟩] scope ps] [] pos) (eSortPick vi i j c m) := by
  have hl' : ∀ (cl : List (Str × Addr)) (C : Addr), (compEnvC scope cl C X.env).scope.names.lookup x = some .local := fun cl C => by
    show (relabel scope X.env).names.lookup x = some .local
    exact lookup_relabel_local hl
  have hset := pe_sci (tg := .Name x p4) (pos := ps) (g := gName vi) (elt := .Subscript (.Name x p1) (.Constant (.int i) ki p2) p3) (ifs := [.Compare (.Subscript (.Name x p5) (.Constant (.int j) kj p6) p7) [.Eq] [.Constant (.str c) kc p8] p9])
    (tt := tTest (tOp (rEqD X.K) (tOp (rIx X.K) (tVar vi) (tC (.int j))) (tC (.str c)))) (te := tOp (rIx X.K) (tVar vi) (tC (.int i))) hc hN (pi_any he.pe) ok
    (fun s H C cl fp => pg_name (X := X.blk s H scope (compEnvC scope cl C X.env) fp) hN hNi (Or.inl (hl' cl C)) (.inr (hl' cl C)))
    (fun s H C cl fp => pts_one (pt_cmpR (X := X.blk s H scope (compEnvC scope cl C X.env) fp) (op_eqD hu) (pe_ix ix_seq (pe_var hNi (Or.inl (hl' cl C)) hd hcd) pe_int (fun _ _ => rfl)) pe_str (nomark _)))
    (fun s H C cl fp => pe_ix (X := X.blk s H scope (compEnvC scope cl C X.env) fp) ix_seq (pe_var hNi (Or.inl (hl' cl C)) hd hcd) pe_int (fun _ _ => rfl)) hs
  refine ⟨PEimp (pe_callB (cr_sortedSet hc) hg hmg (by decide +kernel) (pa_cons hset pa_nil hs1) (by decide) (by decide) hs1 rfl) ?_⟩
  rintro σ H Q ⟨β, st, env, w, st', hE, hS, hm, k⟩
  unfold eSortPick at hm
  split at hm
  rotate_left
  · cases hm
  rename_i hvl
  have hvl := Nat.blt_eq.mp hvl
  rw [hE.len] at hvl
  obtain ⟨x, st1, h1, h2⟩ := bnd_some hm
  refine ⟨β, st, env, x, st1, hE, hS, h1, fun v H1 β1 e1 s1 r1 => ?_⟩
  unfold fSortPick at h2
  cases r1 with
  | @ref q a hb =>
    dsimp only at h2
    split at h2
    · rename_i xs hq
      split at h2
      · rename_i ns hp
        cases h2
        obtain ⟨vsl, e, r⟩ := rs_lst s1 hb hq
        refine ⟨a, rfl, .inl ⟨⟨vsl, SqL.of e⟩, fun D hD => pick_tup (β := β1) hvi hvl hD e r hp fun hpw h64 => ?_⟩⟩
        · refine ⟨D, _, ns.length, rfl, upd_same, h64, fun os p hpo hmo hlo hfp => ?_⟩
          have eo : os = ns := pw_uniq hpo hpw fun k => by
            rw [hmo k]
            exact decide_eq_true_iff
          subst eo
          have ex : Ext β1 H1 β1 (upd H1 D (SetO X.w D (fun j => decide (j ∈ os)) os.length)) := Ext.new hD
          have sx : RS X.K β1 (upd H1 D (SetO X.w D (fun j => decide (j ∈ os)) os.length)) st1 := s1.new hD
          have ea : Ext β1 (upd H1 D (SetO X.w D (fun j => decide (j ∈ os)) os.length)) (β1 ++ [p]) (upd (upd H1 D (SetO X.w D (fun j => decide (j ∈ os)) os.length)) p (.lst (os.map V.int))) := Ext.alloc hfp
          exact k _ _ _ ((e1.trans ex).trans ea) (sx.alloc hfp ⟨_, upd_same, rws_ints _⟩) (.ref (alloc_ix sx))
      · cases h2
    · cases h2
  | _ => cases h2
end B

set_option Elab.async false
set_option linter.all false
set_option maxRecDepth 100000
set_option maxHeartbeats 1000000
namespace B
open PySem PySem.Spec L2
set_option autoImplicit false

/-! ### isinstance(x, (A, B)) -/
def fIsi2 (A C : String) : W → M W := fun x st => match tyW x st with
  | some t => match kitB t A with
    | some true => some (.bl true, st)
    | some false => match kitB t C with
      | some b => some (.bl b, st)
      | none => none
    | none => none
  | none => none
theorem kit2 {K : PySem.W.Frag} {t a c : String} {b : Bool} (h1 : kitB t a = some false) (h2 : kitB t c = some b) : PySem.W.kitAny K (.type t) [.type a, .type c] = some b := by
  refine kitAny_cons (kit_ty h1) (fun _ => ?_) (fun z => nomatch z)
  cases b with
  | true => exact kitAny_cons (kit_ty h2) (fun z => nomatch z) (fun _ => rfl)
  | false => exact kitAny_cons (kit_ty h2) (fun _ => rfl) (fun z => nomatch z)
theorem kit1 {K : PySem.W.Frag} {t a c : String} (h1 : kitB t a = some true) : PySem.W.kitAny K (.type t) [.type a, .type c] = some true :=
  kitAny_cons (kit_ty h1) (fun z => nomatch z) (fun _ => rfl)
theorem se_isi2 {X : Cx} {e : Expr} {m : EM} {n1 n2 : Str} {A C : String} {k : Nat} {p p1 p2 tpos pos : Pos} (he : SE X e m) (hg : Gl X "isinstance") (hm : X.mg "isinstance" = none) (g1 : Gl X n1) (m1 : X.mg n1 = none) (g2 : Gl X n2) (m2 : X.mg n2 = none)
    (v1 : bootBuiltins n1 = some (.type A) := by decide +kernel) (v2 : bootBuiltins n2 = some (.type C) := by decide +kernel) (d1 : n1 ≠ "__name__" := by decide) (d2 : n2 ≠ "__name__" := by decide)
    (b1 : (n1 == ("__debug__" : Str)) = false := by decide) (b2 : (n2 == ("__debug__" : Str)) = false := by decide)
    (hs1 : starEach [e, .Tuple [.Name n1 p1, .Name n2 p2] k tpos] X.env = (false, eval e X.env) :: starEach [.Tuple [.Name n1 p1, .Name n2 p2] k tpos] X.env := by rfl)
    (hs2 : starEach [.Tuple [.Name n1 p1, .Name n2 p2] k tpos] X.env = (false, eval (.Tuple [.Name n1 p1, .Name n2 p2] k tpos) X.env) :: starEach [] X.env := by rfl)
    (hs3 : starEach [.Name n1 p1, .Name n2 p2] X.env = (false, eval (.Name n1 p1) X.env) :: starEach [.Name n2 p2] X.env := by rfl)
    (hs4 : starEach [.Name n2 p2] X.env = (false, eval (.Name n2 p2) X.env) :: starEach [] X.env := by rfl)
    (hpl : (backTo pos (starEach [.Tuple [.Name n1 p1, .Name n2 p2] k tpos] X.env)).any (·.1) = false := by rfl) :
    SE X (.Call (.Name "isinstance" p) [e, .Tuple [.Name n1 p1, .Name n2 p2] k tpos] [] pos) (eUn (fIsi2 A C) m) := by
  have t1 := pe_bltn (X := X) (x := n1) (pos := p1) (v := .ty A) g1 m1 v1 rfl d1 b1
  have t2 := pe_bltn (X := X) (x := n2) (pos := p2) (v := .ty C) g2 m2 v2 rfl d2 b2
  refine ⟨PEimp (pe_callB call_isiT hg hm PyProof.Rows.boot_isinstance (pa_cons he.pe (pa_cons (pe_tup (pa_cons t1 (pa_cons t2 pa_nil hs4) hs3)) pa_nil hs2) hs1) (by decide) (by decide) hs1 hpl) ?_⟩
  rintro σ H Q ⟨β, st, env, w, st', hE, hS, hm, kk⟩
  obtain ⟨x, st1, h1, h2⟩ := bnd_some hm
  refine ⟨β, st, env, x, st1, hE, hS, h1, fun v H1 β1 e1 s1 r1 => ⟨by show 2 ≤ sizeLine; rw [sizeLine_eq]; decide, fun T hT => ?_⟩⟩
  have ex : Ext β1 H1 β1 (upd H1 T (.tup [.ty A, .ty C])) := Ext.new hT
  have sx : RS X.K β1 (upd H1 T (.tup [.ty A, .ty C])) st1 := s1.new hT
  unfold fIsi2 at h2
  split at h2
  · rename_i t ht
    have ty := tyW_ok sx (r1.ext' ex) ht
    split at h2
    · rename_i hk
      cases h2
      exact ⟨v, T, _, _, _, true, rfl, upd_same, .cons (.ty A) (.cons (.ty C) .nil), ty, kit1 hk, kk _ _ β1 (e1.trans ex) sx (.bl true)⟩
    · rename_i hk
      split at h2
      · rename_i b hb
        cases h2
        exact ⟨v, T, _, _, _, b, rfl, upd_same, .cons (.ty A) (.cons (.ty C) .nil), ty, kit2 hk hb, kk _ _ β1 (e1.trans ex) sx (.bl b)⟩
      · cases h2
    · cases h2
  · cases h2

/-! ### is, of flags; tuple * int -/
@[simp] def fIsB : W → W → M W := fun x y st => match x, y with
  | .bl a, .bl b => some (.bl (decide (a = b)), st)
  | _, _ => none
theorem ref_isB {K : PySem.W.Frag} : Ref2 K fIsB rIsB := by
  intro β H st st' x y w vx vy Q hS rx ry hm k
  unfold fIsB at hm
  split at hm
  · cases hm
    exact ⟨_, _, rx.bl_inv, ry.bl_inv, k _ H β .refl hS (.bl _)⟩
  · cases hm
@[simp] def fRepT : W → W → M W := fun x y st => match x, y with
  | .tup xs, .int k => if decide (2 ≤ k ∧ k ≤ 1000 ∧ 1 ≤ xs.length ∧ xs.length ≤ 1000) = true then some (.tup (List.replicate k.toNat xs).flatten, st) else none
  | _, _ => none
theorem rws_rep {K : PySem.W.Frag} {β : List Addr} {H : Hp} {xs : List W} {vs : List V} (r : RWs K β H xs vs) : ∀ n : Nat, RWs K β H (List.replicate n xs).flatten (List.replicate n vs).flatten
  | 0 => .nil
  | n + 1 => by
    rw [List.replicate_succ, List.replicate_succ, List.flatten_cons, List.flatten_cons]
    exact r.append (rws_rep r n)
theorem ref_repT {K : PySem.W.Frag} : Ref2 K fRepT (rRepT K) := by
  intro β H st st' x y w vx vy Q hS rx ry hm k
  unfold fRepT at hm
  split at hm
  · rename_i xs n
    split at hm
    · rename_i hc
      cases hm
      have hc := of_decide_eq_true hc
      cases rx with
      | @tup a _ vs hq r =>
        have hl := r.length
        refine ⟨a, n, vs, rfl, ry.int_inv, hq.sq, ?_, hc.1, hc.2.1, by omega, fun p hf => ?_⟩
        · intro e
          subst e
          have := hc.2.2.1
          rw [hl] at this
          simp at this
        · have e : Ext β H β (upd H p (.tup (List.replicate n.toNat vs).flatten)) := Ext.new hf
          exact k _ _ β e (hS.new hf) (.tup (.inl upd_same) ((rws_rep r _).ext e))
    · cases hm
  · cases hm
end B

set_option Elab.async false
set_option linter.all false
set_option maxRecDepth 100000
namespace B
open PySem PySem.Spec L2
set_option autoImplicit false
theorem sb_never {X : Cx} {ss : List Stmt} : SB X ss sNever := ⟨⟨fun pins s σ H D I hq => by
  obtain ⟨β, st, env, fl, env', st', hE, hS, hm, k⟩ := hq
  cases hm⟩⟩
theorem hu100 {k : Nat} {A : Around} (hr : Room k A) : A.units + 100 < cLine := by have := hr.un; unfold cLine at *; omega
@[simp] def sPar (i j : Nat) (a : AM) : SM := fun env => bnd (a env) fun ws => match ws with
  | [v, w] => ret (.nx, (env.set i (some v)).set j (some w))
  | _ => fail
theorem ss_par {X : Cx} {i j : Nat} {x y : Str} {a b : Expr} {m : AM} {px py pt pos : Pos} {kt k2 : Nat} {pt2 : Pos} (hN : X.N.Nodup) (hc : X.calm = true) (hij : i ≠ j) (ha : SA X [a, b] m)
    (hi : X.N[i]? = some x := by rfl) (hj : X.N[j]? = some y := by rfl)
    (hx : X.env.scope.names.lookup x = some .local := by rfl) (hy : X.env.scope.names.lookup y = some .local := by rfl)
    (hw : swappedStores [.Tuple [.Name x px, .Name y py] kt pt] (.Tuple [a, b] k2 pt2) X.env = pure (some [x, y]) := by rfl)
    (hs : swapsWithSole [.Tuple [.Name x px, .Name y py] kt pt] (.Tuple [a, b] k2 pt2) pos.line X.env = pure false := by rfl) :
    SS X (.Assign [.Tuple [.Name x px, .Name y py] kt pt] (.Tuple [a, b] k2 pt2) pos) (sPar i j m) := by
  refine ⟨PSimp (ps_par hc hN hi hj hij hx hy ha.pa hw hs) ?_⟩
  rintro D σ H ⟨β, st, env, fl, env', st', hE, hS, hm, k⟩
  obtain ⟨ws, st1, h1, h2⟩ := bnd_some hm
  refine ⟨β, st, env, ws, st1, hE, hS, h1, fun vs H1 β1 e1 s1 r1 => ?_⟩
  split at h2
  · cases h2
    obtain ⟨v, u, rfl, ra, rb⟩ := rws2 r1
    exact ⟨v, u, rfl, k _ H1 β1 e1 s1 (((hE.ext e1).set ra i).set rb j)⟩
  · cases h2
end B

set_option Elab.async false
set_option linter.all false
set_option maxRecDepth 100000
set_option maxHeartbeats 1000000
namespace B
open PySem PySem.Spec L2
set_option autoImplicit false

/-! ### what the module holds -/
/-- words as they lie -/
inductive WSs : List Str → List Value → Prop
  | nil : WSs [] []
  | cons {x : Str} {t : Tok} {xs : List Str} {us : List Value} : WSs xs us → WSs (x :: xs) (.str x t :: us)
theorem WSs.vals : ∀ {xs : List Str} {us : List Value}, WSs xs us → Vals (xs.map V.str) us
  | _, _, .nil => .nil
  | _, _, .cons h => .cons ⟨_, rfl⟩ h.vals
/-- the written part holds w at u -/
inductive WK (K : PySem.W.Frag) : W → Value → Prop
  | non : WK K .non .none
  | bl (b : Bool) : WK K (.bl b) (.bool b)
  | int (i : Int) (t : Tok) : WK K (.int i) (.int i t)
  | str (x : Str) (t : Tok) : WK K (.str x) (.str x t)
  | tup {a : Addr} {o : Obj} {its : Array Value} {n : Nat} {xs : List Str} : K.lookup a = some o → o.cls = .type "tuple" → o.data = .seq its n → its.size ≤ sizeLine → WSs xs its.toList → WK K (.tup (xs.map .str)) (.ref a)
  | fnc {x : Str} {f : Addr} : PySem.W.nsIn K mainGlobals x = some (some (.ref f)) → WK K (.fnc x) (.ref f)
theorem rws_strs {K : PySem.W.Frag} {β : List Addr} {H : Hp} : ∀ xs : List Str, RWs K β H (xs.map W.str) (xs.map V.str)
  | [] => .nil
  | x :: xs => .cons (.str x) (rws_strs xs)
theorem WK.rel {K : PySem.W.Frag} {w : W} {u : Value} (h : WK K w u) : ∃ v, RelV v u ∧ ∀ (β : List Addr) (H : Hp), RW K β H w v := by
  cases h with
  | non => exact ⟨.non, rfl, fun _ _ => .non⟩
  | bl b => exact ⟨.bl b, rfl, fun _ _ => .bl b⟩
  | int i t => exact ⟨.int i, ⟨t, rfl⟩, fun _ _ => .int i⟩
  | str x t => exact ⟨.str x, ⟨t, rfl⟩, fun _ _ => .str x⟩
  | tup h1 h2 h3 h4 h5 =>
    exact ⟨.ref _, rfl, fun β H => .tup (.inr ⟨⟨_, _, _, h1, h2, h3, h4, h5.vals⟩, fun v hv => by obtain ⟨x, _, rfl⟩ := List.mem_map.mp hv; exact ⟨x, rfl⟩⟩) (rws_strs _)⟩
  | fnc h => exact ⟨.ref _, rfl, fun _ _ => .fnc h⟩
section
variable {X : Cx}
theorem se_gl {x : Str} {w : W} {u : Value} {pos : Pos} (hg : Gl X x) (hm : X.mg x = some u) (h : WK X.K w u) (hd : (x == ("__debug__" : Str)) = false := by decide) : SE X (.Name x pos) (eC w) := by
  obtain ⟨v, r, q⟩ := h.rel
  refine ⟨PEimp (pe_glob hg hm r hd) ?_⟩
  rintro σ H Q ⟨β, st, env, w', st', hE, hS, hm', k⟩
  cases hm'
  exact k v H β .refl hS (q β H)
end
/-! ### tables -/
inductive TabEs (K : PySem.W.Frag) : List DictEntry → List (Str × W) → Prop
  | nil : TabEs K [] []
  | cons {x : Str} {t : Tok} {hs : Int} {u : Value} {w : W} {es : List DictEntry} {tab : List (Str × W)} : WK K w u → TabEs K es tab → TabEs K (⟨hs, .str x t, u⟩ :: es) ((x, w) :: tab)
structure TabK (K : PySem.W.Frag) (w : World) (a : Addr) (tab : List (Str × W)) : Prop where
  low : (a == sysModules) = false
  at' : ∃ es n, K.lookup a = some ⟨.type "dict", none, .dict es n, #[]⟩ ∧ PySem.W.KeysLit w.params es.toList ∧ TabEs K es.toList tab
theorem TabEs.find {K : PySem.W.Frag} (x : Str) : ∀ {es : List DictEntry} {tab : List (Str × W)}, TabEs K es tab →
    (es.find? (fun d => Value.isStrOf x d.key) = none ∧ tab.lookup x = none) ∨ ∃ d w, es.find? (fun d => Value.isStrOf x d.key) = some d ∧ tab.lookup x = some w ∧ WK K w d.val
  | _, _, .nil => .inl ⟨rfl, rfl⟩
  | _, _, @TabEs.cons _ y t hs u w es tab h tl => by
    by_cases e : x = y
    · subst e
      right
      refine ⟨_, w, List.find?_cons_of_pos (by simp [Value.isStrOf]), by simp, h⟩
    · have e1 : (x == y) = false := beq_eq_false_iff_ne.mpr e
      have e2 : Value.isStrOf x (.str y t) = false := by simp [Value.isStrOf]; exact fun z => e z.symm
      have e3 : List.find? (fun d => Value.isStrOf x d.key) (⟨hs, .str y t, u⟩ :: es) = List.find? (fun d => Value.isStrOf x d.key) es := List.find?_cons_of_neg (by simp [e2])
      have e4 : List.lookup x ((y, w) :: tab) = List.lookup x tab := by rw [List.lookup_cons, e1]
      rw [e3, e4]
      exact TabEs.find x tl
theorem TabK.map {K : PySem.W.Frag} {w : World} {a : Addr} {tab : List (Str × W)} {P : Program} {h : Heap} (T : TabK K w a tab) (X : K.In h) :
    ∃ m : Str → Option Value, h.MapOf (strKind P w) a m ∧ ∀ x, (m x = none ∧ tab.lookup x = none) ∨ ∃ u w', m x = some u ∧ tab.lookup x = some w' ∧ WK K w' u := by
  obtain ⟨es, n, hl, hk, he⟩ := T.at'
  refine ⟨_, PySem.W.mapOf_K (prog := P) (w := w) X hl hk, fun x => ?_⟩
  obtain ⟨l⟩ := es
  unfold findBy
  rw [List.find?_toArray]
  rcases he.find x with ⟨a, b⟩ | ⟨d, w', a, b, c⟩
  · left; rw [a]; exact ⟨rfl, b⟩
  · right; rw [a]; exact ⟨_, w', rfl, b, c⟩
/-- TABLE.get(e) -/
@[simp] def fTabGet (tab : List (Str × W)) : W → M W := fun x st => match x with
  | .str z => some ((tab.lookup z).getD .non, st)
  | _ => none
/-- TABLE[e] -/
@[simp] def fTabIx (tab : List (Str × W)) : W → M W := fun x st => match x with
  | .str z => match tab.lookup z with
    | some w => some (w, st)
    | none => none
  | _ => none
section
variable {X : Cx} {x : Str} {a : Addr} {tab : List (Str × W)} {e : Expr} {m : EM} {np apos cpos pos : Pos}
theorem se_tabget (hg : Gl X x) (hm : X.mg x = some (.ref a)) (T : TabK X.K X.w a tab) (he : SE X e m) (mm : M1 X (.Name x np) "get" apos e cpos)
    (hdb : (x == ("__debug__" : Str)) = false := by decide) : SE X (.Call (.Attribute (.Name x np) "get" apos) [e] [] cpos) (eUn (fTabGet tab) m) := by
  refine ⟨⟨fun pins s σ H Q I h => ?_⟩⟩
  obtain ⟨β, st, env, w, st', hE, hS, hmm, k⟩ := h
  obtain ⟨y, st1, h1, h2⟩ := bnd_some hmm
  refine wpAny_Call_method mm.base mm.few mm.line PySem.F.plainAttrs_dict PySem.F.slot_dict_get PySem.F.type_dict_get (ld_glob I hg hm ?_ hdb)
  obtain ⟨mp, hM, _⟩ := T.map (P := X.prog) I.kIn
  refine ⟨hM.typeIs, fun b q => ?_, ?_⟩
  · cases q
    obtain ⟨ob, _, _, g1, g2, _⟩ := hM
    exact ⟨ob, g1, g2.2.1⟩
  rw [mm.trees]
  refine Calls.callWith_builtin rfl (Calls.evalArgs_plain (Calls.spliced_cons (thn (he.pe.run pins s σ H _ I ⟨β, st, env, y, st1, hE, hS, h1, fun v H1 β1 e1 s1 r1 => (?_ : (∃ z, v = V.str z ∧ ∃ w', (tab.lookup z).getD .non = w' ∧ ∀ u, (∀ β' H', RW X.K β' H' w' u) → Q u H1))⟩) fun iv s2 ⟨v, H2, I2, ry, z, ez, w', ew, q⟩ => Calls.spliced_nil ?_)))
  · unfold fTabGet at h2
    split at h2
    · rename_i z
      cases h2
      cases r1
      exact ⟨z, rfl, _, rfl, fun u hu => k u H1 β1 e1 s1 (hu β1 H1)⟩
    · cases h2
  · subst ez
    obtain ⟨t, rfl⟩ := ry
    obtain ⟨mp, hM, hF⟩ := T.map (P := X.prog) I2.kIn
    refine call_meetsIn PySem.F.slot_dict_get hM.typeIs PySem.F.entry_dict_get (PySem.F.args_dict_get_2 _ _) (meets_dict_get (strKind X.prog X.w) a (strKind_is X.prog X.w z t) T.low) ⟨_, hM, ?_⟩
    rcases hF z with ⟨e1, e2⟩ | ⟨u, w2, e1, e2, hw⟩
    · rw [e1]
      rw [e2] at ew
      cases ew
      exact ⟨.non, H2, I2.tok _, rfl, q .non fun _ _ => .non⟩
    · rw [e1]
      rw [e2] at ew
      cases ew
      obtain ⟨v, rv, hv⟩ := hw.rel
      exact ⟨v, H2, I2.tok _, rv, q v hv⟩
theorem se_tabix (hg : Gl X x) (hm : X.mg x = some (.ref a)) (T : TabK X.K X.w a tab) (he : SE X e m) (hs : PlainIx e)
    (hdb : (x == ("__debug__" : Str)) = false := by decide) : SE X (.Subscript (.Name x np) e pos) (eUn (fTabIx tab) m) := by
  have hn : PE X (.Name x np) (tC (.ref a)) := pe_glob hg hm rfl hdb
  have hr : IxR X (fun v y H Q => ∃ z w', v = .ref a ∧ y = .str z ∧ tab.lookup z = some w' ∧ ∀ u, (∀ β' H', RW X.K β' H' w' u) → Q u H) := by
    intro value slice pins s σ H v y vv u Q I rx ry h hs'
    obtain ⟨z, w', rfl, rfl, hl, q⟩ := h
    obtain rfl : vv = Value.ref a := rx
    obtain ⟨t, rfl⟩ := ry
    obtain ⟨mp, hM, hF⟩ := T.map (P := X.prog) I.kIn
    rcases hF z with ⟨e1, e2⟩ | ⟨u, w2, e1, e2, hw⟩
    · rw [hl] at e2; cases e2
    · rw [hl] at e2; cases e2
      obtain ⟨v, rv, hv⟩ := hw.rel
      exact PyProof.Rows.tail_any hM.typeIs slot_dict_getitem.lookup (wpAny_getItem_of (strKind_is X.prog X.w z t) hM e1 ⟨v, H, I.tok _, rv, q v hv⟩) hs'
  refine ⟨PEimp (pe_ix hr hn he.pe hs) ?_⟩
  rintro σ H Q ⟨β, st, env, w, st', hE, hS, hmm, k⟩
  obtain ⟨y, st1, h1, h2⟩ := bnd_some hmm
  refine ⟨β, st, env, y, st1, hE, hS, h1, fun v H1 β1 e1 s1 r1 => ?_⟩
  cases y with
  | str z =>
    cases hl : tab.lookup z with
    | none => simp [hl] at h2
    | some w' =>
      simp [hl] at h2
      obtain ⟨rfl, rfl⟩ := h2
      cases r1
      exact ⟨z, w', rfl, rfl, hl, fun u hu => k u H1 β1 e1 s1 (hu β1 H1)⟩
  | _ => simp at h2
end
end B

set_option Elab.async false
set_option linter.all false
set_option maxRecDepth 100000
set_option maxHeartbeats 1000000
namespace B
open PySem PySem.Spec L2
set_option autoImplicit false

/-! ### a local name that holds a def -/
structure CallF (P : Program) (w : World) (K : PySem.W.Frag) (mg : Str → Option Value) (base : Heap) (x : Str) (k n : Nat) (F : List W → M W) : Prop where
  ok : ∀ f, PySem.W.nsIn K mainGlobals x = some (some (.ref f)) → ∃ fd ps, PySem.W.keepIn K (.ref f) = true ∧ Binds K fd ps [] ∧ ps.length = n ∧ FnOk P w K mg base CX0 k f fd ps (spM K n F)
theorem CallOk.callF {P : Program} {w : World} {K : PySem.W.Frag} {mg : Str → Option Value} {base : Heap} {x : Str} {k n : Nat} {F : List W → M W} (c : CallOk P w K mg base x k n F) {g : Addr} (hg : PySem.W.nsIn K mainGlobals x = some (some (.ref g))) (hm : mg x = some (.ref g)) : CallF P w K mg base x k n F := by
  obtain ⟨f, fd, ps, e, hk, hb, hl, G⟩ := c.ok
  rw [hm] at e
  cases e
  exact ⟨fun f' h' => by rw [hg] at h'; cases h'; exact ⟨fd, ps, hk, hb, hl, G⟩⟩
def eCallL (i : Nat) (disp : List (Str × (List W → M W))) (a : AM) : EM := fun env st => match env[i]? with
  | some (some (.fnc x)) => match disp.lookup x with
    | some F => bnd (a env) F st
    | none => none
  | _ => none
section
variable {X : Cx}
theorem se_callL {i k n : Nat} {x : Str} {p pos : Pos} {e : Expr} {es : List Expr} {m : AM} {disp : List (Str × (List W → M W))} (A : ∀ y F, disp.lookup y = some F → CallF X.prog X.w X.K X.mg X.base y k n F) (hr : Room k X.A) (hN : X.N[i]? = some x) (hv : Vis X.env.scope x) (ha : SA X (e :: es) m) (hn : (e :: es).length = n := by rfl)
    (hdb : (x == ("__debug__" : Str)) = false := by decide) (hcd : (x == ("__classdict__" : Str)) = false := by decide)
    (he : starEach (e :: es) X.env = (false, eval e X.env) :: starEach es X.env := by rfl) (hpl : (backTo pos (starEach es X.env)).any (·.1) = false := by rfl) :
    SE X (.Call (.Name x p) (e :: es) [] pos) (eCallL i disp m) := by
  refine ⟨⟨fun pins s σ H Q I h => ?_⟩⟩
  obtain ⟨β, st, env, w, st', hE, hS, hm, kk⟩ := h
  unfold eCallL at hm
  split at hm
  · rename_i y hy
    split at hm
    · rename_i F hF
      obtain ⟨v, hv1, rv⟩ := hE.at' i _ hy
      cases rv with
      | fnc hf =>
        obtain ⟨fd, ps, hk, hb, hl, G⟩ := (A y F hF).ok _ hf
        refine (pe_callL (i := i) (dvs := []) (E := E0) G hr hN hv hk hb .nil (pass0 (X := X)) ha.pa hdb hcd he hpl).run pins s σ H Q I ⟨hv1, ?_⟩
        obtain ⟨ws, st1, h1, h2⟩ := bnd_some hm
        refine ⟨β, st, env, ws, st1, hE, hS, h1, fun vs H1 β1 e1 s1 r1 => ?_⟩
        show spM X.K n F (vs ++ []) H1 Q E0
        rw [List.append_nil]
        refine ⟨?_, β1, st1, ws, w, st', r1, s1, h2, fun v H2 β2 e2 s2 r2 => kk v H2 β2 (e1.trans e2) s2 r2⟩
        rw [← r1.length, ← hn]
        exact ha.len _ _ _ h1
    · cases hm
  · cases hm

/-! ### instances -/
structure MkOk (P : Program) (w : World) (K : PySem.W.Frag) (mg : Str → Option Value) (base : Heap) (c : Str) (k n : Nat) (F : List W → M W) : Prop where
  ok : ∃ C f fd ps, mg c = some (.ref C) ∧ PySem.W.nsIn K mainGlobals c = some (some (.ref C)) ∧ Mk K C f ∧ Binds K fd ps [] ∧ ps.length = n + 1 ∧ FnOk P w K mg base CX0 k f fd ps (spM K (n + 1) F)
def mkIns (c : Str) (F : List W → M W) (ws : List W) : M W := fun st => match F (.ref st.length :: ws) (st ++ [.ins c []]) with
  | some (.non, st') => some (.ref st.length, st')
  | _ => none
def eMake (c : Str) (F : List W → M W) (a : AM) : EM := fun env => bnd (a env) (mkIns c F)
theorem se_make {c : Str} {p pos : Pos} {e : Expr} {es : List Expr} {m : AM} {k n : Nat} {F : List W → M W} (M : MkOk X.prog X.w X.K X.mg X.base c k n F) (hr : Room (k + 1) X.A) (hg : Gl X c) (ha : SA X (e :: es) m) (hn : (e :: es).length = n := by rfl)
    (hdb : (c == ("__debug__" : Str)) = false := by decide) (he : starEach (e :: es) X.env = (false, eval e X.env) :: starEach es X.env := by rfl) (hpl : (backTo pos (starEach es X.env)).any (·.1) = false := by rfl) :
    SE X (.Call (.Name c p) (e :: es) [] pos) (eMake c F m) := by
  obtain ⟨C, f, fd, ps, hm, hns, hM, hb, hl, G⟩ := M.ok
  refine ⟨PEimp (pe_make hM G hr hg hm hb .nil (pass0 (X := X)) ha.pa hdb he hpl) ?_⟩
  rintro σ H Q ⟨β, st, env, w, st', hE, hS, hmm, k⟩
  obtain ⟨ws, st1, h1, h2⟩ := bnd_some hmm
  refine ⟨β, st, env, ws, st1, hE, hS, h1, fun vs H1 β1 e1 s1 r1 => ?_⟩
  intro x dx hx hdx hne
  rw [List.append_nil]
  unfold mkIns at h2
  split at h2
  · rename_i st2 h3
    cases h2
    have hx2 : upd H1 dx (.own x) x = none := by rw [upd_ne (Ne.symm hne)]; exact hx
    have s2 : RS X.K β1 (upd H1 dx (.own x)) st1 := s1.new hdx
    have ea : Ext β1 H1 β1 (upd H1 dx (.own x)) := Ext.new hdx
    have eb : Ext β1 (upd H1 dx (.own x)) (β1 ++ [x]) (upd (upd H1 dx (.own x)) x (.ins C dx [])) := Ext.alloc hx2
    have s3 : RS X.K (β1 ++ [x]) (upd (upd H1 dx (.own x)) x (.ins C dx [])) (st1 ++ [.ins c []]) := s2.alloc hx2 ⟨C, dx, [], hns, upd_same, .nil⟩
    have hi : (β1 ++ [x])[st1.length]? = some x := alloc_ix s2
    refine ⟨?_, β1 ++ [x], st1 ++ [.ins c []], .ref st1.length :: ws, .non, st', .cons (.ref hi) (r1.ext (ea.trans eb)), s3, h3, fun v H2 β2 e2 s4 r4 => ⟨r4.non_inv, k _ H2 β2 (((e1.trans ea).trans eb).trans e2) s4 (.ref (e2.ix hi))⟩⟩
    have := ha.len _ _ _ h1
    simp only [List.length_cons]
    rw [← r1.length, ← hn]
    simpa using this
  · cases h2

/-! ### fields -/
def FldOk (K : PySem.W.Frag) (c f : Str) : Prop := ∃ C, PySem.W.nsIn K mainGlobals c = some (some (.ref C)) ∧ Cls K C ∧ NoAttr K C f
def fFld (cs : List Str) (f : Str) : W → M W := fun x st => match x with
  | .ref i => match st[i]? with
    | some (.ins c fs) => if cs.contains c = true then (match fs.lookup f with
        | some w => some (w, st)
        | none => none) else none
    | _ => none
  | _ => none
theorem rs_ins {K : PySem.W.Frag} {β : List Addr} {H : Hp} {st : Sto} (s : RS K β H st) {i : Nat} {a : Addr} {c : Str} {fs : List (Str × W)} (ha : β[i]? = some a) (hi : st[i]? = some (.ins c fs)) :
    ∃ A dx vs, PySem.W.nsIn K mainGlobals c = some (some (.ref A)) ∧ H a = some (.ins A dx vs) ∧ RKs K β H fs vs := by
  obtain ⟨b, hb, A, dx, vs, hc, e, r⟩ := s.ob i _ hi
  rw [ha] at hb; cases hb
  exact ⟨A, dx, vs, hc, e, r⟩
theorem RKs.look {K : PySem.W.Frag} {β : List Addr} {H : Hp} (f : Str) : ∀ {fs : List (Str × W)} {vs : List (Str × V)} {w : W}, RKs K β H fs vs → fs.lookup f = some w → ∃ v, vs.lookup f = some v ∧ RW K β H w v
  | _, _, _, .nil, h => by simp at h
  | _, _, w, @RKs.cons _ _ _ _ g y u fs vs r t, h => by
    rw [List.lookup_cons] at h ⊢
    cases e : (f == g) with
    | true => rw [e] at h; simp at h; subst h; exact ⟨u, rfl, r⟩
    | false => rw [e] at h; exact RKs.look f t h
theorem se_fld {e : Expr} {m : EM} {f : Str} {pos : Pos} {cs : List Str} (he : SE X e m) (hc : ∀ c ∈ cs, FldOk X.K c f) (hb : attributeBase e f X.env (eval e X.env) = eval e X.env := by rfl) : SE X (.Attribute e f pos) (eUn (fFld cs f) m) := by
  refine ⟨PEimp (pe_fld he.pe hb) ?_⟩
  rintro σ H Q ⟨β, st, env, w, st', hE, hS, hm, k⟩
  obtain ⟨x, st1, h1, h2⟩ := bnd_some hm
  refine ⟨β, st, env, x, st1, hE, hS, h1, fun v H1 β1 e1 s1 r1 => ?_⟩
  cases r1 with
  | @ref i a ha =>
    unfold fFld at h2
    simp only at h2
    split at h2
    · rename_i c fs hi
      split at h2
      · rename_i hcs
        split at h2
        · rename_i w' hl
          cases h2
          obtain ⟨A, dx, vs, hns, ea, r⟩ := rs_ins s1 ha hi
          obtain ⟨C, hC, cl, na⟩ := hc c (by simpa using hcs)
          rw [hns] at hC
          cases hC
          obtain ⟨u, hu, ru⟩ := r.look f hl
          exact ⟨a, _, dx, vs, u, rfl, ea, cl, na, hu, k u H1 β1 e1 s1 ru⟩
        · cases h2
      · cases h2
    · cases h2
  | _ => simp [fFld] at h2
def putFW (f : Str) (v : W) : List (Str × W) → List (Str × W)
  | [] => [(f, v)]
  | (g, x) :: r => if g = f then (g, v) :: r else (g, x) :: putFW f v r
theorem RKs.putF {K : PySem.W.Frag} {β : List Addr} {H : Hp} {f : Str} {y : W} {u : V} (ry : RW K β H y u) : ∀ {fs : List (Str × W)} {vs : List (Str × V)}, RKs K β H fs vs → RKs K β H (putFW f y fs) (putF f u vs)
  | _, _, .nil => .cons ry .nil
  | _, _, @RKs.cons _ _ _ _ g x v fs vs r t => by
    unfold putFW L2.putF
    split
    · exact .cons ry t
    · exact .cons r (RKs.putF ry t)
theorem RKs.len {K : PySem.W.Frag} {β : List Addr} {H : Hp} {T : Type} : ∀ {fs : List (T × W)} {vs : List (T × V)}, RKs K β H fs vs → fs.length = vs.length
  | _, _, .nil => rfl
  | _, _, .cons _ t => by simp [RKs.len t]
def sSetF (cs : List Str) (f : Str) (o e : EM) : SM := fun env => bnd (e env) fun y => bnd (o env) fun x st => match x with
  | .ref i => match st[i]? with
    | some (.ins c fs) => if (cs.contains c && Nat.blt fs.length 1000) = true then some ((.nx, env), st.set i (.ins c (putFW f y fs))) else none
    | _ => none
  | _ => none
theorem ss_fld {o e : Expr} {mo me : EM} {f : Str} {pos pos' : Pos} {cs : List Str} (ho : SE X o mo) (he : SE X e me) (hc : ∀ c ∈ cs, FldOk X.K c f) (hs : swapsWith e (some (.Attribute o f pos')) pos.line X.env = pure false := by rfl) : SS X (.Assign [.Attribute o f pos'] e pos) (sSetF cs f mo me) := by
  refine ⟨PSimp (ps_fld ho.pe he.pe hs) ?_⟩
  rintro D σ H ⟨β, st, env, fl, env', st', hE, hS, hm, k⟩
  obtain ⟨y, st1, h1, h2⟩ := bnd_some hm
  obtain ⟨x, st2, h3, h4⟩ := bnd_some h2
  refine ⟨β, st, env, y, st1, hE, hS, h1, fun vy H1 β1 e1 s1 r1 => ⟨β1, st1, env, x, st2, hE.ext e1, s1, h3, fun vx H2 β2 e2 s2 r2 => ?_⟩⟩
  cases r2 with
  | @ref i a ha =>
    simp only at h4
    split at h4
    · rename_i c fs hi
      split at h4
      · rename_i hcs
        rw [Bool.and_eq_true] at hcs
        cases h4
        obtain ⟨A, dx, vs, hns, ea, r⟩ := rs_ins s2 ha hi
        obtain ⟨C, hC, cl, na⟩ := hc c (by simpa using hcs.1)
        rw [hns] at hC
        cases hC
        have ry2 := r1.ext' e2
        have hlen : vs.length < 1000 := by rw [← r.len]; exact Nat.blt_eq.mp hcs.2
        refine ⟨a, _, dx, vs, rfl, ea, cl, na, hlen, ?_⟩
        have ec : Ext β2 H2 β2 (upd H2 a (.ins A dx (putF f vy vs))) := Ext.chg ea (fun _ z => nomatch z) (fun _ _ z => nomatch z)
        obtain ⟨ec', sc⟩ := s2.chg (u := .ins A dx (putF f vy vs)) (o' := .ins c (putFW f y fs)) hi ha ⟨A, dx, _, hns, upd_same, (r.putF ry2).ext ec⟩
        exact k σ _ _ ((e1.trans e2).trans ec) sc (((hE.ext e1).ext e2).ext ec)
      · cases h4
    · cases h4
  | _ => simp at h4
end
end B

set_option Elab.async false
set_option linter.all false
set_option maxRecDepth 100000
set_option maxHeartbeats 1000000
namespace B
open PySem PySem.Spec L2
set_option autoImplicit false

/-! ### comprehensions of two clauses -/
def compO (src : Src) (p : Pat) (t : TM) (i1 : IM) (p1 : Pat) (vs1 : List Nat) (t1 : TM) (e : EM) (k n1 : Nat) : Nat → Nat → En → M Unit
  | 0, _, _ => fail
  | n + 1, j, env => fun st => match src j st with
    | none => none
    | some none => some ((), st)
    | some (some w) => (bnd (p.asg w env) fun env1 => bnd (t env1) fun c =>
        if c = true then bnd (i1 env1) fun src1 => bnd (compGo src1 p1 t1 e k n1 0 (wipeE env1 vs1)) fun _ => compO src p t i1 p1 vs1 t1 e k n1 n (j + 1) env else compO src p t i1 p1 vs1 t1 e k n1 n (j + 1) env) st
def eComp2 (i : IM) (p : Pat) (vs : List Nat) (t : TM) (i1 : IM) (p1 : Pat) (vs1 : List Nat) (t1 : TM) (e : EM) (n n1 : Nat) : EM := fun env => bnd (i env) fun src st =>
  bnd (compO src p t i1 p1 vs1 t1 e st.length n1 n 0 (wipeE env vs)) (fun _ => ret (.ref st.length)) (st ++ [.lst []])
section
variable {X : Cx}
theorem tLc2_of {i i1 : IM} {p p1 : Pat} {vs vs1 : List Nat} {t t1 : TM} {e : EM} {n n1 : Nat} (hp : ∀ i ∈ p.slots, i ∈ vs) (hp1 : ∀ i ∈ p1.slots, i ∈ vs1) {σ : L2.St} {H : Hp} {Q : VK} (h : tM X.K (eComp2 i p vs t i1 p1 vs1 t1 e n n1) σ H Q) :
    tLc2 (tMI X.K i) (tMG X.K p) (tMT X.K t) (tMI X.K i1) (tMG X.K p1) (tMT X.K t1) (tM X.K e) vs vs1 σ H Q := by
  obtain ⟨β, st, env, w, st', hE, hS, hm, k⟩ := h
  obtain ⟨src, st1, h1, h2⟩ := bnd_some hm
  refine ⟨β, st, env, src, st1, hE, hS, h1, fun J H1 β1 e1 s1 rj D hD => ?_⟩
  obtain ⟨u, st2, h3, h4⟩ := bnd_some (m := compO src p t i1 p1 vs1 t1 e st1.length n1 n 0 (wipeE env vs)) h2
  cases h4
  have ea : Ext β1 H1 (β1 ++ [D]) (upd H1 D (.lst [])) := Ext.alloc hD
  have sa : RS X.K (β1 ++ [D]) (upd H1 D (.lst [])) (st1 ++ [.lst []]) := s1.alloc hD ⟨[], upd_same, .nil⟩
  have hk0 : (β1 ++ [D])[st1.length]? = some D := alloc_ix s1
  refine ⟨fun j m H => ∃ β2 st2, Ext (β1 ++ [D]) (upd H1 D (.lst [])) β2 H ∧ RS X.K β2 H st2 ∧ compO src p t i1 p1 vs1 t1 e st1.length n1 m j (wipeE env vs) st2 = some (u, st'), ⟨n, _, _, .refl, sa, h3⟩, ?_⟩
  rintro j m H2 ⟨β2, st2, e2, s2, m2⟩
  have hk : β2[st1.length]? = some D := e2.ix hk0
  cases m with
  | zero => cases m2
  | succ m =>
    obtain ⟨rs, rg⟩ := rj β2 H2 st2 j (ea.trans e2) s2
    unfold compO at m2
    split at m2
    · cases m2
    · rename_i es
      cases m2
      exact .inl ⟨rs es, k _ H2 β2 ((e1.trans ea).trans e2) s2 (.ref hk)⟩
    · rename_i w es
      obtain ⟨go, yl⟩ := rg w es
      obtain ⟨env3, st3, h5, h6⟩ := bnd_some m2
      obtain ⟨c, st4, h7, h8⟩ := bnd_some h6
      refine .inr ⟨go, fun H' => ∃ β5 st5, Ext β2 H2 β5 H' ∧ RS X.K β5 H' st5 ∧ compO src p t i1 p1 vs1 t1 e st1.length n1 m (j + 1) (wipeE env vs) st5 = some (u, st'), fun H' ⟨β5, st5, e5, s5, m5⟩ => ⟨m, Nat.lt_succ_self m, β5, st5, e2.trans e5, s5, m5⟩, fun x H3 y => ?_⟩
      obtain ⟨e3, s3, r3⟩ := yl x H3 y
      refine ⟨β2, st2, wipeE env vs, w, env3, st3, ((((hE.ext e1).ext ea).ext e2).ext e3).wipe vs, s3, r3, h5, fun σ4 H4 β4 e4 s4 E4 w4 => ⟨by rw [w4 vs hp, wipe_wipe], ?_⟩⟩
      refine ⟨β4, st3, env3, c, st4, E4, s4, h7, fun H5 β5 e5 s5 => ?_⟩
      cases c with
      | false => exact ⟨β5, st4, (e3.trans e4).trans e5, s5, h8⟩
      | true =>
        rw [if_pos rfl] at h8 ⊢
        obtain ⟨src1, st6, h9, h10⟩ := bnd_some h8
        obtain ⟨u1, stx, h11, h12⟩ := bnd_some h10
        refine ⟨β5, st4, env3, src1, st6, E4.ext e5, s5, h9, fun J1 H6 β6 e6 s6 rj1 => ?_⟩
        have hk6 : β6[st1.length]? = some D := e6.ix (e5.ix (e4.ix hk))
        refine ⟨fun j1 m1 H => ∃ β7 st7, Ext β6 H6 β7 H ∧ RS X.K β7 H st7 ∧ compGo src1 p1 t1 e st1.length m1 j1 (wipeE env3 vs1) st7 = some (u1, stx), ⟨n1, _, _, .refl, s6, h11⟩, ?_⟩
        rintro j1 m1 H7 ⟨β7, st7, e7, s7, m7⟩
        have hk7 : β7[st1.length]? = some D := e7.ix hk6
        cases m1 with
        | zero => cases m7
        | succ m1 =>
          obtain ⟨rs1, rg1⟩ := rj1 β7 H7 st7 j1 e7 s7
          unfold compGo at m7
          split at m7
          · cases m7
          · rename_i es1
            cases m7
            exact .inl ⟨rs1 es1, β7, stx, (((e3.trans e4).trans e5).trans e6).trans e7, s7, h12⟩
          · rename_i w1 es1
            obtain ⟨go1, yl1⟩ := rg1 w1 es1
            obtain ⟨env8, st8, g5, g6⟩ := bnd_some m7
            obtain ⟨c1, st9, g7, g8⟩ := bnd_some g6
            refine .inr ⟨go1, fun H' => ∃ β5 st5, Ext β7 H7 β5 H' ∧ RS X.K β5 H' st5 ∧ compGo src1 p1 t1 e st1.length m1 (j1 + 1) (wipeE env3 vs1) st5 = some (u1, stx), fun H' ⟨β5, st5, e5, s5, m5⟩ => ⟨m1, Nat.lt_succ_self m1, β5, st5, e7.trans e5, s5, m5⟩, fun x1 H8 y1 => ?_⟩
            obtain ⟨e8, s8, r8⟩ := yl1 x1 H8 y1
            refine ⟨β7, st7, wipeE env3 vs1, w1, env8, st8, ((((E4.ext e5).ext e6).ext e7).ext e8).wipe vs1, s8, r8, g5, fun σ9 H9 β9 e9 s9 E9 w9 => ⟨by rw [w9 vs1 hp1, wipe_wipe], ?_⟩⟩
            refine ⟨β9, st8, env8, c1, st9, E9, s9, g7, fun Ha βa ea' sa' => ?_⟩
            cases c1 with
            | false => exact ⟨βa, st9, (e8.trans e9).trans ea', sa', g8⟩
            | true =>
              rw [if_pos rfl] at g8 ⊢
              obtain ⟨z, stb, g9, g10⟩ := bnd_some g8
              obtain ⟨_, stc, g11, g12⟩ := bnd_some g10
              refine ⟨βa, st9, env8, z, stb, E9.ext ea', sa', g9, fun v Hb βb eb sb rb => ?_⟩
              unfold push at g11
              split at g11
              · rename_i xs hx
                split at g11
                · rename_i hz
                  cases g11
                  have hkD : βb[st1.length]? = some D := eb.ix (ea'.ix (e9.ix hk7))
                  obtain ⟨acc, ha, ra⟩ := rs_lst sb hkD hx
                  have hl := ra.length
                  have hz' := sml_line hz
                  have ec : Ext βb Hb βb (upd Hb D (.lst (acc ++ [v]))) := Ext.chg ha (fun _ z => (nomatch z)) (fun _ _ z => (nomatch z))
                  obtain ⟨_, sc⟩ := sb.chg hx hkD (u := .lst (acc ++ [v])) (o' := .lst (xs ++ [z])) ⟨_, upd_same, (ra.ext ec).snoc (rb.ext' ec)⟩
                  exact ⟨acc, ha, by omega, βb, _, (((e8.trans e9).trans ea').trans eb).trans ec, sc, g12⟩
                · cases g11
              · cases g11
theorem se_comp2 {elt tg iter tg1 iter1 : Expr} {ifs ifs1 : List Expr} {scope : Scope} {pos : Pos} {i i1 : IM} {p p1 : Pat} {t t1 : TM} {e : EM} (own : List (Str × Nat)) (vs1 : List Nat) (n n1 : Nat) (hc : X.calm = true) (hN : X.N.Nodup) (ok : BlkOk X.N X.env.scope scope own) (hv : ∀ i ∈ vs1, i ∈ own.map (·.2)) (hp : ∀ i ∈ p.slots, i ∈ own.map (·.2)) (hp1 : ∀ i ∈ p1.slots, i ∈ vs1) (hi : SI X tg iter i)
    (hg : ∀ (s : Shared) (H : Hp) (C : Addr) (cl : List (Str × Addr)) (fp : List Addr), SG (X.blk s H scope (compEnvC scope cl C X.env) fp) tg p) (ht : ∀ (s : Shared) (H : Hp) (C : Addr) (cl : List (Str × Addr)) (fp : List Addr), STs (X.blk s H scope (compEnvC scope cl C X.env) fp) ifs t)
    (hi1 : ∀ (s : Shared) (H : Hp) (C : Addr) (cl : List (Str × Addr)) (fp : List Addr), SI (X.blk s H scope (compEnvC scope cl C X.env) fp) tg1 iter1 i1)
    (hg1 : ∀ (s : Shared) (H : Hp) (C : Addr) (cl : List (Str × Addr)) (fp : List Addr), SG (X.blk s H scope (compEnvC scope cl C X.env) fp) tg1 p1) (ht1 : ∀ (s : Shared) (H : Hp) (C : Addr) (cl : List (Str × Addr)) (fp : List Addr), STs (X.blk s H scope (compEnvC scope cl C X.env) fp) ifs1 t1)
    (he : ∀ (s : Shared) (H : Hp) (C : Addr) (cl : List (Str × Addr)) (fp : List Addr), SE (X.blk s H scope (compEnvC scope cl C X.env) fp) elt e) (hs : ∀ x, foldedSetIterable iter X.env x = pure x := by intro _; rfl) (hs1 : ∀ env x, foldedSetIterable iter1 env x = pure x := by intro _ _; rfl) :
    SE X (.ListComp elt [⟨tg, iter, ifs, 0⟩, ⟨tg1, iter1, ifs1, 0⟩] scope pos) (eComp2 i p (own.map (·.2)) t i1 p1 vs1 t1 e n n1) :=
  ⟨PEimp (pe_lc2 (g := tMG X.K p) (g1 := tMG X.K p1) (tt := tMT X.K t) (tt1 := tMT X.K t1) (te := tM X.K e) hc hN hi.pi ok hv (fun s H C cl fp => (hg s H C cl fp).pg) (fun s H C cl fp => (ht s H C cl fp).pts) (fun s H C cl fp => (hi1 s H C cl fp).pi) (fun s H C cl fp => (hg1 s H C cl fp).pg) (fun s H C cl fp => (ht1 s H C cl fp).pts) (fun s H C cl fp => (he s H C cl fp).pe) hs hs1) fun _ _ _ h => tLc2_of hp hp1 h⟩
end
end B

set_option Elab.async false
set_option linter.all false
set_option maxRecDepth 100000
set_option maxHeartbeats 2000000
namespace B
open PySem PySem.Spec L2
set_option autoImplicit false

/-! ### enumerate of a tuple -/
def enO (it : Addr) : Obj := { cls := .type "enumerate", data := .fields #[.none, .bool false, .ref it, rawInt 0, .none, .none] }
theorem enNew {v : Value} {o : Obj} {P : Heap → Prop} (C : Begins v o P) :
    Meets (Builtin.«enumerate.__new__» ⟨[.type "enumerate", v], []⟩) (fun _ R s => P s.heap ∧ R (.ok (.ret (.ref (s.heap.push o).objs.size))) { s with heap := (s.heap.push o).push (enO s.heap.objs.size) }) :=
  .of_wp fun prog w A R s hh => by
    obtain ⟨hp, gg, dd, tk, os⟩ := s
    obtain ⟨h1, h⟩ := hh
    have subE := sub_enumerate
    have step : ∀ {B' : Around} {F : Value → Shared → Prop} {Q : Value → Shared → Prop}, Q (.ref hp.objs.size) ⟨hp.push o, gg, dd, tk, os⟩ → wpAny (model prog w) B' (pyIter v) Q F ⟨hp, gg, dd, tk, os⟩ :=
      fun q => C.iter prog w _ _ ⟨hp, gg, dd, tk, os⟩ _ h1 q
    wp_walk using step
    refine wpAny_stack_any fun stk => wpAny_pure ?_
    split
    · rename_i cc _ _ _ _ _
      cases (cc == Value.type "enumerate") <;> (wp_walk using step; exact ⟨_, rfl, h⟩)
    · wp_walk using step
      exact ⟨_, rfl, h⟩
section
variable {prog : Program} {w : World} {A : Around} {E : Value → Shared → Prop} {s : Shared}
theorem enCall {v : Value} {o : Obj} {P : Heap → Prop} {Q : Value → Shared → Prop} (C : Begins v o P) (h1 : P s.heap)
    (h : ∀ h', IsEnum h' (s.heap.objs.size + 1) s.heap.objs.size 0 .none → h'.get? s.heap.objs.size = some o → h'.objs.size = s.heap.objs.size + 2 → (∀ b u, s.heap.get? b = some u → h'.get? b = some u) → Q (.ref (s.heap.objs.size + 1)) { s with heap := h' }) :
    wpAny (model prog w) A (call (.type "enumerate") [v]) Q E s := by
  refine callType_new F.called_enumerate (by decide) (F.typeCall_enumerate_1 _) (F.newCall_enumerate_1 _) (fun x => F.args_object_init_2 x _) F.entry_enumerate_new (enNew C) ⟨h1, ?_⟩
  have sz : (s.heap.push o).objs.size = s.heap.objs.size + 1 := Heap.size_push ..
  show _ ∧ _
  rw [sz]
  have hn : IsEnum ((s.heap.push o).push (enO s.heap.objs.size)) (s.heap.objs.size + 1) s.heap.objs.size 0 .none := by
    have q := Heap.get?_push_size (s.heap.push o) (o := enO s.heap.objs.size) rfl
    rwa [sz] at q
  exact ⟨⟨_, hn, rfl⟩, h _ hn (Heap.get?_push_of_some _ (Heap.get?_push_size _ C.free)) (by rw [Heap.size_push, sz]) fun b u x => Heap.get?_push_of_some _ (Heap.get?_push_of_some _ x)⟩
end
/-- the items of the tuple at a, each in a new pair with its place -/
def ItE (K : PySem.W.Frag) (a : Addr) : It :=
  ⟨fun i H => ∃ (xs : List V) (x : V), SqT K H a xs ∧ xs[i]? = some x, fun i H v H' => ∃ T x, v = .ref T ∧ H T = none ∧ H' = upd H T (.tup [.int (i : Nat), x]) ∧ ∀ xs, SqT K H a xs → xs[i]? = some x, fun i H => ∃ xs : List V, SqT K H a xs ∧ xs.length = i⟩
theorem turnE {P : Program} {w : World} {K : PySem.W.Frag} {elts : List Expr} {kk : Nat} {tpos : Pos} (a e it : Addr) (hae : a ≠ it) :
    Turn P w K (.Tuple elts kk tpos) (ItE K a) [e, it] e (fun i h => (∃ old, IsEnum h e it ((i : Nat) : Int) old) ∧ h.IsTupleIter it a i ∧ e ≠ it ∧ a ≠ e) where
  mem := by simp
  obj := fun i h q b hb => by
    obtain ⟨⟨old, he⟩, ⟨o, ho, hc, hd⟩, _⟩ := q
    rcases (by simpa using hb : b = e ∨ b = it) with rfl | rfl
    · exact ⟨_, he, fun v z => nomatch z⟩
    · exact ⟨o, ho, fun v z => by rw [hd] at z; cases z⟩
  keep := fun i h h' ⟨⟨old, he⟩, hi, hne⟩ k => ⟨⟨old, k e (by simp) _ he⟩, hi.at fun o z => k it (by simp) o z, hne⟩
  item := by
    intro X hP hw hK hc i pins s σ H E I hf q hg
    subst hP hw hK
    obtain ⟨⟨old, he⟩, hit, hne, hae'⟩ := q
    obtain ⟨xs, x, hq, hx⟩ := hg
    obtain ⟨its, rv, p, hz⟩ := I.tuple hq
    obtain ⟨u, hu, ru⟩ := rv.get hx
    have hel : e < s.heap.objs.size := Heap.lt_size he
    have hil : it < s.heap.objs.size := by obtain ⟨_, z, _⟩ := hit; exact Heap.lt_size z
    have hlt : i < its.toArray.size := by
      have := (List.getElem?_eq_some_iff.mp hu).1
      simpa using this
    refine wpAny_pyNext_enum_itemD (Draws.tuple (prog := X.prog) (w := X.w) (A := X.A.in1) (I.ok.hd hc) it a hae its.toArray) he ⟨hit, p⟩ hlt hne (by simp; exact ⟨hne, fun z => hae' z.symm⟩) fun y h' tk hy ho st' hT hsz hk => ?_
    have hyu : y = u := by
      have e1 : its.toArray[i]? = some u := by simpa using hu
      rw [e1] at hy
      exact (Option.some.inj hy).symm
    subst hyu
    refine ⟨_, rfl, wpAny_letOwnedTupleGo_enum (s := { s with heap := h', toks := tk + 1 }) ho fun h'' he' sb => ?_⟩
    have sT : e ≠ s.heap.objs.size := Nat.ne_of_lt hel
    have hT2 : h''.get? s.heap.objs.size = some { cls := .type "tuple", data := .seq #[.int i tk, y] } := (sb.2 _ (Ne.symm sT)).trans hT
    have new : ObjOk X.prog X.w (upd H s.heap.objs.size (.tup [.int (i : Nat), x])) h'' s.heap.objs.size (.tup [.int (i : Nat), x]) :=
      ⟨by show 2 ≤ sizeLine; rw [sizeLine_eq]; decide, [.int i tk, y], .cons ⟨_, rfl⟩ (.cons ru .nil), ⟨_, hT2, rfl, _, rfl⟩⟩
    have I1 : Inv X pins σ (upd H s.heap.objs.size (.tup [.int (i : Nat), x])) { s with heap := h'', toks := tk + 1 } :=
      I.turnedNew (ch := [e, it]) (fun b ob hb q => by
        have h1 : b ≠ e := fun z => hb (by simp [z])
        have h2 : b ≠ it := fun z => hb (by simp [z])
        exact (sb.2 b h1).trans (hk b ob h1 h2 q)) hf (Nat.le_refl _) new
    have he2 : IsEnum h'' e it (((i + 1 : Nat)) : Int) y := by
      have z : ((i + 1 : Nat) : Int) = (i : Int) + 1 := by omega
      rw [z]; exact he'
    refine ⟨.ref s.heap.objs.size, _, I1, rfl, ⟨_, x, rfl, I.hok.fresh (Nat.le_refl _), rfl, fun ys hy => by rw [I.tuple_inj hy hq]; exact hx⟩, ⟨⟨y, he2⟩, st'.1.at fun o q => (sb.2 it (Ne.symm hne)).trans q, hne, hae'⟩, fun b hb => ?_⟩
    have hb' : b < s.heap.objs.size := by
      rcases (by simpa using hb : b = e ∨ b = it) with z | z
      · rw [z]; exact hel
      · rw [z]; exact hil
    rw [upd_ne (Nat.ne_of_lt hb')]
    exact (hf b hb).1
  done := by
    intro X hP hw hK hc i pins s σ H E I hf q hg
    subst hP hw hK
    obtain ⟨⟨old, he⟩, hit, hne, hae'⟩ := q
    obtain ⟨xs, hq, hx⟩ := hg
    obtain ⟨its, rv, p, hz⟩ := I.tuple hq
    obtain ⟨f0, f1, f2, f3, f4, f5⟩ := hf it (by simp)
    have hl := rv.length
    refine wpAny_pyNext_enum_endD (n := its.toArray.size) (Draws.tuple (prog := X.prog) (w := X.w) (A := X.A.in1) (I.ok.hd hc) it a hae its.toArray) he ?_ fun h' eb => ⟨rfl, I.turned (t' := s.toks) (fun b o hb q => eb b o hb q) f0 f1 f3 f4 f5⟩
    have hi : i = its.toArray.size := by simp; omega
    rw [← hi]
    exact ⟨hit, p⟩
  self := fun A i s Q E ⟨⟨_, he⟩, _⟩ h => wpAny_pyIter_enum he h
def tEnA (K : PySem.W.Frag) (ta : TA) : TI := fun σ H R => ta σ H fun vs H1 => ∃ a xs, vs = [.ref a] ∧ ((SqT K H1 a xs ∧ R (ItE K a) H1) ∨ (SqL K H1 a xs ∧ R (Ite K a) H1))
theorem pi_enA {X : Cx} {e : Expr} {ta : TA} {p pos tpos : Pos} {elts : List Expr} {kk : Nat} (hg : Gl X "enumerate") (hm : X.mg "enumerate" = none) (ha : PA X [e] ta) (hs : starEach [e] X.env = [(false, eval e X.env)] := by rfl) :
    PI X (.Tuple elts kk tpos) (.Call (.Name "enumerate" p) [e] [] pos) (tEnA X.K ta) := by
  refine ⟨fun pins s σ H R I h => ?_⟩
  refine PyProof.Rows.Call_ (ld_blt I hg hm PyProof.Rows.boot_enumerate (PyProof.Rows.callWith_type1 (thn (ha.run pos pins s σ H _ I h) fun us s1 ⟨vs, H1, I1, r1, a, xs, ev, qq⟩ => ?_) hs rfl))
  subst ev
  have fp : ∀ (h' : Heap) (b : Addr), b ∈ [s1.heap.objs.size + 1, s1.heap.objs.size] → FpOk X pins H1 b := fun h' b hb => by
    have hle : s1.heap.objs.size ≤ b := by
      rcases (by simpa using hb : b = s1.heap.objs.size + 1 ∨ b = s1.heap.objs.size) with z | z
      · rw [z]; exact Nat.le_add_right _ _
      · rw [z]; exact Nat.le_refl _
    exact I1.fpOk hle (I1.hok.fresh hle)
  cases r1 with
  | cons r rr =>
    cases rr
    cases r
    rcases qq with ⟨hq, q⟩ | ⟨hq, q⟩
    · obtain ⟨its, rv, p', hz⟩ := I1.tuple hq
      have ha' : a < s1.heap.objs.size := by obtain ⟨o, ho, _⟩ := p'; exact Heap.lt_size ho
      refine enCall (begins_tuple a its.toArray) p' fun h' he ho hsz hk => wpAny_pyIter_enum he ?_
      exact ⟨s1.heap.objs.size + 1, [s1.heap.objs.size + 1, s1.heap.objs.size], _, _, H1, rfl, I1.kept (t' := s1.toks) hk, turnE a (s1.heap.objs.size + 1) s1.heap.objs.size (Nat.ne_of_lt ha'), ⟨⟨.none, he⟩, ⟨_, ho, rfl, rfl⟩, Nat.succ_ne_self _, Nat.ne_of_lt (Nat.lt_succ_of_lt ha')⟩, fp h', q⟩
    · obtain ⟨its, rv, p', hz⟩ := I1.list hq
      refine enCall (begins_list a its.toArray) p'.isList fun h' he ho hsz hk => wpAny_pyIter_enum he ?_
      exact ⟨s1.heap.objs.size + 1, [s1.heap.objs.size + 1, s1.heap.objs.size], _, _, H1, rfl, I1.kept (t' := s1.toks) hk, turn_enum a (s1.heap.objs.size + 1) s1.heap.objs.size, ⟨⟨.none, he⟩, ⟨_, ho, rfl, rfl⟩, Nat.succ_ne_self _⟩, fp h', q⟩
def srcEnT (xs : List W) : Src := fun j _ => match xs[j]? with
  | some x => some (some (.tup [.int j, x]))
  | none => if j = xs.length then some none else none
def srcEnR (i : Nat) : Src := fun j st => match st[i]? with
  | some (.lst xs) => match xs[j]? with
    | some x => some (some (.tup [.int j, x]))
    | none => some none
  | _ => none
def iEnumM (a : AM) : IM := fun env => bnd (a env) fun ws st => match ws with
  | [.tup xs] => some (srcEnT xs, st)
  | [.fl xs] => some (srcEnT xs, st)
  | [.ref i] => match st[i]? with
    | some (.lst _) => some (srcEnR i, st)
    | _ => none
  | _ => none
section
variable {K : PySem.W.Frag}
theorem rsrc_enT {β : List Addr} {H : Hp} {a : Addr} {xs : List W} {vs : List V} (hq : SqT K H a vs) (r : RWs K β H xs vs) : RSrc K β H (ItE K a) (srcEnT xs) := by
  intro β' H' st' j e s'
  have hq' := e.sqT hq
  have r' := r.ext e
  refine ⟨fun h => ?_, fun w h => ?_⟩
  · unfold srcEnT at h
    split at h
    · cases h
    · split at h
      · rename_i hj
        exact ⟨vs, hq', by rw [← r'.length, hj]⟩
      · cases h
  · unfold srcEnT at h
    split at h
    · rename_i x hx
      cases h
      obtain ⟨v, hv, rv⟩ := r'.get hx
      refine ⟨⟨vs, v, hq', hv⟩, fun y H2 hy => ?_⟩
      obtain ⟨T, u, rfl, hT, rfl, hu⟩ := hy
      have := hu vs hq'
      rw [hv] at this
      cases this
      have ex : Ext β' H' β' (upd H' T (.tup [.int (j : Nat), v])) := Ext.new hT
      exact ⟨ex, s'.new hT, .tup (.inl upd_same) (.cons (.int _) (.cons (rv.ext' ex) .nil))⟩
    · split at h <;> cases h
theorem rsrc_enF {β : List Addr} {H : Hp} {a : Addr} {xs : List W} {vs : List V} (hq : Fix K H a vs) (r : RWs K β H xs vs) : RSrc K β H (Ite K a) (srcEnT xs) := by
  intro β' H' st' j e s'
  have hq' := (e.fix hq).sq
  have r' := r.ext e
  refine ⟨fun h => ?_, fun w h => ?_⟩
  · unfold srcEnT at h
    split at h
    · cases h
    · split at h
      · rename_i hj
        exact ⟨vs, hq', by rw [← r'.length, hj]; exact Nat.le_refl _⟩
      · cases h
  · unfold srcEnT at h
    split at h
    · rename_i x hx
      cases h
      obtain ⟨v, hv, rv⟩ := r'.get hx
      refine ⟨⟨vs, v, hq', hv⟩, fun y H2 hy => ?_⟩
      obtain ⟨T, u, rfl, hT, rfl, hu⟩ := hy
      have := hu vs hq'
      rw [hv] at this
      cases this
      have ex : Ext β' H' β' (upd H' T (.tup [.int (j : Nat), v])) := Ext.new hT
      exact ⟨ex, s'.new hT, .tup (.inl upd_same) (.cons (.int _) (.cons (rv.ext' ex) .nil))⟩
    · split at h <;> cases h
theorem rsrc_enR {β : List Addr} {H : Hp} {a : Addr} {i : Nat} (ha : β[i]? = some a) : RSrc K β H (Ite K a) (srcEnR i) := by
  intro β' H' st' j e s'
  have ha' := e.ix ha
  refine ⟨fun h => ?_, fun w h => ?_⟩
  · unfold srcEnR at h
    split at h
    · rename_i xs hi
      obtain ⟨vs, ev, r⟩ := rs_lst s' ha' hi
      split at h
      · cases h
      · rename_i hx
        exact ⟨vs, SqL.of ev, by rw [← r.length]; exact List.getElem?_eq_none_iff.mp hx⟩
    · cases h
  · unfold srcEnR at h
    split at h
    · rename_i xs hi
      obtain ⟨vs, ev, r⟩ := rs_lst s' ha' hi
      split at h
      · rename_i x hx
        cases h
        obtain ⟨v, hv, rv⟩ := r.get hx
        refine ⟨⟨vs, v, SqL.of ev, hv⟩, fun y H2 hy => ?_⟩
        obtain ⟨T, u, rfl, hT, rfl, hu⟩ := hy
        have := hu vs (SqL.of ev)
        rw [hv] at this
        cases this
        have ex : Ext β' H' β' (upd H' T (.tup [.int (j : Nat), v])) := Ext.new hT
        exact ⟨ex, s'.new hT, .tup (.inl upd_same) (.cons (.int _) (.cons (rv.ext' ex) .nil))⟩
      · cases h
    · cases h
end
theorem si_enum {X : Cx} {elts : List Expr} {kk : Nat} {tpos : Pos} {e : Expr} {m : AM} {p pos : Pos} (hg : Gl X "enumerate") (hm : X.mg "enumerate" = none) (ha : SA X [e] m) (hs : starEach [e] X.env = [(false, eval e X.env)] := by rfl) :
    SI X (.Tuple elts kk tpos) (.Call (.Name "enumerate" p) [e] [] pos) (iEnumM m) := by
  refine ⟨PIimp (pi_enA hg hm ha.pa hs) ?_⟩
  rintro σ H R ⟨β, st, env, src, st', hE, hS, hm, k⟩
  obtain ⟨ws, st1, h1, h2⟩ := bnd_some hm
  refine ⟨β, st, env, ws, st1, hE, hS, h1, fun vs H1 β1 e1 s1 r1 => ?_⟩
  split at h2
  · cases h2
    cases r1 with
    | cons r t =>
      cases t
      cases r with
      | @tup a _ us hq r => exact ⟨a, us, rfl, .inl ⟨hq.sq, k _ H1 β1 e1 s1 (rsrc_enT hq.sq r)⟩⟩
  · cases h2
    cases r1 with
    | cons r t =>
      cases t
      cases r with
      | @fl a _ us hq r => exact ⟨a, us, rfl, .inr ⟨hq.sq, k _ H1 β1 e1 s1 (rsrc_enF hq r)⟩⟩
  · rename_i i
    split at h2
    · rename_i xs hi
      cases h2
      cases r1 with
      | cons r t =>
        cases t
        cases r with
        | @ref _ a ha' =>
          obtain ⟨us, ev, ru⟩ := rs_lst s1 ha' hi
          exact ⟨a, us, rfl, .inr ⟨SqL.of ev, k _ H1 β1 e1 s1 (rsrc_enR ha')⟩⟩
    · cases h2
  · cases h2
end B

set_option Elab.async false
set_option linter.all false
set_option maxRecDepth 100000
set_option maxHeartbeats 2000000
namespace B
open PySem PySem.Spec L2
set_option autoImplicit false
/-! ### max and min of ints -/
@[simp] def bMax : List W → M W := fun xs st => match xs with
  | [w] => match itemsOf w st with
    | some ys => match intsW ys with
      | some (n :: ns) => some (.int (ns.foldl max n), st)
      | _ => none
    | none => none
  | _ => none
@[simp] def bMin2 : List W → M W := fun xs st => match xs with
  | [.int i, .int j] => some (.int (if j < i then j else i), st)
  | _ => none
def rMaxA (K : PySem.W.Frag) : List V → Hp → VK → Prop := fun vs H Q => ∃ (a : Addr) (n : Int) (ns : List Int), vs = [V.ref a] ∧ (SqL K H a ((n :: ns).map V.int) ∨ SqT K H a ((n :: ns).map V.int)) ∧ Q (.int (ns.foldl max n)) H
theorem dps_ints {K : PySem.W.Frag} {H : Hp} : ∀ ns : List Int, DpAll K H (ns.map V.int) (ns.map PyData.int)
  | [] => .nil
  | n :: ns => .cons (.int n) (dps_ints ns)
theorem depth_ints : ∀ ns : List Int, PyData.depthAll (ns.map PyData.int) = 0
  | [] => rfl
  | n :: ns => by simp [PyData.depthAll, PyData.depth, depth_ints ns]
theorem cr_maxA {X : Cx} (hc : X.calm = true) (hu : X.A.units + 100 < cLine) : CallR X (.builtin "max") (rMaxA X.K) := by
  intro pins s σ H vs us Q I r h
  obtain ⟨a, n, ns, rfl, hs, q⟩ := h
  rw [Vals.ref1 r]
  have hal : PySem.W.AlikeAll (PyData.int n :: ns.map PyData.int) := by
    refine ⟨fun x hx y hy => ?_, fun x hx z => ?_⟩
    · rw [← List.map_cons (f := PyData.int)] at hx hy
      obtain ⟨i, _, rfl⟩ := List.mem_map.mp hx
      obtain ⟨j, _, rfl⟩ := List.mem_map.mp hy
      rfl
    · rw [← List.map_cons (f := PyData.int)] at hx
      obtain ⟨i, _, rfl⟩ := List.mem_map.mp hx
      cases z
  have hdp : PyData.depthAll (PyData.int n :: ns.map PyData.int) = 0 := depth_ints (n :: ns)
  have hroom : X.A.units + 1 + PyData.depthAll (PyData.int n :: ns.map PyData.int) < cLine := by rw [hdp]; omega
  have fin : ∀ (v : Value) (h' : Heap) (tk : Nat) (bs : List Addr), Reads h' v (PySem.W.maxD (.int n) (ns.map .int)) bs → (∀ b o, s.heap.get? b = some o → h'.get? b = some o) → EP X pins σ Q v { s with heap := h', toks := tk } := fun v h' tk bs rd hk => by
    rw [PySem.W.maxD_ints] at rd
    cases rd
    exact ⟨.int _, H, I.kept hk, ⟨_, rfl⟩, q⟩
  rcases hs with hs | hs
  · obtain ⟨its, rv, hl, _⟩ := I.list hs
    obtain ⟨as, hr⟩ := Dp.readsAll I ((n :: ns).map PyData.int) _ its (dps_ints (n :: ns)) rv
    exact PySem.W.max_list_data (I.ok.hd hc) hl.isList (by simpa using hr) hal hroom fun i v h' tk bs _ rd hk => fin v h' tk bs rd hk
  · obtain ⟨its, rv, hl, _⟩ := I.tuple hs
    obtain ⟨as, hr⟩ := Dp.readsAll I ((n :: ns).map PyData.int) _ its (dps_ints (n :: ns)) rv
    exact PySem.W.max_tuple_data (I.ok.hd hc) hl (by simpa using hr) hal hroom fun i v h' tk bs _ rd hk => fin v h' tk bs rd hk
theorem ref_max {K : PySem.W.Frag} : RefN K bMax (rMaxA K) := by
  intro β H st st' xs w vs Q hS r hm k
  unfold bMax at hm
  split at hm
  · rename_i x
    split at hm
    · rename_i ys hy
      split at hm
      · rename_i n ns hn
        cases hm
        obtain ⟨v, rfl, rx⟩ := rws1 r
        obtain ⟨p, us, rfl, hq, ru⟩ := items_ok hS rx hy
        have hus := ints_ok ru hn
        subst hus
        exact ⟨p, n, ns, rfl, hq, k _ H β .refl hS (.int _)⟩
      · cases hm
    · cases hm
  · cases hm
theorem ref_min2 {K : PySem.W.Frag} : RefN K bMin2 (fun xs H Q => ∃ i j, xs = [.int i, .int j] ∧ Q (.int (if j < i then j else i)) H) := by
  intro β H st st' xs w vs Q hS r hm k
  unfold bMin2 at hm
  split at hm
  · rename_i i j
    cases hm
    obtain ⟨v, u, rfl, rx, ry⟩ := rws2 r
    exact ⟨i, j, by rw [rx.int_inv, ry.int_inv], k _ H β .refl hS (.int _)⟩
  · cases hm
end B

set_option Elab.async false
set_option linter.all false
set_option maxRecDepth 100000
set_option maxHeartbeats 2000000
namespace B
open PySem PySem.Spec L2
set_option autoImplicit false
/-! ### dicts whose keys are tuples of ints and words, an int among them -/
def keysW : List W → Option (List Key)
  | [] => some []
  | x :: xs => match keyW x, keysW xs with
    | some k, some ks => some (k :: ks)
    | _, _ => none
def hasInt : List W → Bool
  | [] => false
  | .int _ :: _ => true
  | _ :: xs => hasInt xs
def tkeyW : W → Option (List Key)
  | .tup xs => if hasInt xs = true then keysW xs else none
  | _ => none
section
variable {K : PySem.W.Frag} {β : List Addr} {H : Hp}
theorem keysW_ok : ∀ {xs : List W} {vs : List V} {ks : List Key}, RWs K β H xs vs → keysW xs = some ks → vs = ks.map kV
  | _, _, ks, .nil, h => by simp [keysW] at h; subst h; rfl
  | _, _, ks, .cons (x := x) (xs := xs) r t, h => by
    unfold keysW at h
    split at h
    · rename_i k ks' hk hks
      cases h
      rw [keyW_ok r hk, keysW_ok t hks]; rfl
    · cases h
theorem hasInt_ok : ∀ {xs : List W} {vs : List V}, RWs K β H xs vs → hasInt xs = true → ∃ i : Int, V.int i ∈ vs
  | _, _, .nil, h => by simp [hasInt] at h
  | _, _, .cons (x := x) r t, h => by
    cases x with
    | int i => exact ⟨i, by rw [r.int_inv]; exact List.mem_cons_self⟩
    | _ =>
      have h' : hasInt _ = true := h
      obtain ⟨i, hi⟩ := hasInt_ok t (by simpa [hasInt] using h')
      exact ⟨i, List.mem_cons_of_mem _ hi⟩
theorem tkey_ok {w : W} {v : V} {ks : List Key} (r : RW K β H w v) (h : tkeyW w = some ks) : ∃ b, v = .ref b ∧ H b = some (.tup (ks.map kV)) := by
  cases r with
  | @tup a xs vs hq r =>
    unfold tkeyW at h
    simp only at h
    split at h
    · rename_i hi
      have e := keysW_ok r h
      obtain ⟨i, hm⟩ := hasInt_ok r hi
      rcases hq with hq | ⟨_, hs⟩
      · exact ⟨a, rfl, by rw [← e]; exact hq⟩
      · obtain ⟨x, hx⟩ := hs _ hm
        cases hx
    · cases h
  | _ => simp [tkeyW] at h
end
def dttOf (w : W) (st : Sto) : Option (Nat × List (List Key × W)) := match w with
  | .ref i => match st[i]? with
    | some (.dtt xs) => some (i, xs)
    | _ => none
  | _ => none
/-- .. that may be walked just now -/
def dtrOf (w : W) (st : Sto) : Option (Nat × List (List Key × W)) := match w with
  | .ref i => match st[i]? with
    | some (.dtt xs) => some (i, xs)
    | some (.lkt xs) => some (i, xs)
    | _ => none
  | _ => none
theorem rs_lkt {K : PySem.W.Frag} {β : List Addr} {H : Hp} {st : Sto} (s : RS K β H st) {i : Nat} {a : Addr} {xs : List (List Key × W)} (ha : β[i]? = some a) (hi : st[i]? = some (.lkt xs)) : ∃ o vs, H a = some (.frz o (.dT vs)) ∧ RKs K β H xs vs := by
  obtain ⟨b, hb, o, vs, e, r⟩ := s.ob i _ hi
  rw [ha] at hb; cases hb
  exact ⟨o, vs, e, r⟩
theorem DGet.tr {H : Hp} {a b : Addr} {kvs : List (List Key × V)} {k : List Key} (e : Rd H a (.dT kvs)) (eb : H b = some (.tup (k.map kV))) : DGet H a (.ref b) (valV kvs k) := .inr ⟨kvs, k, b, e, rfl, eb, rfl⟩
theorem dtr_ok {K : PySem.W.Frag} {β : List Addr} {H : Hp} {st : Sto} {w : W} {v : V} {i : Nat} {xs : List (List Key × W)} (hS : RS K β H st) (r : RW K β H w v) (h : dtrOf w st = some (i, xs)) :
    ∃ a vs, v = .ref a ∧ Rd H a (.dT vs) ∧ RKs K β H xs vs := by
  unfold dtrOf at h
  cases r with
  | ref hb =>
    dsimp only at h
    split at h
    · rename_i xs hi
      cases h
      obtain ⟨vs, e, r⟩ := rs_dtt hS hb hi
      exact ⟨_, vs, rfl, .inl e, r⟩
    · rename_i xs hi
      cases h
      obtain ⟨o, vs, e, r⟩ := rs_lkt hS hb hi
      exact ⟨_, vs, rfl, .inr ⟨o, e⟩, r⟩
    · cases h
  | _ => cases h
theorem dtt_ok {K : PySem.W.Frag} {β : List Addr} {H : Hp} {st : Sto} {w : W} {v : V} {i : Nat} {xs : List (List Key × W)} (hS : RS K β H st) (r : RW K β H w v) (h : dttOf w st = some (i, xs)) :
    ∃ a vs, v = .ref a ∧ β[i]? = some a ∧ st[i]? = some (.dtt xs) ∧ H a = some (.dT vs) ∧ RKs K β H xs vs := by
  unfold dttOf at h
  cases r with
  | ref hb =>
    dsimp only at h
    split at h
    · rename_i xs hi
      cases h
      obtain ⟨vs, e, r⟩ := rs_dtt hS hb hi
      exact ⟨_, vs, rfl, hb, hi, e, r⟩
    · cases h
  | _ => cases h
def eDictT0 : EM := fun _ st => some (.ref st.length, st ++ [.dtt []])
def fTGet : W → W → M W := fun x y st => match dtrOf x st, tkeyW y with
  | some (_, kvs), some k => match valW kvs k with
    | some w => some (w, st)
    | none => none
  | _, _ => none
def fTIn (neg : Bool) : W → W → M W := fun y x st => match dtrOf x st, tkeyW y with
  | some (_, kvs), some k => some (.bl (if neg = true then !(valW kvs k).isSome else (valW kvs k).isSome), st)
  | _, _ => none
def sTSet (o i e : EM) : SM := fun env => bnd (e env) fun y => bnd (o env) fun x => bnd (i env) fun j => fun st => match dttOf x st, tkeyW j with
  | some (q, kvs), some k => if sml kvs.length = true then some ((.nx, env), st.set q (.dtt (putW kvs k y))) else none
  | _, _ => none
section
variable {X : Cx}
theorem se_dictT0 {pos : Pos} : SE X (.Dict [] [] pos) eDictT0 := by
  refine ⟨PEimp pe_dnewT ?_⟩
  rintro σ H Q ⟨β, st, env, w, st', hE, hS, hm, k⟩
  cases hm
  intro p hf
  have e : Ext β H (β ++ [p]) (upd H p (.dT [])) := Ext.alloc hf
  exact k _ _ _ e (hS.alloc hf ⟨_, upd_same, .nil⟩) (.ref (alloc_ix hS))
theorem se_tget {o i : Expr} {mo mi : EM} {pos : Pos} (hu : X.A.units + 1 < cLine) (ho : SE X o mo) (hi : SE X i mi) (hs : NoSl i := by exact fun _ _ => rfl) : SE X (.Subscript o i pos) (eOp fTGet mo mi) := by
  refine ⟨PEimp (pe_dget hu ho.pe hi.pe hs) ?_⟩
  rintro σ H Q ⟨β, st, env, w, st', hE, hS, hm, k⟩
  obtain ⟨x, st1, h1, h2⟩ := bnd_some hm
  obtain ⟨y, st2, h3, h4⟩ := bnd_some h2
  refine ⟨β, st, env, x, st1, hE, hS, h1, fun v H1 β1 e1 s1 r1 => ⟨β1, st1, env, y, st2, hE.ext e1, s1, h3, fun u H2 β2 e2 s2 r2 => ?_⟩⟩
  unfold fTGet at h4
  split at h4
  · rename_i q kvs kk hd hk
    split at h4
    · rename_i w' hw
      cases h4
      obtain ⟨a, vs, rfl, e, r⟩ := dtr_ok s2 (r1.ext' e2) hd
      obtain ⟨b, rfl, hb2⟩ := tkey_ok r2 hk
      rcases r.val kk with ⟨a1, _⟩ | ⟨w2, v2, a1, a2, rv⟩
      · rw [hw] at a1; cases a1
      · rw [hw] at a1; cases a1
        exact ⟨a, v2, rfl, by rw [← a2]; exact DGet.tr e hb2, k v2 H2 β2 (e1.trans e2) s2 rv⟩
    · cases h4
  · cases h4
theorem tin_of {σ : L2.St} {H : Hp} {Q : VK} {mi mo : EM} (h : tM X.K (eOp (fTIn false) mi mo) σ H Q) : tDIn (tM X.K mi) (tM X.K mo) σ H Q := by
  obtain ⟨β, st, env, w, st', hE, hS, hm, k⟩ := h
  obtain ⟨y, st1, h1, h2⟩ := bnd_some hm
  obtain ⟨x, st2, h3, h4⟩ := bnd_some h2
  refine ⟨β, st, env, y, st1, hE, hS, h1, fun u H1 β1 e1 s1 r1 => ⟨β1, st1, env, x, st2, hE.ext e1, s1, h3, fun v H2 β2 e2 s2 r2 => ?_⟩⟩
  unfold fTIn at h4
  split at h4
  · rename_i q kvs kk hd hk
    cases h4
    obtain ⟨a, vs, rfl, e, r⟩ := dtr_ok s2 r2 hd
    obtain ⟨b, rfl, hb2⟩ := tkey_ok (r1.ext' e2) hk
    refine ⟨a, valV vs kk, rfl, DGet.tr e hb2, ?_⟩
    have hv : (valW kvs kk).isSome = (valV vs kk).isSome := by
      rcases r.val kk with ⟨a1, a2⟩ | ⟨w2, v2, a1, a2, _⟩ <;> rw [a1, a2] <;> rfl
    rw [← hv]
    exact k _ H2 β2 (e1.trans e2) s2 (.bl _)
  · cases h4
theorem tnotin_of {σ : L2.St} {H : Hp} {Q : VK} {mi mo : EM} (h : tM X.K (eOp (fTIn true) mi mo) σ H Q) : tDNotIn (tM X.K mi) (tM X.K mo) σ H Q := by
  obtain ⟨β, st, env, w, st', hE, hS, hm, k⟩ := h
  obtain ⟨y, st1, h1, h2⟩ := bnd_some hm
  obtain ⟨x, st2, h3, h4⟩ := bnd_some h2
  refine ⟨β, st, env, y, st1, hE, hS, h1, fun u H1 β1 e1 s1 r1 => ⟨β1, st1, env, x, st2, hE.ext e1, s1, h3, fun v H2 β2 e2 s2 r2 => ?_⟩⟩
  unfold fTIn at h4
  split at h4
  · rename_i q kvs kk hd hk
    cases h4
    obtain ⟨a, vs, rfl, e, r⟩ := dtr_ok s2 r2 hd
    obtain ⟨b, rfl, hb2⟩ := tkey_ok (r1.ext' e2) hk
    refine ⟨a, valV vs kk, rfl, DGet.tr e hb2, ?_⟩
    have hv : (valW kvs kk).isSome = (valV vs kk).isSome := by
      rcases r.val kk with ⟨a1, a2⟩ | ⟨w2, v2, a1, a2, _⟩ <;> rw [a1, a2] <;> rfl
    rw [← hv]
    exact k _ H2 β2 (e1.trans e2) s2 (.bl _)
  · cases h4
theorem st_tin {o i : Expr} {mo mi : EM} {pos : Pos} (hu : X.A.units + 1 < cLine) (hi : SE X i mi) (ho : SE X o mo) (h1 : behindInMarks .In o = false := by rfl) : ST X (.Compare i [.In] [o] pos) (tBl (eOp (fTIn false) mi mo)) :=
  ⟨PTimp (pt_cmp (pc_din hu hi.pe ho.pe) h1) fun _ _ _ h => tin_of (tM_bl h)⟩
theorem st_tnotin {o i : Expr} {mo mi : EM} {pos : Pos} (hu : X.A.units + 1 < cLine) (hi : SE X i mi) (ho : SE X o mo) (h1 : behindInMarks .NotIn o = false := by rfl) : ST X (.Compare i [.NotIn] [o] pos) (tBl (eOp (fTIn true) mi mo)) :=
  ⟨PTimp (pt_cmp (pc_dnotin hu hi.pe ho.pe) h1) fun _ _ _ h => tnotin_of (tM_bl h)⟩
theorem ss_tput {o i e : Expr} {mo mi me : EM} {pos pos' : Pos} (hu : X.A.units + 1 < cLine) (ho : SE X o mo) (hi : SE X i mi) (he : SE X e me) (hs : swapsWith e (some (.Subscript o i pos')) pos.line X.env = pure false := by rfl) :
    SS X (.Assign [.Subscript o i pos'] e pos) (sTSet mo mi me) := by
  refine ⟨PSimp (ps_dput hu ho.pe hi.pe he.pe hs) ?_⟩
  rintro D σ H ⟨β, st, env, fl, env', st', hE, hS, hm, k⟩
  obtain ⟨y, st1, h1, h2⟩ := bnd_some hm
  obtain ⟨x, st2, h3, h4⟩ := bnd_some h2
  obtain ⟨j, st3, h5, h6⟩ := bnd_some h4
  refine ⟨β, st, env, y, st1, hE, hS, h1, fun vy H1 β1 e1 s1 r1 => ⟨β1, st1, env, x, st2, hE.ext e1, s1, h3, fun vx H2 β2 e2 s2 r2 => ⟨β2, st2, env, j, st3, (hE.ext e1).ext e2, s2, h5, fun vj H3 β3 e3 s3 r3 => ?_⟩⟩⟩
  split at h6
  · rename_i q kvs kk hd hk
    split at h6
    · rename_i hz
      cases h6
      obtain ⟨a, vs, rfl, hb, hi, e, r⟩ := dtt_ok s3 (r2.ext' e3) hd
      obtain ⟨b, rfl, hb2⟩ := tkey_ok r3 hk
      have ec : Ext β3 H3 β3 (upd H3 a (.dT (putK vs kk vy))) := Ext.chg e (fun _ z => nomatch z) (fun _ _ z => nomatch z)
      obtain ⟨_, sc⟩ := s3.chg (u := .dT (putK vs kk vy)) (o' := .dtt (putW kvs kk y)) hi hb ⟨_, upd_same, (r.put (k := kk) ((r1.ext' e2).ext' e3)).ext ec⟩
      refine ⟨a, _, rfl, DPut.t e hb2 (by rw [← r.length]; exact sml_line hz), k _ _ _ (((e1.trans e2).trans e3).trans ec) sc ((((hE.ext e1).ext e2).ext e3).ext ec)⟩
    · cases h6
  · cases h6
/-! ### methods of an instance -/
structure MethOk (P : Program) (w : World) (K : PySem.W.Frag) (mg : Str → Option Value) (base : Heap) (c m : Str) (k n : Nat) (F : List W → M W) : Prop where
  ok : ∃ C f fd ps, PySem.W.nsIn K mainGlobals c = some (some (.ref C)) ∧ Cls K C ∧ Meth K C m f ∧ Binds K fd ps [] ∧ ps.length = n + 1 ∧ FnOk P w K mg base CX0 k f fd ps (spM K (n + 1) F)
def insOf (c m : Str) (x : W) : M Unit := fun st => match x with
  | .ref i => match st[i]? with
    | some (.ins c' fs) => if (c' == c && (fs.lookup m).isNone) = true then some ((), st) else none
    | _ => none
  | _ => none
def eMethI (c m : Str) (F : List W → M W) (o : EM) (a : AM) : EM := fun env => bnd (o env) fun x => bnd (insOf c m x) fun _ => bnd (a env) fun ws => F (x :: ws)
theorem RKs.lookN {K : PySem.W.Frag} {β : List Addr} {H : Hp} (f : Str) : ∀ {fs : List (Str × W)} {vs : List (Str × V)}, RKs K β H fs vs → fs.lookup f = none → vs.lookup f = none
  | _, _, .nil, _ => rfl
  | _, _, @RKs.cons _ _ _ _ g y u fs vs r t, h => by
    rw [List.lookup_cons] at h ⊢
    cases e : (f == g) with
    | true => rw [e] at h; cases h
    | false => rw [e] at h; exact RKs.lookN f t h
theorem tmeth_of {C : Addr} {c m : Str} {n : Nat} {F : List W → M W} {o : EM} {a : AM} (hn : ∀ env st r, a env st = some r → r.1.length = n) (hC : PySem.W.nsIn X.K mainGlobals c = some (some (.ref C))) {σ : L2.St} {H : Hp} {Q : VK} (h : tM X.K (eMethI c m F o a) σ H Q) :
    tMeth C m (spM X.K (n + 1) F) [] E0 (tM X.K o) (tMA X.K a) σ H Q := by
  obtain ⟨β, st, env, w, st', hE, hS, hm, k⟩ := h
  obtain ⟨x, st1, h1, h2⟩ := bnd_some hm
  obtain ⟨_, st2, h3, h4⟩ := bnd_some h2
  obtain ⟨ws, st3, h5, h6⟩ := bnd_some h4
  refine ⟨β, st, env, x, st1, hE, hS, h1, fun v H1 β1 e1 s1 r1 => ?_⟩
  cases r1 with
  | @ref i b hb =>
    unfold insOf at h3
    simp only at h3
    split at h3
    · rename_i c' fs hi
      split at h3
      · rename_i hcs
        cases h3
        rw [Bool.and_eq_true, beq_iff_eq] at hcs
        obtain ⟨rfl, hnone⟩ := hcs
        obtain ⟨A, dx, vs, hns, ea, r⟩ := rs_ins s1 hb hi
        rw [hC] at hns
        cases hns
        refine ⟨b, dx, vs, rfl, ea, r.lookN m (by simpa using hnone), β1, st1, env, ws, st3, hE.ext e1, s1, h5, fun us H2 β2 e2 s2 r2 => ?_⟩
        show spM X.K (n + 1) F (V.ref b :: (us ++ [])) H2 Q E0
        rw [List.append_nil]
        refine ⟨?_, β2, st3, .ref i :: ws, w, st', .cons (.ref (e2.ix hb)) r2, s2, h6, fun u H3 β3 e3 s3 r3 => k u H3 β3 ((e1.trans e2).trans e3) s3 r3⟩
        have := hn _ _ _ h5
        simp only [List.length_cons]
        rw [← r2.length, this]
      · cases h3
    · cases h3
  | _ => simp [insOf] at h3
theorem se_methI {c m : Str} {o e : Expr} {es : List Expr} {mo : EM} {ma : AM} {apos pos : Pos} {k n : Nat} {F : List W → M W} {pl : Sem Bool} (M' : MethOk X.prog X.w X.K X.mg X.base c m k n F) (hr : Room k X.A) (ho : SE X o mo) (ha : SA X (e :: es) ma) (hn : (e :: es).length = n := by rfl)
    (hst : starEach (e :: es) X.env = (false, eval e X.env) :: starEach es X.env := by rfl) (hpl : (backTo pos (starEach es X.env)).any (·.1) = false := by rfl)
    (ht : eval (.Call (.Attribute o m apos) (e :: es) [] pos) X.env = (do
      let ov ← eval o X.env
      standAt apos.atName
      let (f, first) ← holding [ov] (getMethod ov m pl)
      callWith pos f first (backTo pos (starEach (e :: es) X.env)) (backToKw pos (keywordEach [] X.env))) := by rfl) :
    SE X (.Call (.Attribute o m apos) (e :: es) [] pos) (eMethI c m F mo ma) := by
  obtain ⟨C, f, fd, ps, hC, cl, hM, hb, hl, G⟩ := M'.ok
  exact ⟨PEimp (pe_meth ho.pe cl hM G hr hb .nil (pass0 (X := X)) ha.pa hst hpl ht) fun _ _ _ h => tmeth_of (fun env st r hh => by rw [ha.len _ _ _ hh, hn]) hC h⟩
theorem ss_setComp2 {j : Nat} {y : Str} {py : Pos} {elt tg iter tg1 iter1 : Expr} {ifs ifs1 : List Expr} {scope : Scope} {pos spos : Pos} {i i1 : IM} {p p1 : Pat} {t t1 : TM} {e : EM} (own : List (Str × Nat)) (vs1 : List Nat) (n n1 : Nat) (hc : X.calm = true) (hN : X.N.Nodup) (ok : BlkOk X.N X.env.scope scope own) (hv : ∀ i ∈ vs1, i ∈ own.map (·.2)) (hp : ∀ i ∈ p.slots, i ∈ own.map (·.2)) (hp1 : ∀ i ∈ p1.slots, i ∈ vs1)
    (hsw : swapsWith (.ListComp elt [⟨tg, iter, ifs, 0⟩, ⟨tg1, iter1, ifs1, 0⟩] scope pos) (some (.Name y py)) spos.line X.env = pure true) (hi : SI X tg iter i)
    (hg : ∀ (s : Shared) (H : Hp) (C : Addr) (cl : List (Str × Addr)) (fp : List Addr), SG (X.blk s H scope (compEnvC scope cl C X.env) fp) tg p) (ht : ∀ (s : Shared) (H : Hp) (C : Addr) (cl : List (Str × Addr)) (fp : List Addr), STs (X.blk s H scope (compEnvC scope cl C X.env) fp) ifs t)
    (hi1 : ∀ (s : Shared) (H : Hp) (C : Addr) (cl : List (Str × Addr)) (fp : List Addr), SI (X.blk s H scope (compEnvC scope cl C X.env) fp) tg1 iter1 i1)
    (hg1 : ∀ (s : Shared) (H : Hp) (C : Addr) (cl : List (Str × Addr)) (fp : List Addr), SG (X.blk s H scope (compEnvC scope cl C X.env) fp) tg1 p1) (ht1 : ∀ (s : Shared) (H : Hp) (C : Addr) (cl : List (Str × Addr)) (fp : List Addr), STs (X.blk s H scope (compEnvC scope cl C X.env) fp) ifs1 t1)
    (he : ∀ (s : Shared) (H : Hp) (C : Addr) (cl : List (Str × Addr)) (fp : List Addr), SE (X.blk s H scope (compEnvC scope cl C X.env) fp) elt e) (hy : X.N[j]? = some y := by rfl) (hyl : X.env.scope.names.lookup y = some .local := by rfl) (hs : ∀ x, foldedSetIterable iter X.env x = pure x := by intro _; rfl) (hs1 : ∀ env x, foldedSetIterable iter1 env x = pure x := by intro _ _; rfl) :
    SS X (.Assign [.Name y py] (.ListComp elt [⟨tg, iter, ifs, 0⟩, ⟨tg1, iter1, ifs1, 0⟩] scope pos) spos) (sSet (.nm j) (eComp2 i p (own.map (·.2)) t i1 p1 vs1 t1 e n n1)) := by
  refine ⟨PSimp (ps_setLc2 (i := j) (wi1 := tMI X.K i1) (g := tMG X.K p) (g1 := tMG X.K p1) (tt := tMT X.K t) (tt1 := tMT X.K t1) (te := tM X.K e) hc hN hy hyl hsw hi.pi ok hv (fun s H C cl fp => (hg s H C cl fp).pg) (fun s H C cl fp => (ht s H C cl fp).pts) (fun s H C cl fp => (hi1 s H C cl fp).pi) (fun s H C cl fp => (hg1 s H C cl fp).pg) (fun s H C cl fp => (ht1 s H C cl fp).pts) (fun s H C cl fp => (he s H C cl fp).pe) hs hs1) ?_⟩
  rintro D σ H ⟨β, st, env, fl, env', st', hE, hS, hm, k⟩
  obtain ⟨w, st1, h1, h2⟩ := bnd_some hm
  obtain ⟨env1, st2, h3, h4⟩ := bnd_some h2
  simp only [Pat.asg] at h3
  cases h3
  cases h4
  refine tLc2_of hp hp1 (Q := fun x H1 => gName j x σ H1 D.nx) ⟨β, st, env, w, _, hE, hS, h1, fun v H1 β1 e1 s1 r1 => ?_⟩
  exact k _ H1 β1 e1 s1 ((hE.ext e1).set r1 j)
end
end B

set_option Elab.async false
set_option linter.all false
set_option maxRecDepth 100000
set_option maxHeartbeats 2000000
namespace B
open PySem PySem.Spec L2
set_option autoImplicit false
/-! ### sorted of data, any number -/
def kd (w : W) : PyData := (toD w).getD .none
def isTupD : PyData → Bool
  | .tuple (_ :: _) => true
  | _ => false
def plainD : PyData → Bool
  | .none => false
  | .tuple _ => false
  | _ => true
def sortOk (ds : List PyData) : Bool := ds.all (fun a => ds.all fun b => PySem.W.alike a b) && ((ds.all isTupD || ds.all plainD) && ds.all fun d => Nat.ble d.depth 64)
def fSorted (x : W) : M W := fun st => match listOf x st with
  | some ws => match toDs ws with
    | some ds => if (sortOk ds && sml ws.length) = true then some (.ref st.length, st ++ [.lst (ws.mergeSort (PySem.W.dataLe false kd))]) else none
    | none => none
  | none => none
theorem toDs_map : ∀ {ws : List W} {ds : List PyData}, toDs ws = some ds → ds = ws.map kd
  | [], ds, h => by simp [toDs] at h; subst h; rfl
  | w :: ws, ds, h => by
    unfold toDs at h
    split at h
    · rename_i d ds' hd hds
      cases h
      rw [toDs_map hds]
      simp [kd, hd]
    · cases h
def rSortedD (K : PySem.W.Frag) : List V → Hp → VK → Prop := fun vs H Q => ∃ (a : Addr) (ws : List W) (us : List V) (ds : List PyData), vs = [V.ref a] ∧ SqL K H a us ∧ DpAll K H us ds ∧ ws.length = us.length ∧ ds = ws.map kd ∧ sortOk ds = true ∧ us.length ≤ sizeLine ∧
  ∀ (ps : List (W × V)) (p : Addr), ps = (ws.zip us).mergeSort (PySem.W.dataLe false fun q => kd q.1) → H p = none → Q (.ref p) (upd H p (.lst (ps.map (·.2))))
theorem each_zip : ∀ {ws : List W} {us : List V} {its : List Value}, ws.length = us.length → Vals us its → PySem.W.EachIs (fun u (q : W × V) => RelV q.2 u) its (ws.zip us)
  | [], [], _, _, .nil => .nil
  | [], _ :: _, _, h, _ => by simp at h
  | _ :: _, [], _, h, _ => by simp at h
  | w :: ws, u :: us, _, h, .cons r t => .cons r (each_zip (by simpa using h) t)
theorem each_reads {X : Cx} {pins : List (Addr × Obj)} {σ : L2.St} {H : Hp} {s : Shared} (I : Inv X pins σ H s) : ∀ {ws : List W} {us : List V} {its : List Value}, ws.length = us.length → Vals us its → DpAll X.K H us (ws.map kd) →
    PySem.W.EachIs (fun u (q : W × V) => ∃ as, Reads s.heap u (kd q.1) as) its (ws.zip us)
  | [], [], _, _, .nil, _ => .nil
  | [], _ :: _, _, h, _, _ => by simp at h
  | _ :: _, [], _, h, _, _ => by simp at h
  | w :: ws, u :: us, _, h, .cons r t, d => by
    cases d with
    | cons d1 d2 =>
      obtain ⟨as, q⟩ := Dp.reads I _ u _ d1 r
      exact .cons ⟨as, q⟩ (each_reads I (by simpa using h) t d2)
theorem vals_each : ∀ {out : List Value} {ps : List (W × V)}, PySem.W.EachIs (fun u (q : W × V) => RelV q.2 u) out ps → Vals (ps.map (·.2)) out
  | _, _, .nil => .nil
  | _, _, .cons r t => .cons r (vals_each t)
theorem map_fst_zip {ws : List W} {us : List V} (h : ws.length = us.length) : (ws.zip us).map (·.1) = ws := by
  rw [List.map_fst_zip]; omega
theorem sortOk_is {ds : List PyData} (h : sortOk ds = true) : PySem.W.AllAlike ds ∧ PySem.W.Sortable ds ∧ ∀ d ∈ ds, d.depth ≤ 64 := by
  unfold sortOk at h
  simp only [Bool.and_eq_true, Bool.or_eq_true, List.all_eq_true] at h
  refine ⟨fun d hd e he => h.1 d hd e he, ?_, fun d hd => Nat.le_of_ble_eq_true (h.2.2 d hd)⟩
  rcases h.2.1 with g | g
  · left
    intro d hd
    have := g d hd
    cases d with
    | tuple xs => cases xs with
      | nil => simp [isTupD] at this
      | cons x r => exact ⟨x, r, rfl⟩
    | _ => simp [isTupD] at this
  · right
    intro d hd
    have := g d hd
    refine ⟨fun z => by subst z; simp [plainD] at this, fun xs z => by subst z; simp [plainD] at this⟩
theorem cr_sortedD {X : Cx} (hu : X.A.units + 100 < cLine) : CallR X (.builtin "sorted") (rSortedD X.K) := by
  intro pins s σ H vs us' Q I r h
  obtain ⟨a, ws, us, ds, rfl, hs, hd, hl, rfl, ho, hz, q⟩ := h
  obtain ⟨its, rv, hp, _⟩ := I.list hs
  rw [Vals.ref1 r]
  obtain ⟨h1, h2, h3⟩ := sortOk_is ho
  have hm : (ws.zip us).map (fun q : W × V => kd q.1) = ws.map kd := by
    conv => rhs; rw [← map_fst_zip hl]
    rw [List.map_map]; rfl
  refine PySem.W.sorted_data (enc := fun q : W × V => kd q.1) hp.isList (each_zip hl rv) (each_reads I hl rv hd) (by rw [hm]; exact h1) (by rw [hm]; exact h2) (by rw [List.length_zip]; omega) (fun b hb => ?_) fun out ho2 he => ?_
  · have : kd b.1 ∈ ws.map kd := by rw [← hm]; exact List.mem_map.mpr ⟨b, hb, rfl⟩
    have := h3 _ this
    omega
  · obtain ⟨ep, he'⟩ := PyProof.Rows.sortedAll_at s.heap its out.toArray
    have hlen : (((ws.zip us).mergeSort (PySem.W.dataLe false fun q : W × V => kd q.1)).map (·.2)).length ≤ sizeLine := by
      rw [List.length_map, List.length_mergeSort, List.length_zip]; omega
    exact ⟨.ref _, _, I.laid (a := s.heap.objs.size + 1) (o := .lst (((ws.zip us).mergeSort (PySem.W.dataLe false fun q : W × V => kd q.1)).map (·.2))) (t' := s.toks) (fun _ _ => PyProof.Rows.sortedAll_old) (Nat.le_succ _) ⟨hlen, out, ep, vals_each he, he'⟩, rfl, q _ _ rfl (I.hok.fresh (Nat.le_succ _))⟩
theorem rws_pairs {K : PySem.W.Frag} {β : List Addr} {H : Hp} : ∀ {ps : List (W × V)}, (∀ p ∈ ps, RW K β H p.1 p.2) → RWs K β H (ps.map (·.1)) (ps.map (·.2))
  | [], _ => .nil
  | p :: ps, h => .cons (h p List.mem_cons_self) (rws_pairs fun q hq => h q (List.mem_cons_of_mem _ hq))
theorem rws_zip {K : PySem.W.Frag} {β : List Addr} {H : Hp} : ∀ {ws : List W} {us : List V}, RWs K β H ws us → ∀ p ∈ ws.zip us, RW K β H p.1 p.2
  | _, _, .nil, p, hp => by simp at hp
  | _, _, .cons r t, p, hp => by
    rcases List.mem_cons.mp hp with rfl | hp
    · exact r
    · exact rws_zip t p hp
theorem se_sorted {X : Cx} {e : Expr} {m : EM} {p pos : Pos} (hu : X.A.units + 100 < cLine) (hg : Gl X "sorted") (hm : X.mg "sorted" = none) (he : SE X e m)
    (hs : starEach [e] X.env = (false, eval e X.env) :: starEach [] X.env := by rfl) (hpl : (backTo pos (starEach [] X.env)).any (·.1) = false := by rfl) :
    SE X (.Call (.Name "sorted" p) [e] [] pos) (eUn fSorted m) := by
  refine ⟨PEimp (pe_callB (cr_sortedD hu) hg hm PyProof.Rows.boot_sorted (pa_cons he.pe pa_nil hs) (by decide) (by decide) hs hpl) ?_⟩
  rintro σ H Q ⟨β, st, env, w, st', hE, hS, hmm, k⟩
  obtain ⟨x, st1, h1, h2⟩ := bnd_some hmm
  refine ⟨β, st, env, x, st1, hE, hS, h1, fun v H1 β1 e1 s1 r1 => ?_⟩
  unfold fSorted at h2
  split at h2
  · rename_i ws hw
    split at h2
    · rename_i ds hds
      split at h2
      · rename_i hc
        cases h2
        rw [Bool.and_eq_true] at hc
        obtain ⟨a, us, rfl, hq, ru⟩ := list_ok s1 r1 hw
        have hl := ru.length
        refine ⟨a, ws, us, ds, rfl, hq, dps_of ws us ds ru hds, hl, toDs_map hds, hc.1, by rw [← hl]; exact Nat.le_of_lt (sml_line hc.2), fun ps p' hps hp => ?_⟩
        have e : Ext β1 H1 (β1 ++ [p']) (upd H1 p' (.lst (ps.map (·.2)))) := Ext.alloc hp
        have hfst : ps.map (·.1) = ws.mergeSort (PySem.W.dataLe false kd) := by
          have hz : ((ws.zip us).mergeSort (PySem.W.dataLe false fun q : W × V => kd q.1)).map (fun q : W × V => q.1) = ((ws.zip us).map (fun q : W × V => q.1)).mergeSort (PySem.W.dataLe false kd) := List.map_mergeSort (fun a _ b _ => rfl)
          rw [hps, hz, map_fst_zip hl]
        have hrw : RWs X.K β1 H1 (ws.mergeSort (PySem.W.dataLe false kd)) (ps.map (·.2)) := by
          rw [← hfst]
          exact rws_pairs fun q hq => rws_zip ru q (by rw [hps] at hq; exact (List.mergeSort_perm _ _).mem_iff.mp hq)
        exact k _ _ _ (e1.trans e) (s1.alloc hp ⟨_, upd_same, hrw.ext e⟩) (.ref (alloc_ix s1))
      · cases h2
    · cases h2
  · cases h2
end B

set_option Elab.async false
set_option linter.all false
set_option maxRecDepth 100000
set_option maxHeartbeats 2000000
namespace B
open PySem PySem.Spec L2 PyProof.Rows
set_option autoImplicit false
/-! ### list * int -/
@[simp] def fRepL : W → W → M W := fun x y st => match x, y with
  | .ref i, .int k => match st[i]? with
    | some (.lst xs) => if decide (-1000000 ≤ k ∧ k ≤ 1000000 ∧ xs.length * k.toNat ≤ 1000000) = true then some (.ref st.length, st ++ [.lst (List.replicate k.toNat xs).flatten]) else none
    | _ => none
  | _, _ => none
theorem ref_repL {K : PySem.W.Frag} : Ref2 K fRepL rRep := by
  intro β H st st' x y w vx vy Q hS rx ry hm k
  unfold fRepL at hm
  split at hm
  · rename_i i n
    split at hm
    · rename_i xs hi
      split at hm
      · rename_i hc
        cases hm
        have hc := of_decide_eq_true hc
        cases rx with
        | @ref i a ha =>
          obtain ⟨vs, e1, r⟩ := rs_lst hS ha hi
          have hl := r.length
          refine ⟨a, n, vs, rfl, ry.int_inv, e1, by omega, by omega, by rw [← hl, sizeLine_eq]; omega, fun p hf => ?_⟩
          have e : Ext β H (β ++ [p]) (upd H p (.lst (List.replicate n.toNat vs).flatten)) := Ext.alloc hf
          exact k _ _ _ e (hS.alloc hf ⟨_, upd_same, (rws_rep r _).ext e⟩) (.ref (alloc_ix hS))
      · cases hm
    · cases hm
  · cases hm
/-! ### tuple * 1 -/
theorem tuple_mul1 (l : Addr) (items : Array Value) (n : Nat) (dd : Option Addr) (sl : Array (Option Value)) (u : Tok) (c0 : (decide ((1:Int) < -(2 ^ 63)) || decide ((1:Int) ≥ 2 ^ 63)) = false) :
    Meets (Builtin.«tuple.__mul__» ⟨[.ref l, .int 1 u], []⟩) (fun _ R s => s.heap.get? l = some { cls := .type "tuple", dict := dd, data := .seq items n, slots := sl } ∧ R (.ok (.ret (Value.ref l))) s) :=
  .of_wp fun prog w A R s h => by
    obtain ⟨hp, g, d, tk, os⟩ := s
    obtain ⟨hl, h⟩ := h
    have f1 := AutoSeq1.idx_int
    wp_walk using wpAny_loadPart' hl
    exact ⟨_, rfl, h⟩
def rRep1 (K : PySem.W.Frag) : R2 := fun x y H Q => ∃ l xs, x = .ref l ∧ y = .int 1 ∧ SqT K H l xs ∧ Q (.ref l) H
theorem op_rep1 {X : Cx} : OpR X (binaryOp .Mult) (rRep1 X.K) := by
  intro pins s σ H x y v u Q I rx ry h
  obtain ⟨l, xs, rfl, rfl, hT, q⟩ := h
  cases rx
  obtain ⟨t, rfl⟩ := ry
  obtain ⟨its, r, ⟨⟨cls, dd, data, sl⟩, ho, hc, n, hd⟩, hs⟩ := I.tuple hT
  simp only at hc hd
  subst hc hd
  refine wpAny_binaryOp_repeat_ref (T := "tuple") (U := "int") (by decide) ⟨_, ho, rfl⟩ (fun s' => typeIs_int s' 1 t) noFill_tuple_mul F.fills_int_mul F.slot_int_rmul repeat_tuple F.slot_int_index.lookup
    (call_meets F.slot_int_rmul (typeIs_int s 1 t) F.entry_int_rmul (F.args_int_rmul_2 _ _) (int_rmul_tuple 1 t l its.toArray n dd sl)
      ⟨ho, rfl, ⟨_, ho, rfl⟩, call_meets F.slot_tuple_mul ⟨_, ho, rfl⟩ F.entry_tuple_mul (F.args_tuple_mul_2 _ _) (tuple_mul1 l its.toArray n dd sl t (by decide)) ⟨ho, ?_⟩⟩)
  exact ⟨.ref l, H, I, rfl, q⟩
@[simp] def fMulA : W → W → M W := fun x y st => match x, y with
  | .int i, .int j => if decide ((-(2 ^ 64) < i ∧ i < 2 ^ 64) ∨ (-(2 ^ 64) < j ∧ j < 2 ^ 64)) = true then some (.int (i * j), st) else none
  | .tup xs, .int k => if decide (1 ≤ k ∧ k ≤ 1000 ∧ 1 ≤ xs.length ∧ xs.length ≤ 1000) = true then some (.tup (List.replicate k.toNat xs).flatten, st) else none
  | .ref i, .int k => match st[i]? with
    | some (.lst xs) => if decide (-1000000 ≤ k ∧ k ≤ 1000000 ∧ xs.length * k.toNat ≤ 1000000) = true then some (.ref st.length, st ++ [.lst (List.replicate k.toNat xs).flatten]) else none
    | _ => none
  | _, _ => none
def rMulA (K : PySem.W.Frag) : R2 := fun x y H Q => rI CMul (fun i j => .int (i * j)) x y H Q ∨ (rRep1 K x y H Q ∨ (rRepT K x y H Q ∨ rRep x y H Q))
theorem or_mul {X : Cx} : OpR X (binaryOp .Mult) (rMulA X.K) := op_mul.or (op_rep1.or (op_repT.or op_rep))
theorem ref_mul {K : PySem.W.Frag} : Ref2 K fMulA (rMulA K) := by
  intro β H st st' x y w vx vy Q hS rx ry hm k
  unfold fMulA at hm
  split at hm
  · rename_i i j
    exact .inl (ref_mulI β H st st' _ _ w vx vy Q hS rx ry (by simpa using hm) k)
  · rename_i xs n
    split at hm
    · rename_i hc
      have hc' := of_decide_eq_true hc
      by_cases h1 : n = 1
      · subst h1
        cases hm
        refine .inr (.inl ?_)
        cases rx with
        | @tup a _ vs hq r =>
          refine ⟨a, vs, rfl, ry.int_inv, hq.sq, ?_⟩
          have : (List.replicate (1 : Int).toNat xs).flatten = xs := by simp
          rw [this] at k
          exact k _ H β .refl hS (.tup hq r)
      · refine .inr (.inr (.inl (ref_repT β H st st' _ _ w vx vy Q hS rx ry ?_ k)))
        unfold fRepT
        dsimp only
        rw [if_pos (decide_eq_true (by omega))]
        exact hm
    · cases hm
  · rename_i i n
    exact .inr (.inr (.inr (ref_repL β H st st' _ _ w vx vy Q hS rx ry hm k)))
  · cases hm
/-! ### dict([(k, v), ..]) -/
def pairW : W → Option (Key × W)
  | .tup [a, b] => match keyW a with
    | some k => some (k, b)
    | none => none
  | _ => none
def pairsW : List W → Option (List (Key × W))
  | [] => some []
  | x :: xs => match pairW x, pairsW xs with
    | some p, some ps => some (p :: ps)
    | _, _ => none
def mergeW (kvs more : List (Key × W)) : List (Key × W) := more.foldl (fun acc kv => putW acc kv.1 kv.2) kvs
@[simp] def bDictP : List W → M W := fun xs st => match xs with
  | [x] => match listOf x st with
    | some ws => match pairsW ws with
      | some kvs => if sml ws.length = true then some (.ref st.length, st ++ [.dct (mergeW [] kvs)]) else none
      | none => none
    | none => none
  | _ => none
theorem rks_merge {K : PySem.W.Frag} {β : List Addr} {H : Hp} : ∀ {more : List (Key × W)} {us : List (Key × V)} {kvs : List (Key × W)} {vs : List (Key × V)}, RKs K β H more us → RKs K β H kvs vs → RKs K β H (mergeW kvs more) (mergeK vs us)
  | _, _, _, _, .nil, h => h
  | _, _, kvs, vs, .cons (k := k) r t, h => by
    have := rks_merge t (h.put (k := k) r)
    exact this
theorem pairs_ok {K : PySem.W.Frag} {β : List Addr} {H : Hp} : ∀ {ws : List W} {vs : List V} {kvs : List (Key × W)}, RWs K β H ws vs → pairsW ws = some kvs →
    ∃ (ps : List Addr) (us : List (Key × V)), vs = ps.map V.ref ∧ Paired (fun p kv => SqT K H p [kV kv.1, kv.2]) ps us ∧ RKs K β H kvs us
  | [], _, _, .nil, h => by cases h; exact ⟨[], [], rfl, .nil, .nil⟩
  | x :: xs, _, _, .cons r t, h => by
    unfold pairsW at h
    split at h
    · rename_i p qs hp hq
      cases h
      obtain ⟨ps, us, e, P, R⟩ := pairs_ok t hq
      unfold pairW at hp
      split at hp
      · rename_i a b
        split at hp
        · rename_i kk hk
          cases hp
          cases r with
          | @tup ad _ ys hq' r' =>
            cases r' with
            | cons r1 r2 =>
              cases r2 with
              | cons r2 r3 =>
                cases r3
                rename_i v1 v2
                have hv := keyW_ok r1 hk
                subst hv
                exact ⟨ad :: ps, (kk, v2) :: us, by rw [e]; rfl, .cons hq'.sq P, .cons r2 R⟩
        · cases hp
      · cases hp
    · cases h
theorem ref_dictP {K : PySem.W.Frag} : RefN K bDictP (fun xs H Q => ∃ (a : Addr) (ps : List Addr) (kvs : List (Key × V)), xs = [.ref a] ∧ SqL K H a (ps.map V.ref) ∧ Paired (fun p kv => SqT K H p [kV kv.1, kv.2]) ps kvs ∧
    ∀ p, H p = none → Q (.ref p) (upd H p (.dK (mergeK [] kvs)))) := by
  intro β H st st' xs w vs Q hS r hm k
  unfold bDictP at hm
  split at hm
  · rename_i x
    split at hm
    · rename_i ws hw
      split at hm
      · rename_i kvs hk
        split at hm
        · rename_i hz
          cases hm
          obtain ⟨v, rfl, rv⟩ := rws1 r
          obtain ⟨a, us, rfl, hq, ru⟩ := list_ok hS rv hw
          obtain ⟨ps, uk, e, P, R⟩ := pairs_ok ru hk
          subst e
          refine ⟨a, ps, uk, rfl, hq, P, fun p hf => ?_⟩
          have e : Ext β H (β ++ [p]) (upd H p (.dK (mergeK [] uk))) := Ext.alloc hf
          exact k _ _ _ e (hS.alloc hf ⟨_, upd_same, (rks_merge R .nil).ext e⟩) (.ref (alloc_ix hS))
        · cases hm
      · cases hm
    · cases hm
  · cases hm
end B

set_option Elab.async false
set_option linter.all false
set_option maxRecDepth 100000
set_option maxHeartbeats 2000000
namespace B
open PySem PySem.Spec L2 PyProof.Rows
set_option autoImplicit false
/-! ### what stays when a dict is no longer walked -/
structure Unl (H H' : Hp) : Prop where
  tups : ∀ a xs, H a = some (.tup xs) → H' a = some (.tup xs)
  lsts : ∀ a o xs, H a = some (.frz o (.lst xs)) → H' a = some (.frz o (.lst xs))
  exts : ∀ a φ, H a = some (.ext φ) → H' a = some (.ext φ)
section
variable {K : PySem.W.Frag} {β : List Addr} {H H' : Hp}
mutual
theorem RW.unl (e : Unl H H') : ∀ {w : W} {v : V}, RW K β H w v → RW K β H' w v
  | _, _, .non => .non
  | _, _, .bl b => .bl b
  | _, _, .int i => .int i
  | _, _, .str x => .str x
  | _, _, .tup h r => .tup (h.elim (fun h => .inl (e.tups _ _ h)) fun h => .inr h) (RWs.unl e r)
  | _, _, .fl h r => .fl (h.elim (fun ⟨o, h⟩ => .inl ⟨o, e.lsts _ _ _ h⟩) fun h => .inr h) (RWs.unl e r)
  | _, _, .ref h => .ref h
  | _, _, .ext v => .ext v
  | _, _, .fnc h => .fnc h
  | _, _, .exc0 h1 h2 => .exc0 h1 (e.exts _ _ h2)
  | _, _, .exc1 h1 h2 h3 r => .exc1 h1 (e.exts _ _ h2) (e.exts _ _ h3) (RW.unl e r)
theorem RWs.unl (e : Unl H H') : ∀ {ws : List W} {vs : List V}, RWs K β H ws vs → RWs K β H' ws vs
  | _, _, .nil => .nil
  | _, _, .cons r t => .cons (RW.unl e r) (RWs.unl e t)
end
theorem RKs.unl {T : Type} (e : Unl H H') : ∀ {ws : List (T × W)} {vs : List (T × V)}, RKs K β H ws vs → RKs K β H' ws vs
  | _, _, .nil => .nil
  | _, _, .cons r t => .cons (RW.unl e r) (RKs.unl e t)
theorem RE.unl (e : Unl H H') {env : En} {σ : L2.St} (h : RE K β H env σ) : RE K β H' env σ :=
  ⟨h.len, fun i w hi => let ⟨v, a, b⟩ := h.at' i w hi; ⟨v, a, b.unl e⟩⟩
theorem RO.unl {a d : Addr} {o : SO} {u : HO} (e : Unl H (L2.upd H d u)) (h : RO K β H a o) (n : a ≠ d) : RO K β (L2.upd H d u) a o := by
  cases o with
  | lst xs => obtain ⟨vs, e1, r⟩ := h; exact ⟨vs, by rw [upd_ne n]; exact e1, r.unl e⟩
  | dct kvs => obtain ⟨vs, e1, r⟩ := h; exact ⟨vs, by rw [upd_ne n]; exact e1, r.unl e⟩
  | dtt kvs => obtain ⟨vs, e1, r⟩ := h; exact ⟨vs, by rw [upd_ne n]; exact e1, r.unl e⟩
  | ins c fs => obtain ⟨A, dx, vs, hc, e1, r⟩ := h; exact ⟨A, dx, vs, hc, by rw [upd_ne n]; exact e1, r.unl e⟩
  | lkt kvs => obtain ⟨ob, vs, e1, r⟩ := h; exact ⟨ob, vs, by rw [upd_ne n]; exact e1, r.unl e⟩
theorem unl_of {d : Addr} {od : Obj} {us : List (List Key × V)} {u : HO} (h : H d = some (.frz od (.dT us))) : Unl H (upd H d u) :=
  ⟨fun a xs e => by rw [upd_ne (fun z => by subst z; rw [h] at e; cases e)]; exact e, fun a o xs e => by rw [upd_ne (fun z => by subst z; rw [h] at e; cases e)]; exact e, fun a xs e => by rw [upd_ne (fun z => by subst z; rw [h] at e; cases e)]; exact e⟩
theorem RS.unlock {st : Sto} (s : RS K β H st) {q : Nat} {d : Addr} {od : Obj} {kvs : List (List Key × W)} {us : List (List Key × V)} (hq : st[q]? = some (.lkt kvs)) (hd : β[q]? = some d) (h : H d = some (.frz od (.dT us))) :
    RS K β (upd H d (.dT us)) (st.set q (.dtt kvs)) := by
  have U : Unl H (L2.upd H d (.dT us)) := unl_of h
  refine ⟨by simp [s.len], s.nd, fun j o hj => ?_⟩
  by_cases c : q = j
  · subst c
    rw [List.getElem?_set_self (List.getElem?_eq_some_iff.mp hq).1] at hj
    cases hj
    obtain ⟨o, vs, e, r⟩ := rs_lkt s hd hq
    rw [h] at e; cases e
    exact ⟨d, hd, us, upd_same, r.unl U⟩
  · rw [List.getElem?_set_ne c] at hj
    obtain ⟨b, hb, rb⟩ := s.ob j o hj
    refine ⟨b, hb, rb.unl U fun z => c ?_⟩
    subst z
    have h1 := List.getElem?_eq_some_iff.mp hd
    have h2 := List.getElem?_eq_some_iff.mp hb
    exact (List.getElem_inj s.nd).mp (h1.2.trans h2.2.symm)
end
/-- the statement runs while the dict that the name holds is walked -/
def sLock (k : Nat) (m : SM) : SM := fun env st => match env[k]? with
  | some (some (.ref q)) => match st[q]? with
    | some (.dtt kvs) => match m env (st.set q (.lkt kvs)) with
      | some (r, st') => match st'[q]? with
        | some (.lkt kvs') => some (r, st'.set q (.dtt kvs'))
        | _ => none
      | none => none
    | _ => none
  | _ => none
section
variable {X : Cx}
theorem ss_lock {st : Stmt} {m : SM} (k : Nat) (h : SS X st m) : SS X st (sLock k m) := by
  refine ⟨PSimp (ps_lock h.ps) ?_⟩
  rintro D σ H ⟨β, st, env, fl, env', st', hE, hS, hm, kk⟩
  unfold sLock at hm
  split at hm
  · rename_i q hk
    split at hm
    · rename_i kvs hq
      split at hm
      · rename_i r st1 hr
        split at hm
        · rename_i kvs' hq'
          cases hm
          obtain ⟨d, hd, vs, hH, hR⟩ := hS.ob q _ hq
          refine ⟨d, .dT vs, hH, trivial, fun od => ?_⟩
          have el : Ext β H β (upd H d (.frz od (.dT vs))) := Ext.chg hH (fun _ z => nomatch z) (fun _ _ z => nomatch z)
          obtain ⟨_, sl⟩ := hS.chg (u := .frz od (.dT vs)) (o' := .lkt kvs) hq hd ⟨od, vs, upd_same, hR.ext el⟩
          refine ⟨β, _, env, fl, env', st1, hE.ext el, sl, hr, fun σ' H' β' e' s' E' => ?_⟩
          have hd' : H' d = some (.frz od (.dT vs)) := e'.frzs d od _ upd_same
          have U : Unl H' (upd H' d (.dT vs)) := unl_of hd'
          have S2 := s'.unlock hq' (e'.ix hd) hd'
          have ex : Ext β H β' (upd H' d (.dT vs)) := by
            refine ⟨e'.more, fun a xs h => ?_, fun a o u h => ?_, fun a fs h => ?_, fun a fs h => ?_⟩
            · have n : a ≠ d := fun z => by subst z; rw [hH] at h; cases h
              rw [upd_ne n]; exact e'.tups _ _ (by rw [upd_ne n]; exact h)
            · have n : a ≠ d := fun z => by subst z; rw [hH] at h; cases h
              rw [upd_ne n]; exact e'.frzs _ _ _ (by rw [upd_ne n]; exact h)
            · have n : a ≠ d := fun z => by subst z; rw [hH] at h; cases h
              rw [upd_ne n]; exact e'.xds _ _ (by rw [upd_ne n]; exact h)
            · have n : a ≠ d := fun z => by subst z; rw [hH] at h; cases h
              rw [upd_ne n]; exact e'.exts _ _ (by rw [upd_ne n]; exact h)
          have F := kk σ' (upd H' d (.dT vs)) β' ex S2 (E'.unl U)
          cases fl with
          | nx => exact ⟨hd', F⟩
          | bk => exact ⟨hd', F⟩
          | ct => exact ⟨hd', F⟩
          | rt w => exact fun v rv => ⟨hd', F v (rv.unl U)⟩
        · cases hm
      · cases hm
    · cases hm
  · cases hm
/-! ### for k in d, d a dict with tuple keys -/
def keyToW : Key → W
  | .inl i => .int i
  | .inr x => .str x
theorem keyToW_rw {K : PySem.W.Frag} {β : List Addr} {H : Hp} : ∀ k : Key, RW K β H (keyToW k) (kV k)
  | .inl i => .int i
  | .inr x => .str x
theorem keysToW_rws {K : PySem.W.Frag} {β : List Addr} {H : Hp} : ∀ ks : List Key, RWs K β H (ks.map keyToW) (ks.map kV)
  | [] => .nil
  | k :: ks => .cons (keyToW_rw k) (keysToW_rws ks)
def tkW (k : List Key) : W := .tup (k.map keyToW)
def srcKeys (ks : List (List Key)) : Src := fun j _ => some (ks[j]?.map tkW)
def iKeysL (k : Nat) : IM := fun env st => match env[k]? with
  | some (some (.ref q)) => match st[q]? with
    | some (.lkt kvs) => some (srcKeys (kvs.map (·.1)), st)
    | _ => none
  | _ => none
theorem RKs.keys {K : PySem.W.Frag} {β : List Addr} {H : Hp} {T : Type} : ∀ {ks : List (T × W)} {vs : List (T × V)}, RKs K β H ks vs → ks.map (·.1) = vs.map (·.1)
  | _, _, .nil => rfl
  | _, _, .cons r t => by simp [RKs.keys t]
theorem si_keysL {tg : Expr} (k : Nat) {x : Str} {pos : Pos} (hN : X.N[k]? = some x := by rfl) (hv : Vis X.env.scope x := by first | exact Or.inl rfl | exact Or.inr (Or.inl rfl) | exact Or.inr (Or.inr rfl)) (hd : (x == ("__debug__" : Str)) = false := by decide)
    (hcd : (x == ("__classdict__" : Str)) = false := by decide) : SI X tg (.Name x pos) (iKeysL k) := by
  refine ⟨PIimp (pi_keys (pe_var (i := k) hN hv hd hcd)) ?_⟩
  rintro σ H R ⟨β, st, env, src, st', hE, hS, hm, kk⟩
  unfold iKeysL at hm
  split at hm
  · rename_i q hk
    split at hm
    · rename_i kvs hq
      cases hm
      obtain ⟨v, hv', rv⟩ := hE.at' k _ hk
      cases rv with
      | @ref q d hb =>
        obtain ⟨od, vs, hH, hR⟩ := rs_lkt hS hb hq
        refine ⟨_, hv', d, od, rfl, .inr ⟨vs, hH, kk _ H β .refl hS ?_⟩⟩
        intro β' H' st2 j e s
        have hH' := e.frzs _ _ _ hH
        have hkeys := hR.keys
        refine ⟨fun h => ⟨hH', ?_⟩, fun w h => ?_⟩
        · have h : (kvs.map (·.1))[j]?.map tkW = none := Option.some.inj h
          rw [Option.map_eq_none_iff, List.getElem?_eq_none_iff, hkeys, List.length_map] at h
          exact h
        · have h : (kvs.map (·.1))[j]?.map tkW = some w := Option.some.inj h
          rw [hkeys] at h
          obtain ⟨kk', h1, rfl⟩ := Option.map_eq_some_iff.mp h
          have hj : j < vs.length := by
            have := (List.getElem?_eq_some_iff.mp h1).1
            simpa using this
          refine ⟨⟨hH', hj⟩, fun y H2 yy => ?_⟩
          obtain ⟨rfl, k1, v1, q1, e1, rfl, e2⟩ := yy
          rw [List.getElem?_map, e1] at h1
          cases h1
          exact ⟨.refl, s, .tup (.inl e2) (keysToW_rws _)⟩
    · cases hm
  · cases hm
end
end B

set_option Elab.async false
set_option linter.all false
set_option maxRecDepth 100000
set_option maxHeartbeats 2000000
namespace B
open PySem PySem.Spec L2 RZ PyProof.Rows
set_option autoImplicit false
/-! ### one of two rules, by the worths -/
theorem PEor {X : Cx} {e : Expr} {t t' : TE} (h : PE X e t) (h' : PE X e t') : PE X e (fun σ H Q => t σ H Q ∨ t' σ H Q) := ⟨fun pins s σ H Q I q => q.elim (h.run pins s σ H Q I) (h'.run pins s σ H Q I)⟩
theorem PTor {X : Cx} {e : Expr} {t t' : TT} (h : PT X e t) (h' : PT X e t') : PT X e (fun σ H Q => t σ H Q ∨ t' σ H Q) := ⟨fun pins s σ H Q I q => q.elim (h.run pins s σ H Q I) (h'.run pins s σ H Q I)⟩
theorem PSor {X : Cx} {e : Stmt} {t t' : TS} (h : PS X e t) (h' : PS X e t') : PS X e (fun σ H Q => t σ H Q ∨ t' σ H Q) := ⟨fun pins s σ H Q I q => q.elim (h.run pins s σ H Q I) (h'.run pins s σ H Q I)⟩
@[simp] def fOr (f g : W → W → M W) : W → W → M W := fun x y st => match f x y st with
  | some r => some r
  | none => g x y st
@[simp] def fOr1 (f g : W → M W) : W → M W := fun x st => match f x st with
  | some r => some r
  | none => g x st
@[simp] def fOrN (f g : List W → M W) : List W → M W := fun x st => match f x st with
  | some r => some r
  | none => g x st
def sAlt (m n : SM) : SM := fun env st => match m env st with
  | some r => some r
  | none => n env st
section
variable {X : Cx}
theorem op_or_run {f g : W → W → M W} {a b : EM} {env : En} {st : Sto} {r : W × Sto} (h : eOp (fOr f g) a b env st = some r) : eOp f a b env st = some r ∨ eOp g a b env st = some r := by
  obtain ⟨x, st1, h1, h2⟩ := bnd_some h
  obtain ⟨y, st2, h3, h4⟩ := bnd_some h2
  unfold fOr at h4
  split at h4
  · rename_i r' e
    cases h4
    left
    unfold eOp
    rw [bnd_of h1, bnd_of h3]; exact e
  · right
    unfold eOp
    rw [bnd_of h1, bnd_of h3]; exact h4
theorem se_or2 {e : Expr} {f g : W → W → M W} {a b : EM} (h : SE X e (eOp f a b)) (h' : SE X e (eOp g a b)) : SE X e (eOp (fOr f g) a b) :=
  ⟨PEimp (PEor h.pe h'.pe) fun σ H Q ⟨β, st, env, w, st', hE, hS, hm, k⟩ => (op_or_run hm).imp (fun hm => ⟨β, st, env, w, st', hE, hS, hm, k⟩) fun hm => ⟨β, st, env, w, st', hE, hS, hm, k⟩⟩
theorem st_or2 {e : Expr} {f g : W → W → M W} {a b : EM} (h : ST X e (tBl (eOp f a b))) (h' : ST X e (tBl (eOp g a b))) : ST X e (tBl (eOp (fOr f g) a b)) := by
  refine ⟨PTimp (PTor h.pt h'.pt) fun σ H Q ⟨β, st, env, w, st', hE, hS, hm, k⟩ => ?_⟩
  obtain ⟨x, st1, h1, h2⟩ := bnd_some hm
  refine (op_or_run h1).imp (fun h1 => ⟨β, st, env, w, st', hE, hS, ?_, k⟩) fun h1 => ⟨β, st, env, w, st', hE, hS, ?_, k⟩
  · unfold tBl; rw [bnd_of h1]; exact h2
  · unfold tBl; rw [bnd_of h1]; exact h2
theorem se_or1 {e : Expr} {f g : W → M W} {a : EM} (h : SE X e (eUn f a)) (h' : SE X e (eUn g a)) : SE X e (eUn (fOr1 f g) a) := by
  refine ⟨PEimp (PEor h.pe h'.pe) fun σ H Q ⟨β, st, env, w, st', hE, hS, hm, k⟩ => ?_⟩
  obtain ⟨x, st1, h1, h2⟩ := bnd_some hm
  unfold fOr1 at h2
  split at h2
  · rename_i r e
    cases h2
    exact .inl ⟨β, st, env, w, st', hE, hS, by unfold eUn; rw [bnd_of h1]; exact e, k⟩
  · exact .inr ⟨β, st, env, w, st', hE, hS, by unfold eUn; rw [bnd_of h1]; exact h2, k⟩
theorem se_orN {e : Expr} {f g : List W → M W} {a : AM} (h : SE X e (eCall f a)) (h' : SE X e (eCall g a)) : SE X e (eCall (fOrN f g) a) := by
  refine ⟨PEimp (PEor h.pe h'.pe) fun σ H Q ⟨β, st, env, w, st', hE, hS, hm, k⟩ => ?_⟩
  obtain ⟨x, st1, h1, h2⟩ := bnd_some hm
  unfold fOrN at h2
  split at h2
  · rename_i r e
    cases h2
    exact .inl ⟨β, st, env, w, st', hE, hS, by unfold eCall; rw [bnd_of h1]; exact e, k⟩
  · exact .inr ⟨β, st, env, w, st', hE, hS, by unfold eCall; rw [bnd_of h1]; exact h2, k⟩
theorem ss_alt {s : Stmt} {m n : SM} (h : SS X s m) (h' : SS X s n) : SS X s (sAlt m n) := by
  refine ⟨PSimp (PSor h.ps h'.ps) fun σ H Q ⟨β, st, env, w, env', st', hE, hS, hm, k⟩ => ?_⟩
  unfold sAlt at hm
  split at hm
  · rename_i r e
    cases hm
    exact .inl ⟨β, st, env, w, env', st', hE, hS, e, k⟩
  · exact .inr ⟨β, st, env, w, env', st', hE, hS, hm, k⟩
/-! ### o[i], i in o, o[i] = e by what o is -/
theorem se_ixA {o i : Expr} {mo mi : EM} {pos : Pos} (hu : X.A.units + 1 < cLine) (ho : SE X o mo) (hi : SE X i mi) (hs : PlainIx i := by exact fun _ _ => rfl) (hs' : NoSl i := by exact fun _ _ => rfl) :
    SE X (.Subscript o i pos) (eOp (fOr fIx (fOr fDGet fTGet)) mo mi) := se_or2 (se_ix ho hi hs) (se_or2 (se_dget hu ho hi hs') (se_tget hu ho hi hs'))
/-! ### list(d), sorted(d) -/
@[simp] def bListD : List W → M W := fun xs st => match xs with
  | [x] => match dctOf x st with
    | some (_, kvs) => some (.ref st.length, st ++ [.lst (kvs.map fun kv => keyToW kv.1)])
    | none => match dtrOf x st with
      | some (_, kvs) => some (.ref st.length, st ++ [.lst (kvs.map fun kv => tkW kv.1)])
      | none => none
  | _ => none
def rListDA : List V → Hp → VK → Prop := fun xs H Q => (∃ (a : Addr) (kvs : List (Key × V)), xs = [.ref a] ∧ Rd H a (.dK kvs) ∧ ∀ p, H p = none → Q (.ref p) (upd H p (.lst (kvs.map fun kv => kV kv.1)))) ∨
  (∃ d kvs, xs = [V.ref d] ∧ Rd H d (.dT kvs) ∧ ∀ p bs, H p = none → IsKeys H kvs bs → Q (.ref p) (upd H p (.lst (bs.map V.ref))))
theorem cr_listDA (hc : X.calm = true) : CallR X (.type "list") rListDA := by
  intro pins s σ H xs us Q I r h
  rcases h with h | h
  · exact call_listD hc pins s σ H xs us Q I r h
  · exact call_list_dT hc pins s σ H xs us Q I r h
theorem keysV_rws {K : PySem.W.Frag} {β : List Addr} {H : Hp} : ∀ {ks : List (Key × W)} {vs : List (Key × V)}, RKs K β H ks vs → RWs K β H (ks.map fun kv => keyToW kv.1) (vs.map fun kv => kV kv.1)
  | _, _, .nil => .nil
  | _, _, .cons r t => .cons (keyToW_rw _) (keysV_rws t)
theorem keysT_rws {K : PySem.W.Frag} {β : List Addr} {H : Hp} : ∀ {ks : List (List Key × W)} {vs : List (List Key × V)} {bs : List Addr}, RKs K β H ks vs → IsKeys H vs bs → RWs K β H (ks.map fun kv => tkW kv.1) (bs.map V.ref)
  | _, _, _, .nil, .nil => .nil
  | _, _, _, .cons r t, .cons h p => .cons (.tup (.inl h) (keysToW_rws _)) (keysT_rws t p)
theorem ref_listD {K : PySem.W.Frag} : RefN K bListD rListDA := by
  intro β H st st' xs w vs Q hS r hm k
  unfold bListD at hm
  split at hm
  · rename_i x
    obtain ⟨v, rfl, rv⟩ := rws1 r
    split at hm
    · rename_i i kvs hd
      cases hm
      obtain ⟨a, us, rfl, hb, hi, e, R⟩ := dct_ok hS rv hd
      refine .inl ⟨a, us, rfl, .inl e, fun p hf => ?_⟩
      have ex : Ext β H (β ++ [p]) (upd H p (.lst (us.map fun kv => kV kv.1))) := Ext.alloc hf
      exact k _ _ _ ex (hS.alloc hf ⟨_, upd_same, (keysV_rws R).ext ex⟩) (.ref (alloc_ix hS))
    · split at hm
      · rename_i i kvs hd
        cases hm
        obtain ⟨a, us, rfl, e, R⟩ := dtr_ok hS rv hd
        refine .inr ⟨a, us, rfl, e, fun p bs hf hk => ?_⟩
        have ex : Ext β H (β ++ [p]) (upd H p (.lst (bs.map V.ref))) := Ext.alloc hf
        exact k _ _ _ ex (hS.alloc hf ⟨_, upd_same, (keysT_rws R hk).ext ex⟩) (.ref (alloc_ix hS))
      · cases hm
  · cases hm
def intKeys : List (Key × W) → Option (List Int)
  | [] => some []
  | (.inl i, _) :: r => (intKeys r).map (i :: ·)
  | _ => none
theorem intKeys_ok {K : PySem.W.Frag} {β : List Addr} {H : Hp} : ∀ {ks : List (Key × W)} {vs : List (Key × V)} {is : List Int}, RKs K β H ks vs → intKeys ks = some is → vs.map (·.1) = is.map Sum.inl
  | _, _, _, .nil, h => by cases h; rfl
  | _, _, _, .cons (k := k) r t, h => by
    cases k with
    | inl i =>
      obtain ⟨js, h1, h2⟩ := Option.map_eq_some_iff.mp (show (intKeys _).map (i :: ·) = some _ from h)
      subst h2
      simp [intKeys_ok t h1]
    | inr x => cases h
@[simp] def bSortD : List W → M W := fun xs st => match xs with
  | [x] => match dctOf x st with
    | some (_, kvs) => match intKeys kvs with
      | some is => if Nat.blt is.length 64 = true then some (.ref st.length, st ++ [.lst ((is.mergeSort fun a b => decide (a ≤ b)).map W.int)]) else none
      | none => none
    | none => none
  | _ => none
def rSortD : List V → Hp → VK → Prop := fun xs H Q => ∃ (a : Addr) (kvs : List (Key × V)) (ks : List Int), xs = [.ref a] ∧ Rd H a (.dK kvs) ∧ kvs.map (·.1) = ks.map Sum.inl ∧ ks.length < 64 ∧
    ∀ (ys : List Int) (p : Addr), ys.Perm ks → ys.Pairwise (· ≤ ·) → H p = none → Q (.ref p) (upd H p (.lst (ys.map V.int)))
theorem sorted_is {ys is : List Int} (hp : ys.Perm is) (hs : ys.Pairwise (· ≤ ·)) : ys = is.mergeSort fun a b => decide (a ≤ b) := by
  refine List.Perm.eq_of_pairwise (le := (· ≤ ·)) (fun a b _ _ h1 h2 => Int.le_antisymm h1 h2) hs ?_ (hp.trans (List.mergeSort_perm _ _).symm)
  have := List.pairwise_mergeSort (le := fun a b : Int => decide (a ≤ b)) (fun a b c h1 h2 => by simp at *; omega) (fun a b => by simp; omega) is
  exact this.imp fun h => by simpa using h
theorem ref_sortD {K : PySem.W.Frag} : RefN K bSortD rSortD := by
  intro β H st st' xs w vs Q hS r hm k
  unfold bSortD at hm
  split at hm
  · rename_i x
    obtain ⟨v, rfl, rv⟩ := rws1 r
    split at hm
    · rename_i i kvs hd
      split at hm
      · rename_i is hk
        split at hm
        · rename_i hz
          cases hm
          obtain ⟨a, us, rfl, hb, hi, e, R⟩ := dct_ok hS rv hd
          have hz : is.length < 64 := Nat.lt_of_lt_of_le (Nat.lt_of_succ_le (Nat.le_of_ble_eq_true hz)) (Nat.le_refl _)
          refine ⟨a, us, is, rfl, .inl e, intKeys_ok R hk, hz, fun ys p hp hs hf => ?_⟩
          rw [sorted_is hp hs]
          have ex : Ext β H (β ++ [p]) (upd H p (.lst ((is.mergeSort fun a b => decide (a ≤ b)).map V.int))) := Ext.alloc hf
          exact k _ _ _ ex (hS.alloc hf ⟨_, upd_same, (rws_ints _).ext ex⟩) (.ref (alloc_ix hS))
        · cases hm
      · cases hm
    · cases hm
  · cases hm
/-! ### zip of two lists, of two tuples -/
def srcZipL (a b : W) : Src := fun j st => match listOf a st, listOf b st with
  | some xs, some ys => (match xs[j]?, ys[j]? with
    | some x, some y => some (some (.tup [x, y]))
    | _, _ => some none)
  | _, _ => none
def iZipB (a : AM) : IM := fun env => bnd (a env) fun ws st => match ws with
  | [.tup xs, .tup ys] => some (srcZipT xs ys, st)
  | [x, y] => match listOf x st, listOf y st with
    | some _, some _ => some (srcZipL x y, st)
    | _, _ => none
  | _ => none
theorem rsrc_zipL {β : List Addr} {H : Hp} {a b : Addr} {x y : W} (r : RW X.K β H x (.ref a)) (r2 : RW X.K β H y (.ref b)) : RSrc X.K β H (Itz X.K a b) (srcZipL x y) := by
  intro β' H' st' j e s
  unfold srcZipL
  split
  · rename_i xs ys hx hy
    obtain ⟨a', vs, ea, hq, r⟩ := list_ok s (r.ext' e) hx
    cases ea
    obtain ⟨b', us, eb, hp, r2⟩ := list_ok s (r2.ext' e) hy
    cases eb
    have hl := r.length
    have hl2 := r2.length
    split
    · rename_i x y hx hy
      refine ⟨fun h => (by cases h), fun w h => ?_⟩
      cases h
      obtain ⟨v, hv, rv⟩ := r.get hx
      obtain ⟨u, hu, ru⟩ := r2.get hy
      refine ⟨⟨vs, us, v, u, hq, hp, hv, hu⟩, fun z H2 yy => ?_⟩
      obtain ⟨T, x', y', rfl, hT, rfl, hx', hy'⟩ := yy
      have h1 := hx' vs hq
      have h2 := hy' us hp
      rw [hv] at h1; cases h1
      rw [hu] at h2; cases h2
      have en : Ext β' H' β' (upd H' T (.tup [v, u])) := Ext.new hT
      exact ⟨en, s.new hT, .tup (.inl upd_same) (.cons (rv.ext' en) (.cons (ru.ext' en) .nil))⟩
    · rename_i h
      refine ⟨fun _ => ⟨vs, us, hq, hp, ?_⟩, fun w h => (by cases h)⟩
      cases hx : xs[j]? with
      | none => exact .inl (by rw [← hl]; exact List.getElem?_eq_none_iff.mp hx)
      | some x =>
        cases hy : ys[j]? with
        | none => exact .inr (by rw [← hl2]; exact List.getElem?_eq_none_iff.mp hy)
        | some y => exact absurd hy (h x y hx)
  · refine ⟨fun h => (by cases h), fun w h => (by cases h)⟩
theorem si_zipB {elts : List Expr} {kk : Nat} {tpos : Pos} {e e2 : Expr} {m : AM} {p pos : Pos} (hg : Gl X "zip") (hm : X.mg "zip" = none) (ha : SA X [e, e2] m)
    (hs : starEach [e, e2] X.env = (false, eval e X.env) :: starEach [e2] X.env := by rfl) (hpl : (backTo pos (starEach [e2] X.env)).any (·.1) = false := by rfl) : SI X (.Tuple elts kk tpos) (.Call (.Name "zip" p) [e, e2] [] pos) (iZipB m) := by
  refine ⟨PIimp (pi_zipA hg hm ha.pa hs hpl) ?_⟩
  rintro σ H R ⟨β, st, env, src, st', hE, hS, hm, k⟩
  obtain ⟨ws, st1, h1, h2⟩ := bnd_some hm
  refine ⟨β, st, env, ws, st1, hE, hS, h1, fun vs H1 β1 e1 s1 r1 => ?_⟩
  split at h2
  · rename_i xs ys
    cases h2
    obtain ⟨v, u, rfl, r, r2⟩ := rws2 r1
    cases r with
    | @tup a _ vs hq r =>
      cases r2 with
      | @tup b _ us hp r2 => exact ⟨a, b, vs, us, rfl, .inr ⟨hq.sq, hp.sq, k _ H1 β1 e1 s1 (rsrc_zip hq.sq hp.sq r r2)⟩⟩
  · rename_i x y _
    split at h2
    · rename_i xs ys hx hy
      cases h2
      obtain ⟨v, u, rfl, r, r2⟩ := rws2 r1
      obtain ⟨a, vs, rfl, hq, rx⟩ := list_ok s1 r hx
      obtain ⟨b, us, rfl, hp, ry⟩ := list_ok s1 r2 hy
      exact ⟨a, b, vs, us, rfl, .inl ⟨hq, hp, k _ H1 β1 e1 s1 (rsrc_zipL r r2)⟩⟩
    · cases h2
  · cases h2
end
end B

set_option Elab.async false
set_option linter.all false
set_option maxRecDepth 100000
namespace B
open PySem PySem.Spec L2
set_option autoImplicit false
@[simp] def sPar3 (i j l : Nat) (a : AM) : SM := fun env => bnd (a env) fun ws => match ws with
  | [u, v, w] => ret (.nx, ((env.set i (some u)).set j (some v)).set l (some w))
  | _ => fail
theorem rws3 {K : PySem.W.Frag} {β : List Addr} {H : Hp} {x y z : W} {vs : List V} (r : RWs K β H [x, y, z] vs) : ∃ u v w, vs = [u, v, w] ∧ RW K β H x u ∧ RW K β H y v ∧ RW K β H z w := by
  cases r with | cons a t => cases t with | cons b t => cases t with | cons c t => cases t; exact ⟨_, _, _, rfl, a, b, c⟩
theorem ss_par3 {X : Cx} {i j l : Nat} {x y z : Str} {a b c : Expr} {m : AM} {px py pz pt pos : Pos} {kt k2 : Nat} {pt2 : Pos} (hN : X.N.Nodup) (hc : X.calm = true) (hij : i ≠ j) (hil : i ≠ l) (hjl : j ≠ l) (ha : SA X [a, b, c] m)
    (hi : X.N[i]? = some x := by rfl) (hj : X.N[j]? = some y := by rfl) (hl : X.N[l]? = some z := by rfl)
    (hx : X.env.scope.names.lookup x = some .local := by rfl) (hy : X.env.scope.names.lookup y = some .local := by rfl) (hz : X.env.scope.names.lookup z = some .local := by rfl)
    (hw : swappedStores [.Tuple [.Name x px, .Name y py, .Name z pz] kt pt] (.Tuple [a, b, c] k2 pt2) X.env = pure (some [x, y, z]) := by rfl)
    (hs : swapsWithSole [.Tuple [.Name x px, .Name y py, .Name z pz] kt pt] (.Tuple [a, b, c] k2 pt2) pos.line X.env = pure false := by rfl) :
    SS X (.Assign [.Tuple [.Name x px, .Name y py, .Name z pz] kt pt] (.Tuple [a, b, c] k2 pt2) pos) (sPar3 i j l m) := by
  refine ⟨PSimp (ps_par3 hc hN hi hj hl hij hil hjl hx hy hz ha.pa hw hs) ?_⟩
  rintro D σ H ⟨β, st, env, fl, env', st', hE, hS, hm, k⟩
  obtain ⟨ws, st1, h1, h2⟩ := bnd_some hm
  refine ⟨β, st, env, ws, st1, hE, hS, h1, fun vs H1 β1 e1 s1 r1 => ?_⟩
  split at h2
  · cases h2
    obtain ⟨u, v, w, rfl, ra, rb, rc⟩ := rws3 r1
    exact ⟨u, v, w, rfl, k _ H1 β1 e1 s1 ((((hE.ext e1).set ra i).set rb j).set rc l)⟩
  · cases h2
/-- the def with number j of a class -/
def inCls (s : Stmt) (j : Nat) : Stmt := match s with
  | .ClassDef _ _ _ b _ _ _ _ _ _ _ => b.getD j (.Pass ⟨0, 0, 0, 0⟩)
  | _ => .Pass ⟨0, 0, 0, 0⟩
end B
namespace B
open PySem PySem.Spec L2
theorem disp_nil {C : Str → (List W → M W) → Prop} : ∀ y F, List.lookup y ([] : List (Str × (List W → M W))) = some F → C y F := by intro y F h; cases h
theorem disp_cons {C : Str → (List W → M W) → Prop} {x : Str} {F0 : List W → M W} {r : List (Str × (List W → M W))} (h : C x F0) (t : ∀ y F, r.lookup y = some F → C y F) : ∀ y F, List.lookup y ((x, F0) :: r) = some F → C y F := by
  intro y F hl
  rw [List.lookup_cons] at hl
  cases e : (y == x) with
  | true => rw [e] at hl; cases hl; rw [beq_iff_eq.mp e]; exact h
  | false => rw [e] at hl; exact t y F hl
theorem MkOk.mono {P : Program} {w : World} {K : PySem.W.Frag} {mg : Str → Option Value} {base : Heap} {c : Str} {k j n : Nat} {F : List W → M W} (m : MkOk P w K mg base c k n F) (h : k ≤ j) : MkOk P w K mg base c j n F := by
  obtain ⟨C, f, fd, ps, a, b, d, e, g, G⟩ := m.ok
  exact ⟨C, f, fd, ps, a, b, d, e, g, G.mono h⟩
end B
namespace B
open PySem PySem.Spec L2
theorem pa_starS {X : Cx} {e : Expr} {es : List Expr} {p : Pos} {m : EM} {r : AM} (ha : SE X e m) (hr : SA X es r) (hs : starEach (.Starred e p :: es) X.env = (true, eval e X.env) :: starEach es X.env := by rfl) : PA X (.Starred e p :: es) (tMA X.K (aStar m r)) := (sa_star ha hr.pa hs).pa
end B
namespace B
open PySem PySem.Spec L2
theorem fld1 {K : PySem.W.Frag} {c f : Str} {C : Addr} (v : PySem.W.nsIn K mainGlobals c = some (some (.ref C))) (cl : Cls K C) (na : PySem.W.findIn K (.ref C) f = some none) : ∀ d ∈ [c], FldOk K d f := fun d hd => by
  have e : d = c := by simpa using hd
  subst e
  exact ⟨_, v, cl, na⟩
end B
namespace B
open PySem PySem.Spec L2
theorem TabK.of {K : PySem.W.Frag} {w : World} {a : Addr} {tab : List (Str × W)} {es : Array DictEntry} {n : Nat} (low : (a == sysModules) = false) (l : K.lookup a = some ⟨.type "dict", none, .dict es n, #[]⟩) (k : PySem.W.KeysLit w.params es.toList) (t : TabEs K es.toList tab) : TabK K w a tab := ⟨low, es, n, l, k, t⟩
end B

set_option Elab.async false
set_option linter.all false
set_option maxRecDepth 100000
set_option maxHeartbeats 1000000
namespace B
open PySem PySem.Spec L2
set_option autoImplicit false
/-! ### o.f += e -/
def sFldA (c0 f : Str) (g : W → W → M W) (o e : EM) : SM := fun env => bnd (o env) fun x => bnd (fFld [c0] f x) fun v => bnd (e env) fun y => bnd (g v y) fun z => fun st => match x with
  | .ref i => match st[i]? with
    | some (.ins c fs) => if (c == c0 && Nat.blt fs.length 1000) = true then some ((.nx, env), st.set i (.ins c (putFW f z fs))) else none
    | _ => none
  | _ => none
section
variable {X : Cx}
theorem ss_fldA {op : Operator} {o e : Expr} {mo me : EM} {c0 f : Str} {pos tpos : Pos} {g : W → W → M W} {rd : V → V → Hp → VK → Prop} (ho : SE X o mo) (he : SE X e me) (hop : InOp X op rd) (hg : Ref2 X.K g rd) (hc : FldOk X.K c0 f) :
    SS X (.AugAssign (.Attribute o f tpos) op e pos) (sFldA c0 f g mo me) := by
  refine ⟨PSimp (ps_fldaug ho.pe he.pe hop) ?_⟩
  rintro D σ H ⟨β, st, env, fl, env', st', hE, hS, hm, k⟩
  obtain ⟨x, st1, h1, h2⟩ := bnd_some hm
  obtain ⟨v, st2, h3, h4⟩ := bnd_some h2
  obtain ⟨y, st3, h5, h6⟩ := bnd_some h4
  obtain ⟨z, st4, h7, h8⟩ := bnd_some h6
  refine ⟨β, st, env, x, st1, hE, hS, h1, fun vx H1 β1 e1 s1 r1 => ?_⟩
  cases r1 with
  | @ref i a ha =>
    unfold fFld at h3
    simp only at h3
    split at h3
    · rename_i c fs hi
      split at h3
      · rename_i hcs
        split at h3
        · rename_i w hl
          cases h3
          obtain ⟨A, dx, vs, hns, ea, r⟩ := rs_ins s1 ha hi
          have hcc : c = c0 := by simpa using hcs
          subst hcc
          obtain ⟨C, hC, cl, na⟩ := hc
          rw [hns] at hC
          cases hC
          obtain ⟨u, hu, ru⟩ := r.look f hl
          refine ⟨a, _, dx, vs, u, rfl, ea, cl, na, hu, β1, st1, env, y, st3, hE.ext e1, s1, h5, fun vy H2 β2 e2 s2 r2 => ?_⟩
          refine hg β2 H2 st3 st4 v y z u vy _ s2 (ru.ext' e2) r2 h7 fun vz H3 β3 e3 s3 r3 => ?_
          simp only at h8
          split at h8
          · rename_i c' fs' hi'
            split at h8
            · rename_i hcs'
              rw [Bool.and_eq_true] at hcs'
              cases h8
              obtain ⟨A', dx', vs', hns', ea', r'⟩ := rs_ins s3 (e3.ix (e2.ix ha)) hi'
              have hcc : c' = c := by simpa using hcs'.1
              subst hcc
              rw [hns] at hns'
              cases hns'
              have hlen : vs'.length < 1000 := by rw [← r'.len]; exact Nat.blt_eq.mp hcs'.2
              refine ⟨dx', vs', ea', hlen, ?_⟩
              have ec : Ext β3 H3 β3 (upd H3 a (.ins A dx' (putF f vz vs'))) := Ext.chg ea' (fun _ z => nomatch z) (fun _ _ z => nomatch z)
              obtain ⟨ec', sc⟩ := s3.chg (u := .ins A dx' (putF f vz vs')) (o' := .ins c' (putFW f z fs')) hi' (e3.ix (e2.ix ha)) ⟨A, dx', _, hns, upd_same, (r'.putF r3).ext ec⟩
              exact k σ _ _ (((e1.trans e2).trans e3).trans ec) sc ((((hE.ext e1).ext e2).ext e3).ext ec)
            · cases h8
          · cases h8
        · cases h3
      · cases h3
    · cases h3
  | _ => simp [fFld] at h3
end
theorem fld_nil {K : PySem.W.Frag} {f : Str} : ∀ d ∈ ([] : List Str), FldOk K d f := fun d h => nomatch h
theorem fld_cons {K : PySem.W.Frag} {c f : Str} {C : Addr} {cs : List Str} (v : PySem.W.nsIn K mainGlobals c = some (some (.ref C))) (cl : Cls K C) (na : PySem.W.findIn K (.ref C) f = some none) (t : ∀ d ∈ cs, FldOk K d f) : ∀ d ∈ c :: cs, FldOk K d f := fun d hd => by
  rcases List.mem_cons.mp hd with rfl | hd
  · exact ⟨_, v, cl, na⟩
  · exact t d hd
theorem inop_add {X : Cx} : InOp X .Add (rI0 fun i j => .int (i + j)) := fun pins s σ H x y u v Q I r1 r2 h => iop_add pins s σ H x y u v Q I r1 r2 h
end B

set_option Elab.async false
set_option linter.all false
set_option maxRecDepth 100000
set_option maxHeartbeats 2000000
namespace B
open PySem PySem.Spec L2 PyProof.Rows
set_option autoImplicit false

/-! ### C0.__init__(self), C0 a class of the module without an __init__ of its own -/
theorem meth_cls {prog : Program} {w : World} {A : Around} {K : PySem.W.Frag} {s : Shared} {C : Addr} {nm : Str} {v : Value} {pl : Sem Bool} {Q : Value × List Value → Shared → Prop} {E : Value → Shared → Prop} (hK : K.In s.heap)
    (hr : PySem.W.readsIn K C (.type "type") = true) (e : PySem.W.findCls K (.ref C) (.type "type") nm = some (.val v)) (hh : PySem.W.handedIn v = true) (h : Q (v, []) { s with toks := s.toks + 1 }) :
    wpAny (model prog w) A (getMethod (.ref C) nm pl) Q E s := by
  have hr' := hr
  simp only [PySem.W.readsIn, Bool.and_eq_true, beq_iff_eq] at hr'
  have hty := hr'.1.1.1.2
  unfold getMethod specialOf
  refine wpAny_bind (wpAny_bind ((PySem.W.looks_typeIn hK hty).here ((PySem.W.looks_findIn hK hr'.1.1.2).here ?_)))
  dsimp only
  rw [if_pos PySem.W.canon_tga]
  refine wpAny_bind (wpAny_mono (Q := fun u => Q (u, [])) (E := E) (PySem.W.cls_value hK hr e hh h) (fun _ _ z => wpAny_pure z) fun _ _ z => z)
structure ClsInit (K : PySem.W.Frag) (C : Addr) : Prop where
  rd : PySem.W.readsIn K C (.type "type") = true
  fc : PySem.W.findCls K (.ref C) (.type "type") "__init__" = some (.val (.builtin "ValueError.__init__"))
theorem pe_clsinit {X : Cx} {c : Str} {C : Addr} {e : Expr} {es : List Expr} {ta : TA} {p1 p2 pos : Pos} {pl : Sem Bool} (T : ClsInit X.K C) (hg : Gl X c) (hm : X.mg c = some (.ref C)) (ha : PA X (e :: es) ta)
    (hdb : (c == ("__debug__" : Str)) = false := by decide)
    (hc : eval (.Call (.Attribute (.Name c p1) "__init__" p2) (e :: es) [] pos) X.env = (do
      let o ← eval (.Name c p1) X.env
      standAt p2.atName
      let (f, first) ← holding [o] (getMethod o "__init__" pl)
      callWith pos f first (backTo pos (starEach (e :: es) X.env)) (backToKw pos (keywordEach [] X.env))) := by rfl)
    (he : starEach (e :: es) X.env = (false, eval e X.env) :: starEach es X.env := by rfl) (hpl : (backTo pos (starEach es X.env)).any (·.1) = false := by rfl) :
    PE X (.Call (.Attribute (.Name c p1) "__init__" p2) (e :: es) [] pos) (tVeI X.K ta) := by
  refine ⟨fun pins s σ H Q I h => ?_⟩
  refine PySem.W.methodCall_KW (ld_glob I hg hm ?_ hdb) hc
  refine meth_cls I.kIn T.rd T.fc (by decide +kernel) ?_
  show wpAny _ _ (callWith pos (Value.builtin "ValueError.__init__") [] (backTo pos (starEach (e :: es) X.env)) []) _ _ _
  refine callWith_method1 (thn (ha.run pos pins _ σ H _ (I.tok _) h) fun us s1 hh => ?_) he hpl
  obtain ⟨vs, H1, I1, r1, a, D, ws, rfl, hl, T2, ea, q⟩ := hh
  cases r1 with
  | @cons _ u0 _ ur ra rw' =>
    obtain rfl : u0 = Value.ref a := ra
    have hlen : ur.length ≤ sizeLine := by
      have := Paired.length rw'
      rw [sizeLine_eq]; omega
    exact oinit_ok T2 I1 ea hlen fun s' J => ⟨V.non, H1, J, rfl, q⟩
def spIn0 (C : Addr) : Sp := fun vs H Q _ => ∃ a, vs = [.ref a] ∧ H a = some (exo a C none) ∧ Q .non H
theorem init0_ok {P : Program} {w : World} {K : PySem.W.Frag} {mg : Str → Option Value} {base : Heap} {x qual c0 : Str} {C C0 : Addr} {st : Stmt} {f : Addr} {fd : FuncData} {k : Nat} {p1 p2 p3 p4 pos : Pos} (F : Fun K x qual st f fd) (S : FnScope ["self"] ["self"] (defScope st))
    (oc : OexC K C) (T : ClsInit K C0) (hm : mg c0 = some (.ref C0))
    (hb : defBody st = [.Expr (.Call (.Attribute (.Name c0 p1) "__init__" p2) [.Name "self" p3] [] p4) pos])
    (hg : (defScope st).names.lookup c0 = none ∨ True) (hv1 : Vis (defScope st) "self") (hgl : ∀ (cdv : Value) (A : Around) (outer : List Env) (s : Shared) (H : Hp) (E : XK), Gl (cxOf CX0 P w K mg base ["self"] qual (defScope st) f cdv A outer s H E) c0)
    (d2 : (c0 == ("__debug__" : Str)) = false := by decide)
    (hc : ∀ env : Env, ∃ pl : Sem Bool, eval (.Call (.Attribute (.Name c0 p1) "__init__" p2) [.Name "self" p3] [] p4) env = (do
      let o ← eval (.Name c0 p1) env
      standAt p2.atName
      let (f, first) ← holding [o] (getMethod o "__init__" pl)
      callWith p4 f first (backTo p4 (starEach [.Name "self" p3] env)) (backToKw p4 (keywordEach [] env))) := by exact fun _ => ⟨_, rfl⟩)
    (hs : ∀ env : Env, swapsWith (.Call (.Attribute (.Name c0 p1) "__init__" p2) [.Name "self" p3] [] p4) none pos.line env = pure false := by intro _; rfl) :
    FnOk P w K mg base CX0 (k + 1) f fd ["self"] (spIn0 C) := by
  refine F.ok S (fun vs H Q E h => by obtain ⟨a, rfl, _⟩ := h; rfl) fun cdv A outer s H vs Q E hr h => ?_
  obtain ⟨pl, hpl⟩ := hc (cxOf CX0 P w K mg base ["self"] qual (defScope st) f cdv A outer s H E).env
  refine ⟨_, by rw [hb]; exact pss_cons (ps_expr (pe_clsinit (pl := pl) T (hgl cdv A outer s H E) hm (pa_cons (pe_var (i := 0) rfl hv1 (by decide) (by decide)) pa_nil) d2 hpl) (hs _)) pss_nil, ?_⟩
  obtain ⟨a, rfl, ha, q⟩ := h
  exact ⟨.ref a, rfl, a, C, [], rfl, by decide, oc, ha, q⟩
def spIn (K : PySem.W.Frag) (C : Addr) (fld : Str) : Sp := fun vs H Q _ => ∃ a v, vs = [.ref a, v] ∧ H a = some (exo a C none) ∧ ∀ dx, H dx = none → dx ≠ a → Q .non (L2.upd (L2.upd H dx (exd dx [(fld, v)])) a (exo a C (some dx)))
theorem init_ok {P : Program} {w : World} {K : PySem.W.Frag} {mg : Str → Option Value} {base : Heap} {x qual fld y : Str} {C : Addr} {st : Stmt} {f : Addr} {fd : FuncData} {k : Nat} {p1 p2 p3 pos : Pos} (F : Fun K x qual st f fd) (S : FnScope ["self", y] ["self", y] (defScope st))
    (oc : OexC K C) (hf : PySem.W.findIn K (.ref C) fld = some none)
    (hb : defBody st = [.Assign [.Attribute (.Name "self" p1) fld p2] (.Name y p3) pos])
    (hv1 : Vis (defScope st) "self") (hv2 : Vis (defScope st) y) (d2 : (y == ("__debug__" : Str)) = false := by decide) (c2 : (y == ("__classdict__" : Str)) = false := by decide)
    (hs : ∀ env : Env, swapsWith (.Name y p3) (some (.Attribute (.Name "self" p1) fld p2)) pos.line env = pure false := by intro _; rfl) :
    FnOk P w K mg base CX0 (k + 1) f fd ["self", y] (spIn K C fld) := by
  refine F.ok S (fun vs H Q E h => by obtain ⟨a, v, rfl, _⟩ := h; rfl) fun cdv A outer s H vs Q E hr h => ⟨_, by rw [hb]; exact pss_cons (ps_ost (pe_var (i := 0) rfl hv1 (by decide) (by decide)) (pe_var (i := 1) rfl hv2 d2 c2) (hs _)) pss_nil, ?_⟩
  obtain ⟨a, v, rfl, ha, k⟩ := h
  refine ⟨v, rfl, .ref a, rfl, a, C, rfl, oc, hf, .inl ⟨ha, fun dx h1 h2 => ?_⟩⟩
  exact k dx h1 h2
end B

set_option Elab.async false
set_option linter.all false
set_option maxRecDepth 100000
set_option maxHeartbeats 2000000
namespace B
open PySem PySem.Spec L2 PyProof.Rows
set_option autoImplicit false

/-! ### C(..), C an exception's class with its own __init__: the exception as a worth -/
def tMkV (C : Addr) (sp : Sp) (ta : TA) : TE := fun σ H Q => ta σ H fun vs H1 => vs.length ≤ 1000 ∧ ∀ a, H1 a = none → sp (.ref a :: vs) (upd H1 a (exo a C none)) (fun v H2 => v = .non ∧ Q (.ref a) H2) (fun _ _ _ => False)
theorem exc_made {X : Cx} {pins : List (Addr × Obj)} {σ : L2.St} {H : Hp} {s : Shared} {C fI : Addr} {k : Nat} {fd : FuncData} {ps : List Str} {sp : Sp} {us : List Value} {vs : List V} {Q : VK} (T : OexC X.K C) (iC : PySem.W.findIn X.K (.ref C) "__init__" = some (some (.ref fI))) (tI : PySem.W.typeIn X.K (.ref fI) = some (.type "function"))
    (F1 : FnOk X.prog X.w X.K X.mg X.base CX0 k fI fd ps sp) (hr : Room (k + 1) X.A) (hb : Binds X.K fd ps []) (I : Inv X pins σ H s) (rv : Vals vs us) (hl : vs.length ≤ 1000)
    (q : ∀ a, H a = none → sp (.ref a :: vs) (upd H a (exo a C none)) (fun v H2 => v = .non ∧ Q (.ref a) H2) (fun _ _ _ => False)) : wpAny (model X.prog X.w) X.A (call (.ref C) us) (EP X pins σ Q) X.xe s := by
  obtain ⟨nm, qn, N, bs, bm, sn, sub, ab, col, dd, k0, k1, k2, k3, k5, hC, hbm⟩ := T.cls
  obtain ⟨hp, g, dr, tk, os⟩ := s
  have hle : hp.objs.size ≤ hp.objs.size + 1 := Nat.le_succ _
  have hq := q (hp.objs.size + 1) (I.hok.fresh hle)
  have kk : ∀ b o, hp.get? b = some o → ((hp.push (PySem.W.kdv_tup us)).push (PySem.HandSPX.excO C hp.objs.size)).get? b = some o := fun b o e => Heap.get?_push_of_some _ (Heap.get?_push_of_some _ e)
  have hthere : ((hp.push (PySem.W.kdv_tup us)).push (PySem.HandSPX.excO C hp.objs.size)).get? (hp.objs.size + 1) = some (PySem.HandSPX.excO C hp.objs.size) := by heap_get
  have I2 : Inv X pins σ (upd H (hp.objs.size + 1) (exo (hp.objs.size + 1) C none)) ⟨(hp.push (PySem.W.kdv_tup us)).push (PySem.HandSPX.excO C hp.objs.size), g, dr, tk, os⟩ :=
    I.laid (t' := tk) (a := hp.objs.size + 1) (o := exo (hp.objs.size + 1) C none) (h' := (hp.push (PySem.W.kdv_tup us)).push (PySem.HandSPX.excO C hp.objs.size)) kk hle (exo_ok hthere)
  have r2 : Vals (V.ref (hp.objs.size + 1) :: vs) (Value.ref (hp.objs.size + 1) :: us) := .cons rfl rv
  have hlen : (Value.ref (hp.objs.size + 1) :: us).length = ps.length := by
    have e := r2.length
    rw [F1.len _ _ _ _ hq] at e
    exact e.symm
  have hus : us.length ≤ sizeLine := by
    rw [← Paired.length rv, sizeLine_eq]
    omega
  have hbb := hb _ (Value.ref (hp.objs.size + 1) :: us) I2.kIn (by rw [List.append_nil]; exact hlen)
  rw [List.append_nil] at hbb
  refine wpAny_call (PySem.HandSPX.call_own F.excBase_ValueError (fun Y => PySem.HandSPX.refsVE_contains Y bm hbm) (I.kIn _ _ hC) (PySem.W.looks_findIn I.kIn iC) (fun self => PySem.W.bind_fn I.kIn self tI) hus
    (codeAny_mono (F1.run _ X.stack _ _ ⟨Value.ref (hp.objs.size + 1) :: us, []⟩ _ _ _ (fun _ _ _ => False) (hr.make C us []) (I2.env0.make C us []) hbb r2 hq) fun r s' hq' => ?_))
  cases r with
  | error er => exact hq'.elim
  | ok fl =>
    cases fl with
    | ret u =>
      obtain ⟨v, H2, J, rv2, ev, q2⟩ := I2.after hq'
      subst ev
      exact ⟨rv2, .ref (hp.objs.size + 1), H2, J, rfl, q2⟩
    | next => exact False.elim hq'
    | brk => exact False.elim hq'
    | cont => exact False.elim hq'
end B

set_option Elab.async false
set_option linter.all false
set_option maxRecDepth 100000
set_option maxHeartbeats 2000000
namespace B
open PySem PySem.Spec L2 PyProof.Rows
set_option autoImplicit false
structure ExV (P : Program) (w : World) (K : PySem.W.Frag) (mg : Str → Option Value) (base : Heap) (c : Str) (k : Nat) (ps : List Str) (sp : Addr → Sp) : Prop where
  ok : ∃ C fI fd, OexC K C ∧ PySem.W.findIn K (.ref C) "__init__" = some (some (.ref fI)) ∧ PySem.W.typeIn K (.ref fI) = some (.type "function") ∧ FnOk P w K mg base CX0 k fI fd ps (sp C) ∧ Binds K fd ps [] ∧
    mg c = some (.ref C) ∧ PySem.W.nsIn K mainGlobals c = some (some (.ref C))
section
variable {X : Cx} {c f y : Str} {k : Nat} {p pos : Pos}
theorem se_exc0 (O : ExV X.prog X.w X.K X.mg X.base c k ["self"] spIn0) (hr : Room (k + 1) X.A) (hg : Gl X c) (hdb : (c == ("__debug__" : Str)) = false := by decide) :
    SE X (.Call (.Name c p) [] [] pos) (eC (.exc c "" [])) := by
  obtain ⟨C, fI, fd, oc, fi, ty, G, b, hm, hn⟩ := O.ok
  refine ⟨⟨fun pins s σ H Q I h => ?_⟩⟩
  refine wpAny_Call_Name_kw (ld_glob I hg hm ?_ hdb)
  refine PySem.W.callWith_K0 I.kIn oc.kC (exc_made oc fi ty G hr b I .nil (by simp) fun a ha => ?_)
  obtain ⟨β, st, env, w, st', hE, hS, hmm, kk⟩ := h
  cases hmm
  have ex : Ext β H β (upd H a (exo a C none)) := Ext.new ha
  exact ⟨a, rfl, upd_same, rfl, kk _ _ β ex (hS.new ha) (.exc0 hn upd_same)⟩
@[simp] def fExc (c f : Str) : W → M W := fun w st => some (.exc c f [w], st)
theorem se_exc1 {e : Expr} {m : EM} (O : ExV X.prog X.w X.K X.mg X.base c k ["self", y] fun C => spIn X.K C f) (hr : Room (k + 1) X.A) (hg : Gl X c) (he : SE X e m) (hdb : (c == ("__debug__" : Str)) = false := by decide)
    (hs : starEach [e] X.env = (false, eval e X.env) :: starEach [] X.env := by rfl) (hpl : (backTo pos (starEach [] X.env)).any (·.1) = false := by rfl) :
    SE X (.Call (.Name c p) [e] [] pos) (eUn (fExc c f) m) := by
  obtain ⟨C, fI, fd, oc, fi, ty, G, b, hm, hn⟩ := O.ok
  refine ⟨⟨fun pins s σ H Q I h => ?_⟩⟩
  refine wpAny_Call_Name_kw (ld_glob I hg hm ?_ hdb)
  obtain ⟨β, st, env, w, st', hE, hS, hmm, kk⟩ := h
  obtain ⟨x, st1, h1, h2⟩ := bnd_some hmm
  cases h2
  refine PySem.W.callWith_K (h₀ := X.base) I.ok.mod.kin oc.kC (thn ((pa_cons he.pe pa_nil hs).run pos pins s σ H (fun vs H1 => ∃ v β1, vs = [v] ∧ Ext β H β1 H1 ∧ RS X.K β1 H1 st' ∧ RW X.K β1 H1 x v) I ⟨β, st, env, x, st', hE, hS, h1, fun v H1 β1 e1 s1 r1 => ⟨v, β1, rfl, e1, s1, r1⟩⟩) fun us s1 ⟨vs, H1, I1, r1, q1⟩ => ⟨I1.kIn, ?_⟩) hs hpl
  obtain ⟨v, β1, rfl, e1, s1', rw1⟩ := q1
  refine exc_made oc fi ty G hr b I1 r1 (by simp) fun a ha => ⟨a, v, rfl, upd_same, fun dx hd1 hd2 => ⟨rfl, ?_⟩⟩
  have hdx : H1 dx = none := by rwa [upd_ne hd2] at hd1
  have hE1 : L2.upd (L2.upd (L2.upd H1 a (exo a C none)) dx (exd dx [(f, v)])) a (exo a C (some dx)) = L2.upd (L2.upd H1 dx (exd dx [(f, v)])) a (exo a C (some dx)) := by
    funext z
    by_cases z1 : z = a
    · subst z1; rw [upd_same, upd_same]
    · rw [upd_ne z1, upd_ne z1]
      by_cases z2 : z = dx
      · subst z2; rw [upd_same, upd_same]
      · rw [upd_ne z2, upd_ne z2, upd_ne z1]
  rw [hE1]
  have x1 : Ext β1 H1 β1 (upd H1 dx (exd dx [(f, v)])) := Ext.new hdx
  have ha2 : upd H1 dx (exd dx [(f, v)]) a = none := by rw [upd_ne (Ne.symm hd2)]; exact ha
  have x2 : Ext β1 (upd H1 dx (exd dx [(f, v)])) β1 (upd (upd H1 dx (exd dx [(f, v)])) a (exo a C (some dx))) := Ext.new ha2
  exact kk _ _ β1 ((e1.trans x1).trans x2) ((s1'.new hdx).new ha2) (.exc1 hn upd_same (by rw [upd_ne hd2]; exact upd_same) (rw1.ext' (x1.trans x2)))
end
/-! ### isinstance of such -/
def rIsX (K : PySem.W.Frag) : List V → Hp → VK → Prop := fun xs H Q => ∃ (a C : Addr) (d : Option Addr) (c : V) (cv : Value) (b : Bool), xs = [.ref a, c] ∧ H a = some (exo a C d) ∧ (d = none ∨ ∃ dx fs, d = some dx ∧ H dx = some (exd dx fs)) ∧ ExcC K C ∧
  (∀ u, RelV c u → u = cv) ∧ PySem.W.kitOne K (.ref C) cv = some b ∧ Q (.bl b) H
theorem exo_inst {X : Cx} {pins : List (Addr × Obj)} {σ : L2.St} {H : Hp} {s : Shared} {a C : Addr} {d : Option Addr} (I : Inv X pins σ H s) (ha : H a = some (exo a C d)) (hd : d = none ∨ ∃ dx fs, d = some dx ∧ H dx = some (exd dx fs)) :
    ∃ ox od, PySem.W.InstAt s.heap a ox C od := by
  obtain ⟨t1, ho⟩ := exo_at I.hok ha
  rcases hd with rfl | ⟨dx, fs, rfl, hx⟩
  · exact ⟨_, none, ho, rfl, rfl, trivial⟩
  · obtain ⟨mA, hns, _⟩ := exd_at I.hok hx
    obtain ⟨od, es, ep, h1, _⟩ := hns
    exact ⟨_, some od, ho, rfl, rfl, h1⟩
theorem excC_isSome {K : PySem.W.Frag} {C : Addr} (h : ExcC K C) : (PySem.W.clsIn K C).isSome = true := by
  obtain ⟨cd, hc, _⟩ := PySem.W.any_some h.hd
  rw [hc]; rfl
theorem call_isX {X : Cx} : CallR X (.builtin "isinstance") (rIsX X.K) := by
  intro pins s σ H xs us Q I r h
  obtain ⟨a, C, d, c, cv, b, rfl, ha, hd, T, hcv, e, q⟩ := h
  cases r with
  | cons rx rr =>
    cases rr with
    | cons rt rr =>
      cases rr
      cases rx
      have ec := hcv _ rt
      subst ec
      obtain ⟨ox, od, J⟩ := exo_inst I ha hd
      exact PySem.W.kia_one (PySem.W.kitx_exc (excC_isSome T) T.hg T.hk T.hs T.ha T.hn T.ht T.hm) I.kIn J e (fun z => nomatch z) fun tk => ⟨.bl b, H, I.kept (t' := tk) fun _ _ z => z, rfl, q⟩
/-- all classes of exceptions of the module -/
def ExcCs (K : PySem.W.Frag) (cs : List Str) : Prop := ∀ c ∈ cs, ∀ C, PySem.W.nsIn K mainGlobals c = some (some (.ref C)) → ExcC K C
def IsTab (K : PySem.W.Frag) (cs : List Str) (cv : Value) (isf : Str → Bool) : Prop := ∀ c ∈ cs, ∀ C, PySem.W.nsIn K mainGlobals c = some (some (.ref C)) → PySem.W.kitOne K (.ref C) cv = some (isf c)
def fIsX (cs : List Str) (isf : Str → Bool) : W → M W := fun x st => match x with
  | .exc c _ _ => if cs.contains c = true then some (.bl (isf c), st) else none
  | _ => none
theorem rw_exc {K : PySem.W.Frag} {β : List Addr} {H : Hp} {c f : Str} {ws : List W} {v : V} (r : RW K β H (.exc c f ws) v) : ∃ a C d, v = .ref a ∧ PySem.W.nsIn K mainGlobals c = some (some (.ref C)) ∧ H a = some (exo a C d) ∧ (d = none ∨ ∃ dx fs, d = some dx ∧ H dx = some (exd dx fs)) := by
  cases r with
  | exc0 h1 h2 => exact ⟨_, _, none, rfl, h1, h2, .inl rfl⟩
  | exc1 h1 h2 h3 _ => exact ⟨_, _, _, rfl, h1, h2, .inr ⟨_, _, rfl, h3⟩⟩
theorem se_isX {X : Cx} {e t : Expr} {m : EM} {cs : List Str} {isf : Str → Bool} {tv : V} {cv : Value} {p pos : Pos} (hE : ExcCs X.K cs) (hI : IsTab X.K cs cv isf) (ht : PE X t (tC tv)) (hcv : ∀ u, RelV tv u → u = cv) (hg : Gl X "isinstance") (hm : X.mg "isinstance" = none) (he : SE X e m)
    (he1 : starEach [e, t] X.env = (false, eval e X.env) :: starEach [t] X.env := by rfl) (he2 : starEach [t] X.env = (false, eval t X.env) :: starEach [] X.env := by rfl)
    (hpl : (backTo pos (starEach [t] X.env)).any (·.1) = false := by rfl) :
    SE X (.Call (.Name "isinstance" p) [e, t] [] pos) (eUn (fIsX cs isf) m) := by
  refine ⟨PEimp (pe_callB call_isX hg hm (by decide +kernel) (pa_cons he.pe (pa_cons ht pa_nil he2) he1) (by decide) (by decide) he1 hpl) ?_⟩
  rintro σ H Q ⟨β, st, env, w, st', hE', hS, hmm, k⟩
  obtain ⟨x, st1, h1, h2⟩ := bnd_some hmm
  refine ⟨β, st, env, x, st1, hE', hS, h1, fun v H1 β1 e1 s1 r1 => ?_⟩
  unfold fIsX at h2
  split at h2
  · rename_i c f ws
    split at h2
    · rename_i hcs
      cases h2
      have hc : c ∈ cs := by simpa using hcs
      obtain ⟨a, C, d, rfl, hn, ha, hd⟩ := rw_exc r1
      exact ⟨a, C, d, tv, cv, isf c, rfl, ha, hd, hE c hc C hn, hcv, hI c hc C hn, k _ H1 β1 e1 s1 (.bl _)⟩
    · cases h2
  · cases h2
/-! ### e.f of such -/
@[simp] def fFldX (cs : List Str) (f : Str) : W → M W := fun x st => match x with
  | .exc c g [w] => if (cs.contains c && g == f) = true then some (w, st) else none
  | _ => none
def FldX (K : PySem.W.Frag) (cs : List Str) (f : Str) : Prop := ∀ c ∈ cs, ∀ C, PySem.W.nsIn K mainGlobals c = some (some (.ref C)) → XfC K C ∧ PySem.W.findIn K (.ref C) f = some none
theorem se_fldX {X : Cx} {e : Expr} {m : EM} {f : Str} {pos : Pos} {cs : List Str} (hF : FldX X.K cs f) (he : SE X e m) (hb : attributeBase e f X.env (eval e X.env) = eval e X.env := by rfl) : SE X (.Attribute e f pos) (eUn (fFldX cs f) m) := by
  refine ⟨⟨fun pins s σ H Q I h => ?_⟩⟩
  obtain ⟨β, st, env, w, st', hE', hS, hmm, k⟩ := h
  obtain ⟨x, st1, h1, h2⟩ := bnd_some hmm
  refine attr_of hb (thn (he.pe.run pins s σ H (fun v H1 => ∃ β1, Ext β H β1 H1 ∧ RS X.K β1 H1 st1 ∧ RW X.K β1 H1 x v) I ⟨β, st, env, x, st1, hE', hS, h1, fun v H1 β1 e1 s1 r1 => ⟨β1, e1, s1, r1⟩⟩) fun u s1 hh => ?_)
  obtain ⟨v, H1, I1, rv, β1, e1, s1', r1⟩ := hh
  unfold fFldX at h2
  split at h2
  · rename_i c g w'
    split at h2
    · rename_i hc
      rw [Bool.and_eq_true, beq_iff_eq] at hc
      obtain ⟨hcs, rfl⟩ := hc
      cases h2
      cases r1 with
      | @exc1 _ _ C a dx _ v' hn ha hx rw' =>
        obtain ⟨T, hno⟩ := hF c (by simpa using hcs) C hn
        obtain rfl : u = Value.ref a := rv
        obtain ⟨t1, ho⟩ := exo_at I1.hok ha
        obtain ⟨mA, hns, hr⟩ := exd_at I1.hok hx
        obtain ⟨od, ho2, hl⟩ := lookIn_ns hns
        obtain ⟨u', hu, ru⟩ := RelO.some_of (v := v') (o := mA g) (by have := hr g; simpa [List.lookup] using this)
        exact HandSPX.exc_get I1.kIn (⟨ho, rfl, rfl, ho2⟩ : PySem.W.InstAt s1.heap a _ C (some od)) T.ga T.gg T.exC (PySem.W.findObj_own T.hdC hno rfl (by rw [hl, hu])) (handed_of ru) ⟨v', H1, I1.tok _, ru, k v' H1 β1 e1 s1' rw'⟩
    · cases h2
  · cases h2
end B

set_option Elab.async false
set_option linter.all false
set_option maxRecDepth 100000
set_option maxHeartbeats 2000000
namespace B
open PySem PySem.Spec L2 PyProof.Rows
set_option autoImplicit false

/-! ### isinstance of an exception, two classes -/
theorem call_isX2 {X : Cx} : CallR X (.builtin "isinstance") (fun xs H Q => ∃ (a C tp E1 E2 : Addr) (d : Option Addr) (b1 b2 : Bool), xs = [.ref a, .ref tp] ∧ H tp = some (.tup [.ref E1, .ref E2]) ∧ H a = some (exo a C d) ∧ (d = none ∨ ∃ dx fs, d = some dx ∧ H dx = some (exd dx fs)) ∧ ExcC X.K C ∧
    PySem.W.kitOne X.K (.ref C) (.ref E1) = some b1 ∧ PySem.W.kitOne X.K (.ref C) (.ref E2) = some b2 ∧ Q (.bl (b1 || b2)) H) := by
  intro pins s σ H xs us Q I r h
  obtain ⟨a, C, tp, E1, E2, d, b1, b2, rfl, hT, ha, hd, T, q1, q2, q⟩ := h
  cases r with
  | cons rx rr =>
    cases rr with
    | cons rt rr =>
      cases rr
      cases rx
      cases rt
      obtain ⟨ox, od, J⟩ := exo_inst I ha hd
      obtain ⟨_, its, rv, o, h1, h2, n, h3⟩ := (show ObjOk X.prog X.w H s.heap tp (.tup [.ref E1, .ref E2]) from I.hok tp _ hT)
      have e3 : its = [Value.ref E1, Value.ref E2] := ClsV.all (.cons (.own E1) (.cons (.own E2) .nil)) rv
      subst e3
      obtain ⟨oc, od', dt, sl⟩ := o
      simp only at h2 h3
      subst h2 h3
      have hk : PySem.W.kitAny X.K (.ref C) [.ref E1, .ref E2] = some (b1 || b2) := by
        refine kitAny_cons q1 (fun z => ?_) (fun z => by simp [z])
        refine kitAny_cons q2 (fun y => ?_) (fun y => by simp [y])
        simp [PySem.W.kitAny, z, y]
      exact PySem.W.kia_tup (PySem.W.kitx_exc (excC_isSome T) T.hg T.hk T.hs T.ha T.hn T.ht T.hm) I.kIn J h1 hk (fun z => nomatch z) fun tk => ⟨.bl (b1 || b2), H, I.kept (t' := tk) fun _ _ z => z, rfl, q⟩
theorem se_isX2 {X : Cx} {e : Expr} {m : EM} {cs : List Str} {isf isg : Str → Bool} {n1 n2 : Str} {E1 E2 : Addr} {k : Nat} {p p1 p2 tpos pos : Pos} (hE : ExcCs X.K cs) (hI : IsTab X.K cs (.ref E1) isf) (hJ : IsTab X.K cs (.ref E2) isg) (hg : Gl X "isinstance") (hm : X.mg "isinstance" = none) (g1 : Gl X n1) (m1 : X.mg n1 = some (.ref E1)) (g2 : Gl X n2) (m2 : X.mg n2 = some (.ref E2))
    (he : SE X e m) (b1 : (n1 == ("__debug__" : Str)) = false := by decide) (b2 : (n2 == ("__debug__" : Str)) = false := by decide)
    (hs1 : starEach [e, .Tuple [.Name n1 p1, .Name n2 p2] k tpos] X.env = (false, eval e X.env) :: starEach [.Tuple [.Name n1 p1, .Name n2 p2] k tpos] X.env := by rfl)
    (hs2 : starEach [.Tuple [.Name n1 p1, .Name n2 p2] k tpos] X.env = (false, eval (.Tuple [.Name n1 p1, .Name n2 p2] k tpos) X.env) :: starEach [] X.env := by rfl)
    (hs3 : starEach [.Name n1 p1, .Name n2 p2] X.env = (false, eval (.Name n1 p1) X.env) :: starEach [.Name n2 p2] X.env := by rfl)
    (hs4 : starEach [.Name n2 p2] X.env = (false, eval (.Name n2 p2) X.env) :: starEach [] X.env := by rfl)
    (hpl : (backTo pos (starEach [.Tuple [.Name n1 p1, .Name n2 p2] k tpos] X.env)).any (·.1) = false := by rfl) :
    SE X (.Call (.Name "isinstance" p) [e, .Tuple [.Name n1 p1, .Name n2 p2] k tpos] [] pos) (eUn (fIsX cs fun c => isf c || isg c) m) := by
  have t1 := pe_glob (X := X) (x := n1) (pos := p1) (v := .ref E1) g1 m1 rfl b1
  have t2 := pe_glob (X := X) (x := n2) (pos := p2) (v := .ref E2) g2 m2 rfl b2
  refine ⟨PEimp (pe_callB call_isX2 hg hm PyProof.Rows.boot_isinstance (pa_cons he.pe (pa_cons (pe_tup (pa_cons t1 (pa_cons t2 pa_nil hs4) hs3)) pa_nil hs2) hs1) (by decide) (by decide) hs1 hpl) ?_⟩
  rintro σ H Q ⟨β, st, env, w, st', hE', hS, hmm, kk⟩
  obtain ⟨x, st1, h1, h2⟩ := bnd_some hmm
  refine ⟨β, st, env, x, st1, hE', hS, h1, fun v H1 β1 e1 s1 r1 => ⟨by show 2 ≤ sizeLine; rw [sizeLine_eq]; decide, fun T hT => ?_⟩⟩
  have ex : Ext β1 H1 β1 (upd H1 T (.tup [.ref E1, .ref E2])) := Ext.new hT
  have sx : RS X.K β1 (upd H1 T (.tup [.ref E1, .ref E2])) st1 := s1.new hT
  unfold fIsX at h2
  split at h2
  · rename_i c f ws
    split at h2
    · rename_i hcs
      cases h2
      have hc : c ∈ cs := by simpa using hcs
      obtain ⟨a, C, d, rfl, hn, ha, hd⟩ := rw_exc (r1.ext' ex)
      exact ⟨a, C, T, E1, E2, d, isf c, isg c, rfl, upd_same, ha, hd, hE c hc C hn, hI c hc C hn, hJ c hc C hn, kk _ _ β1 (e1.trans ex) sx (.bl _)⟩
    · cases h2
  · cases h2
/-! ### isinstance of what may be an instance of a class of the module, too -/
structure InsOk (K : PySem.W.Frag) (C : Addr) : Prop where
  cl : Cls K C
  ha : PySem.W.findIn K (.ref C) "__class__" = some (some (.builtin "object.__class__"))
  hn : PySem.W.specialIn K (.builtin "object.__class__") "__get__" = some (some (.builtin "getset_descriptor.__get__"))
  ht : PySem.W.takesIn K (.builtin "object.__class__") = some true
  hm : PySem.W.mroIn K C (.type "object") = some true
def InsTab (K : PySem.W.Frag) (c : Str) (T : String) : Prop := ∃ C, PySem.W.nsIn K mainGlobals c = some (some (.ref C)) ∧ InsOk K C ∧ PySem.W.kitOne K (.ref C) (.type T) = some false
def fIsO (c0 : Str) (T : String) : W → M W := fun x st => match x with
  | .ref i => match st[i]? with
    | some (.ins c _) => if c = c0 then some (.bl false, st) else none
    | _ => bIsi [x, .ext (.ty T)] st
  | _ => bIsi [x, .ext (.ty T)] st
theorem isO_ok {K : PySem.W.Frag} {β : List Addr} {H : Hp} {st st' : Sto} {c0 : Str} {T : String} {x w : W} {v : V} (hT : InsTab K c0 T) (s : RS K β H st) (r : RW K β H x v) (h : fIsO c0 T x st = some (w, st')) : ∃ t b, w = .bl b ∧ st' = st ∧ TyX K H v t ∧ PySem.W.kitOne K t (.type T) = some b := by
  have key : bIsi [x, .ext (.ty T)] st = some (w, st') → ∃ t b, w = .bl b ∧ st' = st ∧ TyX K H v t ∧ PySem.W.kitOne K t (.type T) = some b := by
    intro hm
    unfold bIsi at hm
    simp only at hm
    split at hm
    · rename_i t ht
      split at hm
      · rename_i b hb
        cases hm
        exact ⟨_, b, rfl, rfl, tyW_ok s r ht, kit_ty hb⟩
      · cases hm
    · cases hm
  unfold fIsO at h
  split at h
  · rename_i i
    split at h
    · rename_i c fs hi
      split at h
      · rename_i hc
        cases h
        subst hc
        cases r with
        | ref hb =>
          obtain ⟨A, dx, vs, hns, ea, r⟩ := rs_ins s hb hi
          obtain ⟨C, hC, O, hk⟩ := hT
          rw [hns] at hC
          cases hC
          exact ⟨.ref A, false, rfl, rfl, .base (.ins ea O.cl O.ha O.hn O.ht O.hm), hk⟩
      · cases h
    · exact key h
  · exact key h
theorem se_isO {X : Cx} {e : Expr} {m : EM} {c0 n : Str} {T : String} {p p1 pos : Pos} (hT : InsTab X.K c0 T) (he : SE X e m) (hg : Gl X "isinstance") (hm : X.mg "isinstance" = none) (g : Gl X n) (m1 : X.mg n = none)
    (v1 : bootBuiltins n = some (.type T) := by decide +kernel) (d1 : n ≠ "__name__" := by decide) (b1 : (n == ("__debug__" : Str)) = false := by decide)
    (he1 : starEach [e, .Name n p1] X.env = (false, eval e X.env) :: starEach [.Name n p1] X.env := by rfl) (he2 : starEach [.Name n p1] X.env = (false, eval (.Name n p1) X.env) :: starEach [] X.env := by rfl)
    (hpl : (backTo pos (starEach [.Name n p1] X.env)).any (·.1) = false := by rfl) : SE X (.Call (.Name "isinstance" p) [e, .Name n p1] [] pos) (eUn (fIsO c0 T) m) := by
  have t1 := pe_bltn (X := X) (x := n) (pos := p1) (v := .ty T) g m1 v1 rfl d1 b1
  refine ⟨PEimp (pe_callB call_isi hg hm (by decide +kernel) (pa_cons he.pe (pa_cons t1 pa_nil he2) he1) (by decide) (by decide) he1 hpl) ?_⟩
  rintro σ H Q ⟨β, st, env, w, st', hE', hS, hmm, k⟩
  obtain ⟨x, st1, h1, h2⟩ := bnd_some hmm
  refine ⟨β, st, env, x, st1, hE', hS, h1, fun v H1 β1 e1 s1 r1 => ?_⟩
  obtain ⟨t, b, rfl, rfl, ty, hk⟩ := isO_ok hT s1 r1 h2
  exact ⟨v, .ty T, t, .type T, b, rfl, .ty T, ty, hk, k _ H1 β1 e1 s1 (.bl b)⟩
def fIsO2 (c0 : Str) (A C : String) : W → M W := fun x st => match fIsO c0 A x st, fIsO c0 C x st with
  | some (.bl a, _), some (.bl b, _) => some (.bl (a || b), st)
  | _, _ => none
theorem isO2_ok {K : PySem.W.Frag} {β : List Addr} {H : Hp} {st s1 s2 : Sto} {c0 : Str} {A C : String} {x : W} {a b : Bool} {v : V} (hA : InsTab K c0 A) (hC : InsTab K c0 C) (s : RS K β H st) (r : RW K β H x v) (h1 : fIsO c0 A x st = some (.bl a, s1)) (h2 : fIsO c0 C x st = some (.bl b, s2)) :
    ∃ t, TyX K H v t ∧ PySem.W.kitOne K t (.type A) = some a ∧ PySem.W.kitOne K t (.type C) = some b := by
  have key : bIsi [x, .ext (.ty A)] st = some (.bl a, s1) → bIsi [x, .ext (.ty C)] st = some (.bl b, s2) → ∃ t, TyX K H v t ∧ PySem.W.kitOne K t (.type A) = some a ∧ PySem.W.kitOne K t (.type C) = some b := by
    intro q1 q2
    unfold bIsi at q1 q2
    simp only at q1 q2
    split at q1
    · rename_i t ht
      rw [ht] at q2
      simp only at q2
      split at q1
      · rename_i y hy
        split at q2
        · rename_i z hz
          cases q1
          cases q2
          exact ⟨_, tyW_ok s r ht, kit_ty hy, kit_ty hz⟩
        · cases q2
      · cases q1
    · cases q1
  unfold fIsO at h1 h2
  split at h1
  · rename_i i
    simp only at h2
    split at h1
    · rename_i c fs hi
      rw [hi] at h2
      simp only at h2
      split at h1
      · rename_i hc
        rw [if_pos hc] at h2
        cases h1
        cases h2
        subst hc
        cases r with
        | ref hb =>
          obtain ⟨D, dx, vs, hns, ea, r⟩ := rs_ins s hb hi
          obtain ⟨C1, hC1, O, hk⟩ := hA
          rw [hns] at hC1
          cases hC1
          obtain ⟨C2, hC2, _, hk2⟩ := hC
          rw [hns] at hC2
          cases hC2
          exact ⟨.ref D, .base (.ins ea O.cl O.ha O.hn O.ht O.hm), hk, hk2⟩
      · cases h1
    · rename_i hno
      split at h2
      · rename_i c fs hi
        exact (hno _ _ hi).elim
      · exact key h1 h2
  · rename_i hno
    split at h2
    · exact (hno _ rfl).elim
    · exact key h1 h2
theorem se_isO2 {X : Cx} {e : Expr} {m : EM} {c0 n1 n2 : Str} {A C : String} {k : Nat} {p p1 p2 tpos pos : Pos} (hA : InsTab X.K c0 A) (hC : InsTab X.K c0 C) (he : SE X e m) (hg : Gl X "isinstance") (hm : X.mg "isinstance" = none) (g1 : Gl X n1) (m1 : X.mg n1 = none) (g2 : Gl X n2) (m2 : X.mg n2 = none)
    (v1 : bootBuiltins n1 = some (.type A) := by decide +kernel) (v2 : bootBuiltins n2 = some (.type C) := by decide +kernel) (d1 : n1 ≠ "__name__" := by decide) (d2 : n2 ≠ "__name__" := by decide)
    (b1 : (n1 == ("__debug__" : Str)) = false := by decide) (b2 : (n2 == ("__debug__" : Str)) = false := by decide)
    (hs1 : starEach [e, .Tuple [.Name n1 p1, .Name n2 p2] k tpos] X.env = (false, eval e X.env) :: starEach [.Tuple [.Name n1 p1, .Name n2 p2] k tpos] X.env := by rfl)
    (hs2 : starEach [.Tuple [.Name n1 p1, .Name n2 p2] k tpos] X.env = (false, eval (.Tuple [.Name n1 p1, .Name n2 p2] k tpos) X.env) :: starEach [] X.env := by rfl)
    (hs3 : starEach [.Name n1 p1, .Name n2 p2] X.env = (false, eval (.Name n1 p1) X.env) :: starEach [.Name n2 p2] X.env := by rfl)
    (hs4 : starEach [.Name n2 p2] X.env = (false, eval (.Name n2 p2) X.env) :: starEach [] X.env := by rfl)
    (hpl : (backTo pos (starEach [.Tuple [.Name n1 p1, .Name n2 p2] k tpos] X.env)).any (·.1) = false := by rfl) :
    SE X (.Call (.Name "isinstance" p) [e, .Tuple [.Name n1 p1, .Name n2 p2] k tpos] [] pos) (eUn (fIsO2 c0 A C) m) := by
  have t1 := pe_bltn (X := X) (x := n1) (pos := p1) (v := .ty A) g1 m1 v1 rfl d1 b1
  have t2 := pe_bltn (X := X) (x := n2) (pos := p2) (v := .ty C) g2 m2 v2 rfl d2 b2
  refine ⟨PEimp (pe_callB call_isiT hg hm PyProof.Rows.boot_isinstance (pa_cons he.pe (pa_cons (pe_tup (pa_cons t1 (pa_cons t2 pa_nil hs4) hs3)) pa_nil hs2) hs1) (by decide) (by decide) hs1 hpl) ?_⟩
  rintro σ H Q ⟨β, st, env, w, st', hE', hS, hmm, kk⟩
  obtain ⟨x, st1, h1, h2⟩ := bnd_some hmm
  refine ⟨β, st, env, x, st1, hE', hS, h1, fun v H1 β1 e1 s1 r1 => ⟨by show 2 ≤ sizeLine; rw [sizeLine_eq]; decide, fun T hT => ?_⟩⟩
  have ex : Ext β1 H1 β1 (upd H1 T (.tup [.ty A, .ty C])) := Ext.new hT
  have sx : RS X.K β1 (upd H1 T (.tup [.ty A, .ty C])) st1 := s1.new hT
  unfold fIsO2 at h2
  split at h2
  · rename_i a q1 b q2 e1' e2'
    cases h2
    obtain ⟨t, ty, hk, htu⟩ := isO2_ok hA hC sx (r1.ext' ex) e1' e2'
    refine ⟨v, T, _, _, _, a || b, rfl, upd_same, .cons (.ty A) (.cons (.ty C) .nil), ty, ?_, kk _ _ β1 (e1.trans ex) sx (.bl _)⟩
    refine kitAny_cons hk (fun z => ?_) (fun z => by simp [z])
    refine kitAny_cons htu (fun y => ?_) (fun y => by simp [y])
    simp [PySem.W.kitAny, z, y]
  · cases h2
end B

set_option Elab.async false
set_option linter.all false
set_option maxRecDepth 100000
set_option maxHeartbeats 2000000
namespace B
open PySem PySem.Spec L2 PyProof.Rows
set_option autoImplicit false

/-! ### ==, also of dicts and of instances with their own __eq__ -/
structure EqOk (P : Program) (w : World) (K : PySem.W.Frag) (mg : Str → Option Value) (base : Heap) (c : Str) (k : Nat) (F : List W → M W) : Prop where
  ok : ∃ C f fd ps, PySem.W.nsIn K mainGlobals c = some (some (.ref C)) ∧ PySem.W.findIn K (.ref C) "__eq__" = some (some (.ref f)) ∧ PySem.W.isFn K (.ref f) = true ∧ Binds K fd ps [] ∧ FnOk P w K mg base CX0 k f fd ps (spM K 2 F)
def rEqI (K : PySem.W.Frag) (C : Addr) (sp : Sp) : R2 := fun x y H Q => ∃ a b dx dy fs gs, x = .ref a ∧ y = .ref b ∧ H a = some (.ins C dx fs) ∧ H b = some (.ins C dy gs) ∧ sp [.ref a, .ref b] H (fun v H' => ∃ r, v = .bl r ∧ Q v H') E0
theorem op_eqI {X : Cx} {C f : Addr} {k : Nat} {fd : FuncData} {ps : List Str} {sp : Sp} (F : FnOk X.prog X.w X.K X.mg X.base CX0 k f fd ps sp) (hs : PySem.W.findIn X.K (.ref C) "__eq__" = some (some (.ref f))) (hf : PySem.W.isFn X.K (.ref f) = true) (hb : Binds X.K fd ps []) (hr : Room k X.A) : OpR X (compareOp .Eq) (rEqI X.K C sp) := by
  intro pins s σ H x y v u Q I rx ry h
  obtain ⟨a, b, dx, dy, fs, gs, rfl, rfl, ha, hb', hsp⟩ := h
  cases rx
  cases ry
  show wpAny (model X.prog X.w) X.A (richCompare .Eq (.ref a) (.ref b)) (EP X pins σ Q) X.xe s
  obtain ⟨mA, J, _⟩ := ins_get I.hok ha
  obtain ⟨mB, J', _⟩ := ins_get I.hok hb'
  obtain ⟨od, J, _⟩ := J.look
  obtain ⟨od', J', _⟩ := J'.look
  obtain ⟨m, hF⟩ := I.fr
  refine PySem.W.cmp_K (op := .Eq) (tb := .ref C) hr.units0 hF I.ok.mod.kin J J'.type (by simp [PySem.W.notFirst]) hs hf ?_
  have rv : Vals [V.ref a, V.ref b] [Value.ref a, Value.ref b] := .cons rfl (.cons rfl .nil)
  refine wpAny_mono (run_fn F hr hb .nil (pass0 (X := X)) I rv hsp) (fun u s' hu => ?_) fun _ _ z => z
  obtain ⟨v, H', J, rr, r, rfl, q⟩ := hu
  cases rr
  exact ⟨.bl r, H', J, rfl, q⟩
def fEqP (c0 : Str) (F : List W → M W) : W → W → M W := fun x y st => match x, y with
  | .ref i, .ref j => match st[i]?, st[j]? with
    | some (.ins c _), some (.ins d _) => if c = c0 ∧ d = c0 then (match F [.ref i, .ref j] st with
      | some (.bl b, st') => some (.bl b, st')
      | _ => none) else none
    | some (.dct ks), some (.dct ls) => match eqDW ks ls with
      | some b => some (.bl b, st)
      | none => none
    | _, _ => fEq (.ref i) (.ref j) st
  | _, _ => fEq x y st
def rEqDict (K : PySem.W.Frag) : R2 := fun x y H Q => ∃ a b vs us β ks ls r, x = .ref a ∧ y = .ref b ∧ H a = some (.dK vs) ∧ H b = some (.dK us) ∧ RKs K β H ks vs ∧ RKs K β H ls us ∧ eqDW ks ls = some r ∧ Q (.bl r) H
theorem op_eqDict {X : Cx} (hu : X.A.units + 100 < cLine) : OpR X (compareOp .Eq) (rEqDict X.K) := by
  intro pins s σ H x y v u Q I rx ry h
  obtain ⟨a, b, vs, us, β, ks, ls, r, rfl, rfl, ha, hb, ra, rb, hr, q⟩ := h
  cases rx
  cases ry
  obtain ⟨_, ya, va, ka, da⟩ := dk_of I.hok ha
  obtain ⟨_, yb, vb, kb, db⟩ := dk_of I.hok hb
  unfold eqDW at hr
  split at hr
  · rename_i b0 hb0
    cases hr
    refine PySem.W.keq_eq (knd := mixKind X.prog X.w) (r := b0) ya yb da db (by omega) (fun _ => hits_of I (A := X.A) (by show X.A.units + 1 + 64 < cLine; omega) rb kb ra ka hb0) ⟨.bl (va.length == vb.length && b0), H, I, rfl, ?_⟩
    rw [← ka.length, ← kb.length, ← ra.length, ← rb.length]
    exact q
  · cases hr
def rEqP (K : PySem.W.Frag) (c0 : Str) (F : List W → M W) : R2 := fun x y H Q => rEqD K x y H Q ∨ rEqDict K x y H Q ∨ ∃ C, PySem.W.nsIn K mainGlobals c0 = some (some (.ref C)) ∧ rEqI K C (spM K 2 F) x y H Q
theorem op_eqP {X : Cx} {c0 : Str} {k : Nat} {F : List W → M W} (O : EqOk X.prog X.w X.K X.mg X.base c0 k F) (hr : Room k X.A) : OpR X (compareOp .Eq) (rEqP X.K c0 F) := by
  intro pins s σ H x y v u Q I rx ry h
  rcases h with h | h | ⟨C, hC, h⟩
  · exact op_eqD hr.units pins s σ H x y v u Q I rx ry h
  · exact op_eqDict (hu100 hr) pins s σ H x y v u Q I rx ry h
  · obtain ⟨D, f, fd, ps, hD, h1, h2, h3, h4⟩ := O.ok
    rw [hC] at hD
    cases hD
    exact op_eqI h4 h1 h2 h3 hr pins s σ H x y v u Q I rx ry h
theorem ref_eqP {K : PySem.W.Frag} {c0 : Str} {F : List W → M W} : Ref2 K (fEqP c0 F) (rEqP K c0 F) := by
  intro β H st st' x y w vx vy Q hS rx ry hm k
  unfold fEqP at hm
  split at hm
  · rename_i i j
    split at hm
    · rename_i c fs d gs hi hj
      split at hm
      · rename_i hc
        obtain ⟨rfl, rfl⟩ := hc
        split at hm
        rotate_left
        · cases hm
        rename_i r0 st2 hF
        cases hm
        cases rx with
        | @ref _ a ha =>
          cases ry with
          | @ref _ b hb =>
            obtain ⟨A, dx, vs, hns, ea, _⟩ := rs_ins hS ha hi
            obtain ⟨A2, dy, us, hns2, eb, _⟩ := rs_ins hS hb hj
            rw [hns] at hns2
            cases hns2
            exact .inr (.inr ⟨A, hns, a, b, dx, dy, vs, us, rfl, rfl, ea, eb, rfl, β, st, _, .bl r0, _, .cons (.ref ha) (.cons (.ref hb) .nil), hS, hF, fun v H' β' e1 s1 r1 => ⟨r0, r1.bl_inv, k v H' β' e1 s1 r1⟩⟩)
      · cases hm
    · rename_i ks ls hi hj
      split at hm
      · rename_i b hb
        cases hm
        cases rx with
        | @ref _ a ha =>
          cases ry with
          | @ref _ b2 hb2 =>
            obtain ⟨vs, e1, r1⟩ := rs_dct hS ha hi
            obtain ⟨us, e2, r2⟩ := rs_dct hS hb2 hj
            exact .inr (.inl ⟨a, b2, vs, us, β, ks, ls, b, rfl, rfl, e1, e2, r1, r2, hb, k _ H β .refl hS (.bl _)⟩)
      · cases hm
    · exact .inl (ref_eq β H st st' _ _ w vx vy Q hS rx ry hm k)
  · exact .inl (ref_eq β H st st' _ _ w vx vy Q hS rx ry hm k)
/-! ### {k: e}, k a written int -/
def eDict1 (k : Int) (m : EM) : EM := fun env st => match m env (st ++ [.dct []]) with
  | some (w, st') => match st'[st.length]? with
    | some (.dct []) => some (.ref st.length, st'.set st.length (.dct [(Sum.inl k, w)]))
    | _ => none
  | none => none
theorem se_dict1 {X : Cx} {k : Int} {n : Nat} {e : Expr} {m : EM} {p pos : Pos} (he : SE X e m) : SE X (.Dict [some (.Constant (.int k) n p)] [e] pos) (eDict1 k m) := by
  refine ⟨PEimp (pe_disp (pps_cons (pe_int (i := k)) he.pe pps_nil) rfl rfl (by simp) (by simp)) ?_⟩
  rintro σ H Q ⟨β, st, env, w, st', hE, hS, hm, kk⟩
  intro p hp
  unfold eDict1 at hm
  split at hm
  · rename_i x st1 h1
    split at hm
    · rename_i hi
      cases hm
      have ex : Ext β H (β ++ [p]) (upd H p (.dK [])) := Ext.alloc hp
      have s1 : RS X.K (β ++ [p]) (upd H p (.dK [])) (st ++ [.dct []]) := hS.alloc hp ⟨[], upd_same, .nil⟩
      refine ⟨β ++ [p], _, env, x, st1, hE.ext ex, s1, h1, fun v H2 β2 e2 s2 r2 => ?_⟩
      have hp2 : β2[st.length]? = some p := e2.ix (alloc_ix hS)
      obtain ⟨vs, ed, rd⟩ := rs_dct s2 hp2 hi
      cases rd
      refine ⟨ed, [(Sum.inl k, v)], rfl, by simp, ?_⟩
      have em : mergeK [] [((Sum.inl k : Key), v)] = [(Sum.inl k, v)] := rfl
      rw [em]
      have ec : Ext β2 H2 β2 (upd H2 p (.dK [(Sum.inl k, v)])) := Ext.chg ed (fun _ z => nomatch z) (fun _ _ z => nomatch z)
      obtain ⟨_, sc⟩ := s2.chg (u := .dK [(Sum.inl k, v)]) (o' := .dct [(Sum.inl k, x)]) hi hp2 ⟨_, upd_same, .cons (r2.ext' ec) .nil⟩
      exact kk _ _ β2 ((ex.trans e2).trans ec) sc (.ref hp2)
    · cases hm
  · cases hm
end B

set_option Elab.async false
set_option linter.all false
set_option maxRecDepth 100000
set_option maxHeartbeats 2000000
namespace B
open PySem PySem.Spec L2 PyProof.Rows
set_option autoImplicit false

/-! ### isinstance(e, C), C a class of the module, of its instances -/
def fIsW (c0 : Str) : W → M W := fun x st => match x with
  | .ref i => match st[i]? with
    | some (.ins c _) => if c = c0 then some (.bl true, st) else none
    | _ => none
  | _ => none
def InsC (K : PySem.W.Frag) (mg : Str → Option Value) (c : Str) : Prop := ∃ C, PySem.W.nsIn K mainGlobals c = some (some (.ref C)) ∧ mg c = some (.ref C) ∧ InsOk K C
theorem se_isW {X : Cx} {e : Expr} {m : EM} {c0 : Str} {p p1 pos : Pos} (hT : InsC X.K X.mg c0) (he : SE X e m) (hg : Gl X "isinstance") (hm : X.mg "isinstance" = none) (g : Gl X c0) (b1 : (c0 == ("__debug__" : Str)) = false := by decide)
    (he1 : starEach [e, .Name c0 p1] X.env = (false, eval e X.env) :: starEach [.Name c0 p1] X.env := by rfl) (he2 : starEach [.Name c0 p1] X.env = (false, eval (.Name c0 p1) X.env) :: starEach [] X.env := by rfl)
    (hpl : (backTo pos (starEach [.Name c0 p1] X.env)).any (·.1) = false := by rfl) : SE X (.Call (.Name "isinstance" p) [e, .Name c0 p1] [] pos) (eUn (fIsW c0) m) := by
  obtain ⟨C, hC, hmC, O⟩ := hT
  have t1 := pe_glob (X := X) (x := c0) (pos := p1) (v := .ref C) g hmC rfl b1
  refine ⟨PEimp (pe_callB call_isi hg hm (by decide +kernel) (pa_cons he.pe (pa_cons t1 pa_nil he2) he1) (by decide) (by decide) he1 hpl) ?_⟩
  rintro σ H Q ⟨β, st, env, w, st', hE', hS, hmm, k⟩
  obtain ⟨x, st1, h1, h2⟩ := bnd_some hmm
  refine ⟨β, st, env, x, st1, hE', hS, h1, fun v H1 β1 e1 s1 r1 => ?_⟩
  unfold fIsW at h2
  split at h2
  · rename_i i
    split at h2
    · rename_i c fs hi
      split at h2
      · rename_i hc
        cases h2
        subst hc
        cases r1 with
        | ref hb =>
          obtain ⟨A, dx, vs, hns, ea, _⟩ := rs_ins s1 hb hi
          rw [hC] at hns
          cases hns
          exact ⟨_, .ref C, .ref C, .ref C, true, rfl, .own C, .base (.ins ea O.cl O.ha O.hn O.ht O.hm), by unfold PySem.W.kitOne; simp, k _ H1 β1 e1 s1 (.bl true)⟩
      · cases h2
    · cases h2
  · cases h2
/-! ### what is to be known of an exception's class -/
structure EF (K : PySem.W.Frag) (W0 : Addr) (c : Str) (C : Addr) : Prop where
  ns : PySem.W.nsIn K mainGlobals c = some (some (.ref C))
  lk : ∃ nm q N bs sn sub ab col dd k0 k1 k2 k3 k5, K.lookup C = some (excClassObj nm q C N bs (.ref W0 :: PySem.HandSPX.veTail) true sn sub ab col dd k0 k1 k2 k3 k5 "ValueError.__new__")
  sa : PySem.W.findIn K (.ref C) "__setattr__" = some (some (.builtin "object.__setattr__"))
  hg : PySem.W.findIn K (.ref C) "__getattribute__" = some (some (.builtin "BaseException.__getattribute__"))
  hk : PySem.W.findIn K (.ref C) "__getattr__" = some none
  ha : PySem.W.findIn K (.ref C) "__class__" = some (some (.builtin "object.__class__"))
  ty : PySem.W.typeIn K (.ref C) = some (.type "type")
  kp : PySem.W.keepIn K (.ref C) = true
theorem EF.of {K : PySem.W.Frag} {W0 : Addr} {c : Str} {C : Addr} {nm q : Str} {N : Addr} {bs bm : List Value} {sn : List Str} {sub : List Value} {ab : Bool} {col : Option Bool} {dd : Option Addr} {k0 k1 k2 k3 k5 : Option Value} (ns : PySem.W.nsIn K mainGlobals c = some (some (.ref C)))
    (lk : K.lookup C = some (excClassObj nm q C N bs bm true sn sub ab col dd k0 k1 k2 k3 k5 "ValueError.__new__")) (hbm : bm = .ref W0 :: PySem.HandSPX.veTail)
    (sa : PySem.W.findIn K (.ref C) "__setattr__" = some (some (.builtin "object.__setattr__"))) (hg : PySem.W.findIn K (.ref C) "__getattribute__" = some (some (.builtin "BaseException.__getattribute__")))
    (hk : PySem.W.findIn K (.ref C) "__getattr__" = some none) (ha : PySem.W.findIn K (.ref C) "__class__" = some (some (.builtin "object.__class__"))) (ty : PySem.W.typeIn K (.ref C) = some (.type "type")) (kp : PySem.W.keepIn K (.ref C) = true) : EF K W0 c C :=
  ⟨ns, ⟨_, _, _, _, _, _, _, _, _, _, _, _, _, _, by rw [lk, hbm]⟩, sa, hg, hk, ha, ty, kp⟩
section
variable {K : PySem.W.Frag} {W0 C : Addr} {c : Str}
theorem EF.cls (h : EF K W0 c C) : ∃ cd, PySem.W.clsIn K C = some cd ∧ cd.mro = .ref C :: .ref W0 :: PySem.HandSPX.veTail ∧ cd.hasDict = true := by
  obtain ⟨nm, q, N, bs, sn, sub, ab, col, dd, k0, k1, k2, k3, k5, e⟩ := h.lk
  exact ⟨_, by unfold PySem.W.clsIn; rw [e], rfl, rfl⟩
theorem EF.mro (h : EF K W0 c C) (v : Value) : PySem.W.mroIn K C v = some ((.ref C :: .ref W0 :: PySem.HandSPX.veTail : List Value).contains v) := by
  obtain ⟨cd, e, m, _⟩ := h.cls
  unfold PySem.W.mroIn
  rw [e, Option.bind_some, m]
  rfl
theorem EF.sub (h : EF K W0 c C) (v : Value) : PySem.W.subIn K (.ref C) v = some ((.ref C :: .ref W0 :: PySem.HandSPX.veTail : List Value).contains v) := h.mro v
theorem EF.bas (h : EF K W0 c C) : PySem.W.subIn K (.ref C) (.type "BaseException") = some true := by
  rw [h.sub]
  have : PySem.HandSPX.veTail.contains (.type "BaseException") = true := by decide +kernel
  simp only [List.contains_cons, this, Bool.or_true]
theorem EF.obj (h : EF K W0 c C) : PySem.W.mroIn K C (.type "object") = some true := by
  rw [h.mro]
  have : PySem.HandSPX.veTail.contains (.type "object") = true := by decide +kernel
  simp only [List.contains_cons, this, Bool.or_true]
theorem EF.val (h : EF K W0 c C) : PySem.W.kitOne K (.ref C) (.type "ValueError") = some true := by
  have : PySem.HandSPX.veTail.contains (.type "ValueError") = true := by decide +kernel
  have e : (Value.ref C == Value.type "ValueError") = false := rfl
  have m : PySem.W.kitMeta "ValueError" = true := by decide +kernel
  unfold PySem.W.kitOne PySem.W.kitCls
  rw [e]
  simp only [m, if_true, h.sub, List.contains_cons, this, Bool.or_true]
  simp
theorem EF.own (h : EF K W0 c C) {d : Str} {D : Addr} (hd : EF K W0 d D) : PySem.W.kitOne K (.ref C) (.ref D) = some (decide (C = D ∨ D = W0)) := by
  have t : PySem.HandSPX.veTail.contains (.ref D) = false := by
    unfold PySem.HandSPX.veTail
    simp
  unfold PySem.W.kitOne PySem.W.kitCls
  obtain ⟨cd, e, _⟩ := hd.cls
  by_cases q : C = D
  · subst q; simp
  · have q1 : (Value.ref C == Value.ref D) = false := by simp [q]
    rw [q1]
    simp only [e, hd.ty, h.sub]
    by_cases q2 : D = W0
    · subst q2; simp
    · have q3 : ¬ D = C := fun z => q z.symm
      simp [q, q2, q3, t]
theorem EF.hd (h : EF K W0 c C) : PySem.W.hasDictIn K C = true := by
  obtain ⟨cd, e, _, hd⟩ := h.cls
  unfold PySem.W.hasDictIn
  rw [e]
  exact hd
theorem EF.oex (h : EF K W0 c C) : OexC K C := by
  obtain ⟨nm, q, N, bs, sn, sub, ab, col, dd, k0, k1, k2, k3, k5, e⟩ := h.lk
  exact ⟨⟨nm, q, N, bs, _, sn, sub, ab, col, dd, k0, k1, k2, k3, k5, e, by show PySem.HandSPX.refsVE PySem.HandSPX.veTail = true; decide +kernel⟩, h.sa, h.bas, h.ty, h.kp⟩
end
structure ClsA (K : PySem.W.Frag) : Prop where
  hn : PySem.W.specialIn K (.builtin "object.__class__") "__get__" = some (some (.builtin "getset_descriptor.__get__"))
  ht : PySem.W.takesIn K (.builtin "object.__class__") = some true
theorem EF.exc {K : PySem.W.Frag} {W0 C : Addr} {c : Str} (h : EF K W0 c C) (a : ClsA K) : ExcC K C := ⟨h.hg, h.hk, h.bas, h.hd, h.ha, a.hn, a.ht, h.obj⟩
theorem EF.xf {K : PySem.W.Frag} {W0 C : Addr} {c : Str} (h : EF K W0 c C) : XfC K C := ⟨h.hg, h.hk, h.bas, h.hd⟩
/-- all of them -/
structure EFs (K : PySem.W.Frag) (W0 : Addr) (cl : List (Str × Addr)) : Prop where
  all : ∀ p ∈ cl, EF K W0 p.1 p.2
  nd : (cl.map Prod.snd).Nodup
  w0 : W0 ∉ cl.map Prod.snd
  a : ClsA K
section
variable {K : PySem.W.Frag} {W0 : Addr} {cl : List (Str × Addr)}
theorem EFs.get (h : EFs K W0 cl) {c : Str} {C : Addr} (hc : c ∈ cl.map Prod.fst) (hn : PySem.W.nsIn K mainGlobals c = some (some (.ref C))) : (c, C) ∈ cl := by
  obtain ⟨⟨d, D⟩, hp, rfl⟩ := List.mem_map.mp hc
  have := (h.all _ hp).ns
  rw [hn] at this
  cases this
  exact hp
theorem EFs.ecs (h : EFs K W0 cl) {cs : List Str} (hcs : cl.map Prod.fst = cs) : ExcCs K cs := fun c hc C hn => by
  subst hcs
  exact (h.all _ (h.get hc hn)).exc h.a
theorem nd_inj {cl : List (Str × Addr)} (nd : (cl.map Prod.snd).Nodup) {c d : Str} {C : Addr} (h1 : (c, C) ∈ cl) (h2 : (d, C) ∈ cl) : c = d := by
  induction cl with
  | nil => cases h1
  | cons p cl ih =>
    rw [List.map_cons, List.nodup_cons] at nd
    rcases List.mem_cons.mp h1 with h1 | h1
    · rcases List.mem_cons.mp h2 with h2 | h2
      · rw [← h1] at h2; cases h2; rfl
      · exact absurd (List.mem_map.mpr ⟨_, h2, by rw [← h1]⟩) nd.1
    · rcases List.mem_cons.mp h2 with h2 | h2
      · exact absurd (List.mem_map.mpr ⟨_, h1, by rw [← h2]⟩) nd.1
      · exact ih nd.2 h1 h2
theorem EFs.tab (h : EFs K W0 cl) {cs : List Str} (hcs : cl.map Prod.fst = cs) {d : Str} {D : Addr} (hd : (d, D) ∈ cl) : IsTab K cs (.ref D) fun c => decide (c = d) := fun c hc C hn => by
  subst hcs
  have hp := h.get hc hn
  rw [(h.all _ hp).own (h.all _ hd)]
  have e : (C = D ∨ D = W0) ↔ c = d := ⟨fun z => by
    rcases z with rfl | rfl
    · exact nd_inj h.nd hp hd
    · exact absurd (List.mem_map.mpr ⟨_, hd, rfl⟩) h.w0, fun z => by
    subst z
    have := (h.all _ hp).ns
    rw [(h.all _ hd).ns] at this
    cases this
    exact .inl rfl⟩
  simp only [e]
theorem EFs.tabW (h : EFs K W0 cl) {cs : List Str} (hcs : cl.map Prod.fst = cs) {cd : ClassData} (hW : PySem.W.clsIn K W0 = some cd) (ty : PySem.W.typeIn K (.ref W0) = some (.type "type")) : IsTab K cs (.ref W0) fun _ => true := fun c hc C hn => by
  subst hcs
  have hp := h.get hc hn
  unfold PySem.W.kitOne PySem.W.kitCls
  by_cases q : C = W0
  · subst q; simp
  · have q1 : (Value.ref C == Value.ref W0) = false := by simp [q]
    rw [q1]
    simp only [hW, ty, (h.all _ hp).sub]
    simp
theorem EFs.tabV (h : EFs K W0 cl) {cs : List Str} (hcs : cl.map Prod.fst = cs) : IsTab K cs (.type "ValueError") fun _ => true := fun c hc C hn => by
  subst hcs
  exact (h.all _ (h.get hc hn)).val
end
end B
namespace B
open PySem PySem.Spec L2
theorem EqOk.mono {P : Program} {w : World} {K : PySem.W.Frag} {mg : Str → Option Value} {base : Heap} {c : Str} {k j : Nat} {F : List W → M W} (m : EqOk P w K mg base c k F) (h : k ≤ j) : EqOk P w K mg base c j F := by
  obtain ⟨C, f, fd, ps, h1, h2, h3, h4, G⟩ := m.ok
  exact ⟨C, f, fd, ps, h1, h2, h3, h4, G.mono h⟩
end B

set_option Elab.async false
set_option linter.all false
set_option maxRecDepth 100000
set_option maxHeartbeats 2000000
namespace B
open PySem PySem.Spec L2 PyProof.Rows
set_option autoImplicit false
theorem InsTab.of {K : PySem.W.Frag} {c : Str} {C : Addr} {T : String} (hc : PySem.W.nsIn K mainGlobals c = some (some (.ref C))) (O : InsOk K C) (hs : PySem.W.subIn K (.ref C) (.type T) = some false) (hm : PySem.W.kitMeta T = true := by decide +kernel) : InsTab K c T :=
  ⟨C, hc, O, by
    unfold PySem.W.kitOne PySem.W.kitCls
    have e : (Value.ref C == Value.type T) = false := rfl
    rw [e]
    simp only [hm, if_true, hs]
    simp⟩
theorem ExV.of0 {P : Program} {w : World} {K : PySem.W.Frag} {mg : Str → Option Value} {base : Heap} {W0 C f : Addr} {c qual : Str} {st : Stmt} {fd : FuncData} (h : EF K W0 c C) (fi : PySem.W.findIn K (.ref C) "__init__" = some (some (.ref f))) (ty : PySem.W.typeIn K (.ref f) = some (.type "function"))
    (G : FnOk P w K mg base CX0 1 f fd ["self"] (spIn0 C)) (b : Binds K fd ["self"] []) (hm : mg c = some (.ref C)) : ExV P w K mg base c 1 ["self"] spIn0 := ⟨C, f, fd, h.oex, fi, ty, G, b, hm, h.ns⟩
theorem ExV.of1 {P : Program} {w : World} {K : PySem.W.Frag} {mg : Str → Option Value} {base : Heap} {W0 C f : Addr} {c y : Str} {fd : FuncData} (h : EF K W0 c C) (fi : PySem.W.findIn K (.ref C) "__init__" = some (some (.ref f))) (ty : PySem.W.typeIn K (.ref f) = some (.type "function"))
    (G : FnOk P w K mg base CX0 1 f fd ["self", y] (spIn K C y)) (b : Binds K fd ["self", y] []) (hm : mg c = some (.ref C)) : ExV P w K mg base c 1 ["self", y] (fun C => spIn K C y) := ⟨C, f, fd, h.oex, fi, ty, G, b, hm, h.ns⟩
theorem FldX.of {K : PySem.W.Frag} {W0 : Addr} {cl : List (Str × Addr)} {cs : List Str} {f : Str} (h : EFs K W0 cl) (hcs : cl.map Prod.fst = cs) (hn : ∀ p ∈ cl, PySem.W.findIn K (.ref p.2) f = some none) : FldX K cs f := fun c hc C hn' => by
  subst hcs
  have hp := h.get hc hn'
  exact ⟨(h.all _ hp).xf, hn _ hp⟩
end B

set_option Elab.async false
set_option linter.all false
set_option maxRecDepth 100000
set_option maxHeartbeats 2000000
namespace B
open PySem PySem.Spec PyProof.Rows L2
set_option autoImplicit false
section
variable {bs : List Chk} {fn : List He.FnD} {ts : List (Str × List Str)} {w : World} {K : PySem.W.Frag}
theorem SaysM.b (c : SaysM bs fn ts w K) : ((bs.all fun b => b K) && fn.all fun d => (He.Fa.code d.at_ d.qual).ok K) = true := congrArg (fun z : AlM => z.1.1) c
theorem SaysM.chk (c : SaysM bs fn ts w K) (i : Nat) {b : Chk} (h : bs[i]? = some b) : b K = true :=
  List.all_eq_true.mp (He.ba c.b).1 b (List.mem_of_getElem? h)
theorem SaysM.all (c : SaysM bs fn ts w K) : ∀ b ∈ bs, b K = true := fun b hb => List.all_eq_true.mp (He.ba c.b).1 b hb
theorem SaysM.def_ (c : SaysM bs fn ts w K) (i : Nat) {d : He.FnD} (h : fn[i]? = some d) :
    ∃ oc od osl kV doc pm an cdv ct, K.lookup (He.fAd K d.at_) = some ⟨oc, od, .func (PySem.W.fnOf d.name d.qual d.params d.body d.scope .none kV doc pm an cdv ct), osl⟩ ∧ PySem.W.codeIn K cdv d.qual = true := by
  have e : fn.map (fun d => He.fnObs K d.at_) = fn.map He.FnD.val := congrArg (fun z : AlM => z.1.2) c
  have e2 : (fn.map fun d => He.fnObs K d.at_)[i]? = (fn.map He.FnD.val)[i]? := by rw [e]
  rw [List.getElem?_map, List.getElem?_map, h] at e2
  exact He.fn_ok (Option.some.inj e2) (List.all_eq_true.mp (He.ba c.b).2 d (List.mem_of_getElem? h))
theorem SaysM.tab (c : SaysM bs fn ts w K) (i : Nat) {t : Str × List Str} (h : ts[i]? = some t) : ∃ es n, L2.KDict K w (He.ga K t.1) es n := by
  have e : ts.map (fun t => He.dicW K (He.ga K t.1)) = ts.map fun t => some (He.keysIn w.params t.2) := congrArg (fun z : AlM => z.2) c
  have e2 : (ts.map fun t => He.dicW K (He.ga K t.1))[i]? = (ts.map fun t => some (He.keysIn w.params t.2))[i]? := by rw [e]
  rw [List.getElem?_map, List.getElem?_map, h] at e2
  exact He.dicW_ok (Option.some.inj e2)
end
theorem intB_ok {K : PySem.W.Frag} {x : Str} {i : Int} (h : intB x i K = true) : ∃ t, PySem.W.nsIn K mainGlobals x = some (some (.int i t)) := by
  unfold intB at h
  split at h
  · rename_i j t e
    exact ⟨t, by rw [e, of_decide_eq_true h]⟩
  · cases h
theorem strsB_ok : ∀ {xs : List Str} {us : List Value}, strsB xs us = true → WSs xs us
  | [], [], _ => .nil
  | x :: xs, u :: us, h => by
    cases u with
    | str y t =>
      obtain ⟨h1, h2⟩ := He.ba (show (decide (x = y) && strsB xs us) = true from h)
      have e := of_decide_eq_true h1
      subst e
      exact .cons (strsB_ok h2)
    | _ => cases h
  | [], _ :: _, h => by cases h
  | _ :: _, [], h => by cases h
def Hd.w : Hd → W
  | .int i => .int i
  | .tup xs => .tup (xs.map .str)
  | .fnc x => .fnc x
theorem Hd.is {K : PySem.W.Frag} {d : Hd} {u : Value} (h : d.ok K u = true) : WK K d.w u := by
  cases d with
  | int i => cases u with
    | int j t =>
      have e : j = i := of_decide_eq_true h
      rw [e]; exact .int i t
    | _ => cases h
  | tup xs => cases u with
    | ref a =>
      have h' : (match K.lookup a with
        | some ⟨.type c, _, .seq its _, _⟩ => decide (c = "tuple") && (decide (its.size ≤ sizeLine) && strsB xs its.toList)
        | _ => false) = true := h
      clear h
      split at h'
      · rename_i c dd its n sl e
        obtain ⟨h1, h2⟩ := He.ba h'
        obtain ⟨h3, h4⟩ := He.ba h2
        exact .tup e (congrArg Value.type (of_decide_eq_true h1)) rfl (of_decide_eq_true h3) (strsB_ok h4)
      · cases h'
    | _ => cases h
  | fnc x => cases u with
    | ref f => exact .fnc (He.eqO_ok h)
    | _ => cases h
theorem entsB_ok {K : PySem.W.Frag} : ∀ {es : List DictEntry} {r : List (Str × Hd)}, entsB K es r = true → TabEs K es (r.map fun q => (q.1, q.2.w))
  | [], [], _ => .nil
  | ⟨hs, k, u⟩ :: es, (y, d) :: r, h => by
    cases k with
    | str x t =>
      obtain ⟨h1, h2⟩ := He.ba (show (decide (x = y) && (d.ok K u && entsB K es r)) = true from h)
      obtain ⟨h3, h4⟩ := He.ba h2
      have e := of_decide_eq_true h1
      subst e
      exact .cons (Hd.is h3) (entsB_ok h4)
    | _ => cases h
  | [], _ :: _, h => by simp [entsB] at h
  | _ :: _, [], h => by simp [entsB] at h
theorem table_ok {K : PySem.W.Frag} {w : World} {x : Str} {r : List (Str × Hd)} {tab : List (Str × W)} (h : tableB x r K = true) (hd : ∃ es n, L2.KDict K w (He.ga K x) es n) (ht : (r.map fun q => (q.1, q.2.w)) = tab) : TabK K w (He.ga K x) tab := by
  obtain ⟨es, n, l, k, low⟩ := hd
  unfold tableB at h
  rw [l] at h
  subst ht
  exact ⟨low, es, n, l, k, entsB_ok h⟩
theorem at_ {cs : List Chk} {K : PySem.W.Frag} (h : allC cs K = true) (i : Nat) {b : Chk} (e : cs[i]? = some b) : b K = true := List.all_eq_true.mp h b (List.mem_of_getElem? e)
theorem exB_ok {K : PySem.W.Frag} {W0 C : Addr} (h : exB K W0 C = true) :
    ∃ nm q N bs sn sub ab col dd k0 k1 k2 k3 k5, K.lookup C = some (excClassObj nm q C N bs (.ref W0 :: PySem.HandSPX.veTail) true sn sub ab col dd k0 k1 k2 k3 k5 "ValueError.__new__") := by
  unfold exB at h
  split at h
  · rename_i t dd cd sl e
    split at h
    · rename_i C' V r k0 k1 k2 k3 n k5 hm hs
      simp only [Bool.and_eq_true, decide_eq_true_eq, Bool.not_eq_true'] at h
      obtain ⟨rfl, rfl, rfl, rfl, rfl, hd, hdel⟩ := h
      obtain ⟨nm, bs, mro, ns, qn, hdict, sn, sub, ab, col, del⟩ := cd
      dsimp only at hm hd hdel
      subst hm hd hdel
      obtain ⟨l⟩ := sl
      have hs' : l = [k0, k1, k2, k3, some (.builtin "ValueError.__new__"), k5] := hs
      subst hs'
      exact ⟨nm, qn, ns, bs, sn, sub, ab, col, dd, k0, k1, k2, k3, k5, e⟩
    · cases h
  · cases h
theorem efB_ok {K : PySem.W.Frag} {w0 c : Str} (h : efB w0 c K = true) : EF K (He.ga K w0) c (He.ga K c) := by
  obtain ⟨h1, h⟩ := He.ba h
  obtain ⟨h2, h⟩ := He.ba h
  obtain ⟨h3, h⟩ := He.ba h
  obtain ⟨h4, h⟩ := He.ba h
  obtain ⟨h5, h⟩ := He.ba h
  obtain ⟨h6, h⟩ := He.ba h
  obtain ⟨h7, h8⟩ := He.ba h
  exact ⟨He.eqO_ok h1, exB_ok h2, He.eqO_ok h3, He.eqO_ok h4, He.eqO_ok h5, He.eqO_ok h6, of_decide_eq_true h7, h8⟩
theorem isSome_of {α : Type} {o : Option α} (h : o.isSome = true) : ∃ x, o = some x := Option.isSome_iff_exists.mp h
theorem fcB_ok {o : Option PySem.W.CFound} {u : Value} (h : fcB o u = true) : o = some (.val u) := by
  unfold fcB at h
  split at h
  · rw [of_decide_eq_true h]
  · cases h
end B

set_option Elab.async false
set_option linter.all false
set_option maxRecDepth 100000
set_option maxHeartbeats 1000000
namespace K00
open PySem PySem.Spec L2 B
set_option autoImplicit false
abbrev CS : List Str := ["NoKind", "NoKinds", "BadProgram", "NoBody", "NoPoint", "NoInputs", "NoNumber", "IsOver", "NoPlace", "BadPlacer", "TooMany", "NoLot", "NoSpot", "NoSource", "NoWords", "NoKinding", "NoOver", "BadImage", "NoText", "NoRecord", "BadText", "NothingDone", "NoForm", "NoName", "NothingChosen"]
def top (i : Nat) : Stmt := PySem.Challenge.pw_barewords_k00_errors_and_their_fields.main.body.getD i (.Pass ⟨0, 0, 0, 0⟩)
def tab_END_FORMS : List (Str × W) := [("back", .tup ((["place"] : List Str).map .str)), ("if", .tup ((["place", "block", "block"] : List Str).map .str)), ("look", .tup ((["place", "blocks"] : List Str).map .str))]
def tab_STEP_FORMS : List (Str × W) := [("num", .tup ((["number"] : List Str).map .str)), ("nil", .tup (([] : List Str).map .str)), ("sum", .tup ((["place", "place"] : List Str).map .str)), ("less", .tup ((["place", "place"] : List Str).map .str)), ("row", .tup ((["row places"] : List Str).map .str)), ("part", .tup ((["place", "place"] : List Str).map .str)), ("way", .tup ((["choice", "kinds", "place", "places"] : List Str).map .str)), ("take", .tup ((["body", "kinds", "places"] : List Str).map .str)), ("box", .tup ((["place"] : List Str).map .str)), ("open", .tup ((["place"] : List Str).map .str)), ("put", .tup ((["place", "place"] : List Str).map .str)), ("print", .tup ((["place"] : List Str).map .str)), ("body", .tup ((["body", "kinds", "places"] : List Str).map .str)), ("call", .tup ((["place", "places"] : List Str).map .str))]
def tab_STEP_KINDS : List (Str × W) := [("num", .fnc "num_kind"), ("nil", .fnc "nil_kind"), ("sum", .fnc "sum_kind"), ("less", .fnc "sum_kind"), ("row", .fnc "row_kind"), ("part", .fnc "part_kind"), ("way", .fnc "way_kind"), ("take", .fnc "take_kind"), ("box", .fnc "box_kind"), ("open", .fnc "open_kind"), ("put", .fnc "put_kind"), ("print", .fnc "print_kind"), ("body", .fnc "body_kind"), ("call", .fnc "call_kind")]
structure Txt (K : PySem.W.Frag) (w : World) (mg : Str → Option Value) : Prop where
  ValueError_ : mg "ValueError" = none
  abs_ : mg "abs" = none
  all_ : mg "all" = none
  any_ : mg "any" = none
  bool_ : mg "bool" = none
  enumerate_ : mg "enumerate" = none
  int_ : mg "int" = none
  isinstance_ : mg "isinstance" = none
  len_ : mg "len" = none
  list_ : mg "list" = none
  max_ : mg "max" = none
  range_ : mg "range" = none
  reversed_ : mg "reversed" = none
  str_ : mg "str" = none
  sum_ : mg "sum" = none
  tuple_ : mg "tuple" = none
  zip_ : mg "zip" = none
  k_LARGEST : ∃ u, mg "LARGEST" = some u ∧ WK K (.int 1000000000000) u
  k_MOST_BLOCKS_DEEP : ∃ u, mg "MOST_BLOCKS_DEEP" = some u ∧ WK K (.int 6) u
  k_MOST_BODIES : ∃ u, mg "MOST_BODIES" = some u ∧ WK K (.int 12) u
  k_MOST_BODY_LETTERS : ∃ u, mg "MOST_BODY_LETTERS" = some u ∧ WK K (.int 4) u
  k_MOST_CHOICES : ∃ u, mg "MOST_CHOICES" = some u ∧ WK K (.int 6) u
  k_MOST_CHOICE_LETTERS : ∃ u, mg "MOST_CHOICE_LETTERS" = some u ∧ WK K (.int 3) u
  k_MOST_KINDS : ∃ u, mg "MOST_KINDS" = some u ∧ WK K (.int 40) u
  k_MOST_KINDS_DEEP : ∃ u, mg "MOST_KINDS_DEEP" = some u ∧ WK K (.int 8) u
  k_MOST_KINDS_IN_PLACE : ∃ u, mg "MOST_KINDS_IN_PLACE" = some u ∧ WK K (.int 400) u
  k_MOST_LEFT : ∃ u, mg "MOST_LEFT" = some u ∧ WK K (.int 3) u
  k_MOST_PARTS : ∃ u, mg "MOST_PARTS" = some u ∧ WK K (.int 3) u
  k_MOST_PLACES : ∃ u, mg "MOST_PLACES" = some u ∧ WK K (.int 5) u
  k_MOST_ROW : ∃ u, mg "MOST_ROW" = some u ∧ WK K (.int 4) u
  k_MOST_STEPS : ∃ u, mg "MOST_STEPS" = some u ∧ WK K (.int 60) u
  k_MOST_WAYS : ∃ u, mg "MOST_WAYS" = some u ∧ WK K (.int 4) u
  k_NIL : ∃ u, mg "NIL" = some u ∧ WK K (.tup ((["nil"] : List Str).map .str)) u
  k_NUM : ∃ u, mg "NUM" = some u ∧ WK K (.tup ((["num"] : List Str).map .str)) u
  t_END_FORMS : ∃ a, mg "END_FORMS" = some (.ref a) ∧ TabK K w a tab_END_FORMS
  t_STEP_FORMS : ∃ a, mg "STEP_FORMS" = some (.ref a) ∧ TabK K w a tab_STEP_FORMS
  t_STEP_KINDS : ∃ a, mg "STEP_KINDS" = some (.ref a) ∧ TabK K w a tab_STEP_KINDS
  f_bodies : ∀ c ∈ (["Program"] : List Str), FldOk K c "bodies"
  f_book : ∀ c ∈ (["Program"] : List Str), FldOk K c "book"
  f_tables : ∀ c ∈ (["Program"] : List Str), FldOk K c "tables"
  ecs : ExcCs K CS
  it_ValueError : IsTab K CS (.type "ValueError") (fun _ => true)
  it_BadImage : ∃ E, mg "BadImage" = some (.ref E) ∧ IsTab K CS (.ref E) (fun c => decide (c = "BadImage"))
  it_BadPlacer : ∃ E, mg "BadPlacer" = some (.ref E) ∧ IsTab K CS (.ref E) (fun c => decide (c = "BadPlacer"))
  it_BadProgram : ∃ E, mg "BadProgram" = some (.ref E) ∧ IsTab K CS (.ref E) (fun c => decide (c = "BadProgram"))
  it_BadText : ∃ E, mg "BadText" = some (.ref E) ∧ IsTab K CS (.ref E) (fun c => decide (c = "BadText"))
  it_IsOver : ∃ E, mg "IsOver" = some (.ref E) ∧ IsTab K CS (.ref E) (fun c => decide (c = "IsOver"))
  it_NoBody : ∃ E, mg "NoBody" = some (.ref E) ∧ IsTab K CS (.ref E) (fun c => decide (c = "NoBody"))
  it_NoForm : ∃ E, mg "NoForm" = some (.ref E) ∧ IsTab K CS (.ref E) (fun c => decide (c = "NoForm"))
  it_NoInputs : ∃ E, mg "NoInputs" = some (.ref E) ∧ IsTab K CS (.ref E) (fun c => decide (c = "NoInputs"))
  it_NoKind : ∃ E, mg "NoKind" = some (.ref E) ∧ IsTab K CS (.ref E) (fun c => decide (c = "NoKind"))
  it_NoKinding : ∃ E, mg "NoKinding" = some (.ref E) ∧ IsTab K CS (.ref E) (fun c => decide (c = "NoKinding"))
  it_NoKinds : ∃ E, mg "NoKinds" = some (.ref E) ∧ IsTab K CS (.ref E) (fun c => decide (c = "NoKinds"))
  it_NoLot : ∃ E, mg "NoLot" = some (.ref E) ∧ IsTab K CS (.ref E) (fun c => decide (c = "NoLot"))
  it_NoName : ∃ E, mg "NoName" = some (.ref E) ∧ IsTab K CS (.ref E) (fun c => decide (c = "NoName"))
  it_NoNumber : ∃ E, mg "NoNumber" = some (.ref E) ∧ IsTab K CS (.ref E) (fun c => decide (c = "NoNumber"))
  it_NoOver : ∃ E, mg "NoOver" = some (.ref E) ∧ IsTab K CS (.ref E) (fun c => decide (c = "NoOver"))
  it_NoPlace : ∃ E, mg "NoPlace" = some (.ref E) ∧ IsTab K CS (.ref E) (fun c => decide (c = "NoPlace"))
  it_NoPoint : ∃ E, mg "NoPoint" = some (.ref E) ∧ IsTab K CS (.ref E) (fun c => decide (c = "NoPoint"))
  it_NoRecord : ∃ E, mg "NoRecord" = some (.ref E) ∧ IsTab K CS (.ref E) (fun c => decide (c = "NoRecord"))
  it_NoSource : ∃ E, mg "NoSource" = some (.ref E) ∧ IsTab K CS (.ref E) (fun c => decide (c = "NoSource"))
  it_NoSpot : ∃ E, mg "NoSpot" = some (.ref E) ∧ IsTab K CS (.ref E) (fun c => decide (c = "NoSpot"))
  it_NoText : ∃ E, mg "NoText" = some (.ref E) ∧ IsTab K CS (.ref E) (fun c => decide (c = "NoText"))
  it_NoWords : ∃ E, mg "NoWords" = some (.ref E) ∧ IsTab K CS (.ref E) (fun c => decide (c = "NoWords"))
  it_NothingChosen : ∃ E, mg "NothingChosen" = some (.ref E) ∧ IsTab K CS (.ref E) (fun c => decide (c = "NothingChosen"))
  it_NothingDone : ∃ E, mg "NothingDone" = some (.ref E) ∧ IsTab K CS (.ref E) (fun c => decide (c = "NothingDone"))
  it_TooMany : ∃ E, mg "TooMany" = some (.ref E) ∧ IsTab K CS (.ref E) (fun c => decide (c = "TooMany"))
  it_WordsError : ∃ E, mg "WordsError" = some (.ref E) ∧ IsTab K CS (.ref E) (fun _ => true)
  fx_line : FldX K CS "line"
  fx_most : FldX K CS "most"
  fx_name : FldX K CS "name"
  fx_number : FldX K CS "number"
  fx_part : FldX K CS "part"
  io_bool : InsTab K "Program" "bool"
  io_list : InsTab K "Program" "list"
  io_tuple : InsTab K "Program" "tuple"
  iw_Program : InsC K mg "Program"
  n_body_kind : ∃ g, PySem.W.nsIn K mainGlobals "body_kind" = some (some (.ref g)) ∧ mg "body_kind" = some (.ref g)
  n_box_kind : ∃ g, PySem.W.nsIn K mainGlobals "box_kind" = some (some (.ref g)) ∧ mg "box_kind" = some (.ref g)
  n_call_kind : ∃ g, PySem.W.nsIn K mainGlobals "call_kind" = some (some (.ref g)) ∧ mg "call_kind" = some (.ref g)
  n_nil_kind : ∃ g, PySem.W.nsIn K mainGlobals "nil_kind" = some (some (.ref g)) ∧ mg "nil_kind" = some (.ref g)
  n_num_kind : ∃ g, PySem.W.nsIn K mainGlobals "num_kind" = some (some (.ref g)) ∧ mg "num_kind" = some (.ref g)
  n_open_kind : ∃ g, PySem.W.nsIn K mainGlobals "open_kind" = some (some (.ref g)) ∧ mg "open_kind" = some (.ref g)
  n_part_kind : ∃ g, PySem.W.nsIn K mainGlobals "part_kind" = some (some (.ref g)) ∧ mg "part_kind" = some (.ref g)
  n_print_kind : ∃ g, PySem.W.nsIn K mainGlobals "print_kind" = some (some (.ref g)) ∧ mg "print_kind" = some (.ref g)
  n_put_kind : ∃ g, PySem.W.nsIn K mainGlobals "put_kind" = some (some (.ref g)) ∧ mg "put_kind" = some (.ref g)
  n_row_kind : ∃ g, PySem.W.nsIn K mainGlobals "row_kind" = some (some (.ref g)) ∧ mg "row_kind" = some (.ref g)
  n_sum_kind : ∃ g, PySem.W.nsIn K mainGlobals "sum_kind" = some (some (.ref g)) ∧ mg "sum_kind" = some (.ref g)
  n_take_kind : ∃ g, PySem.W.nsIn K mainGlobals "take_kind" = some (some (.ref g)) ∧ mg "take_kind" = some (.ref g)
  n_way_kind : ∃ g, PySem.W.nsIn K mainGlobals "way_kind" = some (some (.ref g)) ∧ mg "way_kind" = some (.ref g)
  n_with_kinds : ∃ g, PySem.W.nsIn K mainGlobals "with_kinds" = some (some (.ref g)) ∧ mg "with_kinds" = some (.ref g)
structure Excs (P : Program) (w : World) (K : PySem.W.Frag) (mg : Str → Option Value) (base : Heap) : Prop where
  e_NoKind : ExV P w K mg base "NoKind" 1 ["self"] spIn0
  e_NoKinds : ExV P w K mg base "NoKinds" 1 ["self"] spIn0
  e_BadProgram : ExV P w K mg base "BadProgram" 1 ["self", "part"] (fun C => spIn K C "part")
  e_NoBody : ExV P w K mg base "NoBody" 1 ["self"] spIn0
  e_NoPoint : ExV P w K mg base "NoPoint" 1 ["self"] spIn0
  e_NoInputs : ExV P w K mg base "NoInputs" 1 ["self"] spIn0
  e_NoNumber : ExV P w K mg base "NoNumber" 1 ["self"] spIn0
  e_IsOver : ExV P w K mg base "IsOver" 1 ["self"] spIn0
  e_NoPlace : ExV P w K mg base "NoPlace" 1 ["self"] spIn0
  e_BadPlacer : ExV P w K mg base "BadPlacer" 1 ["self", "number"] (fun C => spIn K C "number")
  e_TooMany : ExV P w K mg base "TooMany" 1 ["self", "most"] (fun C => spIn K C "most")
  e_NoLot : ExV P w K mg base "NoLot" 1 ["self"] spIn0
  e_NoSpot : ExV P w K mg base "NoSpot" 1 ["self"] spIn0
  e_NoSource : ExV P w K mg base "NoSource" 1 ["self"] spIn0
  e_NoWords : ExV P w K mg base "NoWords" 1 ["self"] spIn0
  e_NoKinding : ExV P w K mg base "NoKinding" 1 ["self"] spIn0
  e_NoOver : ExV P w K mg base "NoOver" 1 ["self"] spIn0
  e_BadImage : ExV P w K mg base "BadImage" 1 ["self", "line"] (fun C => spIn K C "line")
  e_NoText : ExV P w K mg base "NoText" 1 ["self"] spIn0
  e_NoRecord : ExV P w K mg base "NoRecord" 1 ["self"] spIn0
  e_BadText : ExV P w K mg base "BadText" 1 ["self", "line"] (fun C => spIn K C "line")
  e_NothingDone : ExV P w K mg base "NothingDone" 1 ["self"] spIn0
  e_NoForm : ExV P w K mg base "NoForm" 1 ["self"] spIn0
  e_NoName : ExV P w K mg base "NoName" 1 ["self", "name"] (fun C => spIn K C "name")
  e_NothingChosen : ExV P w K mg base "NothingChosen" 1 ["self"] spIn0
section
variable {P : Program} {w : World} {K : PySem.W.Frag} {mg : Str → Option Value} {base : Heap}
/-! ### is_tuple -/
abbrev s_is_tuple : Stmt := top 31
abbrev n_is_tuple : List Str := ["thing", "low", "high"]
theorem sc_is_tuple : FnScope n_is_tuple ["thing", "low", "high"] (defScope s_is_tuple) := ⟨rfl, rfl, rfl, by decide +kernel, rfl, by decide +kernel, by decide +kernel⟩
def F_is_tuple : List W → M W := fnM 3 3 (bCons (sRet (eAnd (eCall bIsi (aCons (eVar 0) (aCons (eC (.ext (.ty "tuple"))) aNil))) (eChain fLe fLe (eVar 1) (eCall bLen (aCons (eVar 0) aNil)) (eVar 2))))
    bNil)
theorem ok_is_tuple {f : Addr} {fd : FuncData} (T : Txt K w mg) (F : Fun K "is_tuple" "is_tuple" s_is_tuple f fd) (hm : mg "is_tuple" = some (.ref f)) (b : Binds K fd ["thing", "low", "high"] [])  : CallOk P w K mg base "is_tuple" 1 3 F_is_tuple := by
  
  refine call_ok (k := 0) F hm sc_is_tuple b fun cdv A outer s H E hr => ?_
  have nd := sc_is_tuple.nd
  exact (sb_cons (ss_ret (se_and (se_callB call_isi ref_isi rfl T.isinstance_ (sa_cons (se_var 0) (sa_cons (se_ty rfl T.tuple_) sa_nil))) (se_one (se_chain op_le op_le ref_le ref_le (se_var 1) (se_callB call_len_seq ref_len rfl T.len_ (sa_cons (se_var 0) sa_nil)) (se_var 2)))))
    sb_nil)
/-! ### is_integer -/
abbrev s_is_integer : Stmt := top 28
abbrev n_is_integer : List Str := ["thing"]
theorem sc_is_integer : FnScope n_is_integer ["thing"] (defScope s_is_integer) := ⟨rfl, rfl, rfl, by decide +kernel, rfl, by decide +kernel, by decide +kernel⟩
def F_is_integer : List W → M W := fnM 1 1 (bCons (sRet (eAnd (eCall bIsi (aCons (eVar 0) (aCons (eC (.ext (.ty "int"))) aNil))) (eNot (eCall bIsi (aCons (eVar 0) (aCons (eC (.ext (.ty "bool"))) aNil))))))
    bNil)
theorem ok_is_integer {f : Addr} {fd : FuncData} (T : Txt K w mg) (F : Fun K "is_integer" "is_integer" s_is_integer f fd) (hm : mg "is_integer" = some (.ref f)) (b : Binds K fd ["thing"] [])  : CallOk P w K mg base "is_integer" 1 1 F_is_integer := by
  
  refine call_ok (k := 0) F hm sc_is_integer b fun cdv A outer s H E hr => ?_
  have nd := sc_is_integer.nd
  exact (sb_cons (ss_ret (se_and (se_callB call_isi ref_isi rfl T.isinstance_ (sa_cons (se_var 0) (sa_cons (se_ty rfl T.int_) sa_nil))) (se_one (se_not (se_callB call_isi ref_isi rfl T.isinstance_ (sa_cons (se_var 0) (sa_cons (se_ty rfl T.bool_) sa_nil)))))))
    sb_nil)
/-! ### is_between -/
abbrev s_is_between : Stmt := top 29
abbrev n_is_between : List Str := ["thing", "low", "high"]
theorem sc_is_between : FnScope n_is_between ["thing", "low", "high"] (defScope s_is_between) := ⟨rfl, rfl, rfl, by decide +kernel, rfl, by decide +kernel, by decide +kernel⟩
def F_is_between : List W → M W := fnM 3 3 (bCons (sRet (eAnd (eCall F_is_integer (aCons (eVar 0) aNil)) (eChain fLe fLe (eVar 1) (eVar 0) (eVar 2))))
    bNil)
theorem ok_is_between {f : Addr} {fd : FuncData} (T : Txt K w mg) (F : Fun K "is_between" "is_between" s_is_between f fd) (hm : mg "is_between" = some (.ref f)) (b : Binds K fd ["thing", "low", "high"] []) (c_is_integer : CallOk P w K mg base "is_integer" 1 1 F_is_integer) : CallOk P w K mg base "is_between" 2 3 F_is_between := by
  have c_is_integer := c_is_integer.mono (k := 1) (j := 1) (by omega); 
  refine call_ok (k := 1) F hm sc_is_between b fun cdv A outer s H E hr => ?_
  have nd := sc_is_between.nd
  exact (sb_cons (ss_ret (se_and (se_call c_is_integer hr rfl (sa_cons (se_var 0) sa_nil)) (se_one (se_chain op_le op_le ref_le ref_le (se_var 1) (se_var 0) (se_var 2)))))
    sb_nil)
/-! ### letters_told -/
abbrev s_letters_told : Stmt := top 60
abbrev n_letters_told : List Str := ["thing", "size", "most"]
theorem sc_letters_told : FnScope n_letters_told ["thing", "size", "most"] (defScope s_letters_told) := ⟨rfl, rfl, rfl, by decide +kernel, rfl, by decide +kernel, by decide +kernel⟩
def F_letters_told : List W → M W := fnM 3 3 (bCons (sIf (tAndM (tVal (eCall F_is_tuple (aCons (eVar 0) (aCons (eVar 1) (aCons (eVar 1) aNil))))) (tVal (eCall F_is_between (aCons (eOp fIx (eVar 0) (eC (.int 0))) (aCons (eC (.int 0)) (aCons (eVar 2) aNil)))))) (bCons (sRet (eOp fIx (eVar 0) (eC (.int 0))))
    bNil) bNil)
    (bCons (sRet (eC (.int 0)))
    bNil))
theorem ok_letters_told {f : Addr} {fd : FuncData} (T : Txt K w mg) (F : Fun K "letters_told" "letters_told" s_letters_told f fd) (hm : mg "letters_told" = some (.ref f)) (b : Binds K fd ["thing", "size", "most"] []) (c_is_tuple : CallOk P w K mg base "is_tuple" 1 3 F_is_tuple) (c_is_between : CallOk P w K mg base "is_between" 2 3 F_is_between) : CallOk P w K mg base "letters_told" 3 3 F_letters_told := by
  have c_is_tuple := c_is_tuple.mono (k := 1) (j := 2) (by omega); have c_is_between := c_is_between.mono (k := 2) (j := 2) (by omega); 
  refine call_ok (k := 2) F hm sc_letters_told b fun cdv A outer s H E hr => ?_
  have nd := sc_letters_told.nd
  exact (sb_cons (ss_if (st_w (sw_and (st_val (se_call c_is_tuple hr rfl (sa_cons (se_var 0) (sa_cons (se_var 1) (sa_cons (se_var 1) sa_nil))))) (sw_and1 (st_val (se_call c_is_between hr rfl (sa_cons (se_ix (se_var 0) se_int) (sa_cons se_int (sa_cons (se_var 2) sa_nil)))))))) (sb_cons (ss_ret (se_ix (se_var 0) se_int))
    sb_nil) sb_nil)
    (sb_cons (ss_ret se_int)
    sb_nil))
/-! ### choice_letters -/
abbrev s_choice_letters : Stmt := top 61
abbrev n_choice_letters : List Str := ["book", "choice"]
theorem sc_choice_letters : FnScope n_choice_letters ["book"] (defScope s_choice_letters) := ⟨rfl, rfl, rfl, by decide +kernel, rfl, by decide +kernel, by decide +kernel⟩
def ct1_choice_letters : TM := tYesM
def ce1_choice_letters : EM := (eCall F_letters_told (aCons (eVar 1) (aCons (eC (.int 2)) (aCons (eC (.int 3)) aNil))))
def F_choice_letters : List W → M W := fnM 1 2 (bCons (sRet (eComp (iSeq (eVar 0)) (.nm 1) [1] ct1_choice_letters ce1_choice_letters 1000000))
    bNil)
theorem ok_choice_letters {f : Addr} {fd : FuncData} (T : Txt K w mg) (F : Fun K "choice_letters" "choice_letters" s_choice_letters f fd) (hm : mg "choice_letters" = some (.ref f)) (b : Binds K fd ["book"] []) (c_letters_told : CallOk P w K mg base "letters_told" 3 3 F_letters_told) : CallOk P w K mg base "choice_letters" 4 1 F_choice_letters := by
  have c_letters_told := c_letters_told.mono (k := 3) (j := 3) (by omega); 
  obtain ⟨u_MOST_CHOICE_LETTERS, m_MOST_CHOICE_LETTERS, h_MOST_CHOICE_LETTERS⟩ := T.k_MOST_CHOICE_LETTERS
  refine call_ok (k := 3) F hm sc_choice_letters b fun cdv A outer s H E hr => ?_
  have nd := sc_choice_letters.nd
  exact (sb_cons (ss_ret (se_comp [("choice", 1)] 1000000 rfl nd (blkOk_by (by with_unfolding_all rfl)) (by decide) (si_seq (se_var 0)) (fun _ _ _ _ _ => (sg_nm 1 nd)) (fun _ _ _ _ _ => sts_nil) (fun _ _ _ _ _ => (se_call c_letters_told hr rfl (sa_cons (se_var 1) (sa_cons se_int (sa_cons (se_gl rfl m_MOST_CHOICE_LETTERS h_MOST_CHOICE_LETTERS) sa_nil)))))))
    sb_nil)
/-! ### is_natural -/
abbrev s_is_natural : Stmt := top 30
abbrev n_is_natural : List Str := ["thing"]
theorem sc_is_natural : FnScope n_is_natural ["thing"] (defScope s_is_natural) := ⟨rfl, rfl, rfl, by decide +kernel, rfl, by decide +kernel, by decide +kernel⟩
def F_is_natural : List W → M W := fnM 1 1 (bCons (sRet (eAnd (eCall F_is_integer (aCons (eVar 0) aNil)) (eOp fGe (eVar 0) (eC (.int 0)))))
    bNil)
theorem ok_is_natural {f : Addr} {fd : FuncData} (T : Txt K w mg) (F : Fun K "is_natural" "is_natural" s_is_natural f fd) (hm : mg "is_natural" = some (.ref f)) (b : Binds K fd ["thing"] []) (c_is_integer : CallOk P w K mg base "is_integer" 1 1 F_is_integer) : CallOk P w K mg base "is_natural" 2 1 F_is_natural := by
  have c_is_integer := c_is_integer.mono (k := 1) (j := 1) (by omega); 
  refine call_ok (k := 1) F hm sc_is_natural b fun cdv A outer s H E hr => ?_
  have nd := sc_is_natural.nd
  exact (sb_cons (ss_ret (se_and (se_call c_is_integer hr rfl (sa_cons (se_var 0) sa_nil)) (se_one (se_cmp op_ge ref_ge (se_var 0) se_int))))
    sb_nil)
/-! ### has_outer_form -/
abbrev s_has_outer_form : Stmt := top 34
abbrev n_has_outer_form : List Str := ["thing", "head", "rest"]
theorem sc_has_outer_form : FnScope n_has_outer_form ["thing"] (defScope s_has_outer_form) := ⟨rfl, rfl, rfl, by decide +kernel, rfl, by decide +kernel, by decide +kernel⟩
def F_has_outer_form : List W → M W := fnM 1 3 (bCons (sIf (tOrM (tNotM (tVal (eCall F_is_tuple (aCons (eVar 0) (aCons (eC (.int 1)) (aCons (eC (.int 3)) aNil)))))) (tNotM (tVal (eCall bIsi (aCons (eOp fIx (eVar 0) (eC (.int 0))) (aCons (eC (.ext (.ty "str"))) aNil)))))) (bCons (sRet (eC (.bl false)))
    bNil) bNil)
    (bCons (sStar 1 2 (eVar 0))
    (bCons (sIf (tBl (eOp (fInB false) (eVar 1) (eTup (aCons (eC (.str "num")) (aCons (eC (.str "nil")) aNil))))) (bCons (sRet (eOp fEq (eCall bLen (aCons (eVar 2) aNil)) (eC (.int 0))))
    bNil) bNil)
    (bCons (sIf (tBl (eOp (fInB false) (eVar 1) (eTup (aCons (eC (.str "data")) (aCons (eC (.str "fun")) aNil))))) (bCons (sIf (tBl (eOp fNe (eCall bLen (aCons (eVar 2) aNil)) (eC (.int 2)))) (bCons (sRet (eC (.bl false)))
    bNil) bNil)
    (bCons (sIf (tBl (eOp fEq (eVar 1) (eC (.str "data")))) (bCons (sRet (eAnd (eCall F_is_natural (aCons (eOp fIx (eVar 2) (eC (.int 0))) aNil)) (eCall bIsi (aCons (eOp fIx (eVar 2) (eC (.int 1))) (aCons (eC (.ext (.ty "tuple"))) aNil)))))
    bNil) bNil)
    (bCons (sRet (eCall F_is_tuple (aCons (eOp fIx (eVar 2) (eC (.int 0))) (aCons (eC (.int 1)) (aCons (eC (.int 3)) aNil)))))
    bNil))) bNil)
    (bCons (sIf (tBl (eOp fNe (eCall bLen (aCons (eVar 2) aNil)) (eC (.int 1)))) (bCons (sRet (eC (.bl false)))
    bNil) bNil)
    (bCons (sIf (tBl (eOp fEq (eVar 1) (eC (.str "row")))) (bCons (sRet (eCall F_is_tuple (aCons (eOp fIx (eVar 2) (eC (.int 0))) (aCons (eC (.int 1)) (aCons (eC (.int 4)) aNil)))))
    bNil) bNil)
    (bCons (sRet (eOr (eOp fEq (eVar 1) (eC (.str "box"))) (eAnd (eOp fEq (eVar 1) (eC (.str "letter"))) (eCall F_is_natural (aCons (eOp fIx (eVar 2) (eC (.int 0))) aNil)))))
    bNil)))))))
theorem ok_has_outer_form {f : Addr} {fd : FuncData} (T : Txt K w mg) (F : Fun K "has_outer_form" "has_outer_form" s_has_outer_form f fd) (hm : mg "has_outer_form" = some (.ref f)) (b : Binds K fd ["thing"] []) (c_is_tuple : CallOk P w K mg base "is_tuple" 1 3 F_is_tuple) (c_is_natural : CallOk P w K mg base "is_natural" 2 1 F_is_natural) : CallOk P w K mg base "has_outer_form" 3 1 F_has_outer_form := by
  have c_is_tuple := c_is_tuple.mono (k := 1) (j := 2) (by omega); have c_is_natural := c_is_natural.mono (k := 2) (j := 2) (by omega); 
  refine call_ok (k := 2) F hm sc_has_outer_form b fun cdv A outer s H E hr => ?_
  have nd := sc_has_outer_form.nd
  exact (sb_cons (ss_if (st_w (sw_or (st_not (st_val (se_call c_is_tuple hr rfl (sa_cons (se_var 0) (sa_cons se_int (sa_cons se_int sa_nil)))))) (sw_or1 (st_not (st_val (se_callB call_isi ref_isi rfl T.isinstance_ (sa_cons (se_ix (se_var 0) se_int) (sa_cons (se_ty rfl T.str_) sa_nil)))))))) (sb_cons (ss_ret se_bl)
    sb_nil) sb_nil)
    (sb_cons (ss_star nd rfl (se_var 0))
    (sb_cons (ss_if (st_cmp op_in_seq ref_in (se_var 1) (se_tup (sa_cons se_str (sa_cons se_str sa_nil)))) (sb_cons (ss_ret (se_cmp (op_eqD hr.units) ref_eq (se_callB call_len_seq ref_len rfl T.len_ (sa_cons (se_var 2) sa_nil)) se_int))
    sb_nil) sb_nil)
    (sb_cons (ss_if (st_cmp op_in_seq ref_in (se_var 1) (se_tup (sa_cons se_str (sa_cons se_str sa_nil)))) (sb_cons (ss_if (st_cmp (op_neD hr.units) ref_ne (se_callB call_len_seq ref_len rfl T.len_ (sa_cons (se_var 2) sa_nil)) se_int) (sb_cons (ss_ret se_bl)
    sb_nil) sb_nil)
    (sb_cons (ss_if (st_cmp (op_eqD hr.units) ref_eq (se_var 1) se_str) (sb_cons (ss_ret (se_and (se_call c_is_natural hr rfl (sa_cons (se_ix (se_var 2) se_int) sa_nil)) (se_one (se_callB call_isi ref_isi rfl T.isinstance_ (sa_cons (se_ix (se_var 2) se_int) (sa_cons (se_ty rfl T.tuple_) sa_nil))))))
    sb_nil) sb_nil)
    (sb_cons (ss_ret (se_call c_is_tuple hr rfl (sa_cons (se_ix (se_var 2) se_int) (sa_cons se_int (sa_cons se_int sa_nil)))))
    sb_nil))) sb_nil)
    (sb_cons (ss_if (st_cmp (op_neD hr.units) ref_ne (se_callB call_len_seq ref_len rfl T.len_ (sa_cons (se_var 2) sa_nil)) se_int) (sb_cons (ss_ret se_bl)
    sb_nil) sb_nil)
    (sb_cons (ss_if (st_cmp (op_eqD hr.units) ref_eq (se_var 1) se_str) (sb_cons (ss_ret (se_call c_is_tuple hr rfl (sa_cons (se_ix (se_var 2) se_int) (sa_cons se_int (sa_cons se_int sa_nil)))))
    sb_nil) sb_nil)
    (sb_cons (ss_ret (se_or (se_cmp (op_eqD hr.units) ref_eq (se_var 1) se_str) (se_one (se_and (se_cmp (op_eqD hr.units) ref_eq (se_var 1) se_str) (se_one (se_call c_is_natural hr rfl (sa_cons (se_ix (se_var 2) se_int) sa_nil)))))))
    sb_nil)))))))
/-! ### kinds_within -/
abbrev s_kinds_within : Stmt := top 35
abbrev n_kinds_within : List Str := ["kind", "head"]
theorem sc_kinds_within : FnScope n_kinds_within ["kind"] (defScope s_kinds_within) := ⟨rfl, rfl, rfl, by decide +kernel, rfl, by decide +kernel, by decide +kernel⟩
def F_kinds_within : List W → M W := fnM 1 2 (bCons (sSet (.nm 1) (eOp fIx (eVar 0) (eC (.int 0))))
    (bCons (sIf (tBl (eOp fEq (eVar 1) (eC (.str "row")))) (bCons (sRet (eOp fIx (eVar 0) (eC (.int 1))))
    bNil) bNil)
    (bCons (sIf (tBl (eOp fEq (eVar 1) (eC (.str "data")))) (bCons (sRet (eOp fIx (eVar 0) (eC (.int 2))))
    bNil) bNil)
    (bCons (sIf (tBl (eOp fEq (eVar 1) (eC (.str "fun")))) (bCons (sRet (eTup (aStar (eOp fIx (eVar 0) (eC (.int 1))) (aCons (eOp fIx (eVar 0) (eC (.int 2))) aNil))))
    bNil) bNil)
    (bCons (sIf (tBl (eOp fEq (eVar 1) (eC (.str "box")))) (bCons (sRet (eTup (aCons (eOp fIx (eVar 0) (eC (.int 1))) aNil)))
    bNil) bNil)
    (bCons (sRet (eTup aNil))
    bNil))))))
theorem ok_kinds_within {f : Addr} {fd : FuncData} (T : Txt K w mg) (F : Fun K "kinds_within" "kinds_within" s_kinds_within f fd) (hm : mg "kinds_within" = some (.ref f)) (b : Binds K fd ["kind"] [])  : CallOk P w K mg base "kinds_within" 1 1 F_kinds_within := by
  
  refine call_ok (k := 0) F hm sc_kinds_within b fun cdv A outer s H E hr => ?_
  have nd := sc_kinds_within.nd
  exact (sb_cons (ss_set (se_ix (se_var 0) se_int) (sg_nm 1 nd))
    (sb_cons (ss_if (st_cmp (op_eqD hr.units) ref_eq (se_var 1) se_str) (sb_cons (ss_ret (se_ix (se_var 0) se_int))
    sb_nil) sb_nil)
    (sb_cons (ss_if (st_cmp (op_eqD hr.units) ref_eq (se_var 1) se_str) (sb_cons (ss_ret (se_ix (se_var 0) se_int))
    sb_nil) sb_nil)
    (sb_cons (ss_if (st_cmp (op_eqD hr.units) ref_eq (se_var 1) se_str) (sb_cons (ss_ret (se_tup' (pa_starS (se_ix (se_var 0) se_int) (sa_cons (se_ix (se_var 0) se_int) sa_nil))))
    sb_nil) sb_nil)
    (sb_cons (ss_if (st_cmp (op_eqD hr.units) ref_eq (se_var 1) se_str) (sb_cons (ss_ret (se_tup (sa_cons (se_ix (se_var 0) se_int) sa_nil)))
    sb_nil) sb_nil)
    (sb_cons (ss_ret (se_tup sa_nil))
    sb_nil))))))
/-! ### is_kind -/
abbrev s_is_kind : Stmt := top 42
abbrev n_is_kind : List Str := ["thing", "waiting", "one"]
theorem sc_is_kind : FnScope n_is_kind ["thing"] (defScope s_is_kind) := ⟨rfl, rfl, rfl, by decide +kernel, rfl, by decide +kernel, by decide +kernel⟩
def wt1_is_kind : TM := (tVal (eVar 1))
def wb1_is_kind : SM := (bCons (sSet (.nm 2) (eMeth mPop (eVar 1) aNil))
    (bCons (sIf (tNotM (tVal (eCall F_has_outer_form (aCons (eVar 2) aNil)))) (bCons (sRet (eC (.bl false)))
    bNil) bNil)
    (bCons (sExpr (eMeth mExt (eVar 1) (aCons (eCall F_kinds_within (aCons (eVar 2) aNil)) aNil)))
    bNil)))
def F_is_kind : List W → M W := fnM 1 3 (bCons (sSet (.nm 1) (eLst (aCons (eVar 0) aNil)))
    (bCons (sWhile wt1_is_kind wb1_is_kind 1000000)
    (bCons (sRet (eC (.bl true)))
    bNil)))
theorem ok_is_kind {f : Addr} {fd : FuncData} (T : Txt K w mg) (F : Fun K "is_kind" "is_kind" s_is_kind f fd) (hm : mg "is_kind" = some (.ref f)) (b : Binds K fd ["thing"] []) (c_has_outer_form : CallOk P w K mg base "has_outer_form" 3 1 F_has_outer_form) (c_kinds_within : CallOk P w K mg base "kinds_within" 1 1 F_kinds_within) : CallOk P w K mg base "is_kind" 4 1 F_is_kind := by
  have c_has_outer_form := c_has_outer_form.mono (k := 3) (j := 3) (by omega); have c_kinds_within := c_kinds_within.mono (k := 1) (j := 3) (by omega); 
  refine call_ok (k := 3) F hm sc_is_kind b fun cdv A outer s H E hr => ?_
  have nd := sc_is_kind.nd
  exact (sb_cons (ss_set (se_lst (sa_cons (se_var 0) sa_nil)) (sg_nm 1 nd))
    (sb_cons (ss_while 1000000 PassesOwn.never (st_val (se_var 1)) (sb_cons (ss_set (se_pop (se_var 1)) (sg_nm 2 nd))
    (sb_cons (ss_if (st_not (st_val (se_call c_has_outer_form hr rfl (sa_cons (se_var 2) sa_nil)))) (sb_cons (ss_ret se_bl)
    sb_nil) sb_nil)
    (sb_cons (ss_expr (se_extend (se_var 1) (se_call c_kinds_within hr rfl (sa_cons (se_var 2) sa_nil))))
    sb_nil))))
    (sb_cons (ss_ret se_bl)
    sb_nil)))
/-! ### names_what_is -/
abbrev s_names_what_is : Stmt := top 63
abbrev n_names_what_is : List Str := ["kind", "letters", "counts"]
theorem sc_names_what_is : FnScope n_names_what_is ["kind", "letters", "counts"] (defScope s_names_what_is) := ⟨rfl, rfl, rfl, by decide +kernel, rfl, by decide +kernel, by decide +kernel⟩
def F_names_what_is : List W → M W := fnM 3 3 (bCons (sIf (tBl (eOp fEq (eOp fIx (eVar 0) (eC (.int 0))) (eC (.str "letter")))) (bCons (sRet (eOp fLt (eOp fIx (eVar 0) (eC (.int 1))) (eVar 1)))
    bNil) bNil)
    (bCons (sIf (tBl (eOp fEq (eOp fIx (eVar 0) (eC (.int 0))) (eC (.str "data")))) (bCons (sRet (eAnd (eOp fLt (eOp fIx (eVar 0) (eC (.int 1))) (eCall bLen (aCons (eVar 2) aNil))) (eOp fEq (eCall bLen (aCons (eOp fIx (eVar 0) (eC (.int 2))) aNil)) (eOp fIx (eVar 2) (eOp fIx (eVar 0) (eC (.int 1)))))))
    bNil) bNil)
    (bCons (sRet (eC (.bl true)))
    bNil)))
theorem ok_names_what_is {f : Addr} {fd : FuncData} (T : Txt K w mg) (F : Fun K "names_what_is" "names_what_is" s_names_what_is f fd) (hm : mg "names_what_is" = some (.ref f)) (b : Binds K fd ["kind", "letters", "counts"] [])  : CallOk P w K mg base "names_what_is" 1 3 F_names_what_is := by
  
  refine call_ok (k := 0) F hm sc_names_what_is b fun cdv A outer s H E hr => ?_
  have nd := sc_names_what_is.nd
  exact (sb_cons (ss_if (st_cmp (op_eqD hr.units) ref_eq (se_ix (se_var 0) se_int) se_str) (sb_cons (ss_ret (se_cmp op_lt ref_lt (se_ix (se_var 0) se_int) (se_var 1)))
    sb_nil) sb_nil)
    (sb_cons (ss_if (st_cmp (op_eqD hr.units) ref_eq (se_ix (se_var 0) se_int) se_str) (sb_cons (ss_ret (se_and (se_cmp op_lt ref_lt (se_ix (se_var 0) se_int) (se_callB call_len_seq ref_len rfl T.len_ (sa_cons (se_var 2) sa_nil))) (se_one (se_cmp (op_eqD hr.units) ref_eq (se_callB call_len_seq ref_len rfl T.len_ (sa_cons (se_ix (se_var 0) se_int) sa_nil)) (se_ix (se_var 2) (se_ix (se_var 0) se_int))))))
    sb_nil) sb_nil)
    (sb_cons (ss_ret se_bl)
    sb_nil)))
/-! ### may_be_written -/
abbrev s_may_be_written : Stmt := top 64
abbrev n_may_be_written : List Str := ["kind", "letters", "counts", "deep", "many", "level", "one", "inner"]
theorem sc_may_be_written : FnScope n_may_be_written ["kind", "letters", "counts"] (defScope s_may_be_written) := ⟨rfl, rfl, rfl, by decide +kernel, rfl, by decide +kernel, by decide +kernel⟩
def ct1_may_be_written : TM := tYesM
def ce1_may_be_written : EM := (eCall F_names_what_is (aCons (eVar 6) (aCons (eVar 1) (aCons (eVar 2) aNil))))
def ce2_may_be_written : EM := (eVar 7)
def wt3_may_be_written : TM := (tVal (eVar 5))
def wb3_may_be_written : SM := (bCons (sAug 3 fAddI (eC (.int 1)))
    (bCons (sAug 4 fAddI (eCall bLen (aCons (eVar 5) aNil)))
    (bCons (sIf (tOrM (tBl (eOp fGt (eVar 3) (eC (.int 8)))) (tBl (eOp fGt (eVar 4) (eC (.int 40))))) (bCons (sRet (eC (.bl false)))
    bNil) bNil)
    (bCons (sIf (tNotM (tVal (eCall bAll (aCons (eComp (iSeq (eVar 5)) (.nm 6) [6] ct1_may_be_written ce1_may_be_written 1000000) aNil)))) (bCons (sRet (eC (.bl false)))
    bNil) bNil)
    (bCons (sSet (.nm 5) (eComp2 (iSeq (eVar 5)) (.nm 6) [6, 7] tYesM (iSeq (eCall F_kinds_within (aCons (eVar 6) aNil))) (.nm 7) [7] tYesM ce2_may_be_written 1000000 1000000))
    bNil)))))
def F_may_be_written : List W → M W := fnM 3 8 (bCons (sSet (.nm 3) (eC (.int 0)))
    (bCons (sSet (.nm 4) (eC (.int 0)))
    (bCons (sSet (.nm 5) (eLst (aCons (eVar 0) aNil)))
    (bCons (sWhile wt3_may_be_written wb3_may_be_written 1000000)
    (bCons (sRet (eC (.bl true)))
    bNil)))))
theorem ok_may_be_written {f : Addr} {fd : FuncData} (T : Txt K w mg) (F : Fun K "may_be_written" "may_be_written" s_may_be_written f fd) (hm : mg "may_be_written" = some (.ref f)) (b : Binds K fd ["kind", "letters", "counts"] []) (c_kinds_within : CallOk P w K mg base "kinds_within" 1 1 F_kinds_within) (c_names_what_is : CallOk P w K mg base "names_what_is" 1 3 F_names_what_is) : CallOk P w K mg base "may_be_written" 2 3 F_may_be_written := by
  have c_kinds_within := c_kinds_within.mono (k := 1) (j := 1) (by omega); have c_names_what_is := c_names_what_is.mono (k := 1) (j := 1) (by omega); 
  obtain ⟨u_MOST_KINDS, m_MOST_KINDS, h_MOST_KINDS⟩ := T.k_MOST_KINDS
  obtain ⟨u_MOST_KINDS_DEEP, m_MOST_KINDS_DEEP, h_MOST_KINDS_DEEP⟩ := T.k_MOST_KINDS_DEEP
  refine call_ok (k := 1) F hm sc_may_be_written b fun cdv A outer s H E hr => ?_
  have nd := sc_may_be_written.nd
  exact (sb_cons (ss_set se_int (sg_nm 3 nd))
    (sb_cons (ss_set se_int (sg_nm 4 nd))
    (sb_cons (ss_set (se_lst (sa_cons (se_var 0) sa_nil)) (sg_nm 5 nd))
    (sb_cons (ss_while 1000000 PassesOwn.never (st_val (se_var 5)) (sb_cons (ss_aug nd iop_add ref_addI se_int)
    (sb_cons (ss_aug nd iop_add ref_addI (se_callB call_len_seq ref_len rfl T.len_ (sa_cons (se_var 5) sa_nil)))
    (sb_cons (ss_if (st_w (sw_or (st_cmp op_gt ref_gt (se_var 3) (se_gl rfl m_MOST_KINDS_DEEP h_MOST_KINDS_DEEP)) (sw_or1 (st_cmp op_gt ref_gt (se_var 4) (se_gl rfl m_MOST_KINDS h_MOST_KINDS))))) (sb_cons (ss_ret se_bl)
    sb_nil) sb_nil)
    (sb_cons (ss_if (st_not (st_val (se_callB (cr_all rfl) ref_all rfl T.all_ (sa_cons (se_comp [("one", 6)] 1000000 rfl nd (blkOk_by (by with_unfolding_all rfl)) (by decide) (si_seq (se_var 5)) (fun _ _ _ _ _ => (sg_nm 6 nd)) (fun _ _ _ _ _ => sts_nil) (fun _ _ _ _ _ => (se_call c_names_what_is hr rfl (sa_cons (se_var 6) (sa_cons (se_var 1) (sa_cons (se_var 2) sa_nil)))))) sa_nil)))) (sb_cons (ss_ret se_bl)
    sb_nil) sb_nil)
    (sb_cons (ss_setComp2 [("one", 6), ("inner", 7)] [7] 1000000 1000000 rfl nd (blkOk_by (by with_unfolding_all rfl)) (by decide) (by decide) (by decide) rfl (si_seq (se_var 5)) (fun _ _ _ _ _ => (sg_nm 6 nd)) (fun _ _ _ _ _ => sts_nil) (fun _ _ _ _ _ => (si_seq (se_call c_kinds_within hr rfl (sa_cons (se_var 6) sa_nil)))) (fun _ _ _ _ _ => (sg_nm 7 nd)) (fun _ _ _ _ _ => sts_nil) (fun _ _ _ _ _ => (se_var 7)))
    sb_nil))))))
    (sb_cons (ss_ret se_bl)
    sb_nil)))))
/-! ### is_way -/
abbrev s_is_way : Stmt := top 65
abbrev n_is_way : List Str := ["thing", "letters", "counts", "part"]
theorem sc_is_way : FnScope n_is_way ["thing", "letters", "counts"] (defScope s_is_way) := ⟨rfl, rfl, rfl, by decide +kernel, rfl, by decide +kernel, by decide +kernel⟩
def ct1_is_way : TM := tYesM
def ce1_is_way : EM := (eAnd (eCall F_is_kind (aCons (eVar 3) aNil)) (eCall F_may_be_written (aCons (eVar 3) (aCons (eVar 1) (aCons (eVar 2) aNil)))))
def F_is_way : List W → M W := fnM 3 4 (bCons (sIf (tNotM (tVal (eCall F_is_tuple (aCons (eVar 0) (aCons (eC (.int 0)) (aCons (eC (.int 3)) aNil)))))) (bCons (sRet (eC (.bl false)))
    bNil) bNil)
    (bCons (sRet (eCall bAll (aCons (eComp (iSeq (eVar 0)) (.nm 3) [3] ct1_is_way ce1_is_way 1000000) aNil)))
    bNil))
theorem ok_is_way {f : Addr} {fd : FuncData} (T : Txt K w mg) (F : Fun K "is_way" "is_way" s_is_way f fd) (hm : mg "is_way" = some (.ref f)) (b : Binds K fd ["thing", "letters", "counts"] []) (c_is_tuple : CallOk P w K mg base "is_tuple" 1 3 F_is_tuple) (c_is_kind : CallOk P w K mg base "is_kind" 4 1 F_is_kind) (c_may_be_written : CallOk P w K mg base "may_be_written" 2 3 F_may_be_written) : CallOk P w K mg base "is_way" 5 3 F_is_way := by
  have c_is_tuple := c_is_tuple.mono (k := 1) (j := 4) (by omega); have c_is_kind := c_is_kind.mono (k := 4) (j := 4) (by omega); have c_may_be_written := c_may_be_written.mono (k := 2) (j := 4) (by omega); 
  obtain ⟨u_MOST_PARTS, m_MOST_PARTS, h_MOST_PARTS⟩ := T.k_MOST_PARTS
  refine call_ok (k := 4) F hm sc_is_way b fun cdv A outer s H E hr => ?_
  have nd := sc_is_way.nd
  exact (sb_cons (ss_if (st_not (st_val (se_call c_is_tuple hr rfl (sa_cons (se_var 0) (sa_cons se_int (sa_cons (se_gl rfl m_MOST_PARTS h_MOST_PARTS) sa_nil)))))) (sb_cons (ss_ret se_bl)
    sb_nil) sb_nil)
    (sb_cons (ss_ret (se_callB (cr_all rfl) ref_all rfl T.all_ (sa_cons (se_comp [("part", 3)] 1000000 rfl nd (blkOk_by (by with_unfolding_all rfl)) (by decide) (si_seq (se_var 0)) (fun _ _ _ _ _ => (sg_nm 3 nd)) (fun _ _ _ _ _ => sts_nil) (fun _ _ _ _ _ => (se_and (se_call c_is_kind hr rfl (sa_cons (se_var 3) sa_nil)) (se_one (se_call c_may_be_written hr rfl (sa_cons (se_var 3) (sa_cons (se_var 1) (sa_cons (se_var 2) sa_nil)))))))) sa_nil)))
    sb_nil))
/-! ### is_choice -/
abbrev s_is_choice : Stmt := top 66
abbrev n_is_choice : List Str := ["thing", "counts", "letters", "ways", "way"]
theorem sc_is_choice : FnScope n_is_choice ["thing", "counts"] (defScope s_is_choice) := ⟨rfl, rfl, rfl, by decide +kernel, rfl, by decide +kernel, by decide +kernel⟩
def ct1_is_choice : TM := tYesM
def ce1_is_choice : EM := (eCall F_is_way (aCons (eVar 4) (aCons (eVar 2) (aCons (eVar 1) aNil))))
def F_is_choice : List W → M W := fnM 2 5 (bCons (sIf (tOrM (tNotM (tVal (eCall F_is_tuple (aCons (eVar 0) (aCons (eC (.int 2)) (aCons (eC (.int 2)) aNil)))))) (tNotM (tVal (eCall F_is_between (aCons (eOp fIx (eVar 0) (eC (.int 0))) (aCons (eC (.int 0)) (aCons (eC (.int 3)) aNil))))))) (bCons (sRet (eC (.bl false)))
    bNil) bNil)
    (bCons (sSet (.tp [(.nm 2), (.nm 3)]) (eVar 0))
    (bCons (sRet (eAnd (eCall F_is_tuple (aCons (eVar 3) (aCons (eC (.int 1)) (aCons (eC (.int 4)) aNil)))) (eCall bAll (aCons (eComp (iSeq (eVar 3)) (.nm 4) [4] ct1_is_choice ce1_is_choice 1000000) aNil))))
    bNil)))
theorem ok_is_choice {f : Addr} {fd : FuncData} (T : Txt K w mg) (F : Fun K "is_choice" "is_choice" s_is_choice f fd) (hm : mg "is_choice" = some (.ref f)) (b : Binds K fd ["thing", "counts"] []) (c_is_tuple : CallOk P w K mg base "is_tuple" 1 3 F_is_tuple) (c_is_between : CallOk P w K mg base "is_between" 2 3 F_is_between) (c_is_way : CallOk P w K mg base "is_way" 5 3 F_is_way) : CallOk P w K mg base "is_choice" 6 2 F_is_choice := by
  have c_is_tuple := c_is_tuple.mono (k := 1) (j := 5) (by omega); have c_is_between := c_is_between.mono (k := 2) (j := 5) (by omega); have c_is_way := c_is_way.mono (k := 5) (j := 5) (by omega); 
  obtain ⟨u_MOST_CHOICE_LETTERS, m_MOST_CHOICE_LETTERS, h_MOST_CHOICE_LETTERS⟩ := T.k_MOST_CHOICE_LETTERS
  obtain ⟨u_MOST_WAYS, m_MOST_WAYS, h_MOST_WAYS⟩ := T.k_MOST_WAYS
  refine call_ok (k := 5) F hm sc_is_choice b fun cdv A outer s H E hr => ?_
  have nd := sc_is_choice.nd
  exact (sb_cons (ss_if (st_w (sw_or (st_not (st_val (se_call c_is_tuple hr rfl (sa_cons (se_var 0) (sa_cons se_int (sa_cons se_int sa_nil)))))) (sw_or1 (st_not (st_val (se_call c_is_between hr rfl (sa_cons (se_ix (se_var 0) se_int) (sa_cons se_int (sa_cons (se_gl rfl m_MOST_CHOICE_LETTERS h_MOST_CHOICE_LETTERS) sa_nil))))))))) (sb_cons (ss_ret se_bl)
    sb_nil) sb_nil)
    (sb_cons (ss_set (se_var 0) (sg_tp rfl (sgs_cons (sg_nm 2 nd) (sgs_cons (sg_nm 3 nd) sgs_nil))))
    (sb_cons (ss_ret (se_and (se_call c_is_tuple hr rfl (sa_cons (se_var 3) (sa_cons se_int (sa_cons (se_gl rfl m_MOST_WAYS h_MOST_WAYS) sa_nil)))) (se_one (se_callB (cr_all rfl) ref_all rfl T.all_ (sa_cons (se_comp [("way", 4)] 1000000 rfl nd (blkOk_by (by with_unfolding_all rfl)) (by decide) (si_seq (se_var 3)) (fun _ _ _ _ _ => (sg_nm 4 nd)) (fun _ _ _ _ _ => sts_nil) (fun _ _ _ _ _ => (se_call c_is_way hr rfl (sa_cons (se_var 4) (sa_cons (se_var 2) (sa_cons (se_var 1) sa_nil)))))) sa_nil)))))
    sb_nil)))
/-! ### body_letters -/
abbrev s_body_letters : Stmt := top 62
abbrev n_body_letters : List Str := ["bodies", "body"]
theorem sc_body_letters : FnScope n_body_letters ["bodies"] (defScope s_body_letters) := ⟨rfl, rfl, rfl, by decide +kernel, rfl, by decide +kernel, by decide +kernel⟩
def ct1_body_letters : TM := tYesM
def ce1_body_letters : EM := (eCall F_letters_told (aCons (eVar 1) (aCons (eC (.int 4)) (aCons (eC (.int 4)) aNil))))
def F_body_letters : List W → M W := fnM 1 2 (bCons (sRet (eComp (iSeq (eVar 0)) (.nm 1) [1] ct1_body_letters ce1_body_letters 1000000))
    bNil)
theorem ok_body_letters {f : Addr} {fd : FuncData} (T : Txt K w mg) (F : Fun K "body_letters" "body_letters" s_body_letters f fd) (hm : mg "body_letters" = some (.ref f)) (b : Binds K fd ["bodies"] []) (c_letters_told : CallOk P w K mg base "letters_told" 3 3 F_letters_told) : CallOk P w K mg base "body_letters" 4 1 F_body_letters := by
  have c_letters_told := c_letters_told.mono (k := 3) (j := 3) (by omega); 
  obtain ⟨u_MOST_BODY_LETTERS, m_MOST_BODY_LETTERS, h_MOST_BODY_LETTERS⟩ := T.k_MOST_BODY_LETTERS
  refine call_ok (k := 3) F hm sc_body_letters b fun cdv A outer s H E hr => ?_
  have nd := sc_body_letters.nd
  exact (sb_cons (ss_ret (se_comp [("body", 1)] 1000000 rfl nd (blkOk_by (by with_unfolding_all rfl)) (by decide) (si_seq (se_var 0)) (fun _ _ _ _ _ => (sg_nm 1 nd)) (fun _ _ _ _ _ => sts_nil) (fun _ _ _ _ _ => (se_call c_letters_told hr rfl (sa_cons (se_var 1) (sa_cons se_int (sa_cons (se_gl rfl m_MOST_BODY_LETTERS h_MOST_BODY_LETTERS) sa_nil)))))))
    sb_nil)
/-! ### are_kinds -/
abbrev s_are_kinds : Stmt := top 43
abbrev n_are_kinds : List Str := ["thing", "item"]
theorem sc_are_kinds : FnScope n_are_kinds ["thing"] (defScope s_are_kinds) := ⟨rfl, rfl, rfl, by decide +kernel, rfl, by decide +kernel, by decide +kernel⟩
def ct1_are_kinds : TM := tYesM
def ce1_are_kinds : EM := (eCall F_is_kind (aCons (eVar 1) aNil))
def F_are_kinds : List W → M W := fnM 1 2 (bCons (sRet (eAnd (eCall bIsi (aCons (eVar 0) (aCons (eC (.ext (.ty "tuple"))) aNil))) (eCall bAll (aCons (eComp (iSeq (eVar 0)) (.nm 1) [1] ct1_are_kinds ce1_are_kinds 1000000) aNil))))
    bNil)
theorem ok_are_kinds {f : Addr} {fd : FuncData} (T : Txt K w mg) (F : Fun K "are_kinds" "are_kinds" s_are_kinds f fd) (hm : mg "are_kinds" = some (.ref f)) (b : Binds K fd ["thing"] []) (c_is_kind : CallOk P w K mg base "is_kind" 4 1 F_is_kind) : CallOk P w K mg base "are_kinds" 5 1 F_are_kinds := by
  have c_is_kind := c_is_kind.mono (k := 4) (j := 4) (by omega); 
  refine call_ok (k := 4) F hm sc_are_kinds b fun cdv A outer s H E hr => ?_
  have nd := sc_are_kinds.nd
  exact (sb_cons (ss_ret (se_and (se_callB call_isi ref_isi rfl T.isinstance_ (sa_cons (se_var 0) (sa_cons (se_ty rfl T.tuple_) sa_nil))) (se_one (se_callB (cr_all rfl) ref_all rfl T.all_ (sa_cons (se_comp [("item", 1)] 1000000 rfl nd (blkOk_by (by with_unfolding_all rfl)) (by decide) (si_seq (se_var 0)) (fun _ _ _ _ _ => (sg_nm 1 nd)) (fun _ _ _ _ _ => sts_nil) (fun _ _ _ _ _ => (se_call c_is_kind hr rfl (sa_cons (se_var 1) sa_nil)))) sa_nil)))))
    sb_nil)
/-! ### head_of -/
abbrev s_head_of : Stmt := top 68
abbrev n_head_of : List Str := ["thing"]
theorem sc_head_of : FnScope n_head_of ["thing"] (defScope s_head_of) := ⟨rfl, rfl, rfl, by decide +kernel, rfl, by decide +kernel, by decide +kernel⟩
def F_head_of : List W → M W := fnM 1 1 (bCons (sIf (tAndM (tVal (eCall F_is_tuple (aCons (eVar 0) (aCons (eC (.int 1)) (aCons (eC (.int 5)) aNil))))) (tVal (eCall bIsi (aCons (eOp fIx (eVar 0) (eC (.int 0))) (aCons (eC (.ext (.ty "str"))) aNil))))) (bCons (sRet (eOp fIx (eVar 0) (eC (.int 0))))
    bNil) bNil)
    (bCons (sRet (eC (.str "")))
    bNil))
theorem ok_head_of {f : Addr} {fd : FuncData} (T : Txt K w mg) (F : Fun K "head_of" "head_of" s_head_of f fd) (hm : mg "head_of" = some (.ref f)) (b : Binds K fd ["thing"] []) (c_is_tuple : CallOk P w K mg base "is_tuple" 1 3 F_is_tuple) : CallOk P w K mg base "head_of" 2 1 F_head_of := by
  have c_is_tuple := c_is_tuple.mono (k := 1) (j := 1) (by omega); 
  refine call_ok (k := 1) F hm sc_head_of b fun cdv A outer s H E hr => ?_
  have nd := sc_head_of.nd
  exact (sb_cons (ss_if (st_w (sw_and (st_val (se_call c_is_tuple hr rfl (sa_cons (se_var 0) (sa_cons se_int (sa_cons se_int sa_nil))))) (sw_and1 (st_val (se_callB call_isi ref_isi rfl T.isinstance_ (sa_cons (se_ix (se_var 0) se_int) (sa_cons (se_ty rfl T.str_) sa_nil))))))) (sb_cons (ss_ret (se_ix (se_var 0) se_int))
    sb_nil) sb_nil)
    (sb_cons (ss_ret se_str)
    sb_nil))
/-! ### are_naturals -/
abbrev s_are_naturals : Stmt := top 32
abbrev n_are_naturals : List Str := ["thing", "item"]
theorem sc_are_naturals : FnScope n_are_naturals ["thing"] (defScope s_are_naturals) := ⟨rfl, rfl, rfl, by decide +kernel, rfl, by decide +kernel, by decide +kernel⟩
def ct1_are_naturals : TM := tYesM
def ce1_are_naturals : EM := (eCall F_is_natural (aCons (eVar 1) aNil))
def F_are_naturals : List W → M W := fnM 1 2 (bCons (sRet (eAnd (eCall bIsi (aCons (eVar 0) (aCons (eC (.ext (.ty "tuple"))) aNil))) (eCall bAll (aCons (eComp (iSeq (eVar 0)) (.nm 1) [1] ct1_are_naturals ce1_are_naturals 1000000) aNil))))
    bNil)
theorem ok_are_naturals {f : Addr} {fd : FuncData} (T : Txt K w mg) (F : Fun K "are_naturals" "are_naturals" s_are_naturals f fd) (hm : mg "are_naturals" = some (.ref f)) (b : Binds K fd ["thing"] []) (c_is_natural : CallOk P w K mg base "is_natural" 2 1 F_is_natural) : CallOk P w K mg base "are_naturals" 3 1 F_are_naturals := by
  have c_is_natural := c_is_natural.mono (k := 2) (j := 2) (by omega); 
  refine call_ok (k := 2) F hm sc_are_naturals b fun cdv A outer s H E hr => ?_
  have nd := sc_are_naturals.nd
  exact (sb_cons (ss_ret (se_and (se_callB call_isi ref_isi rfl T.isinstance_ (sa_cons (se_var 0) (sa_cons (se_ty rfl T.tuple_) sa_nil))) (se_one (se_callB (cr_all rfl) ref_all rfl T.all_ (sa_cons (se_comp [("item", 1)] 1000000 rfl nd (blkOk_by (by with_unfolding_all rfl)) (by decide) (si_seq (se_var 0)) (fun _ _ _ _ _ => (sg_nm 1 nd)) (fun _ _ _ _ _ => sts_nil) (fun _ _ _ _ _ => (se_call c_is_natural hr rfl (sa_cons (se_var 1) sa_nil)))) sa_nil)))))
    sb_nil)
/-! ### word_has_form -/
abbrev s_word_has_form : Stmt := top 67
abbrev n_word_has_form : List Str := ["word", "form", "ways", "many"]
theorem sc_word_has_form : FnScope n_word_has_form ["word", "form", "ways", "many"] (defScope s_word_has_form) := ⟨rfl, rfl, rfl, by decide +kernel, rfl, by decide +kernel, by decide +kernel⟩
def F_word_has_form : List W → M W := fnM 4 4 (bCons (sIf (tBl (eOp fEq (eVar 1) (eC (.str "number")))) (bCons (sRet (eCall F_is_between (aCons (eVar 0) (aCons (eUn fNeg (eC (.int 1000000000000))) (aCons (eC (.int 1000000000000)) aNil)))))
    bNil) bNil)
    (bCons (sIf (tBl (eOp fEq (eVar 1) (eC (.str "place")))) (bCons (sRet (eCall F_is_natural (aCons (eVar 0) aNil)))
    bNil) bNil)
    (bCons (sIf (tBl (eOp fEq (eVar 1) (eC (.str "places")))) (bCons (sRet (eCall F_are_naturals (aCons (eVar 0) aNil)))
    bNil) bNil)
    (bCons (sIf (tBl (eOp fEq (eVar 1) (eC (.str "row places")))) (bCons (sRet (eAnd (eCall F_are_naturals (aCons (eVar 0) aNil)) (eChain fLe fLe (eC (.int 1)) (eCall bLen (aCons (eVar 0) aNil)) (eC (.int 4)))))
    bNil) bNil)
    (bCons (sIf (tBl (eOp fEq (eVar 1) (eC (.str "choice")))) (bCons (sRet (eCall F_is_between (aCons (eVar 0) (aCons (eC (.int 0)) (aCons (eOp fSub (eCall bLen (aCons (eVar 2) aNil)) (eC (.int 1))) aNil)))))
    bNil) bNil)
    (bCons (sIf (tBl (eOp fEq (eVar 1) (eC (.str "body")))) (bCons (sRet (eCall F_is_between (aCons (eVar 0) (aCons (eC (.int 0)) (aCons (eOp fSub (eVar 3) (eC (.int 1))) aNil)))))
    bNil) bNil)
    (bCons (sIf (tBl (eOp fEq (eVar 1) (eC (.str "kinds")))) (bCons (sRet (eCall F_are_kinds (aCons (eVar 0) aNil)))
    bNil) bNil)
    (bCons (sRet (eOr (eOp fEq (eVar 1) (eC (.str "block"))) (eCall bIsi (aCons (eVar 0) (aCons (eC (.ext (.ty "tuple"))) aNil)))))
    bNil))))))))
theorem ok_word_has_form {f : Addr} {fd : FuncData} (T : Txt K w mg) (F : Fun K "word_has_form" "word_has_form" s_word_has_form f fd) (hm : mg "word_has_form" = some (.ref f)) (b : Binds K fd ["word", "form", "ways", "many"] []) (c_is_between : CallOk P w K mg base "is_between" 2 3 F_is_between) (c_is_natural : CallOk P w K mg base "is_natural" 2 1 F_is_natural) (c_are_kinds : CallOk P w K mg base "are_kinds" 5 1 F_are_kinds) (c_are_naturals : CallOk P w K mg base "are_naturals" 3 1 F_are_naturals) : CallOk P w K mg base "word_has_form" 6 4 F_word_has_form := by
  have c_is_between := c_is_between.mono (k := 2) (j := 5) (by omega); have c_is_natural := c_is_natural.mono (k := 2) (j := 5) (by omega); have c_are_kinds := c_are_kinds.mono (k := 5) (j := 5) (by omega); have c_are_naturals := c_are_naturals.mono (k := 3) (j := 5) (by omega); 
  obtain ⟨u_LARGEST, m_LARGEST, h_LARGEST⟩ := T.k_LARGEST
  obtain ⟨u_MOST_ROW, m_MOST_ROW, h_MOST_ROW⟩ := T.k_MOST_ROW
  refine call_ok (k := 5) F hm sc_word_has_form b fun cdv A outer s H E hr => ?_
  have nd := sc_word_has_form.nd
  exact (sb_cons (ss_if (st_cmp (op_eqD hr.units) ref_eq (se_var 1) se_str) (sb_cons (ss_ret (se_call c_is_between hr rfl (sa_cons (se_var 0) (sa_cons (se_un un_neg ref_neg (se_gl rfl m_LARGEST h_LARGEST)) (sa_cons (se_gl rfl m_LARGEST h_LARGEST) sa_nil)))))
    sb_nil) sb_nil)
    (sb_cons (ss_if (st_cmp (op_eqD hr.units) ref_eq (se_var 1) se_str) (sb_cons (ss_ret (se_call c_is_natural hr rfl (sa_cons (se_var 0) sa_nil)))
    sb_nil) sb_nil)
    (sb_cons (ss_if (st_cmp (op_eqD hr.units) ref_eq (se_var 1) se_str) (sb_cons (ss_ret (se_call c_are_naturals hr rfl (sa_cons (se_var 0) sa_nil)))
    sb_nil) sb_nil)
    (sb_cons (ss_if (st_cmp (op_eqD hr.units) ref_eq (se_var 1) se_str) (sb_cons (ss_ret (se_and (se_call c_are_naturals hr rfl (sa_cons (se_var 0) sa_nil)) (se_one (se_chain op_le op_le ref_le ref_le se_int (se_callB call_len_seq ref_len rfl T.len_ (sa_cons (se_var 0) sa_nil)) (se_gl rfl m_MOST_ROW h_MOST_ROW)))))
    sb_nil) sb_nil)
    (sb_cons (ss_if (st_cmp (op_eqD hr.units) ref_eq (se_var 1) se_str) (sb_cons (ss_ret (se_call c_is_between hr rfl (sa_cons (se_var 0) (sa_cons se_int (sa_cons (se_op op_sub ref_sub (se_callB call_len_seq ref_len rfl T.len_ (sa_cons (se_var 2) sa_nil)) se_int) sa_nil)))))
    sb_nil) sb_nil)
    (sb_cons (ss_if (st_cmp (op_eqD hr.units) ref_eq (se_var 1) se_str) (sb_cons (ss_ret (se_call c_is_between hr rfl (sa_cons (se_var 0) (sa_cons se_int (sa_cons (se_op op_sub ref_sub (se_var 3) se_int) sa_nil)))))
    sb_nil) sb_nil)
    (sb_cons (ss_if (st_cmp (op_eqD hr.units) ref_eq (se_var 1) se_str) (sb_cons (ss_ret (se_call c_are_kinds hr rfl (sa_cons (se_var 0) sa_nil)))
    sb_nil) sb_nil)
    (sb_cons (ss_ret (se_or (se_cmp (op_eqD hr.units) ref_eq (se_var 1) se_str) (se_one (se_callB call_isi ref_isi rfl T.isinstance_ (sa_cons (se_var 0) (sa_cons (se_ty rfl T.tuple_) sa_nil))))))
    sb_nil))))))))
/-! ### words_have_forms -/
abbrev s_words_have_forms : Stmt := top 69
abbrev n_words_have_forms : List Str := ["words", "told", "ways", "many", "word", "form"]
theorem sc_words_have_forms : FnScope n_words_have_forms ["words", "told", "ways", "many"] (defScope s_words_have_forms) := ⟨rfl, rfl, rfl, by decide +kernel, rfl, by decide +kernel, by decide +kernel⟩
def ct1_words_have_forms : TM := tYesM
def ce1_words_have_forms : EM := (eCall F_word_has_form (aCons (eVar 4) (aCons (eVar 5) (aCons (eVar 2) (aCons (eVar 3) aNil)))))
def F_words_have_forms : List W → M W := fnM 4 6 (bCons (sIf (tBl (eOp fNe (eCall bLen (aCons (eVar 0) aNil)) (eCall bLen (aCons (eVar 1) aNil)))) (bCons (sRet (eC (.bl false)))
    bNil) bNil)
    (bCons (sRet (eCall bAll (aCons (eComp (iZipB (aCons (eVar 0) (aCons (eVar 1) aNil))) (.tp [(.nm 4), (.nm 5)]) [4, 5] ct1_words_have_forms ce1_words_have_forms 1000000) aNil)))
    bNil))
theorem ok_words_have_forms {f : Addr} {fd : FuncData} (T : Txt K w mg) (F : Fun K "words_have_forms" "words_have_forms" s_words_have_forms f fd) (hm : mg "words_have_forms" = some (.ref f)) (b : Binds K fd ["words", "told", "ways", "many"] []) (c_word_has_form : CallOk P w K mg base "word_has_form" 6 4 F_word_has_form) : CallOk P w K mg base "words_have_forms" 7 4 F_words_have_forms := by
  have c_word_has_form := c_word_has_form.mono (k := 6) (j := 6) (by omega); 
  refine call_ok (k := 6) F hm sc_words_have_forms b fun cdv A outer s H E hr => ?_
  have nd := sc_words_have_forms.nd
  exact (sb_cons (ss_if (st_cmp (op_neD hr.units) ref_ne (se_callB call_len_seq ref_len rfl T.len_ (sa_cons (se_var 0) sa_nil)) (se_callB call_len_seq ref_len rfl T.len_ (sa_cons (se_var 1) sa_nil))) (sb_cons (ss_ret se_bl)
    sb_nil) sb_nil)
    (sb_cons (ss_ret (se_callB (cr_all rfl) ref_all rfl T.all_ (sa_cons (se_comp [("word", 4), ("form", 5)] 1000000 rfl nd (blkOk_by (by with_unfolding_all rfl)) (by decide) (si_zipB rfl T.zip_ (sa_cons (se_var 0) (sa_cons (se_var 1) sa_nil))) (fun _ _ _ _ _ => (sg_tp rfl (sgs_cons (sg_nm 4 nd) (sgs_cons (sg_nm 5 nd) sgs_nil)))) (fun _ _ _ _ _ => sts_nil) (fun _ _ _ _ _ => (se_call c_word_has_form hr rfl (sa_cons (se_var 4) (sa_cons (se_var 5) (sa_cons (se_var 2) (sa_cons (se_var 3) sa_nil))))))) sa_nil)))
    sb_nil))
/-! ### is_step -/
abbrev s_is_step : Stmt := top 70
abbrev n_is_step : List Str := ["thing", "ways", "many", "told"]
theorem sc_is_step : FnScope n_is_step ["thing", "ways", "many"] (defScope s_is_step) := ⟨rfl, rfl, rfl, by decide +kernel, rfl, by decide +kernel, by decide +kernel⟩
def F_is_step : List W → M W := fnM 3 4 (bCons (sSet (.nm 3) (eUn (fTabGet tab_STEP_FORMS) (eCall F_head_of (aCons (eVar 0) aNil))))
    (bCons (sIf (tOrM (tBl (eOp fIsN (eVar 3) (eC .non))) (tNotM (tVal (eCall F_words_have_forms (aCons (eSl (eVar 0) (oSome (eC (.int 1))) oNone) (aCons (eVar 3) (aCons (eVar 1) (aCons (eVar 2) aNil)))))))) (bCons (sRet (eC (.bl false)))
    bNil) bNil)
    (bCons (sRet (eOr (eOp fNe (eOp fIx (eVar 0) (eC (.int 0))) (eC (.str "way"))) (eOp fLt (eOp fIx (eVar 0) (eC (.int 3))) (eOp fIx (eVar 1) (eOp fIx (eVar 0) (eC (.int 1)))))))
    bNil)))
theorem ok_is_step {f : Addr} {fd : FuncData} (T : Txt K w mg) (F : Fun K "is_step" "is_step" s_is_step f fd) (hm : mg "is_step" = some (.ref f)) (b : Binds K fd ["thing", "ways", "many"] []) (c_head_of : CallOk P w K mg base "head_of" 2 1 F_head_of) (c_words_have_forms : CallOk P w K mg base "words_have_forms" 7 4 F_words_have_forms) : CallOk P w K mg base "is_step" 8 3 F_is_step := by
  have c_head_of := c_head_of.mono (k := 2) (j := 7) (by omega); have c_words_have_forms := c_words_have_forms.mono (k := 7) (j := 7) (by omega); 
  obtain ⟨a_STEP_FORMS, m_STEP_FORMS, h_STEP_FORMS⟩ := T.t_STEP_FORMS
  refine call_ok (k := 7) F hm sc_is_step b fun cdv A outer s H E hr => ?_
  have nd := sc_is_step.nd
  exact (sb_cons (ss_set (se_tabget rfl m_STEP_FORMS h_STEP_FORMS (se_call c_head_of hr rfl (sa_cons (se_var 0) sa_nil)) ⟨rfl, rfl, rfl, rfl⟩) (sg_nm 3 nd))
    (sb_cons (ss_if (st_w (sw_or (st_cmp op_isN ref_isN (se_var 3) se_non) (sw_or1 (st_not (st_val (se_call c_words_have_forms hr rfl (sa_cons (se_slice (se_var 0) (so_some se_int) so_none) (sa_cons (se_var 3) (sa_cons (se_var 1) (sa_cons (se_var 2) sa_nil)))))))))) (sb_cons (ss_ret se_bl)
    sb_nil) sb_nil)
    (sb_cons (ss_ret (se_or (se_cmp (op_neD hr.units) ref_ne (se_ix (se_var 0) se_int) se_str) (se_one (se_cmp op_lt ref_lt (se_ix (se_var 0) se_int) (se_ix (se_var 1) (se_ix (se_var 0) se_int))))))
    sb_nil)))
/-! ### is_end -/
abbrev s_is_end : Stmt := top 71
abbrev n_is_end : List Str := ["thing", "ways", "many", "told"]
theorem sc_is_end : FnScope n_is_end ["thing", "ways", "many"] (defScope s_is_end) := ⟨rfl, rfl, rfl, by decide +kernel, rfl, by decide +kernel, by decide +kernel⟩
def F_is_end : List W → M W := fnM 3 4 (bCons (sSet (.nm 3) (eUn (fTabGet tab_END_FORMS) (eCall F_head_of (aCons (eVar 0) aNil))))
    (bCons (sRet (eAnd (eOp fNotN (eVar 3) (eC .non)) (eCall F_words_have_forms (aCons (eSl (eVar 0) (oSome (eC (.int 1))) oNone) (aCons (eVar 3) (aCons (eVar 1) (aCons (eVar 2) aNil)))))))
    bNil))
theorem ok_is_end {f : Addr} {fd : FuncData} (T : Txt K w mg) (F : Fun K "is_end" "is_end" s_is_end f fd) (hm : mg "is_end" = some (.ref f)) (b : Binds K fd ["thing", "ways", "many"] []) (c_head_of : CallOk P w K mg base "head_of" 2 1 F_head_of) (c_words_have_forms : CallOk P w K mg base "words_have_forms" 7 4 F_words_have_forms) : CallOk P w K mg base "is_end" 8 3 F_is_end := by
  have c_head_of := c_head_of.mono (k := 2) (j := 7) (by omega); have c_words_have_forms := c_words_have_forms.mono (k := 7) (j := 7) (by omega); 
  obtain ⟨a_END_FORMS, m_END_FORMS, h_END_FORMS⟩ := T.t_END_FORMS
  refine call_ok (k := 7) F hm sc_is_end b fun cdv A outer s H E hr => ?_
  have nd := sc_is_end.nd
  exact (sb_cons (ss_set (se_tabget rfl m_END_FORMS h_END_FORMS (se_call c_head_of hr rfl (sa_cons (se_var 0) sa_nil)) ⟨rfl, rfl, rfl, rfl⟩) (sg_nm 3 nd))
    (sb_cons (ss_ret (se_and (se_cmp op_notN ref_notN (se_var 3) se_non) (se_one (se_call c_words_have_forms hr rfl (sa_cons (se_slice (se_var 0) (so_some se_int) so_none) (sa_cons (se_var 3) (sa_cons (se_var 1) (sa_cons (se_var 2) sa_nil))))))))
    sb_nil))
/-! ### blocks_within -/
abbrev s_blocks_within : Stmt := top 72
abbrev n_blocks_within : List Str := ["end"]
theorem sc_blocks_within : FnScope n_blocks_within ["end"] (defScope s_blocks_within) := ⟨rfl, rfl, rfl, by decide +kernel, rfl, by decide +kernel, by decide +kernel⟩
def F_blocks_within : List W → M W := fnM 1 1 (bCons (sIf (tBl (eOp fEq (eOp fIx (eVar 0) (eC (.int 0))) (eC (.str "if")))) (bCons (sRet (eSl (eVar 0) (oSome (eC (.int 2))) oNone))
    bNil) bNil)
    (bCons (sIf (tBl (eOp fEq (eOp fIx (eVar 0) (eC (.int 0))) (eC (.str "look")))) (bCons (sRet (eOp fIx (eVar 0) (eC (.int 2))))
    bNil) bNil)
    (bCons (sRet (eTup aNil))
    bNil)))
theorem ok_blocks_within {f : Addr} {fd : FuncData} (T : Txt K w mg) (F : Fun K "blocks_within" "blocks_within" s_blocks_within f fd) (hm : mg "blocks_within" = some (.ref f)) (b : Binds K fd ["end"] [])  : CallOk P w K mg base "blocks_within" 1 1 F_blocks_within := by
  
  refine call_ok (k := 0) F hm sc_blocks_within b fun cdv A outer s H E hr => ?_
  have nd := sc_blocks_within.nd
  exact (sb_cons (ss_if (st_cmp (op_eqD hr.units) ref_eq (se_ix (se_var 0) se_int) se_str) (sb_cons (ss_ret (se_slice (se_var 0) (so_some se_int) so_none))
    sb_nil) sb_nil)
    (sb_cons (ss_if (st_cmp (op_eqD hr.units) ref_eq (se_ix (se_var 0) se_int) se_str) (sb_cons (ss_ret (se_ix (se_var 0) se_int))
    sb_nil) sb_nil)
    (sb_cons (ss_ret (se_tup sa_nil))
    sb_nil)))
/-! ### rows_of -/
abbrev s_rows_of : Stmt := top 73
abbrev n_rows_of : List Str := ["block", "ways", "many", "found", "waiting", "one", "deep", "steps", "end", "step", "within"]
theorem sc_rows_of : FnScope n_rows_of ["block", "ways", "many"] (defScope s_rows_of) := ⟨rfl, rfl, rfl, by decide +kernel, rfl, by decide +kernel, by decide +kernel⟩
def ct1_rows_of : TM := tYesM
def ce1_rows_of : EM := (eCall F_is_step (aCons (eVar 9) (aCons (eVar 1) (aCons (eVar 2) aNil))))
def ct2_rows_of : TM := tYesM
def ce2_rows_of : EM := (eTup (aCons (eVar 10) (aCons (eOp fAdd (eVar 6) (eC (.int 1))) aNil)))
def wt3_rows_of : TM := (tVal (eVar 4))
def wb3_rows_of : SM := (bCons (sSet (.tp [(.nm 5), (.nm 6)]) (eMeth mPop (eVar 4) aNil))
    (bCons (sIf (tOrM (tBl (eOp fGt (eVar 6) (eC (.int 6)))) (tOrM (tNotM (tVal (eCall F_is_tuple (aCons (eVar 5) (aCons (eC (.int 2)) (aCons (eC (.int 2)) aNil)))))) (tNotM (tVal (eCall F_is_tuple (aCons (eOp fIx (eVar 5) (eC (.int 0))) (aCons (eC (.int 0)) (aCons (eC (.int 60)) aNil)))))))) (bCons (sRet (eC .non))
    bNil) bNil)
    (bCons (sSet (.tp [(.nm 7), (.nm 8)]) (eVar 5))
    (bCons (sExpr (eMeth mExt (eVar 3) (aCons (eVar 7) aNil)))
    (bCons (sIf (tOrM (tBl (eOp fGt (eCall bLen (aCons (eVar 3) aNil)) (eC (.int 60)))) (tNotM (tVal (eCall F_is_end (aCons (eVar 8) (aCons (eVar 1) (aCons (eVar 2) aNil))))))) (bCons (sRet (eC .non))
    bNil) bNil)
    (bCons (sIf (tNotM (tVal (eCall bAll (aCons (eComp (iSeq (eVar 7)) (.nm 9) [9] ct1_rows_of ce1_rows_of 1000000) aNil)))) (bCons (sRet (eC .non))
    bNil) bNil)
    (bCons (sExpr (eMeth mExt (eVar 4) (aCons (eComp (iSeq (eCall F_blocks_within (aCons (eVar 8) aNil))) (.nm 10) [10] ct2_rows_of ce2_rows_of 1000000) aNil)))
    bNil)))))))
def F_rows_of : List W → M W := fnM 3 11 (bCons (sSet (.nm 3) (eLst aNil))
    (bCons (sSet (.nm 4) (eLst (aCons (eTup (aCons (eVar 0) (aCons (eC (.int 1)) aNil))) aNil)))
    (bCons (sWhile wt3_rows_of wb3_rows_of 1000000)
    (bCons (sRet (eVar 3))
    bNil))))
theorem ok_rows_of {f : Addr} {fd : FuncData} (T : Txt K w mg) (F : Fun K "rows_of" "rows_of" s_rows_of f fd) (hm : mg "rows_of" = some (.ref f)) (b : Binds K fd ["block", "ways", "many"] []) (c_is_tuple : CallOk P w K mg base "is_tuple" 1 3 F_is_tuple) (c_is_step : CallOk P w K mg base "is_step" 8 3 F_is_step) (c_is_end : CallOk P w K mg base "is_end" 8 3 F_is_end) (c_blocks_within : CallOk P w K mg base "blocks_within" 1 1 F_blocks_within) : CallOk P w K mg base "rows_of" 9 3 F_rows_of := by
  have c_is_tuple := c_is_tuple.mono (k := 1) (j := 8) (by omega); have c_is_step := c_is_step.mono (k := 8) (j := 8) (by omega); have c_is_end := c_is_end.mono (k := 8) (j := 8) (by omega); have c_blocks_within := c_blocks_within.mono (k := 1) (j := 8) (by omega); 
  obtain ⟨u_MOST_BLOCKS_DEEP, m_MOST_BLOCKS_DEEP, h_MOST_BLOCKS_DEEP⟩ := T.k_MOST_BLOCKS_DEEP
  obtain ⟨u_MOST_STEPS, m_MOST_STEPS, h_MOST_STEPS⟩ := T.k_MOST_STEPS
  refine call_ok (k := 8) F hm sc_rows_of b fun cdv A outer s H E hr => ?_
  have nd := sc_rows_of.nd
  exact (sb_cons (ss_set (se_lst sa_nil) (sg_nm 3 nd))
    (sb_cons (ss_set (se_lst (sa_cons (se_tup (sa_cons (se_var 0) (sa_cons se_int sa_nil))) sa_nil)) (sg_nm 4 nd))
    (sb_cons (ss_while 1000000 PassesOwn.never (st_val (se_var 4)) (sb_cons (ss_set (se_pop (se_var 4)) (sg_tp rfl (sgs_cons (sg_nm 5 nd) (sgs_cons (sg_nm 6 nd) sgs_nil))))
    (sb_cons (ss_if (st_w (sw_or (st_cmp op_gt ref_gt (se_var 6) (se_gl rfl m_MOST_BLOCKS_DEEP h_MOST_BLOCKS_DEEP)) (sw_or (st_not (st_val (se_call c_is_tuple hr rfl (sa_cons (se_var 5) (sa_cons se_int (sa_cons se_int sa_nil)))))) (sw_or1 (st_not (st_val (se_call c_is_tuple hr rfl (sa_cons (se_ix (se_var 5) se_int) (sa_cons se_int (sa_cons (se_gl rfl m_MOST_STEPS h_MOST_STEPS) sa_nil)))))))))) (sb_cons (ss_ret se_non)
    sb_nil) sb_nil)
    (sb_cons (ss_set (se_var 5) (sg_tp rfl (sgs_cons (sg_nm 7 nd) (sgs_cons (sg_nm 8 nd) sgs_nil))))
    (sb_cons (ss_expr (se_extend (se_var 3) (se_var 7)))
    (sb_cons (ss_if (st_w (sw_or (st_cmp op_gt ref_gt (se_callB call_len_seq ref_len rfl T.len_ (sa_cons (se_var 3) sa_nil)) (se_gl rfl m_MOST_STEPS h_MOST_STEPS)) (sw_or1 (st_not (st_val (se_call c_is_end hr rfl (sa_cons (se_var 8) (sa_cons (se_var 1) (sa_cons (se_var 2) sa_nil))))))))) (sb_cons (ss_ret se_non)
    sb_nil) sb_nil)
    (sb_cons (ss_if (st_not (st_val (se_callB (cr_all rfl) ref_all rfl T.all_ (sa_cons (se_comp [("step", 9)] 1000000 rfl nd (blkOk_by (by with_unfolding_all rfl)) (by decide) (si_seq (se_var 7)) (fun _ _ _ _ _ => (sg_nm 9 nd)) (fun _ _ _ _ _ => sts_nil) (fun _ _ _ _ _ => (se_call c_is_step hr rfl (sa_cons (se_var 9) (sa_cons (se_var 1) (sa_cons (se_var 2) sa_nil)))))) sa_nil)))) (sb_cons (ss_ret se_non)
    sb_nil) sb_nil)
    (sb_cons (ss_expr (se_extend (se_var 4) (se_comp [("within", 10)] 1000000 rfl nd (blkOk_by (by with_unfolding_all rfl)) (by decide) (si_seq (se_call c_blocks_within hr rfl (sa_cons (se_var 8) sa_nil))) (fun _ _ _ _ _ => (sg_nm 10 nd)) (fun _ _ _ _ _ => sts_nil) (fun _ _ _ _ _ => (se_tup (sa_cons (se_var 10) (sa_cons (se_op or_add ref_add (se_var 6) se_int) sa_nil)))))))
    sb_nil))))))))
    (sb_cons (ss_ret (se_var 3))
    sb_nil))))
/-! ### body_rows -/
abbrev s_body_rows : Stmt := top 74
abbrev n_body_rows : List Str := ["body", "ways", "many", "_", "places", "answer", "block"]
theorem sc_body_rows : FnScope n_body_rows ["body", "ways", "many"] (defScope s_body_rows) := ⟨rfl, rfl, rfl, by decide +kernel, rfl, by decide +kernel, by decide +kernel⟩
def F_body_rows : List W → M W := fnM 3 7 (bCons (sIf (tOrM (tNotM (tVal (eCall F_is_tuple (aCons (eVar 0) (aCons (eC (.int 4)) (aCons (eC (.int 4)) aNil)))))) (tNotM (tVal (eCall F_is_between (aCons (eOp fIx (eVar 0) (eC (.int 0))) (aCons (eC (.int 0)) (aCons (eC (.int 4)) aNil))))))) (bCons (sRet (eC .non))
    bNil) bNil)
    (bCons (sSet (.tp [(.nm 3), (.nm 4), (.nm 5), (.nm 6)]) (eVar 0))
    (bCons (sIf (tOrM (tNotM (tVal (eCall F_is_tuple (aCons (eVar 4) (aCons (eC (.int 0)) (aCons (eC (.int 5)) aNil)))))) (tOrM (tNotM (tVal (eCall F_are_kinds (aCons (eVar 4) aNil)))) (tNotM (tVal (eCall F_is_kind (aCons (eVar 5) aNil)))))) (bCons (sRet (eC .non))
    bNil) bNil)
    (bCons (sRet (eCall F_rows_of (aCons (eVar 6) (aCons (eVar 1) (aCons (eVar 2) aNil)))))
    bNil))))
theorem ok_body_rows {f : Addr} {fd : FuncData} (T : Txt K w mg) (F : Fun K "body_rows" "body_rows" s_body_rows f fd) (hm : mg "body_rows" = some (.ref f)) (b : Binds K fd ["body", "ways", "many"] []) (c_is_tuple : CallOk P w K mg base "is_tuple" 1 3 F_is_tuple) (c_is_between : CallOk P w K mg base "is_between" 2 3 F_is_between) (c_is_kind : CallOk P w K mg base "is_kind" 4 1 F_is_kind) (c_are_kinds : CallOk P w K mg base "are_kinds" 5 1 F_are_kinds) (c_rows_of : CallOk P w K mg base "rows_of" 9 3 F_rows_of) : CallOk P w K mg base "body_rows" 10 3 F_body_rows := by
  have c_is_tuple := c_is_tuple.mono (k := 1) (j := 9) (by omega); have c_is_between := c_is_between.mono (k := 2) (j := 9) (by omega); have c_is_kind := c_is_kind.mono (k := 4) (j := 9) (by omega); have c_are_kinds := c_are_kinds.mono (k := 5) (j := 9) (by omega); have c_rows_of := c_rows_of.mono (k := 9) (j := 9) (by omega); 
  obtain ⟨u_MOST_BODY_LETTERS, m_MOST_BODY_LETTERS, h_MOST_BODY_LETTERS⟩ := T.k_MOST_BODY_LETTERS
  obtain ⟨u_MOST_PLACES, m_MOST_PLACES, h_MOST_PLACES⟩ := T.k_MOST_PLACES
  refine call_ok (k := 9) F hm sc_body_rows b fun cdv A outer s H E hr => ?_
  have nd := sc_body_rows.nd
  exact (sb_cons (ss_if (st_w (sw_or (st_not (st_val (se_call c_is_tuple hr rfl (sa_cons (se_var 0) (sa_cons se_int (sa_cons se_int sa_nil)))))) (sw_or1 (st_not (st_val (se_call c_is_between hr rfl (sa_cons (se_ix (se_var 0) se_int) (sa_cons se_int (sa_cons (se_gl rfl m_MOST_BODY_LETTERS h_MOST_BODY_LETTERS) sa_nil))))))))) (sb_cons (ss_ret se_non)
    sb_nil) sb_nil)
    (sb_cons (ss_set (se_var 0) (sg_tp rfl (sgs_cons (sg_nm 3 nd) (sgs_cons (sg_nm 4 nd) (sgs_cons (sg_nm 5 nd) (sgs_cons (sg_nm 6 nd) sgs_nil))))))
    (sb_cons (ss_if (st_w (sw_or (st_not (st_val (se_call c_is_tuple hr rfl (sa_cons (se_var 4) (sa_cons se_int (sa_cons (se_gl rfl m_MOST_PLACES h_MOST_PLACES) sa_nil)))))) (sw_or (st_not (st_val (se_call c_are_kinds hr rfl (sa_cons (se_var 4) sa_nil)))) (sw_or1 (st_not (st_val (se_call c_is_kind hr rfl (sa_cons (se_var 5) sa_nil)))))))) (sb_cons (ss_ret se_non)
    sb_nil) sb_nil)
    (sb_cons (ss_ret (se_call c_rows_of hr rfl (sa_cons (se_var 6) (sa_cons (se_var 1) (sa_cons (se_var 2) sa_nil)))))
    sb_nil))))
/-! ### has_right_kinds -/
abbrev s_has_right_kinds : Stmt := top 75
abbrev n_has_right_kinds : List Str := ["body", "steps", "counts", "body_counts", "letters", "places", "answer", "_", "kinds", "step", "asked", "kind"]
theorem sc_has_right_kinds : FnScope n_has_right_kinds ["body", "steps", "counts", "body_counts"] (defScope s_has_right_kinds) := ⟨rfl, rfl, rfl, by decide +kernel, rfl, by decide +kernel, by decide +kernel⟩
def fb1_has_right_kinds : SM := (bCons (sIf (tBl (eOp (fInB false) (eOp fIx (eVar 9) (eC (.int 0))) (eTup (aCons (eC (.str "way")) (aCons (eC (.str "take")) (aCons (eC (.str "body")) aNil)))))) (bCons (sSet (.nm 10) (eIf (tBl (eOp fEq (eOp fIx (eVar 9) (eC (.int 0))) (eC (.str "way")))) (eOp fIx (eVar 2) (eOp fIx (eVar 9) (eC (.int 1)))) (eOp fIx (eVar 3) (eOp fIx (eVar 9) (eC (.int 1))))))
    (bCons (sIf (tBl (eOp fNe (eCall bLen (aCons (eOp fIx (eVar 9) (eC (.int 2))) aNil)) (eVar 10))) (bCons (sRet (eC (.bl false)))
    bNil) bNil)
    (bCons (sExpr (eMeth mExt (eVar 8) (aCons (eOp fIx (eVar 9) (eC (.int 2))) aNil)))
    bNil))) bNil)
    bNil)
def ct2_has_right_kinds : TM := tYesM
def ce2_has_right_kinds : EM := (eCall F_may_be_written (aCons (eVar 11) (aCons (eVar 4) (aCons (eVar 2) aNil))))
def F_has_right_kinds : List W → M W := fnM 4 12 (bCons (sSet (.tp [(.nm 4), (.nm 5), (.nm 6), (.nm 7)]) (eVar 0))
    (bCons (sSet (.nm 8) (eLst (aStar (eVar 5) (aCons (eVar 6) aNil))))
    (bCons (sFor (iSeq (eVar 1)) (.nm 9) fb1_has_right_kinds 1000000)
    (bCons (sRet (eCall bAll (aCons (eComp (iSeq (eVar 8)) (.nm 11) [11] ct2_has_right_kinds ce2_has_right_kinds 1000000) aNil)))
    bNil))))
theorem ok_has_right_kinds {f : Addr} {fd : FuncData} (T : Txt K w mg) (F : Fun K "has_right_kinds" "has_right_kinds" s_has_right_kinds f fd) (hm : mg "has_right_kinds" = some (.ref f)) (b : Binds K fd ["body", "steps", "counts", "body_counts"] []) (c_may_be_written : CallOk P w K mg base "may_be_written" 2 3 F_may_be_written) : CallOk P w K mg base "has_right_kinds" 3 4 F_has_right_kinds := by
  have c_may_be_written := c_may_be_written.mono (k := 2) (j := 2) (by omega); 
  refine call_ok (k := 2) F hm sc_has_right_kinds b fun cdv A outer s H E hr => ?_
  have nd := sc_has_right_kinds.nd
  exact (sb_cons (ss_set (se_var 0) (sg_tp rfl (sgs_cons (sg_nm 4 nd) (sgs_cons (sg_nm 5 nd) (sgs_cons (sg_nm 6 nd) (sgs_cons (sg_nm 7 nd) sgs_nil))))))
    (sb_cons (ss_set (se_lst' (pa_starS (se_var 5) (sa_cons (se_var 6) sa_nil))) (sg_nm 8 nd))
    (sb_cons (ss_for 1000000 PassesOwn.never rfl (si_seq (se_var 1)) (sg_nm 9 nd) (sb_cons (ss_if (st_cmp op_in_seq ref_in (se_ix (se_var 9) se_int) (se_tup (sa_cons se_str (sa_cons se_str (sa_cons se_str sa_nil))))) (sb_cons (ss_set (se_if (st_cmp (op_eqD hr.units) ref_eq (se_ix (se_var 9) se_int) se_str) (se_ix (se_var 2) (se_ix (se_var 9) se_int)) (se_ix (se_var 3) (se_ix (se_var 9) se_int))) (sg_nm 10 nd))
    (sb_cons (ss_if (st_cmp (op_neD hr.units) ref_ne (se_callB call_len_seq ref_len rfl T.len_ (sa_cons (se_ix (se_var 9) se_int) sa_nil)) (se_var 10)) (sb_cons (ss_ret se_bl)
    sb_nil) sb_nil)
    (sb_cons (ss_expr (se_extend (se_var 8) (se_ix (se_var 9) se_int)))
    sb_nil))) sb_nil)
    sb_nil))
    (sb_cons (ss_ret (se_callB (cr_all rfl) ref_all rfl T.all_ (sa_cons (se_comp [("kind", 11)] 1000000 rfl nd (blkOk_by (by with_unfolding_all rfl)) (by decide) (si_seq (se_var 8)) (fun _ _ _ _ _ => (sg_nm 11 nd)) (fun _ _ _ _ _ => sts_nil) (fun _ _ _ _ _ => (se_call c_may_be_written hr rfl (sa_cons (se_var 11) (sa_cons (se_var 4) (sa_cons (se_var 2) sa_nil)))))) sa_nil)))
    sb_nil))))
/-! ### takes_numbers_alone -/
abbrev s_takes_numbers_alone : Stmt := top 76
abbrev n_takes_numbers_alone : List Str := ["body", "letters", "places", "answer", "_", "kind"]
theorem sc_takes_numbers_alone : FnScope n_takes_numbers_alone ["body"] (defScope s_takes_numbers_alone) := ⟨rfl, rfl, rfl, by decide +kernel, rfl, by decide +kernel, by decide +kernel⟩
def ct1_takes_numbers_alone : TM := tYesM
def ce1_takes_numbers_alone : EM := (eOp fEq (eOp fIx (eVar 5) (eC (.int 0))) (eC (.str "num")))
def F_takes_numbers_alone : List W → M W := fnM 1 6 (bCons (sSet (.tp [(.nm 1), (.nm 2), (.nm 3), (.nm 4)]) (eVar 0))
    (bCons (sRet (eAnd (eOp fEq (eVar 1) (eC (.int 0))) (eCall bAll (aCons (eComp (iSeq (eTup (aStar (eVar 2) (aCons (eVar 3) aNil)))) (.nm 5) [5] ct1_takes_numbers_alone ce1_takes_numbers_alone 1000000) aNil))))
    bNil))
theorem ok_takes_numbers_alone {f : Addr} {fd : FuncData} (T : Txt K w mg) (F : Fun K "takes_numbers_alone" "takes_numbers_alone" s_takes_numbers_alone f fd) (hm : mg "takes_numbers_alone" = some (.ref f)) (b : Binds K fd ["body"] [])  : CallOk P w K mg base "takes_numbers_alone" 1 1 F_takes_numbers_alone := by
  
  refine call_ok (k := 0) F hm sc_takes_numbers_alone b fun cdv A outer s H E hr => ?_
  have nd := sc_takes_numbers_alone.nd
  exact (sb_cons (ss_set (se_var 0) (sg_tp rfl (sgs_cons (sg_nm 1 nd) (sgs_cons (sg_nm 2 nd) (sgs_cons (sg_nm 3 nd) (sgs_cons (sg_nm 4 nd) sgs_nil))))))
    (sb_cons (ss_ret (se_and (se_cmp (op_eqD hr.units) ref_eq (se_var 1) se_int) (se_one (se_callB (cr_all rfl) ref_all rfl T.all_ (sa_cons (se_comp [("kind", 5)] 1000000 rfl nd (blkOk_by (by with_unfolding_all rfl)) (by decide) (si_seq (se_tup' (pa_starS (se_var 2) (sa_cons (se_var 3) sa_nil)))) (fun _ _ _ _ _ => (sg_nm 5 nd)) (fun _ _ _ _ _ => sts_nil) (fun _ _ _ _ _ => (se_cmp (op_eqD hr.units) ref_eq (se_ix (se_var 5) se_int) se_str))) sa_nil)))))
    sb_nil))
/-! ### body_fault -/
abbrev s_body_fault : Stmt := top 77
abbrev n_body_fault : List Str := ["book", "bodies", "number", "body", "steps", "_", "ways"]
theorem sc_body_fault : FnScope n_body_fault ["book", "bodies", "number"] (defScope s_body_fault) := ⟨rfl, rfl, rfl, by decide +kernel, rfl, by decide +kernel, by decide +kernel⟩
def ct1_body_fault : TM := tYesM
def ce1_body_fault : EM := (eCall bLen (aCons (eVar 6) aNil))
def F_body_fault : List W → M W := fnM 3 7 (bCons (sSet (.nm 3) (eOp fIx (eVar 1) (eVar 2)))
    (bCons (sSet (.nm 4) (eCall F_body_rows (aCons (eVar 3) (aCons (eComp (iSeq (eVar 0)) (.tp [(.nm 5), (.nm 6)]) [5, 6] ct1_body_fault ce1_body_fault 1000000) (aCons (eCall bLen (aCons (eVar 1) aNil)) aNil)))))
    (bCons (sIf (tBl (eOp fIsN (eVar 4) (eC .non))) (bCons (sRet (eC (.str "form")))
    bNil) bNil)
    (bCons (sIf (tNotM (tVal (eCall F_has_right_kinds (aCons (eVar 3) (aCons (eVar 4) (aCons (eCall F_choice_letters (aCons (eVar 0) aNil)) (aCons (eCall F_body_letters (aCons (eVar 1) aNil)) aNil))))))) (bCons (sRet (eC (.str "kinds")))
    bNil) bNil)
    (bCons (sIf (tAndM (tBl (eOp fEq (eVar 2) (eC (.int 0)))) (tNotM (tVal (eCall F_takes_numbers_alone (aCons (eVar 3) aNil))))) (bCons (sRet (eC (.str "first")))
    bNil) bNil)
    (bCons (sRet (eC .non))
    bNil))))))
theorem ok_body_fault {f : Addr} {fd : FuncData} (T : Txt K w mg) (F : Fun K "body_fault" "body_fault" s_body_fault f fd) (hm : mg "body_fault" = some (.ref f)) (b : Binds K fd ["book", "bodies", "number"] []) (c_choice_letters : CallOk P w K mg base "choice_letters" 4 1 F_choice_letters) (c_body_letters : CallOk P w K mg base "body_letters" 4 1 F_body_letters) (c_body_rows : CallOk P w K mg base "body_rows" 10 3 F_body_rows) (c_has_right_kinds : CallOk P w K mg base "has_right_kinds" 3 4 F_has_right_kinds) (c_takes_numbers_alone : CallOk P w K mg base "takes_numbers_alone" 1 1 F_takes_numbers_alone) : CallOk P w K mg base "body_fault" 11 3 F_body_fault := by
  have c_choice_letters := c_choice_letters.mono (k := 4) (j := 10) (by omega); have c_body_letters := c_body_letters.mono (k := 4) (j := 10) (by omega); have c_body_rows := c_body_rows.mono (k := 10) (j := 10) (by omega); have c_has_right_kinds := c_has_right_kinds.mono (k := 3) (j := 10) (by omega); have c_takes_numbers_alone := c_takes_numbers_alone.mono (k := 1) (j := 10) (by omega); 
  refine call_ok (k := 10) F hm sc_body_fault b fun cdv A outer s H E hr => ?_
  have nd := sc_body_fault.nd
  exact (sb_cons (ss_set (se_ix (se_var 1) (se_var 2)) (sg_nm 3 nd))
    (sb_cons (ss_set (se_call c_body_rows hr rfl (sa_cons (se_var 3) (sa_cons (se_comp [("_", 5), ("ways", 6)] 1000000 rfl nd (blkOk_by (by with_unfolding_all rfl)) (by decide) (si_seq (se_var 0)) (fun _ _ _ _ _ => (sg_tp rfl (sgs_cons (sg_nm 5 nd) (sgs_cons (sg_nm 6 nd) sgs_nil)))) (fun _ _ _ _ _ => sts_nil) (fun _ _ _ _ _ => (se_callB call_len_seq ref_len rfl T.len_ (sa_cons (se_var 6) sa_nil)))) (sa_cons (se_callB call_len_seq ref_len rfl T.len_ (sa_cons (se_var 1) sa_nil)) sa_nil)))) (sg_nm 4 nd))
    (sb_cons (ss_if (st_cmp op_isN ref_isN (se_var 4) se_non) (sb_cons (ss_ret se_str)
    sb_nil) sb_nil)
    (sb_cons (ss_if (st_not (st_val (se_call c_has_right_kinds hr rfl (sa_cons (se_var 3) (sa_cons (se_var 4) (sa_cons (se_call c_choice_letters hr rfl (sa_cons (se_var 0) sa_nil)) (sa_cons (se_call c_body_letters hr rfl (sa_cons (se_var 1) sa_nil)) sa_nil))))))) (sb_cons (ss_ret se_str)
    sb_nil) sb_nil)
    (sb_cons (ss_if (st_w (sw_and (st_cmp (op_eqD hr.units) ref_eq (se_var 2) se_int) (sw_and1 (st_not (st_val (se_call c_takes_numbers_alone hr rfl (sa_cons (se_var 3) sa_nil))))))) (sb_cons (ss_ret se_str)
    sb_nil) sb_nil)
    (sb_cons (ss_ret se_non)
    sb_nil))))))
/-! ### form_fault -/
abbrev s_form_fault : Stmt := top 78
abbrev n_form_fault : List Str := ["book", "bodies", "counts", "number", "choice", "word"]
theorem sc_form_fault : FnScope n_form_fault ["book", "bodies"] (defScope s_form_fault) := ⟨rfl, rfl, rfl, by decide +kernel, rfl, by decide +kernel, by decide +kernel⟩
def fb1_form_fault : SM := (bCons (sIf (tNotM (tVal (eCall F_is_choice (aCons (eVar 4) (aCons (eVar 2) aNil))))) (bCons (sRet (eTup (aCons (eC (.str "book")) (aCons (eVar 3) aNil))))
    bNil) bNil)
    bNil)
def fb2_form_fault : SM := (bCons (sSet (.nm 5) (eCall F_body_fault (aCons (eVar 0) (aCons (eVar 1) (aCons (eVar 3) aNil)))))
    (bCons (sIf (tBl (eOp fNotN (eVar 5) (eC .non))) (bCons (sRet (eTup (aCons (eC (.str "body")) (aCons (eVar 3) (aCons (eVar 5) aNil)))))
    bNil) bNil)
    bNil))
def F_form_fault : List W → M W := fnM 2 6 (bCons (sIf (tNotM (tVal (eCall F_is_tuple (aCons (eVar 0) (aCons (eC (.int 0)) (aCons (eC (.int 6)) aNil)))))) (bCons (sRet (eTup (aCons (eC (.str "book")) (aCons (eUn fNeg (eC (.int 1))) aNil))))
    bNil) bNil)
    (bCons (sSet (.nm 2) (eCall F_choice_letters (aCons (eVar 0) aNil)))
    (bCons (sFor (iEnumM (aCons (eVar 0) aNil)) (.tp [(.nm 3), (.nm 4)]) fb1_form_fault 1000000)
    (bCons (sIf (tNotM (tVal (eCall F_is_tuple (aCons (eVar 1) (aCons (eC (.int 1)) (aCons (eC (.int 12)) aNil)))))) (bCons (sRet (eTup (aCons (eC (.str "bodies")) aNil)))
    bNil) bNil)
    (bCons (sFor (iRng1M (aCons (eCall bLen (aCons (eVar 1) aNil)) aNil)) (.nm 3) fb2_form_fault 1000000)
    (bCons (sRet (eC .non))
    bNil))))))
theorem ok_form_fault {f : Addr} {fd : FuncData} (T : Txt K w mg) (F : Fun K "form_fault" "form_fault" s_form_fault f fd) (hm : mg "form_fault" = some (.ref f)) (b : Binds K fd ["book", "bodies"] []) (c_is_tuple : CallOk P w K mg base "is_tuple" 1 3 F_is_tuple) (c_choice_letters : CallOk P w K mg base "choice_letters" 4 1 F_choice_letters) (c_is_choice : CallOk P w K mg base "is_choice" 6 2 F_is_choice) (c_body_fault : CallOk P w K mg base "body_fault" 11 3 F_body_fault) : CallOk P w K mg base "form_fault" 12 2 F_form_fault := by
  have c_is_tuple := c_is_tuple.mono (k := 1) (j := 11) (by omega); have c_choice_letters := c_choice_letters.mono (k := 4) (j := 11) (by omega); have c_is_choice := c_is_choice.mono (k := 6) (j := 11) (by omega); have c_body_fault := c_body_fault.mono (k := 11) (j := 11) (by omega); 
  obtain ⟨u_MOST_BODIES, m_MOST_BODIES, h_MOST_BODIES⟩ := T.k_MOST_BODIES
  obtain ⟨u_MOST_CHOICES, m_MOST_CHOICES, h_MOST_CHOICES⟩ := T.k_MOST_CHOICES
  refine call_ok (k := 11) F hm sc_form_fault b fun cdv A outer s H E hr => ?_
  have nd := sc_form_fault.nd
  exact (sb_cons (ss_if (st_not (st_val (se_call c_is_tuple hr rfl (sa_cons (se_var 0) (sa_cons se_int (sa_cons (se_gl rfl m_MOST_CHOICES h_MOST_CHOICES) sa_nil)))))) (sb_cons (ss_ret (se_tup (sa_cons se_str (sa_cons (se_un un_neg ref_neg se_int) sa_nil))))
    sb_nil) sb_nil)
    (sb_cons (ss_set (se_call c_choice_letters hr rfl (sa_cons (se_var 0) sa_nil)) (sg_nm 2 nd))
    (sb_cons (ss_for 1000000 PassesOwn.never rfl (si_enum rfl T.enumerate_ (sa_cons (se_var 0) sa_nil)) (sg_tp rfl (sgs_cons (sg_nm 3 nd) (sgs_cons (sg_nm 4 nd) sgs_nil))) (sb_cons (ss_if (st_not (st_val (se_call c_is_choice hr rfl (sa_cons (se_var 4) (sa_cons (se_var 2) sa_nil))))) (sb_cons (ss_ret (se_tup (sa_cons se_str (sa_cons (se_var 3) sa_nil))))
    sb_nil) sb_nil)
    sb_nil))
    (sb_cons (ss_if (st_not (st_val (se_call c_is_tuple hr rfl (sa_cons (se_var 1) (sa_cons se_int (sa_cons (se_gl rfl m_MOST_BODIES h_MOST_BODIES) sa_nil)))))) (sb_cons (ss_ret (se_tup (sa_cons se_str sa_nil)))
    sb_nil) sb_nil)
    (sb_cons (ss_for 1000000 PassesOwn.never rfl (si_rng1 rfl T.range_ (sa_cons (se_callB call_len_seq ref_len rfl T.len_ (sa_cons (se_var 1) sa_nil)) sa_nil)) (sg_nm 3 nd) (sb_cons (ss_set (se_call c_body_fault hr rfl (sa_cons (se_var 0) (sa_cons (se_var 1) (sa_cons (se_var 3) sa_nil)))) (sg_nm 5 nd))
    (sb_cons (ss_if (st_cmp op_notN ref_notN (se_var 5) se_non) (sb_cons (ss_ret (se_tup (sa_cons se_str (sa_cons (se_var 3) (sa_cons (se_var 5) sa_nil)))))
    sb_nil) sb_nil)
    sb_nil)))
    (sb_cons (ss_ret se_non)
    sb_nil))))))
/-! ### num_kind -/
abbrev s_num_kind : Stmt := top 87
abbrev n_num_kind : List Str := ["step", "table", "book", "bodies"]
theorem sc_num_kind : FnScope n_num_kind ["step", "table", "book", "bodies"] (defScope s_num_kind) := ⟨rfl, rfl, rfl, by decide +kernel, rfl, by decide +kernel, by decide +kernel⟩
def F_num_kind : List W → M W := fnM 4 4 (bCons (sRet (eC (.tup ((["num"] : List Str).map .str))))
    bNil)
theorem ok_num_kind {f : Addr} {fd : FuncData} (T : Txt K w mg) (F : Fun K "num_kind" "num_kind" s_num_kind f fd) (hm : mg "num_kind" = some (.ref f)) (b : Binds K fd ["step", "table", "book", "bodies"] [])  : CallOk P w K mg base "num_kind" 1 4 F_num_kind := by
  
  obtain ⟨u_NUM, m_NUM, h_NUM⟩ := T.k_NUM
  refine call_ok (k := 0) F hm sc_num_kind b fun cdv A outer s H E hr => ?_
  have nd := sc_num_kind.nd
  exact (sb_cons (ss_ret (se_gl rfl m_NUM h_NUM))
    sb_nil)
/-! ### nil_kind -/
abbrev s_nil_kind : Stmt := top 88
abbrev n_nil_kind : List Str := ["step", "table", "book", "bodies"]
theorem sc_nil_kind : FnScope n_nil_kind ["step", "table", "book", "bodies"] (defScope s_nil_kind) := ⟨rfl, rfl, rfl, by decide +kernel, rfl, by decide +kernel, by decide +kernel⟩
def F_nil_kind : List W → M W := fnM 4 4 (bCons (sRet (eC (.tup ((["nil"] : List Str).map .str))))
    bNil)
theorem ok_nil_kind {f : Addr} {fd : FuncData} (T : Txt K w mg) (F : Fun K "nil_kind" "nil_kind" s_nil_kind f fd) (hm : mg "nil_kind" = some (.ref f)) (b : Binds K fd ["step", "table", "book", "bodies"] [])  : CallOk P w K mg base "nil_kind" 1 4 F_nil_kind := by
  
  obtain ⟨u_NIL, m_NIL, h_NIL⟩ := T.k_NIL
  refine call_ok (k := 0) F hm sc_nil_kind b fun cdv A outer s H E hr => ?_
  have nd := sc_nil_kind.nd
  exact (sb_cons (ss_ret (se_gl rfl m_NIL h_NIL))
    sb_nil)
/-! ### are_made_alike -/
abbrev s_are_made_alike : Stmt := top 37
abbrev n_are_made_alike : List Str := ["kind", "other"]
theorem sc_are_made_alike : FnScope n_are_made_alike ["kind", "other"] (defScope s_are_made_alike) := ⟨rfl, rfl, rfl, by decide +kernel, rfl, by decide +kernel, by decide +kernel⟩
def F_are_made_alike : List W → M W := fnM 2 2 (bCons (sIf (tBl (eOp fNe (eOp fIx (eVar 0) (eC (.int 0))) (eOp fIx (eVar 1) (eC (.int 0))))) (bCons (sRet (eC (.bl false)))
    bNil) bNil)
    (bCons (sIf (tAndM (tBl (eOp (fInB false) (eOp fIx (eVar 0) (eC (.int 0))) (eTup (aCons (eC (.str "data")) (aCons (eC (.str "letter")) aNil))))) (tBl (eOp fNe (eOp fIx (eVar 0) (eC (.int 1))) (eOp fIx (eVar 1) (eC (.int 1)))))) (bCons (sRet (eC (.bl false)))
    bNil) bNil)
    (bCons (sRet (eOp fEq (eCall bLen (aCons (eCall F_kinds_within (aCons (eVar 0) aNil)) aNil)) (eCall bLen (aCons (eCall F_kinds_within (aCons (eVar 1) aNil)) aNil))))
    bNil)))
theorem ok_are_made_alike {f : Addr} {fd : FuncData} (T : Txt K w mg) (F : Fun K "are_made_alike" "are_made_alike" s_are_made_alike f fd) (hm : mg "are_made_alike" = some (.ref f)) (b : Binds K fd ["kind", "other"] []) (c_kinds_within : CallOk P w K mg base "kinds_within" 1 1 F_kinds_within) : CallOk P w K mg base "are_made_alike" 2 2 F_are_made_alike := by
  have c_kinds_within := c_kinds_within.mono (k := 1) (j := 1) (by omega); 
  refine call_ok (k := 1) F hm sc_are_made_alike b fun cdv A outer s H E hr => ?_
  have nd := sc_are_made_alike.nd
  exact (sb_cons (ss_if (st_cmp (op_neD hr.units) ref_ne (se_ix (se_var 0) se_int) (se_ix (se_var 1) se_int)) (sb_cons (ss_ret se_bl)
    sb_nil) sb_nil)
    (sb_cons (ss_if (st_w (sw_and (st_cmp op_in_seq ref_in (se_ix (se_var 0) se_int) (se_tup (sa_cons se_str (sa_cons se_str sa_nil)))) (sw_and1 (st_cmp (op_neD hr.units) ref_ne (se_ix (se_var 0) se_int) (se_ix (se_var 1) se_int))))) (sb_cons (ss_ret se_bl)
    sb_nil) sb_nil)
    (sb_cons (ss_ret (se_cmp (op_eqD hr.units) ref_eq (se_callB call_len_seq ref_len rfl T.len_ (sa_cons (se_call c_kinds_within hr rfl (sa_cons (se_var 0) sa_nil)) sa_nil)) (se_callB call_len_seq ref_len rfl T.len_ (sa_cons (se_call c_kinds_within hr rfl (sa_cons (se_var 1) sa_nil)) sa_nil))))
    sb_nil)))
/-! ### are_same -/
abbrev s_are_same : Stmt := top 39
abbrev n_are_same : List Str := ["kind", "other", "waiting", "one", "two"]
theorem sc_are_same : FnScope n_are_same ["kind", "other"] (defScope s_are_same) := ⟨rfl, rfl, rfl, by decide +kernel, rfl, by decide +kernel, by decide +kernel⟩
def wt1_are_same : TM := (tVal (eVar 2))
def wb1_are_same : SM := (bCons (sSet (.tp [(.nm 3), (.nm 4)]) (eMeth mPop (eVar 2) aNil))
    (bCons (sIf (tNotM (tVal (eCall F_are_made_alike (aCons (eVar 3) (aCons (eVar 4) aNil))))) (bCons (sRet (eC (.bl false)))
    bNil) bNil)
    (bCons (sExpr (eMeth mExt (eVar 2) (aCons (eCall bLZip (aCons (eCall F_kinds_within (aCons (eVar 3) aNil)) (aCons (eCall F_kinds_within (aCons (eVar 4) aNil)) aNil))) aNil)))
    bNil)))
def F_are_same : List W → M W := fnM 2 5 (bCons (sSet (.nm 2) (eLst (aCons (eTup (aCons (eVar 0) (aCons (eVar 1) aNil))) aNil)))
    (bCons (sWhile wt1_are_same wb1_are_same 1000000)
    (bCons (sRet (eC (.bl true)))
    bNil)))
theorem ok_are_same {f : Addr} {fd : FuncData} (T : Txt K w mg) (F : Fun K "are_same" "are_same" s_are_same f fd) (hm : mg "are_same" = some (.ref f)) (b : Binds K fd ["kind", "other"] []) (c_kinds_within : CallOk P w K mg base "kinds_within" 1 1 F_kinds_within) (c_are_made_alike : CallOk P w K mg base "are_made_alike" 2 2 F_are_made_alike) : CallOk P w K mg base "are_same" 3 2 F_are_same := by
  have c_kinds_within := c_kinds_within.mono (k := 1) (j := 2) (by omega); have c_are_made_alike := c_are_made_alike.mono (k := 2) (j := 2) (by omega); 
  refine call_ok (k := 2) F hm sc_are_same b fun cdv A outer s H E hr => ?_
  have nd := sc_are_same.nd
  exact (sb_cons (ss_set (se_lst (sa_cons (se_tup (sa_cons (se_var 0) (sa_cons (se_var 1) sa_nil))) sa_nil)) (sg_nm 2 nd))
    (sb_cons (ss_while 1000000 PassesOwn.never (st_val (se_var 2)) (sb_cons (ss_set (se_pop (se_var 2)) (sg_tp rfl (sgs_cons (sg_nm 3 nd) (sgs_cons (sg_nm 4 nd) sgs_nil))))
    (sb_cons (ss_if (st_not (st_val (se_call c_are_made_alike hr rfl (sa_cons (se_var 3) (sa_cons (se_var 4) sa_nil))))) (sb_cons (ss_ret se_bl)
    sb_nil) sb_nil)
    (sb_cons (ss_expr (se_extend (se_var 2) (se_lzip rfl rfl T.list_ rfl T.zip_ (sa_cons (se_call c_kinds_within hr rfl (sa_cons (se_var 3) sa_nil)) (sa_cons (se_call c_kinds_within hr rfl (sa_cons (se_var 4) sa_nil)) sa_nil)))))
    sb_nil))))
    (sb_cons (ss_ret se_bl)
    sb_nil)))
/-! ### are_there -/
abbrev s_are_there : Stmt := top 85
abbrev n_are_there : List Str := ["table", "places", "kinds", "at", "kind"]
theorem sc_are_there : FnScope n_are_there ["table", "places", "kinds"] (defScope s_are_there) := ⟨rfl, rfl, rfl, by decide +kernel, rfl, by decide +kernel, by decide +kernel⟩
def ct1_are_there : TM := tYesM
def ce1_are_there : EM := (eAnd (eOp fLt (eVar 3) (eCall bLen (aCons (eVar 0) aNil))) (eCall F_are_same (aCons (eOp fIx (eVar 0) (eVar 3)) (aCons (eVar 4) aNil))))
def F_are_there : List W → M W := fnM 3 5 (bCons (sIf (tBl (eOp fNe (eCall bLen (aCons (eVar 1) aNil)) (eCall bLen (aCons (eVar 2) aNil)))) (bCons (sRet (eC (.bl false)))
    bNil) bNil)
    (bCons (sRet (eCall bAll (aCons (eComp (iZipB (aCons (eVar 1) (aCons (eVar 2) aNil))) (.tp [(.nm 3), (.nm 4)]) [3, 4] ct1_are_there ce1_are_there 1000000) aNil)))
    bNil))
theorem ok_are_there {f : Addr} {fd : FuncData} (T : Txt K w mg) (F : Fun K "are_there" "are_there" s_are_there f fd) (hm : mg "are_there" = some (.ref f)) (b : Binds K fd ["table", "places", "kinds"] []) (c_are_same : CallOk P w K mg base "are_same" 3 2 F_are_same) : CallOk P w K mg base "are_there" 4 3 F_are_there := by
  have c_are_same := c_are_same.mono (k := 3) (j := 3) (by omega); 
  refine call_ok (k := 3) F hm sc_are_there b fun cdv A outer s H E hr => ?_
  have nd := sc_are_there.nd
  exact (sb_cons (ss_if (st_cmp (op_neD hr.units) ref_ne (se_callB call_len_seq ref_len rfl T.len_ (sa_cons (se_var 1) sa_nil)) (se_callB call_len_seq ref_len rfl T.len_ (sa_cons (se_var 2) sa_nil))) (sb_cons (ss_ret se_bl)
    sb_nil) sb_nil)
    (sb_cons (ss_ret (se_callB (cr_all rfl) ref_all rfl T.all_ (sa_cons (se_comp [("at", 3), ("kind", 4)] 1000000 rfl nd (blkOk_by (by with_unfolding_all rfl)) (by decide) (si_zipB rfl T.zip_ (sa_cons (se_var 1) (sa_cons (se_var 2) sa_nil))) (fun _ _ _ _ _ => (sg_tp rfl (sgs_cons (sg_nm 3 nd) (sgs_cons (sg_nm 4 nd) sgs_nil)))) (fun _ _ _ _ _ => sts_nil) (fun _ _ _ _ _ => (se_and (se_cmp op_lt ref_lt (se_var 3) (se_callB call_len_seq ref_len rfl T.len_ (sa_cons (se_var 0) sa_nil))) (se_one (se_call c_are_same hr rfl (sa_cons (se_ix (se_var 0) (se_var 3)) (sa_cons (se_var 4) sa_nil))))))) sa_nil)))
    sb_nil))
/-! ### sum_kind -/
abbrev s_sum_kind : Stmt := top 89
abbrev n_sum_kind : List Str := ["step", "table", "book", "bodies"]
theorem sc_sum_kind : FnScope n_sum_kind ["step", "table", "book", "bodies"] (defScope s_sum_kind) := ⟨rfl, rfl, rfl, by decide +kernel, rfl, by decide +kernel, by decide +kernel⟩
def F_sum_kind : List W → M W := fnM 4 4 (bCons (sRet (eIf (tVal (eCall F_are_there (aCons (eVar 1) (aCons (eSl (eVar 0) (oSome (eC (.int 1))) oNone) (aCons (eTup (aCons (eC (.tup ((["num"] : List Str).map .str))) (aCons (eC (.tup ((["num"] : List Str).map .str))) aNil))) aNil))))) (eC (.tup ((["num"] : List Str).map .str))) (eC .non)))
    bNil)
theorem ok_sum_kind {f : Addr} {fd : FuncData} (T : Txt K w mg) (F : Fun K "sum_kind" "sum_kind" s_sum_kind f fd) (hm : mg "sum_kind" = some (.ref f)) (b : Binds K fd ["step", "table", "book", "bodies"] []) (c_are_there : CallOk P w K mg base "are_there" 4 3 F_are_there) : CallOk P w K mg base "sum_kind" 5 4 F_sum_kind := by
  have c_are_there := c_are_there.mono (k := 4) (j := 4) (by omega); 
  obtain ⟨u_NUM, m_NUM, h_NUM⟩ := T.k_NUM
  refine call_ok (k := 4) F hm sc_sum_kind b fun cdv A outer s H E hr => ?_
  have nd := sc_sum_kind.nd
  exact (sb_cons (ss_ret (se_if (st_val (se_call c_are_there hr rfl (sa_cons (se_var 1) (sa_cons (se_slice (se_var 0) (so_some se_int) so_none) (sa_cons (se_tup (sa_cons (se_gl rfl m_NUM h_NUM) (sa_cons (se_gl rfl m_NUM h_NUM) sa_nil))) sa_nil))))) (se_gl rfl m_NUM h_NUM) se_non))
    sb_nil)
/-! ### row_kind -/
abbrev s_row_kind : Stmt := top 90
abbrev n_row_kind : List Str := ["step", "table", "book", "bodies", "place"]
theorem sc_row_kind : FnScope n_row_kind ["step", "table", "book", "bodies"] (defScope s_row_kind) := ⟨rfl, rfl, rfl, by decide +kernel, rfl, by decide +kernel, by decide +kernel⟩
def ct1_row_kind : TM := tYesM
def ce1_row_kind : EM := (eOp fIx (eVar 1) (eVar 4))
def F_row_kind : List W → M W := fnM 4 5 (bCons (sIf (tBl (eOp fGe (eCall bMax (aCons (eOp fIx (eVar 0) (eC (.int 1))) aNil)) (eCall bLen (aCons (eVar 1) aNil)))) (bCons (sRet (eC .non))
    bNil) bNil)
    (bCons (sRet (eTup (aCons (eC (.str "row")) (aCons (eCall bTuple (aCons (eComp (iSeq (eOp fIx (eVar 0) (eC (.int 1)))) (.nm 4) [4] ct1_row_kind ce1_row_kind 1000000) aNil)) aNil))))
    bNil))
theorem ok_row_kind {f : Addr} {fd : FuncData} (T : Txt K w mg) (F : Fun K "row_kind" "row_kind" s_row_kind f fd) (hm : mg "row_kind" = some (.ref f)) (b : Binds K fd ["step", "table", "book", "bodies"] [])  : CallOk P w K mg base "row_kind" 1 4 F_row_kind := by
  
  refine call_ok (k := 0) F hm sc_row_kind b fun cdv A outer s H E hr => ?_
  have nd := sc_row_kind.nd
  exact (sb_cons (ss_if (st_cmp op_ge ref_ge (se_callB (cr_maxA rfl (hu100 hr)) ref_max rfl T.max_ (sa_cons (se_ix (se_var 0) se_int) sa_nil)) (se_callB call_len_seq ref_len rfl T.len_ (sa_cons (se_var 1) sa_nil))) (sb_cons (ss_ret se_non)
    sb_nil) sb_nil)
    (sb_cons (ss_ret (se_tup (sa_cons se_str (sa_cons (se_callTy call_tuple_of ref_tuple rfl T.tuple_ (sa_cons (se_comp [("place", 4)] 1000000 rfl nd (blkOk_by (by with_unfolding_all rfl)) (by decide) (si_seq (se_ix (se_var 0) se_int)) (fun _ _ _ _ _ => (sg_nm 4 nd)) (fun _ _ _ _ _ => sts_nil) (fun _ _ _ _ _ => (se_ix (se_var 1) (se_var 4)))) sa_nil)) sa_nil))))
    sb_nil))
/-! ### there_with -/
abbrev s_there_with : Stmt := top 86
abbrev n_there_with : List Str := ["table", "place", "head"]
theorem sc_there_with : FnScope n_there_with ["table", "place", "head"] (defScope s_there_with) := ⟨rfl, rfl, rfl, by decide +kernel, rfl, by decide +kernel, by decide +kernel⟩
def F_there_with : List W → M W := fnM 3 3 (bCons (sIf (tAndM (tBl (eOp fLt (eVar 1) (eCall bLen (aCons (eVar 0) aNil)))) (tBl (eOp fEq (eOp fIx (eOp fIx (eVar 0) (eVar 1)) (eC (.int 0))) (eVar 2)))) (bCons (sRet (eOp fIx (eVar 0) (eVar 1)))
    bNil) bNil)
    (bCons (sRet (eC .non))
    bNil))
theorem ok_there_with {f : Addr} {fd : FuncData} (T : Txt K w mg) (F : Fun K "there_with" "there_with" s_there_with f fd) (hm : mg "there_with" = some (.ref f)) (b : Binds K fd ["table", "place", "head"] [])  : CallOk P w K mg base "there_with" 1 3 F_there_with := by
  
  refine call_ok (k := 0) F hm sc_there_with b fun cdv A outer s H E hr => ?_
  have nd := sc_there_with.nd
  exact (sb_cons (ss_if (st_w (sw_and (st_cmp op_lt ref_lt (se_var 1) (se_callB call_len_seq ref_len rfl T.len_ (sa_cons (se_var 0) sa_nil))) (sw_and1 (st_cmp (op_eqD hr.units) ref_eq (se_ix (se_ix (se_var 0) (se_var 1)) se_int) (se_var 2))))) (sb_cons (ss_ret (se_ix (se_var 0) (se_var 1)))
    sb_nil) sb_nil)
    (sb_cons (ss_ret se_non)
    sb_nil))
/-! ### part_kind -/
abbrev s_part_kind : Stmt := top 91
abbrev n_part_kind : List Str := ["step", "table", "book", "bodies", "_", "place", "at", "kind"]
theorem sc_part_kind : FnScope n_part_kind ["step", "table", "book", "bodies"] (defScope s_part_kind) := ⟨rfl, rfl, rfl, by decide +kernel, rfl, by decide +kernel, by decide +kernel⟩
def F_part_kind : List W → M W := fnM 4 8 (bCons (sSet (.tp [(.nm 4), (.nm 5), (.nm 6)]) (eVar 0))
    (bCons (sSet (.nm 7) (eCall F_there_with (aCons (eVar 1) (aCons (eVar 5) (aCons (eC (.str "row")) aNil)))))
    (bCons (sIf (tOrM (tBl (eOp fIsN (eVar 7) (eC .non))) (tBl (eOp fGe (eVar 6) (eCall bLen (aCons (eOp fIx (eVar 7) (eC (.int 1))) aNil))))) (bCons (sRet (eC .non))
    bNil) bNil)
    (bCons (sRet (eOp fIx (eOp fIx (eVar 7) (eC (.int 1))) (eVar 6)))
    bNil))))
theorem ok_part_kind {f : Addr} {fd : FuncData} (T : Txt K w mg) (F : Fun K "part_kind" "part_kind" s_part_kind f fd) (hm : mg "part_kind" = some (.ref f)) (b : Binds K fd ["step", "table", "book", "bodies"] []) (c_there_with : CallOk P w K mg base "there_with" 1 3 F_there_with) : CallOk P w K mg base "part_kind" 2 4 F_part_kind := by
  have c_there_with := c_there_with.mono (k := 1) (j := 1) (by omega); 
  refine call_ok (k := 1) F hm sc_part_kind b fun cdv A outer s H E hr => ?_
  have nd := sc_part_kind.nd
  exact (sb_cons (ss_set (se_var 0) (sg_tp rfl (sgs_cons (sg_nm 4 nd) (sgs_cons (sg_nm 5 nd) (sgs_cons (sg_nm 6 nd) sgs_nil)))))
    (sb_cons (ss_set (se_call c_there_with hr rfl (sa_cons (se_var 1) (sa_cons (se_var 5) (sa_cons se_str sa_nil)))) (sg_nm 7 nd))
    (sb_cons (ss_if (st_w (sw_or (st_cmp op_isN ref_isN (se_var 7) se_non) (sw_or1 (st_cmp op_ge ref_ge (se_var 6) (se_callB call_len_seq ref_len rfl T.len_ (sa_cons (se_ix (se_var 7) se_int) sa_nil)))))) (sb_cons (ss_ret se_non)
    sb_nil) sb_nil)
    (sb_cons (ss_ret (se_ix (se_ix (se_var 7) se_int) (se_var 6)))
    sb_nil))))
/-! ### with_kinds -/
abbrev s_with_kinds : Stmt := top 36
abbrev n_with_kinds : List Str := ["kind", "within", "head"]
theorem sc_with_kinds : FnScope n_with_kinds ["kind", "within"] (defScope s_with_kinds) := ⟨rfl, rfl, rfl, by decide +kernel, rfl, by decide +kernel, by decide +kernel⟩
def F_with_kinds : List W → M W := fnM 2 3 (bCons (sSet (.nm 2) (eOp fIx (eVar 0) (eC (.int 0))))
    (bCons (sIf (tBl (eOp fEq (eVar 2) (eC (.str "row")))) (bCons (sRet (eTup (aCons (eVar 2) (aCons (eVar 1) aNil))))
    bNil) bNil)
    (bCons (sIf (tBl (eOp fEq (eVar 2) (eC (.str "data")))) (bCons (sRet (eTup (aCons (eVar 2) (aCons (eOp fIx (eVar 0) (eC (.int 1))) (aCons (eVar 1) aNil)))))
    bNil) bNil)
    (bCons (sIf (tBl (eOp fEq (eVar 2) (eC (.str "fun")))) (bCons (sRet (eTup (aCons (eVar 2) (aCons (eSl (eVar 1) oNone (oSome (eUn fNeg (eC (.int 1))))) (aCons (eOp fIx (eVar 1) (eUn fNeg (eC (.int 1)))) aNil)))))
    bNil) bNil)
    (bCons (sIf (tBl (eOp fEq (eVar 2) (eC (.str "box")))) (bCons (sRet (eTup (aCons (eVar 2) (aCons (eOp fIx (eVar 1) (eC (.int 0))) aNil))))
    bNil) bNil)
    (bCons (sRet (eVar 0))
    bNil))))))
theorem ok_with_kinds {f : Addr} {fd : FuncData} (T : Txt K w mg) (F : Fun K "with_kinds" "with_kinds" s_with_kinds f fd) (hm : mg "with_kinds" = some (.ref f)) (b : Binds K fd ["kind", "within"] [])  : CallOk P w K mg base "with_kinds" 1 2 F_with_kinds := by
  
  refine call_ok (k := 0) F hm sc_with_kinds b fun cdv A outer s H E hr => ?_
  have nd := sc_with_kinds.nd
  exact (sb_cons (ss_set (se_ix (se_var 0) se_int) (sg_nm 2 nd))
    (sb_cons (ss_if (st_cmp (op_eqD hr.units) ref_eq (se_var 2) se_str) (sb_cons (ss_ret (se_tup (sa_cons (se_var 2) (sa_cons (se_var 1) sa_nil))))
    sb_nil) sb_nil)
    (sb_cons (ss_if (st_cmp (op_eqD hr.units) ref_eq (se_var 2) se_str) (sb_cons (ss_ret (se_tup (sa_cons (se_var 2) (sa_cons (se_ix (se_var 0) se_int) (sa_cons (se_var 1) sa_nil)))))
    sb_nil) sb_nil)
    (sb_cons (ss_if (st_cmp (op_eqD hr.units) ref_eq (se_var 2) se_str) (sb_cons (ss_ret (se_tup (sa_cons (se_var 2) (sa_cons (se_slice (se_var 1) so_none (so_some (se_un un_neg ref_neg se_int))) (sa_cons (se_ix (se_var 1) (se_un un_neg ref_neg se_int)) sa_nil)))))
    sb_nil) sb_nil)
    (sb_cons (ss_if (st_cmp (op_eqD hr.units) ref_eq (se_var 2) se_str) (sb_cons (ss_ret (se_tup (sa_cons (se_var 2) (sa_cons (se_ix (se_var 1) se_int) sa_nil))))
    sb_nil) sb_nil)
    (sb_cons (ss_ret (se_var 0))
    sb_nil))))))
/-! ### all_kinds -/
abbrev s_all_kinds : Stmt := top 38
abbrev n_all_kinds : List Str := ["kind", "found", "waiting", "one"]
theorem sc_all_kinds : FnScope n_all_kinds ["kind"] (defScope s_all_kinds) := ⟨rfl, rfl, rfl, by decide +kernel, rfl, by decide +kernel, by decide +kernel⟩
def wt1_all_kinds : TM := (tVal (eVar 2))
def wb1_all_kinds : SM := (bCons (sSet (.nm 3) (eMeth mPop (eVar 2) aNil))
    (bCons (sExpr (eMeth mApp (eVar 1) (aCons (eVar 3) aNil)))
    (bCons (sExpr (eMeth mExt (eVar 2) (aCons (eUn fRev (eCall F_kinds_within (aCons (eVar 3) aNil))) aNil)))
    bNil)))
def F_all_kinds : List W → M W := fnM 1 4 (bCons (sSet (.nm 1) (eLst aNil))
    (bCons (sSet (.nm 2) (eLst (aCons (eVar 0) aNil)))
    (bCons (sWhile wt1_all_kinds wb1_all_kinds 1000000)
    (bCons (sRet (eVar 1))
    bNil))))
theorem ok_all_kinds {f : Addr} {fd : FuncData} (T : Txt K w mg) (F : Fun K "all_kinds" "all_kinds" s_all_kinds f fd) (hm : mg "all_kinds" = some (.ref f)) (b : Binds K fd ["kind"] []) (c_kinds_within : CallOk P w K mg base "kinds_within" 1 1 F_kinds_within) : CallOk P w K mg base "all_kinds" 2 1 F_all_kinds := by
  have c_kinds_within := c_kinds_within.mono (k := 1) (j := 1) (by omega); 
  refine call_ok (k := 1) F hm sc_all_kinds b fun cdv A outer s H E hr => ?_
  have nd := sc_all_kinds.nd
  exact (sb_cons (ss_set (se_lst sa_nil) (sg_nm 1 nd))
    (sb_cons (ss_set (se_lst (sa_cons (se_var 0) sa_nil)) (sg_nm 2 nd))
    (sb_cons (ss_while 1000000 PassesOwn.never (st_val (se_var 2)) (sb_cons (ss_set (se_pop (se_var 2)) (sg_nm 3 nd))
    (sb_cons (ss_expr (se_append (se_var 1) (se_var 3)))
    (sb_cons (ss_expr (se_extend (se_var 2) (se_rev (se_call c_kinds_within hr rfl (sa_cons (se_var 3) sa_nil)))))
    sb_nil))))
    (sb_cons (ss_ret (se_var 1))
    sb_nil))))
/-! ### folded -/
abbrev s_folded : Stmt := top 40
abbrev n_folded : List Str := ["kind", "letters", "make", "done", "one", "at", "within"]
theorem sc_folded : FnScope n_folded ["kind", "letters", "make"] (defScope s_folded) := ⟨rfl, rfl, rfl, by decide +kernel, rfl, by decide +kernel, by decide +kernel⟩
def disp_folded_make : List (Str × (List W → M W)) := [("with_kinds", F_with_kinds)]
def fb1_folded : SM := (bCons (sIf (tBl (eOp fEq (eOp fIx (eVar 4) (eC (.int 0))) (eC (.str "letter")))) (bCons (sExpr (eMeth mApp (eVar 3) (aCons (eOp fIx (eVar 1) (eOp fIx (eVar 4) (eC (.int 1)))) aNil)))
    bNil) (bCons (sSet (.nm 5) (eOp fSub (eCall bLen (aCons (eVar 3) aNil)) (eCall bLen (aCons (eCall F_kinds_within (aCons (eVar 4) aNil)) aNil))))
    (bCons (sSet (.nm 6) (eCall bTuple (aCons (eUn fRev (eSl (eVar 3) (oSome (eVar 5)) oNone)) aNil)))
    (bCons (sDelFrom (eVar 3) (oSome (eVar 5)))
    (bCons (sExpr (eMeth mApp (eVar 3) (aCons (eCallL 2 disp_folded_make (aCons (eVar 4) (aCons (eVar 6) aNil))) aNil)))
    bNil)))))
    bNil)
def F_folded : List W → M W := fnM 3 7 (bCons (sSet (.nm 3) (eLst aNil))
    (bCons (sFor (iRevM (aCons (eCall F_all_kinds (aCons (eVar 0) aNil)) aNil)) (.nm 4) fb1_folded 1000000)
    (bCons (sRet (eOp fIx (eVar 3) (eC (.int 0))))
    bNil)))
theorem ok_folded {f : Addr} {fd : FuncData} (T : Txt K w mg) (F : Fun K "folded" "folded" s_folded f fd) (hm : mg "folded" = some (.ref f)) (b : Binds K fd ["kind", "letters", "make"] []) (c_kinds_within : CallOk P w K mg base "kinds_within" 1 1 F_kinds_within) (c_with_kinds : CallOk P w K mg base "with_kinds" 1 2 F_with_kinds) (c_all_kinds : CallOk P w K mg base "all_kinds" 2 1 F_all_kinds) : CallOk P w K mg base "folded" 3 3 F_folded := by
  have c_kinds_within := c_kinds_within.mono (k := 1) (j := 2) (by omega); have c_with_kinds := c_with_kinds.mono (k := 1) (j := 2) (by omega); have c_all_kinds := c_all_kinds.mono (k := 2) (j := 2) (by omega); 
  have d_folded_make : ∀ y F, disp_folded_make.lookup y = some F → CallF P w K mg base y 2 2 F := (disp_cons (T.n_with_kinds.elim fun g h => c_with_kinds.callF h.1 h.2) disp_nil)
  refine call_ok (k := 2) F hm sc_folded b fun cdv A outer s H E hr => ?_
  have nd := sc_folded.nd
  exact (sb_cons (ss_set (se_lst sa_nil) (sg_nm 3 nd))
    (sb_cons (ss_for 1000000 PassesOwn.never rfl (si_rev rfl T.reversed_ (sa_cons (se_call c_all_kinds hr rfl (sa_cons (se_var 0) sa_nil)) sa_nil)) (sg_nm 4 nd) (sb_cons (ss_if (st_cmp (op_eqD hr.units) ref_eq (se_ix (se_var 4) se_int) se_str) (sb_cons (ss_expr (se_append (se_var 3) (se_ix (se_var 1) (se_ix (se_var 4) se_int))))
    sb_nil) (sb_cons (ss_set (se_op op_sub ref_sub (se_callB call_len_seq ref_len rfl T.len_ (sa_cons (se_var 3) sa_nil)) (se_callB call_len_seq ref_len rfl T.len_ (sa_cons (se_call c_kinds_within hr rfl (sa_cons (se_var 4) sa_nil)) sa_nil))) (sg_nm 5 nd))
    (sb_cons (ss_set (se_callTy call_tuple_of ref_tuple rfl T.tuple_ (sa_cons (se_rev (se_slice (se_var 3) (so_some (se_var 5)) so_none)) sa_nil)) (sg_nm 6 nd))
    (sb_cons (ss_delFrom (se_var 3) (so_some (se_var 5)))
    (sb_cons (ss_expr (se_append (se_var 3) (se_callL d_folded_make hr rfl (by first | exact Or.inl rfl | exact Or.inr (Or.inl rfl) | exact Or.inr (Or.inr rfl)) (sa_cons (se_var 4) (sa_cons (se_var 6) sa_nil)))))
    sb_nil)))))
    sb_nil))
    (sb_cons (ss_ret (se_ix (se_var 3) se_int))
    sb_nil)))
/-! ### put_in -/
abbrev s_put_in : Stmt := top 41
abbrev n_put_in : List Str := ["kind", "kinds"]
theorem sc_put_in : FnScope n_put_in ["kind", "kinds"] (defScope s_put_in) := ⟨rfl, rfl, rfl, by decide +kernel, rfl, by decide +kernel, by decide +kernel⟩
def F_put_in : List W → M W := fnM 2 2 (bCons (sRet (eCall F_folded (aCons (eVar 0) (aCons (eVar 1) (aCons (eC (.fnc "with_kinds")) aNil)))))
    bNil)
theorem ok_put_in {f : Addr} {fd : FuncData} (T : Txt K w mg) (F : Fun K "put_in" "put_in" s_put_in f fd) (hm : mg "put_in" = some (.ref f)) (b : Binds K fd ["kind", "kinds"] []) (c_folded : CallOk P w K mg base "folded" 3 3 F_folded) : CallOk P w K mg base "put_in" 4 2 F_put_in := by
  have c_folded := c_folded.mono (k := 3) (j := 3) (by omega); 
  obtain ⟨g_with_kinds, ns_with_kinds, mg_with_kinds⟩ := T.n_with_kinds
  refine call_ok (k := 3) F hm sc_put_in b fun cdv A outer s H E hr => ?_
  have nd := sc_put_in.nd
  exact (sb_cons (ss_ret (se_call c_folded hr rfl (sa_cons (se_var 0) (sa_cons (se_var 1) (sa_cons (se_gl rfl mg_with_kinds (.fnc ns_with_kinds)) sa_nil)))))
    sb_nil)
/-! ### all_put_in -/
abbrev s_all_put_in : Stmt := top 84
abbrev n_all_put_in : List Str := ["kinds", "letters", "kind"]
theorem sc_all_put_in : FnScope n_all_put_in ["kinds", "letters"] (defScope s_all_put_in) := ⟨rfl, rfl, rfl, by decide +kernel, rfl, by decide +kernel, by decide +kernel⟩
def ct1_all_put_in : TM := tYesM
def ce1_all_put_in : EM := (eCall F_put_in (aCons (eVar 2) (aCons (eVar 1) aNil)))
def F_all_put_in : List W → M W := fnM 2 3 (bCons (sRet (eCall bTuple (aCons (eComp (iSeq (eVar 0)) (.nm 2) [2] ct1_all_put_in ce1_all_put_in 1000000) aNil)))
    bNil)
theorem ok_all_put_in {f : Addr} {fd : FuncData} (T : Txt K w mg) (F : Fun K "all_put_in" "all_put_in" s_all_put_in f fd) (hm : mg "all_put_in" = some (.ref f)) (b : Binds K fd ["kinds", "letters"] []) (c_put_in : CallOk P w K mg base "put_in" 4 2 F_put_in) : CallOk P w K mg base "all_put_in" 5 2 F_all_put_in := by
  have c_put_in := c_put_in.mono (k := 4) (j := 4) (by omega); 
  refine call_ok (k := 4) F hm sc_all_put_in b fun cdv A outer s H E hr => ?_
  have nd := sc_all_put_in.nd
  exact (sb_cons (ss_ret (se_callTy call_tuple_of ref_tuple rfl T.tuple_ (sa_cons (se_comp [("kind", 2)] 1000000 rfl nd (blkOk_by (by with_unfolding_all rfl)) (by decide) (si_seq (se_var 0)) (fun _ _ _ _ _ => (sg_nm 2 nd)) (fun _ _ _ _ _ => sts_nil) (fun _ _ _ _ _ => (se_call c_put_in hr rfl (sa_cons (se_var 2) (sa_cons (se_var 1) sa_nil))))) sa_nil)))
    sb_nil)
/-! ### way_kind -/
abbrev s_way_kind : Stmt := top 92
abbrev n_way_kind : List Str := ["step", "table", "book", "bodies", "_", "number", "kinds", "way", "places", "parts"]
theorem sc_way_kind : FnScope n_way_kind ["step", "table", "book", "bodies"] (defScope s_way_kind) := ⟨rfl, rfl, rfl, by decide +kernel, rfl, by decide +kernel, by decide +kernel⟩
def F_way_kind : List W → M W := fnM 4 10 (bCons (sSet (.tp [(.nm 4), (.nm 5), (.nm 6), (.nm 7), (.nm 8)]) (eVar 0))
    (bCons (sSet (.nm 9) (eOp fIx (eOp fIx (eOp fIx (eVar 2) (eVar 5)) (eC (.int 1))) (eVar 7)))
    (bCons (sRet (eIf (tVal (eCall F_are_there (aCons (eVar 1) (aCons (eVar 8) (aCons (eCall F_all_put_in (aCons (eVar 9) (aCons (eVar 6) aNil))) aNil))))) (eTup (aCons (eC (.str "data")) (aCons (eVar 5) (aCons (eVar 6) aNil)))) (eC .non)))
    bNil)))
theorem ok_way_kind {f : Addr} {fd : FuncData} (T : Txt K w mg) (F : Fun K "way_kind" "way_kind" s_way_kind f fd) (hm : mg "way_kind" = some (.ref f)) (b : Binds K fd ["step", "table", "book", "bodies"] []) (c_are_there : CallOk P w K mg base "are_there" 4 3 F_are_there) (c_all_put_in : CallOk P w K mg base "all_put_in" 5 2 F_all_put_in) : CallOk P w K mg base "way_kind" 6 4 F_way_kind := by
  have c_are_there := c_are_there.mono (k := 4) (j := 5) (by omega); have c_all_put_in := c_all_put_in.mono (k := 5) (j := 5) (by omega); 
  refine call_ok (k := 5) F hm sc_way_kind b fun cdv A outer s H E hr => ?_
  have nd := sc_way_kind.nd
  exact (sb_cons (ss_set (se_var 0) (sg_tp rfl (sgs_cons (sg_nm 4 nd) (sgs_cons (sg_nm 5 nd) (sgs_cons (sg_nm 6 nd) (sgs_cons (sg_nm 7 nd) (sgs_cons (sg_nm 8 nd) sgs_nil)))))))
    (sb_cons (ss_set (se_ix (se_ix (se_ix (se_var 2) (se_var 5)) se_int) (se_var 7)) (sg_nm 9 nd))
    (sb_cons (ss_ret (se_if (st_val (se_call c_are_there hr rfl (sa_cons (se_var 1) (sa_cons (se_var 8) (sa_cons (se_call c_all_put_in hr rfl (sa_cons (se_var 9) (sa_cons (se_var 6) sa_nil))) sa_nil))))) (se_tup (sa_cons se_str (sa_cons (se_var 5) (sa_cons (se_var 6) sa_nil)))) se_non))
    sb_nil)))
/-! ### take_kind -/
abbrev s_take_kind : Stmt := top 93
abbrev n_take_kind : List Str := ["step", "table", "book", "bodies", "_", "body", "kinds", "places", "asked", "taken", "left"]
theorem sc_take_kind : FnScope n_take_kind ["step", "table", "book", "bodies"] (defScope s_take_kind) := ⟨rfl, rfl, rfl, by decide +kernel, rfl, by decide +kernel, by decide +kernel⟩
def F_take_kind : List W → M W := fnM 4 11 (bCons (sSet (.tp [(.nm 4), (.nm 5), (.nm 6), (.nm 7)]) (eVar 0))
    (bCons (sSet (.nm 8) (eCall F_all_put_in (aCons (eOp fIx (eOp fIx (eVar 3) (eVar 5)) (eC (.int 1))) (aCons (eVar 6) aNil))))
    (bCons (sSet (.nm 9) (eSl (eVar 8) oNone (oSome (eCall bLen (aCons (eVar 7) aNil)))))
    (bCons (sSet (.nm 10) (eSl (eVar 8) (oSome (eCall bLen (aCons (eVar 7) aNil))) oNone))
    (bCons (sIf (tOrM (tNotM (tBl (eChain fLe fLe (eC (.int 1)) (eCall bLen (aCons (eVar 10) aNil)) (eC (.int 3))))) (tNotM (tVal (eCall F_are_there (aCons (eVar 1) (aCons (eVar 7) (aCons (eVar 9) aNil))))))) (bCons (sRet (eC .non))
    bNil) bNil)
    (bCons (sRet (eTup (aCons (eC (.str "fun")) (aCons (eVar 10) (aCons (eCall F_put_in (aCons (eOp fIx (eOp fIx (eVar 3) (eVar 5)) (eC (.int 2))) (aCons (eVar 6) aNil))) aNil)))))
    bNil))))))
theorem ok_take_kind {f : Addr} {fd : FuncData} (T : Txt K w mg) (F : Fun K "take_kind" "take_kind" s_take_kind f fd) (hm : mg "take_kind" = some (.ref f)) (b : Binds K fd ["step", "table", "book", "bodies"] []) (c_are_there : CallOk P w K mg base "are_there" 4 3 F_are_there) (c_put_in : CallOk P w K mg base "put_in" 4 2 F_put_in) (c_all_put_in : CallOk P w K mg base "all_put_in" 5 2 F_all_put_in) : CallOk P w K mg base "take_kind" 6 4 F_take_kind := by
  have c_are_there := c_are_there.mono (k := 4) (j := 5) (by omega); have c_put_in := c_put_in.mono (k := 4) (j := 5) (by omega); have c_all_put_in := c_all_put_in.mono (k := 5) (j := 5) (by omega); 
  obtain ⟨u_MOST_LEFT, m_MOST_LEFT, h_MOST_LEFT⟩ := T.k_MOST_LEFT
  refine call_ok (k := 5) F hm sc_take_kind b fun cdv A outer s H E hr => ?_
  have nd := sc_take_kind.nd
  exact (sb_cons (ss_set (se_var 0) (sg_tp rfl (sgs_cons (sg_nm 4 nd) (sgs_cons (sg_nm 5 nd) (sgs_cons (sg_nm 6 nd) (sgs_cons (sg_nm 7 nd) sgs_nil))))))
    (sb_cons (ss_set (se_call c_all_put_in hr rfl (sa_cons (se_ix (se_ix (se_var 3) (se_var 5)) se_int) (sa_cons (se_var 6) sa_nil))) (sg_nm 8 nd))
    (sb_cons (ss_set (se_slice (se_var 8) so_none (so_some (se_callB call_len_seq ref_len rfl T.len_ (sa_cons (se_var 7) sa_nil)))) (sg_nm 9 nd))
    (sb_cons (ss_set (se_slice (se_var 8) (so_some (se_callB call_len_seq ref_len rfl T.len_ (sa_cons (se_var 7) sa_nil))) so_none) (sg_nm 10 nd))
    (sb_cons (ss_if (st_w (sw_or (st_not (st_chain op_le op_le ref_le ref_le se_int (se_callB call_len_seq ref_len rfl T.len_ (sa_cons (se_var 10) sa_nil)) (se_gl rfl m_MOST_LEFT h_MOST_LEFT))) (sw_or1 (st_not (st_val (se_call c_are_there hr rfl (sa_cons (se_var 1) (sa_cons (se_var 7) (sa_cons (se_var 9) sa_nil))))))))) (sb_cons (ss_ret se_non)
    sb_nil) sb_nil)
    (sb_cons (ss_ret (se_tup (sa_cons se_str (sa_cons (se_var 10) (sa_cons (se_call c_put_in hr rfl (sa_cons (se_ix (se_ix (se_var 3) (se_var 5)) se_int) (sa_cons (se_var 6) sa_nil))) sa_nil)))))
    sb_nil))))))
/-! ### box_kind -/
abbrev s_box_kind : Stmt := top 94
abbrev n_box_kind : List Str := ["step", "table", "book", "bodies"]
theorem sc_box_kind : FnScope n_box_kind ["step", "table", "book", "bodies"] (defScope s_box_kind) := ⟨rfl, rfl, rfl, by decide +kernel, rfl, by decide +kernel, by decide +kernel⟩
def F_box_kind : List W → M W := fnM 4 4 (bCons (sRet (eIf (tBl (eOp fLt (eOp fIx (eVar 0) (eC (.int 1))) (eCall bLen (aCons (eVar 1) aNil)))) (eTup (aCons (eC (.str "box")) (aCons (eOp fIx (eVar 1) (eOp fIx (eVar 0) (eC (.int 1)))) aNil))) (eC .non)))
    bNil)
theorem ok_box_kind {f : Addr} {fd : FuncData} (T : Txt K w mg) (F : Fun K "box_kind" "box_kind" s_box_kind f fd) (hm : mg "box_kind" = some (.ref f)) (b : Binds K fd ["step", "table", "book", "bodies"] [])  : CallOk P w K mg base "box_kind" 1 4 F_box_kind := by
  
  refine call_ok (k := 0) F hm sc_box_kind b fun cdv A outer s H E hr => ?_
  have nd := sc_box_kind.nd
  exact (sb_cons (ss_ret (se_if (st_cmp op_lt ref_lt (se_ix (se_var 0) se_int) (se_callB call_len_seq ref_len rfl T.len_ (sa_cons (se_var 1) sa_nil))) (se_tup (sa_cons se_str (sa_cons (se_ix (se_var 1) (se_ix (se_var 0) se_int)) sa_nil))) se_non))
    sb_nil)
/-! ### open_kind -/
abbrev s_open_kind : Stmt := top 95
abbrev n_open_kind : List Str := ["step", "table", "book", "bodies", "kind"]
theorem sc_open_kind : FnScope n_open_kind ["step", "table", "book", "bodies"] (defScope s_open_kind) := ⟨rfl, rfl, rfl, by decide +kernel, rfl, by decide +kernel, by decide +kernel⟩
def F_open_kind : List W → M W := fnM 4 5 (bCons (sSet (.nm 4) (eCall F_there_with (aCons (eVar 1) (aCons (eOp fIx (eVar 0) (eC (.int 1))) (aCons (eC (.str "box")) aNil)))))
    (bCons (sRet (eIf (tBl (eOp fIsN (eVar 4) (eC .non))) (eC .non) (eOp fIx (eVar 4) (eC (.int 1)))))
    bNil))
theorem ok_open_kind {f : Addr} {fd : FuncData} (T : Txt K w mg) (F : Fun K "open_kind" "open_kind" s_open_kind f fd) (hm : mg "open_kind" = some (.ref f)) (b : Binds K fd ["step", "table", "book", "bodies"] []) (c_there_with : CallOk P w K mg base "there_with" 1 3 F_there_with) : CallOk P w K mg base "open_kind" 2 4 F_open_kind := by
  have c_there_with := c_there_with.mono (k := 1) (j := 1) (by omega); 
  refine call_ok (k := 1) F hm sc_open_kind b fun cdv A outer s H E hr => ?_
  have nd := sc_open_kind.nd
  exact (sb_cons (ss_set (se_call c_there_with hr rfl (sa_cons (se_var 1) (sa_cons (se_ix (se_var 0) se_int) (sa_cons se_str sa_nil)))) (sg_nm 4 nd))
    (sb_cons (ss_ret (se_if (st_cmp op_isN ref_isN (se_var 4) se_non) se_non (se_ix (se_var 4) se_int)))
    sb_nil))
/-! ### put_kind -/
abbrev s_put_kind : Stmt := top 96
abbrev n_put_kind : List Str := ["step", "table", "book", "bodies", "kind"]
theorem sc_put_kind : FnScope n_put_kind ["step", "table", "book", "bodies"] (defScope s_put_kind) := ⟨rfl, rfl, rfl, by decide +kernel, rfl, by decide +kernel, by decide +kernel⟩
def F_put_kind : List W → M W := fnM 4 5 (bCons (sSet (.nm 4) (eCall F_there_with (aCons (eVar 1) (aCons (eOp fIx (eVar 0) (eC (.int 1))) (aCons (eC (.str "box")) aNil)))))
    (bCons (sRet (eIf (tAndM (tBl (eOp fNotN (eVar 4) (eC .non))) (tVal (eCall F_are_there (aCons (eVar 1) (aCons (eSl (eVar 0) (oSome (eC (.int 2))) oNone) (aCons (eSl (eVar 4) (oSome (eC (.int 1))) oNone) aNil)))))) (eC (.tup ((["nil"] : List Str).map .str))) (eC .non)))
    bNil))
theorem ok_put_kind {f : Addr} {fd : FuncData} (T : Txt K w mg) (F : Fun K "put_kind" "put_kind" s_put_kind f fd) (hm : mg "put_kind" = some (.ref f)) (b : Binds K fd ["step", "table", "book", "bodies"] []) (c_are_there : CallOk P w K mg base "are_there" 4 3 F_are_there) (c_there_with : CallOk P w K mg base "there_with" 1 3 F_there_with) : CallOk P w K mg base "put_kind" 5 4 F_put_kind := by
  have c_are_there := c_are_there.mono (k := 4) (j := 4) (by omega); have c_there_with := c_there_with.mono (k := 1) (j := 4) (by omega); 
  obtain ⟨u_NIL, m_NIL, h_NIL⟩ := T.k_NIL
  refine call_ok (k := 4) F hm sc_put_kind b fun cdv A outer s H E hr => ?_
  have nd := sc_put_kind.nd
  exact (sb_cons (ss_set (se_call c_there_with hr rfl (sa_cons (se_var 1) (sa_cons (se_ix (se_var 0) se_int) (sa_cons se_str sa_nil)))) (sg_nm 4 nd))
    (sb_cons (ss_ret (se_if (st_w (sw_and (st_cmp op_notN ref_notN (se_var 4) se_non) (sw_and1 (st_val (se_call c_are_there hr rfl (sa_cons (se_var 1) (sa_cons (se_slice (se_var 0) (so_some se_int) so_none) (sa_cons (se_slice (se_var 4) (so_some se_int) so_none) sa_nil)))))))) (se_gl rfl m_NIL h_NIL) se_non))
    sb_nil))
/-! ### print_kind -/
abbrev s_print_kind : Stmt := top 97
abbrev n_print_kind : List Str := ["step", "table", "book", "bodies"]
theorem sc_print_kind : FnScope n_print_kind ["step", "table", "book", "bodies"] (defScope s_print_kind) := ⟨rfl, rfl, rfl, by decide +kernel, rfl, by decide +kernel, by decide +kernel⟩
def F_print_kind : List W → M W := fnM 4 4 (bCons (sRet (eIf (tVal (eCall F_are_there (aCons (eVar 1) (aCons (eSl (eVar 0) (oSome (eC (.int 1))) oNone) (aCons (eTup (aCons (eC (.tup ((["num"] : List Str).map .str))) aNil)) aNil))))) (eC (.tup ((["nil"] : List Str).map .str))) (eC .non)))
    bNil)
theorem ok_print_kind {f : Addr} {fd : FuncData} (T : Txt K w mg) (F : Fun K "print_kind" "print_kind" s_print_kind f fd) (hm : mg "print_kind" = some (.ref f)) (b : Binds K fd ["step", "table", "book", "bodies"] []) (c_are_there : CallOk P w K mg base "are_there" 4 3 F_are_there) : CallOk P w K mg base "print_kind" 5 4 F_print_kind := by
  have c_are_there := c_are_there.mono (k := 4) (j := 4) (by omega); 
  obtain ⟨u_NIL, m_NIL, h_NIL⟩ := T.k_NIL
  obtain ⟨u_NUM, m_NUM, h_NUM⟩ := T.k_NUM
  refine call_ok (k := 4) F hm sc_print_kind b fun cdv A outer s H E hr => ?_
  have nd := sc_print_kind.nd
  exact (sb_cons (ss_ret (se_if (st_val (se_call c_are_there hr rfl (sa_cons (se_var 1) (sa_cons (se_slice (se_var 0) (so_some se_int) so_none) (sa_cons (se_tup (sa_cons (se_gl rfl m_NUM h_NUM) sa_nil)) sa_nil))))) (se_gl rfl m_NIL h_NIL) se_non))
    sb_nil)
/-! ### body_kind -/
abbrev s_body_kind : Stmt := top 98
abbrev n_body_kind : List Str := ["step", "table", "book", "bodies", "_", "body", "kinds", "places"]
theorem sc_body_kind : FnScope n_body_kind ["step", "table", "book", "bodies"] (defScope s_body_kind) := ⟨rfl, rfl, rfl, by decide +kernel, rfl, by decide +kernel, by decide +kernel⟩
def F_body_kind : List W → M W := fnM 4 8 (bCons (sSet (.tp [(.nm 4), (.nm 5), (.nm 6), (.nm 7)]) (eVar 0))
    (bCons (sIf (tNotM (tVal (eCall F_are_there (aCons (eVar 1) (aCons (eVar 7) (aCons (eCall F_all_put_in (aCons (eOp fIx (eOp fIx (eVar 3) (eVar 5)) (eC (.int 1))) (aCons (eVar 6) aNil))) aNil)))))) (bCons (sRet (eC .non))
    bNil) bNil)
    (bCons (sRet (eCall F_put_in (aCons (eOp fIx (eOp fIx (eVar 3) (eVar 5)) (eC (.int 2))) (aCons (eVar 6) aNil))))
    bNil)))
theorem ok_body_kind {f : Addr} {fd : FuncData} (T : Txt K w mg) (F : Fun K "body_kind" "body_kind" s_body_kind f fd) (hm : mg "body_kind" = some (.ref f)) (b : Binds K fd ["step", "table", "book", "bodies"] []) (c_are_there : CallOk P w K mg base "are_there" 4 3 F_are_there) (c_put_in : CallOk P w K mg base "put_in" 4 2 F_put_in) (c_all_put_in : CallOk P w K mg base "all_put_in" 5 2 F_all_put_in) : CallOk P w K mg base "body_kind" 6 4 F_body_kind := by
  have c_are_there := c_are_there.mono (k := 4) (j := 5) (by omega); have c_put_in := c_put_in.mono (k := 4) (j := 5) (by omega); have c_all_put_in := c_all_put_in.mono (k := 5) (j := 5) (by omega); 
  refine call_ok (k := 5) F hm sc_body_kind b fun cdv A outer s H E hr => ?_
  have nd := sc_body_kind.nd
  exact (sb_cons (ss_set (se_var 0) (sg_tp rfl (sgs_cons (sg_nm 4 nd) (sgs_cons (sg_nm 5 nd) (sgs_cons (sg_nm 6 nd) (sgs_cons (sg_nm 7 nd) sgs_nil))))))
    (sb_cons (ss_if (st_not (st_val (se_call c_are_there hr rfl (sa_cons (se_var 1) (sa_cons (se_var 7) (sa_cons (se_call c_all_put_in hr rfl (sa_cons (se_ix (se_ix (se_var 3) (se_var 5)) se_int) (sa_cons (se_var 6) sa_nil))) sa_nil)))))) (sb_cons (ss_ret se_non)
    sb_nil) sb_nil)
    (sb_cons (ss_ret (se_call c_put_in hr rfl (sa_cons (se_ix (se_ix (se_var 3) (se_var 5)) se_int) (sa_cons (se_var 6) sa_nil))))
    sb_nil)))
/-! ### call_kind -/
abbrev s_call_kind : Stmt := top 99
abbrev n_call_kind : List Str := ["step", "table", "book", "bodies", "kind"]
theorem sc_call_kind : FnScope n_call_kind ["step", "table", "book", "bodies"] (defScope s_call_kind) := ⟨rfl, rfl, rfl, by decide +kernel, rfl, by decide +kernel, by decide +kernel⟩
def F_call_kind : List W → M W := fnM 4 5 (bCons (sSet (.nm 4) (eCall F_there_with (aCons (eVar 1) (aCons (eOp fIx (eVar 0) (eC (.int 1))) (aCons (eC (.str "fun")) aNil)))))
    (bCons (sRet (eIf (tAndM (tBl (eOp fNotN (eVar 4) (eC .non))) (tVal (eCall F_are_there (aCons (eVar 1) (aCons (eOp fIx (eVar 0) (eC (.int 2))) (aCons (eOp fIx (eVar 4) (eC (.int 1))) aNil)))))) (eOp fIx (eVar 4) (eC (.int 2))) (eC .non)))
    bNil))
theorem ok_call_kind {f : Addr} {fd : FuncData} (T : Txt K w mg) (F : Fun K "call_kind" "call_kind" s_call_kind f fd) (hm : mg "call_kind" = some (.ref f)) (b : Binds K fd ["step", "table", "book", "bodies"] []) (c_are_there : CallOk P w K mg base "are_there" 4 3 F_are_there) (c_there_with : CallOk P w K mg base "there_with" 1 3 F_there_with) : CallOk P w K mg base "call_kind" 5 4 F_call_kind := by
  have c_are_there := c_are_there.mono (k := 4) (j := 4) (by omega); have c_there_with := c_there_with.mono (k := 1) (j := 4) (by omega); 
  refine call_ok (k := 4) F hm sc_call_kind b fun cdv A outer s H E hr => ?_
  have nd := sc_call_kind.nd
  exact (sb_cons (ss_set (se_call c_there_with hr rfl (sa_cons (se_var 1) (sa_cons (se_ix (se_var 0) se_int) (sa_cons se_str sa_nil)))) (sg_nm 4 nd))
    (sb_cons (ss_ret (se_if (st_w (sw_and (st_cmp op_notN ref_notN (se_var 4) se_non) (sw_and1 (st_val (se_call c_are_there hr rfl (sa_cons (se_var 1) (sa_cons (se_ix (se_var 0) se_int) (sa_cons (se_ix (se_var 4) se_int) sa_nil)))))))) (se_ix (se_var 4) se_int) se_non))
    sb_nil))
/-! ### is_too_great -/
abbrev s_is_too_great : Stmt := top 101
abbrev n_is_too_great : List Str := ["kind"]
theorem sc_is_too_great : FnScope n_is_too_great ["kind"] (defScope s_is_too_great) := ⟨rfl, rfl, rfl, by decide +kernel, rfl, by decide +kernel, by decide +kernel⟩
def F_is_too_great : List W → M W := fnM 1 1 (bCons (sRet (eOp fGt (eCall bLen (aCons (eCall F_all_kinds (aCons (eVar 0) aNil)) aNil)) (eC (.int 400))))
    bNil)
theorem ok_is_too_great {f : Addr} {fd : FuncData} (T : Txt K w mg) (F : Fun K "is_too_great" "is_too_great" s_is_too_great f fd) (hm : mg "is_too_great" = some (.ref f)) (b : Binds K fd ["kind"] []) (c_all_kinds : CallOk P w K mg base "all_kinds" 2 1 F_all_kinds) : CallOk P w K mg base "is_too_great" 3 1 F_is_too_great := by
  have c_all_kinds := c_all_kinds.mono (k := 2) (j := 2) (by omega); 
  obtain ⟨u_MOST_KINDS_IN_PLACE, m_MOST_KINDS_IN_PLACE, h_MOST_KINDS_IN_PLACE⟩ := T.k_MOST_KINDS_IN_PLACE
  refine call_ok (k := 2) F hm sc_is_too_great b fun cdv A outer s H E hr => ?_
  have nd := sc_is_too_great.nd
  exact (sb_cons (ss_ret (se_cmp op_gt ref_gt (se_callB call_len_seq ref_len rfl T.len_ (sa_cons (se_call c_all_kinds hr rfl (sa_cons (se_var 0) sa_nil)) sa_nil)) (se_gl rfl m_MOST_KINDS_IN_PLACE h_MOST_KINDS_IN_PLACE)))
    sb_nil)
/-! ### made_kind -/
abbrev s_made_kind : Stmt := top 102
abbrev n_made_kind : List Str := ["step", "table", "book", "bodies", "kind_of", "kind"]
theorem sc_made_kind : FnScope n_made_kind ["step", "table", "book", "bodies"] (defScope s_made_kind) := ⟨rfl, rfl, rfl, by decide +kernel, rfl, by decide +kernel, by decide +kernel⟩
def disp_STEP_KINDS : List (Str × (List W → M W)) := [("num_kind", F_num_kind), ("nil_kind", F_nil_kind), ("sum_kind", F_sum_kind), ("row_kind", F_row_kind), ("part_kind", F_part_kind), ("way_kind", F_way_kind), ("take_kind", F_take_kind), ("box_kind", F_box_kind), ("open_kind", F_open_kind), ("put_kind", F_put_kind), ("print_kind", F_print_kind), ("body_kind", F_body_kind), ("call_kind", F_call_kind)]
def F_made_kind : List W → M W := fnM 4 6 (bCons (sSet (.nm 4) (eUn (fTabIx tab_STEP_KINDS) (eOp fIx (eVar 0) (eC (.int 0)))))
    (bCons (sSet (.nm 5) (eCallL 4 disp_STEP_KINDS (aCons (eVar 0) (aCons (eVar 1) (aCons (eVar 2) (aCons (eVar 3) aNil))))))
    (bCons (sRet (eIf (tOrM (tBl (eOp fIsN (eVar 5) (eC .non))) (tVal (eCall F_is_too_great (aCons (eVar 5) aNil)))) (eC .non) (eVar 5)))
    bNil)))
theorem ok_made_kind {f : Addr} {fd : FuncData} (T : Txt K w mg) (F : Fun K "made_kind" "made_kind" s_made_kind f fd) (hm : mg "made_kind" = some (.ref f)) (b : Binds K fd ["step", "table", "book", "bodies"] []) (c_num_kind : CallOk P w K mg base "num_kind" 1 4 F_num_kind) (c_nil_kind : CallOk P w K mg base "nil_kind" 1 4 F_nil_kind) (c_sum_kind : CallOk P w K mg base "sum_kind" 5 4 F_sum_kind) (c_row_kind : CallOk P w K mg base "row_kind" 1 4 F_row_kind) (c_part_kind : CallOk P w K mg base "part_kind" 2 4 F_part_kind) (c_way_kind : CallOk P w K mg base "way_kind" 6 4 F_way_kind) (c_take_kind : CallOk P w K mg base "take_kind" 6 4 F_take_kind) (c_box_kind : CallOk P w K mg base "box_kind" 1 4 F_box_kind) (c_open_kind : CallOk P w K mg base "open_kind" 2 4 F_open_kind) (c_put_kind : CallOk P w K mg base "put_kind" 5 4 F_put_kind) (c_print_kind : CallOk P w K mg base "print_kind" 5 4 F_print_kind) (c_body_kind : CallOk P w K mg base "body_kind" 6 4 F_body_kind) (c_call_kind : CallOk P w K mg base "call_kind" 5 4 F_call_kind) (c_is_too_great : CallOk P w K mg base "is_too_great" 3 1 F_is_too_great) : CallOk P w K mg base "made_kind" 7 4 F_made_kind := by
  have c_num_kind := c_num_kind.mono (k := 1) (j := 6) (by omega); have c_nil_kind := c_nil_kind.mono (k := 1) (j := 6) (by omega); have c_sum_kind := c_sum_kind.mono (k := 5) (j := 6) (by omega); have c_row_kind := c_row_kind.mono (k := 1) (j := 6) (by omega); have c_part_kind := c_part_kind.mono (k := 2) (j := 6) (by omega); have c_way_kind := c_way_kind.mono (k := 6) (j := 6) (by omega); have c_take_kind := c_take_kind.mono (k := 6) (j := 6) (by omega); have c_box_kind := c_box_kind.mono (k := 1) (j := 6) (by omega); have c_open_kind := c_open_kind.mono (k := 2) (j := 6) (by omega); have c_put_kind := c_put_kind.mono (k := 5) (j := 6) (by omega); have c_print_kind := c_print_kind.mono (k := 5) (j := 6) (by omega); have c_body_kind := c_body_kind.mono (k := 6) (j := 6) (by omega); have c_call_kind := c_call_kind.mono (k := 5) (j := 6) (by omega); have c_is_too_great := c_is_too_great.mono (k := 3) (j := 6) (by omega); 
  obtain ⟨a_STEP_KINDS, m_STEP_KINDS, h_STEP_KINDS⟩ := T.t_STEP_KINDS
  have d_STEP_KINDS : ∀ y F, disp_STEP_KINDS.lookup y = some F → CallF P w K mg base y 6 4 F := (disp_cons (T.n_num_kind.elim fun g h => c_num_kind.callF h.1 h.2) (disp_cons (T.n_nil_kind.elim fun g h => c_nil_kind.callF h.1 h.2) (disp_cons (T.n_sum_kind.elim fun g h => c_sum_kind.callF h.1 h.2) (disp_cons (T.n_row_kind.elim fun g h => c_row_kind.callF h.1 h.2) (disp_cons (T.n_part_kind.elim fun g h => c_part_kind.callF h.1 h.2) (disp_cons (T.n_way_kind.elim fun g h => c_way_kind.callF h.1 h.2) (disp_cons (T.n_take_kind.elim fun g h => c_take_kind.callF h.1 h.2) (disp_cons (T.n_box_kind.elim fun g h => c_box_kind.callF h.1 h.2) (disp_cons (T.n_open_kind.elim fun g h => c_open_kind.callF h.1 h.2) (disp_cons (T.n_put_kind.elim fun g h => c_put_kind.callF h.1 h.2) (disp_cons (T.n_print_kind.elim fun g h => c_print_kind.callF h.1 h.2) (disp_cons (T.n_body_kind.elim fun g h => c_body_kind.callF h.1 h.2) (disp_cons (T.n_call_kind.elim fun g h => c_call_kind.callF h.1 h.2) disp_nil)))))))))))))
  refine call_ok (k := 6) F hm sc_made_kind b fun cdv A outer s H E hr => ?_
  have nd := sc_made_kind.nd
  exact (sb_cons (ss_set (se_tabix rfl m_STEP_KINDS h_STEP_KINDS (se_ix (se_var 0) se_int) (by exact fun _ _ => rfl)) (sg_nm 4 nd))
    (sb_cons (ss_set (se_callL d_STEP_KINDS hr rfl (by first | exact Or.inl rfl | exact Or.inr (Or.inl rfl) | exact Or.inr (Or.inr rfl)) (sa_cons (se_var 0) (sa_cons (se_var 1) (sa_cons (se_var 2) (sa_cons (se_var 3) sa_nil))))) (sg_nm 5 nd))
    (sb_cons (ss_ret (se_if (st_w (sw_or (st_cmp op_isN ref_isN (se_var 5) se_non) (sw_or1 (st_val (se_call c_is_too_great hr rfl (sa_cons (se_var 5) sa_nil)))))) se_non (se_var 5)))
    sb_nil)))
/-! ### come_ahead -/
abbrev s_come_ahead : Stmt := top 103
abbrev n_come_ahead : List Str := ["end", "table", "book", "answer", "kind", "ahead", "parts", "part"]
theorem sc_come_ahead : FnScope n_come_ahead ["end", "table", "book", "answer"] (defScope s_come_ahead) := ⟨rfl, rfl, rfl, by decide +kernel, rfl, by decide +kernel, by decide +kernel⟩
def ct1_come_ahead : TM := tYesM
def ce1_come_ahead : EM := (eCall F_all_put_in (aCons (eVar 6) (aCons (eOp fIx (eVar 4) (eC (.int 2))) aNil)))
def ce2_come_ahead : EM := (eCall F_is_too_great (aCons (eVar 7) aNil))
def F_come_ahead : List W → M W := fnM 4 8 (bCons (sIf (tBl (eOp fEq (eOp fIx (eVar 0) (eC (.int 0))) (eC (.str "back")))) (bCons (sRet (eIf (tVal (eCall F_are_there (aCons (eVar 1) (aCons (eSl (eVar 0) (oSome (eC (.int 1))) oNone) (aCons (eTup (aCons (eVar 3) aNil)) aNil))))) (eLst aNil) (eC .non)))
    bNil) bNil)
    (bCons (sIf (tBl (eOp fEq (eOp fIx (eVar 0) (eC (.int 0))) (eC (.str "if")))) (bCons (sRet (eIf (tVal (eCall F_are_there (aCons (eVar 1) (aCons (eSl (eVar 0) (oSome (eC (.int 1))) (oSome (eC (.int 2)))) (aCons (eTup (aCons (eC (.tup ((["num"] : List Str).map .str))) aNil)) aNil))))) (eLst (aCons (eTup aNil) (aCons (eTup aNil) aNil))) (eC .non)))
    bNil) bNil)
    (bCons (sSet (.nm 4) (eCall F_there_with (aCons (eVar 1) (aCons (eOp fIx (eVar 0) (eC (.int 1))) (aCons (eC (.str "data")) aNil)))))
    (bCons (sIf (tOrM (tBl (eOp fIsN (eVar 4) (eC .non))) (tBl (eOp fNe (eCall bLen (aCons (eOp fIx (eVar 0) (eC (.int 2))) aNil)) (eCall bLen (aCons (eOp fIx (eOp fIx (eVar 2) (eOp fIx (eVar 4) (eC (.int 1)))) (eC (.int 1))) aNil))))) (bCons (sRet (eC .non))
    bNil) bNil)
    (bCons (sSet (.nm 5) (eComp (iSeq (eOp fIx (eOp fIx (eVar 2) (eOp fIx (eVar 4) (eC (.int 1)))) (eC (.int 1)))) (.nm 6) [6] ct1_come_ahead ce1_come_ahead 1000000))
    (bCons (sIf (tVal (eCall bAny (aCons (eComp2 (iSeq (eVar 5)) (.nm 6) [6, 7] tYesM (iSeq (eVar 6)) (.nm 7) [7] tYesM ce2_come_ahead 1000000 1000000) aNil))) (bCons (sRet (eC .non))
    bNil) bNil)
    (bCons (sRet (eVar 5))
    bNil)))))))
theorem ok_come_ahead {f : Addr} {fd : FuncData} (T : Txt K w mg) (F : Fun K "come_ahead" "come_ahead" s_come_ahead f fd) (hm : mg "come_ahead" = some (.ref f)) (b : Binds K fd ["end", "table", "book", "answer"] []) (c_are_there : CallOk P w K mg base "are_there" 4 3 F_are_there) (c_there_with : CallOk P w K mg base "there_with" 1 3 F_there_with) (c_all_put_in : CallOk P w K mg base "all_put_in" 5 2 F_all_put_in) (c_is_too_great : CallOk P w K mg base "is_too_great" 3 1 F_is_too_great) : CallOk P w K mg base "come_ahead" 6 4 F_come_ahead := by
  have c_are_there := c_are_there.mono (k := 4) (j := 5) (by omega); have c_there_with := c_there_with.mono (k := 1) (j := 5) (by omega); have c_all_put_in := c_all_put_in.mono (k := 5) (j := 5) (by omega); have c_is_too_great := c_is_too_great.mono (k := 3) (j := 5) (by omega); 
  obtain ⟨u_NUM, m_NUM, h_NUM⟩ := T.k_NUM
  refine call_ok (k := 5) F hm sc_come_ahead b fun cdv A outer s H E hr => ?_
  have nd := sc_come_ahead.nd
  exact (sb_cons (ss_if (st_cmp (op_eqD hr.units) ref_eq (se_ix (se_var 0) se_int) se_str) (sb_cons (ss_ret (se_if (st_val (se_call c_are_there hr rfl (sa_cons (se_var 1) (sa_cons (se_slice (se_var 0) (so_some se_int) so_none) (sa_cons (se_tup (sa_cons (se_var 3) sa_nil)) sa_nil))))) (se_lst sa_nil) se_non))
    sb_nil) sb_nil)
    (sb_cons (ss_if (st_cmp (op_eqD hr.units) ref_eq (se_ix (se_var 0) se_int) se_str) (sb_cons (ss_ret (se_if (st_val (se_call c_are_there hr rfl (sa_cons (se_var 1) (sa_cons (se_slice (se_var 0) (so_some se_int) (so_some se_int)) (sa_cons (se_tup (sa_cons (se_gl rfl m_NUM h_NUM) sa_nil)) sa_nil))))) (se_lst (sa_cons (se_tup sa_nil) (sa_cons (se_tup sa_nil) sa_nil))) se_non))
    sb_nil) sb_nil)
    (sb_cons (ss_set (se_call c_there_with hr rfl (sa_cons (se_var 1) (sa_cons (se_ix (se_var 0) se_int) (sa_cons se_str sa_nil)))) (sg_nm 4 nd))
    (sb_cons (ss_if (st_w (sw_or (st_cmp op_isN ref_isN (se_var 4) se_non) (sw_or1 (st_cmp (op_neD hr.units) ref_ne (se_callB call_len_seq ref_len rfl T.len_ (sa_cons (se_ix (se_var 0) se_int) sa_nil)) (se_callB call_len_seq ref_len rfl T.len_ (sa_cons (se_ix (se_ix (se_var 2) (se_ix (se_var 4) se_int)) se_int) sa_nil)))))) (sb_cons (ss_ret se_non)
    sb_nil) sb_nil)
    (sb_cons (ss_setComp [("parts", 6)] 1000000 rfl nd (blkOk_by (by with_unfolding_all rfl)) (by decide) rfl (si_seq (se_ix (se_ix (se_var 2) (se_ix (se_var 4) se_int)) se_int)) (fun _ _ _ _ _ => (sg_nm 6 nd)) (fun _ _ _ _ _ => sts_nil) (fun _ _ _ _ _ => (se_call c_all_put_in hr rfl (sa_cons (se_var 6) (sa_cons (se_ix (se_var 4) se_int) sa_nil)))))
    (sb_cons (ss_if (st_val (se_callB (cr_any rfl) ref_any rfl T.any_ (sa_cons (se_comp2 [("parts", 6), ("part", 7)] [7] 1000000 1000000 rfl nd (blkOk_by (by with_unfolding_all rfl)) (by decide) (by decide) (by decide) (si_seq (se_var 5)) (fun _ _ _ _ _ => (sg_nm 6 nd)) (fun _ _ _ _ _ => sts_nil) (fun _ _ _ _ _ => (si_seq (se_var 6))) (fun _ _ _ _ _ => (sg_nm 7 nd)) (fun _ _ _ _ _ => sts_nil) (fun _ _ _ _ _ => (se_call c_is_too_great hr rfl (sa_cons (se_var 7) sa_nil)))) sa_nil))) (sb_cons (ss_ret se_non)
    sb_nil) sb_nil)
    (sb_cons (ss_ret (se_var 5))
    sb_nil)))))))
/-! ### rows_and_tables -/
abbrev s_rows_and_tables : Stmt := top 104
abbrev n_rows_and_tables : List Str := ["book", "bodies", "number", "_", "places", "answer", "block", "found", "waiting", "way_there", "steps", "end", "table", "at", "step", "point", "kind", "ahead", "blocks", "within", "kinds"]
theorem sc_rows_and_tables : FnScope n_rows_and_tables ["book", "bodies", "number"] (defScope s_rows_and_tables) := ⟨rfl, rfl, rfl, by decide +kernel, rfl, by decide +kernel, by decide +kernel⟩
def fb1_rows_and_tables : SM := (bCons (sSet (.nm 15) (eTup (aStar (eVar 9) (aCons (eVar 13) aNil))))
    (bCons (sTSet (eVar 7) (eVar 15) (eTup (aCons (eVar 14) (aCons (eVar 12) aNil))))
    (bCons (sSet (.nm 16) (eCall F_made_kind (aCons (eVar 14) (aCons (eVar 12) (aCons (eVar 0) (aCons (eVar 1) aNil))))))
    (bCons (sIf (tBl (eOp fIsN (eVar 16) (eC .non))) (bCons sNever
    bNil) bNil)
    (bCons (sSet (.nm 12) (eTup (aStar (eVar 12) (aCons (eVar 16) aNil))))
    bNil)))))
def ct2_rows_and_tables : TM := tYesM
def ce2_rows_and_tables : EM := (eTup (aCons (eTup (aStar (eVar 15) (aCons (eVar 13) aNil))) (aCons (eOp fIx (eVar 18) (eVar 13)) (aCons (eOp fAdd (eVar 12) (eVar 20)) aNil))))
def wt3_rows_and_tables : TM := (tVal (eVar 8))
def wb3_rows_and_tables : SM := (bCons (sSet (.tp [(.nm 9), (.tp [(.nm 10), (.nm 11)]), (.nm 12)]) (eMeth mPop (eVar 8) aNil))
    (bCons (sFor (iEnumM (aCons (eVar 10) aNil)) (.tp [(.nm 13), (.nm 14)]) fb1_rows_and_tables 1000000)
    (bCons (sSet (.nm 15) (eTup (aStar (eVar 9) (aCons (eCall bLen (aCons (eVar 10) aNil)) aNil))))
    (bCons (sTSet (eVar 7) (eVar 15) (eTup (aCons (eVar 11) (aCons (eVar 12) aNil))))
    (bCons (sSet (.nm 17) (eCall F_come_ahead (aCons (eVar 11) (aCons (eVar 12) (aCons (eVar 0) (aCons (eVar 5) aNil))))))
    (bCons (sIf (tBl (eOp fIsN (eVar 17) (eC .non))) (bCons sNever
    bNil) bNil)
    (bCons (sSet (.nm 18) (eCall F_blocks_within (aCons (eVar 11) aNil)))
    (bCons (sSet (.nm 19) (eComp (iEnumM (aCons (eVar 17) aNil)) (.tp [(.nm 13), (.nm 20)]) [13, 20] ct2_rows_and_tables ce2_rows_and_tables 1000000))
    (bCons (sExpr (eMeth mExt (eVar 8) (aCons (eUn fRev (eVar 19)) aNil)))
    bNil)))))))))
def F_rows_and_tables : List W → M W := fnM 3 21 (bCons (sSet (.tp [(.nm 3), (.nm 4), (.nm 5), (.nm 6)]) (eOp fIx (eVar 1) (eVar 2)))
    (bCons (sSet (.nm 7) eDictT0)
    (bCons (sSet (.nm 8) (eLst (aCons (eTup (aCons (eTup aNil) (aCons (eVar 6) (aCons (eVar 4) aNil)))) aNil)))
    (bCons (sWhile wt3_rows_and_tables wb3_rows_and_tables 1000000)
    (bCons (sRet (eVar 7))
    bNil)))))
theorem ok_rows_and_tables {f : Addr} {fd : FuncData} (T : Txt K w mg) (F : Fun K "rows_and_tables" "rows_and_tables" s_rows_and_tables f fd) (hm : mg "rows_and_tables" = some (.ref f)) (b : Binds K fd ["book", "bodies", "number"] []) (c_blocks_within : CallOk P w K mg base "blocks_within" 1 1 F_blocks_within) (c_made_kind : CallOk P w K mg base "made_kind" 7 4 F_made_kind) (c_come_ahead : CallOk P w K mg base "come_ahead" 6 4 F_come_ahead) : CallOk P w K mg base "rows_and_tables" 8 3 F_rows_and_tables := by
  have c_blocks_within := c_blocks_within.mono (k := 1) (j := 7) (by omega); have c_made_kind := c_made_kind.mono (k := 7) (j := 7) (by omega); have c_come_ahead := c_come_ahead.mono (k := 6) (j := 7) (by omega); 
  refine call_ok (k := 7) F hm sc_rows_and_tables b fun cdv A outer s H E hr => ?_
  have nd := sc_rows_and_tables.nd
  exact (sb_cons (ss_set (se_ix (se_var 1) (se_var 2)) (sg_tp rfl (sgs_cons (sg_nm 3 nd) (sgs_cons (sg_nm 4 nd) (sgs_cons (sg_nm 5 nd) (sgs_cons (sg_nm 6 nd) sgs_nil))))))
    (sb_cons (ss_set se_dictT0 (sg_nm 7 nd))
    (sb_cons (ss_set (se_lst (sa_cons (se_tup (sa_cons (se_tup sa_nil) (sa_cons (se_var 6) (sa_cons (se_var 4) sa_nil)))) sa_nil)) (sg_nm 8 nd))
    (sb_cons (ss_while 1000000 PassesOwn.never (st_val (se_var 8)) (sb_cons (ss_set (se_pop (se_var 8)) (sg_tp rfl (sgs_cons (sg_nm 9 nd) (sgs_cons (sg_tp rfl (sgs_cons (sg_nm 10 nd) (sgs_cons (sg_nm 11 nd) sgs_nil))) (sgs_cons (sg_nm 12 nd) sgs_nil)))))
    (sb_cons (ss_for 1000000 PassesOwn.never rfl (si_enum rfl T.enumerate_ (sa_cons (se_var 10) sa_nil)) (sg_tp rfl (sgs_cons (sg_nm 13 nd) (sgs_cons (sg_nm 14 nd) sgs_nil))) (sb_cons (ss_set (se_tup' (pa_starS (se_var 9) (sa_cons (se_var 13) sa_nil))) (sg_nm 15 nd))
    (sb_cons (ss_tput (hu_of hr) (se_var 7) (se_var 15) (se_tup (sa_cons (se_var 14) (sa_cons (se_var 12) sa_nil))))
    (sb_cons (ss_set (se_call c_made_kind hr rfl (sa_cons (se_var 14) (sa_cons (se_var 12) (sa_cons (se_var 0) (sa_cons (se_var 1) sa_nil))))) (sg_nm 16 nd))
    (sb_cons (ss_if (st_cmp op_isN ref_isN (se_var 16) se_non) (sb_cons ss_never
    sb_nil) sb_nil)
    (sb_cons (ss_set (se_tup' (pa_starS (se_var 12) (sa_cons (se_var 16) sa_nil))) (sg_nm 12 nd))
    sb_nil))))))
    (sb_cons (ss_set (se_tup' (pa_starS (se_var 9) (sa_cons (se_callB call_len_seq ref_len rfl T.len_ (sa_cons (se_var 10) sa_nil)) sa_nil))) (sg_nm 15 nd))
    (sb_cons (ss_tput (hu_of hr) (se_var 7) (se_var 15) (se_tup (sa_cons (se_var 11) (sa_cons (se_var 12) sa_nil))))
    (sb_cons (ss_set (se_call c_come_ahead hr rfl (sa_cons (se_var 11) (sa_cons (se_var 12) (sa_cons (se_var 0) (sa_cons (se_var 5) sa_nil))))) (sg_nm 17 nd))
    (sb_cons (ss_if (st_cmp op_isN ref_isN (se_var 17) se_non) (sb_cons ss_never
    sb_nil) sb_nil)
    (sb_cons (ss_set (se_call c_blocks_within hr rfl (sa_cons (se_var 11) sa_nil)) (sg_nm 18 nd))
    (sb_cons (ss_setComp [("at", 13), ("kinds", 20)] 1000000 rfl nd (blkOk_by (by with_unfolding_all rfl)) (by decide) rfl (si_enum rfl T.enumerate_ (sa_cons (se_var 17) sa_nil)) (fun _ _ _ _ _ => (sg_tp rfl (sgs_cons (sg_nm 13 nd) (sgs_cons (sg_nm 20 nd) sgs_nil)))) (fun _ _ _ _ _ => sts_nil) (fun _ _ _ _ _ => (se_tup (sa_cons (se_tup' (pa_starS (se_var 15) (sa_cons (se_var 13) sa_nil))) (sa_cons (se_ix (se_var 18) (se_var 13)) (sa_cons (se_op or_add ref_add (se_var 12) (se_var 20)) sa_nil))))))
    (sb_cons (ss_expr (se_extend (se_var 8) (se_rev (se_var 19))))
    sb_nil))))))))))
    (sb_cons (ss_ret (se_var 7))
    sb_nil)))))
/-! ### Program.__init__ -/
abbrev s_Program___init__ : Stmt := inCls (top 106) 0
abbrev n_Program___init__ : List Str := ["self", "book", "bodies", "fault", "number"]
theorem sc_Program___init__ : FnScope n_Program___init__ ["self", "book", "bodies"] (defScope s_Program___init__) := ⟨rfl, rfl, rfl, by decide +kernel, rfl, by decide +kernel, by decide +kernel⟩
def ct1_Program___init__ : TM := tYesM
def ce1_Program___init__ : EM := (eCall F_rows_and_tables (aCons (eVar 1) (aCons (eVar 2) (aCons (eVar 4) aNil))))
def F_Program___init__ : List W → M W := fnM 3 5 (bCons (sSet (.nm 3) (eCall F_form_fault (aCons (eVar 1) (aCons (eVar 2) aNil))))
    (bCons (sIf (tBl (eOp fNotN (eVar 3) (eC .non))) (bCons sNever
    bNil) bNil)
    (bCons (sSetF ["Program"] "book" (eVar 0) (eVar 1))
    (bCons (sSetF ["Program"] "bodies" (eVar 0) (eVar 2))
    (bCons (sSetF ["Program"] "tables" (eVar 0) (eCall bTuple (aCons (eComp (iRng1M (aCons (eCall bLen (aCons (eVar 2) aNil)) aNil)) (.nm 4) [4] ct1_Program___init__ ce1_Program___init__ 1000000) aNil)))
    bNil)))))
theorem ok_Program___init__ {C f : Addr} {fd : FuncData} (T : Txt K w mg) (F : Fun K "__init__" "Program.__init__" s_Program___init__ f fd) (hm : mg "Program" = some (.ref C)) (hns : PySem.W.nsIn K mainGlobals "Program" = some (some (.ref C))) (hM : Mk K C f) (b : Binds K fd ["self", "book", "bodies"] []) (c_form_fault : CallOk P w K mg base "form_fault" 12 2 F_form_fault) (c_rows_and_tables : CallOk P w K mg base "rows_and_tables" 8 3 F_rows_and_tables) : MkOk P w K mg base "Program" 13 2 F_Program___init__ := by
  have c_form_fault := c_form_fault.mono (k := 12) (j := 12) (by omega); have c_rows_and_tables := c_rows_and_tables.mono (k := 8) (j := 12) (by omega); 
  have q_bodies := T.f_bodies
  have q_book := T.f_book
  have q_tables := T.f_tables
  refine ⟨C, f, fd, ["self", "book", "bodies"], hm, hns, hM, b, rfl, def_ok (k := 12) F sc_Program___init__ fun cdv A outer s H E hr => ?_⟩
  have nd := sc_Program___init__.nd
  exact (sb_cons (ss_set (se_call c_form_fault hr rfl (sa_cons (se_var 1) (sa_cons (se_var 2) sa_nil))) (sg_nm 3 nd))
    (sb_cons (ss_if (st_cmp op_notN ref_notN (se_var 3) se_non) (sb_cons ss_never
    sb_nil) sb_nil)
    (sb_cons (ss_fld (se_var 0) (se_var 1) q_book)
    (sb_cons (ss_fld (se_var 0) (se_var 2) q_bodies)
    (sb_cons (ss_fld (se_var 0) (se_callTy call_tuple_of ref_tuple rfl T.tuple_ (sa_cons (se_comp [("number", 4)] 1000000 rfl nd (blkOk_by (by with_unfolding_all rfl)) (by decide) (si_rng1 rfl T.range_ (sa_cons (se_callB call_len_seq ref_len rfl T.len_ (sa_cons (se_var 2) sa_nil)) sa_nil)) (fun _ _ _ _ _ => (sg_nm 4 nd)) (fun _ _ _ _ _ => sts_nil) (fun _ _ _ _ _ => (se_call c_rows_and_tables hr rfl (sa_cons (se_var 1) (sa_cons (se_var 2) (sa_cons (se_var 4) sa_nil)))))) sa_nil)) q_tables)
    sb_nil)))))
/-! ### _law_bag -/
abbrev s__law_bag : Stmt := top 108
abbrev n__law_bag : List Str := ["_law_script", "_law_seed", "_law_cell", "_law_great", "_law_always"]
theorem sc__law_bag : FnScope n__law_bag ["_law_script"] (defScope s__law_bag) := ⟨rfl, rfl, rfl, by decide +kernel, rfl, by decide +kernel, by decide +kernel⟩
def fb1__law_bag : SM := (bCons (sSet (.nm 1) (eOp fMod (eCall bInt (aCons (eOp fAdd (eOp fAdd (eOp fMulA (eVar 1) (eC (.int 69621))) (eOp fMod (eCall bInt (aCons (eVar 2) aNil)) (eC (.int 1000003)))) (eC (.int 7))) aNil)) (eC (.int 2147483647))))
    bNil)
def ct2__law_bag : TM := (tBl (eOp fGe (eCall bAbs (aCons (eCall bInt (aCons (eVar 2) aNil)) aNil)) (eOp fPow (eC (.int 10)) (eC (.int 18)))))
def ce2__law_bag : EM := (eCall bAbs (aCons (eCall bInt (aCons (eVar 2) aNil)) aNil))
def ct3__law_bag : TM := tYesM
def ce3__law_bag : EM := (eCall bInt (aCons (eVar 2) aNil))
def F__law_bag : List W → M W := fnM 1 5 (bCons (sSet (.nm 1) (eOp fAdd (eC (.int 29)) (eCall bLen (aCons (eVar 0) aNil))))
    (bCons (sFor (iSeq (eSl (eVar 0) oNone (oSome (eC (.int 63))))) (.nm 2) fb1__law_bag 1000000)
    (bCons (sSet (.nm 3) (eComp (iSeq (eSl (eVar 0) oNone (oSome (eC (.int 63))))) (.nm 2) [2] ct2__law_bag ce2__law_bag 1000000))
    (bCons (sSet (.nm 4) (eC .non))
    (bCons (sIf (tAndM (tBl (eOp fLt (eCall bLen (aCons (eVar 0) aNil)) (eC (.int 2)))) (tBl (eOp fEq (eCall bLen (aCons (eVar 3) aNil)) (eC (.int 0))))) (bCons (sSet (.nm 4) (eCall bAbs (aCons (eCall bSum (aCons (eComp (iSeq (eVar 0)) (.nm 2) [2] ct3__law_bag ce3__law_bag 1000000) aNil)) aNil)))
    bNil) bNil)
    (bCons (sRet (eLst (aCons (eVar 1) (aCons (eC (.int 1)) (aCons (eVar 3) (aCons (eVar 4) aNil))))))
    bNil))))))
theorem ok__law_bag {f : Addr} {fd : FuncData} (T : Txt K w mg) (F : Fun K "_law_bag" "_law_bag" s__law_bag f fd) (hm : mg "_law_bag" = some (.ref f)) (b : Binds K fd ["_law_script"] [])  : CallOk P w K mg base "_law_bag" 1 1 F__law_bag := by
  
  refine call_ok (k := 0) F hm sc__law_bag b fun cdv A outer s H E hr => ?_
  have nd := sc__law_bag.nd
  exact (sb_cons (ss_set (se_op or_add ref_add se_int (se_callB call_len_seq ref_len rfl T.len_ (sa_cons (se_var 0) sa_nil))) (sg_nm 1 nd))
    (sb_cons (ss_for 1000000 PassesOwn.never rfl (si_seq (se_slice (se_var 0) so_none (so_some se_int))) (sg_nm 2 nd) (sb_cons (ss_set (se_op op_mod ref_mod (se_callTy call_int1 ref_int rfl T.int_ (sa_cons (se_op or_add ref_add (se_op or_add ref_add (se_op or_mul ref_mul (se_var 1) se_int) (se_op op_mod ref_mod (se_callTy call_int1 ref_int rfl T.int_ (sa_cons (se_var 2) sa_nil)) se_int)) se_int) sa_nil)) se_int) (sg_nm 1 nd))
    sb_nil))
    (sb_cons (ss_setComp [("_law_cell", 2)] 1000000 rfl nd (blkOk_by (by with_unfolding_all rfl)) (by decide) rfl (si_seq (se_slice (se_var 0) so_none (so_some se_int))) (fun _ _ _ _ _ => (sg_nm 2 nd)) (fun _ _ _ _ _ => (sts_one (st_cmp op_ge ref_ge (se_callB call_abs ref_abs rfl T.abs_ (sa_cons (se_callTy call_int1 ref_int rfl T.int_ (sa_cons (se_var 2) sa_nil)) sa_nil)) (se_op op_pow ref_pow se_int se_int)))) (fun _ _ _ _ _ => (se_callB call_abs ref_abs rfl T.abs_ (sa_cons (se_callTy call_int1 ref_int rfl T.int_ (sa_cons (se_var 2) sa_nil)) sa_nil))))
    (sb_cons (ss_set se_non (sg_nm 4 nd))
    (sb_cons (ss_if (st_w (sw_and (st_cmp op_lt ref_lt (se_callB call_len_seq ref_len rfl T.len_ (sa_cons (se_var 0) sa_nil)) se_int) (sw_and1 (st_cmp (op_eqD hr.units) ref_eq (se_callB call_len_seq ref_len rfl T.len_ (sa_cons (se_var 3) sa_nil)) se_int)))) (sb_cons (ss_set (se_callB call_abs ref_abs rfl T.abs_ (sa_cons (se_callB (cr_sum rfl) ref_sum rfl T.sum_ (sa_cons (se_comp [("_law_cell", 2)] 1000000 rfl nd (blkOk_by (by with_unfolding_all rfl)) (by decide) (si_seq (se_var 0)) (fun _ _ _ _ _ => (sg_nm 2 nd)) (fun _ _ _ _ _ => sts_nil) (fun _ _ _ _ _ => (se_callTy call_int1 ref_int rfl T.int_ (sa_cons (se_var 2) sa_nil)))) sa_nil)) sa_nil)) (sg_nm 4 nd))
    sb_nil) sb_nil)
    (sb_cons (ss_ret (se_lst (sa_cons (se_var 1) (sa_cons se_int (sa_cons (se_var 3) (sa_cons (se_var 4) sa_nil))))))
    sb_nil))))))
/-! ### _law_pick -/
abbrev s__law_pick : Stmt := top 109
abbrev n__law_pick : List Str := ["_law_bag_here", "_law_many", "_law_great", "_law_digit", "_law_number"]
theorem sc__law_pick : FnScope n__law_pick ["_law_bag_here", "_law_many"] (defScope s__law_pick) := ⟨rfl, rfl, rfl, by decide +kernel, rfl, by decide +kernel, by decide +kernel⟩
def F__law_pick : List W → M W := fnM 2 5 (bCons (sIf (tBl (eOp fNotN (eOp fIx (eVar 0) (eC (.int 3))) (eC .non))) (bCons (sRet (eOp fMod (eCall bInt (aCons (eOp fIx (eVar 0) (eC (.int 3))) aNil)) (eVar 1)))
    bNil) bNil)
    (bCons (sSetIx (eVar 0) (eC (.int 1)) (eOp fAdd (eOp fIx (eVar 0) (eC (.int 1))) (eC (.int 1))))
    (bCons (sSet (.nm 2) (eOp fIx (eVar 0) (eC (.int 2))))
    (bCons (sIf (tBl (eOp fGt (eCall bLen (aCons (eVar 2) aNil)) (eC (.int 0)))) (bCons (sSet (.nm 3) (eOp fMod (eCall bInt (aCons (eOp fIx (eVar 2) (eC (.int 0))) aNil)) (eVar 1)))
    (bCons (sSetIx (eVar 2) (eC (.int 0)) (eOp fFdiv (eCall bInt (aCons (eOp fIx (eVar 2) (eC (.int 0))) aNil)) (eVar 1)))
    (bCons (sIf (tBl (eOp fEq (eOp fIx (eVar 2) (eC (.int 0))) (eC (.int 0)))) (bCons (sExpr (eMeth mPopAt (eVar 2) (aCons (eC (.int 0)) aNil)))
    bNil) bNil)
    (bCons (sRet (eVar 3))
    bNil)))) bNil)
    (bCons (sSet (.nm 4) (eOp fMod (eCall bInt (aCons (eOp fMulA (eOp fAdd (eOp fIx (eVar 0) (eC (.int 0))) (eOp fMulA (eC (.int 7919)) (eOp fIx (eVar 0) (eC (.int 1))))) (eC (.int 48271))) aNil)) (eC (.int 2147483647))))
    (bCons (sSet (.nm 4) (eOp fMod (eCall bInt (aCons (eOp fMulA (eVar 4) (eOp fAdd (eOp fFdiv (eVar 4) (eC (.int 1009))) (eC (.int 69621)))) aNil)) (eC (.int 2147483647))))
    (bCons (sSet (.nm 4) (eOp fMod (eCall bInt (aCons (eOp fMulA (eVar 4) (eOp fAdd (eOp fFdiv (eVar 4) (eC (.int 2003))) (eC (.int 40692)))) aNil)) (eC (.int 2147483399))))
    (bCons (sRet (eOp fMod (eCall bInt (aCons (eOp fFdiv (eVar 4) (eC (.int 16))) aNil)) (eVar 1)))
    bNil))))))))
theorem ok__law_pick {f : Addr} {fd : FuncData} (T : Txt K w mg) (F : Fun K "_law_pick" "_law_pick" s__law_pick f fd) (hm : mg "_law_pick" = some (.ref f)) (b : Binds K fd ["_law_bag_here", "_law_many"] [])  : CallOk P w K mg base "_law_pick" 1 2 F__law_pick := by
  
  refine call_ok (k := 0) F hm sc__law_pick b fun cdv A outer s H E hr => ?_
  have nd := sc__law_pick.nd
  exact (sb_cons (ss_if (st_cmp op_notN ref_notN (se_ix (se_var 0) se_int) se_non) (sb_cons (ss_ret (se_op op_mod ref_mod (se_callTy call_int1 ref_int rfl T.int_ (sa_cons (se_ix (se_var 0) se_int) sa_nil)) (se_var 1)))
    sb_nil) sb_nil)
    (sb_cons (ss_setIx (se_var 0) se_int (se_op or_add ref_add (se_ix (se_var 0) se_int) se_int))
    (sb_cons (ss_set (se_ix (se_var 0) se_int) (sg_nm 2 nd))
    (sb_cons (ss_if (st_cmp op_gt ref_gt (se_callB call_len_seq ref_len rfl T.len_ (sa_cons (se_var 2) sa_nil)) se_int) (sb_cons (ss_set (se_op op_mod ref_mod (se_callTy call_int1 ref_int rfl T.int_ (sa_cons (se_ix (se_var 2) se_int) sa_nil)) (se_var 1)) (sg_nm 3 nd))
    (sb_cons (ss_setIx (se_var 2) se_int (se_op op_fdiv ref_fdiv (se_callTy call_int1 ref_int rfl T.int_ (sa_cons (se_ix (se_var 2) se_int) sa_nil)) (se_var 1)))
    (sb_cons (ss_if (st_cmp (op_eqD hr.units) ref_eq (se_ix (se_var 2) se_int) se_int) (sb_cons (ss_expr (se_popAt (se_var 2) se_int))
    sb_nil) sb_nil)
    (sb_cons (ss_ret (se_var 3))
    sb_nil)))) sb_nil)
    (sb_cons (ss_set (se_op op_mod ref_mod (se_callTy call_int1 ref_int rfl T.int_ (sa_cons (se_op or_mul ref_mul (se_op or_add ref_add (se_ix (se_var 0) se_int) (se_op or_mul ref_mul se_int (se_ix (se_var 0) se_int))) se_int) sa_nil)) se_int) (sg_nm 4 nd))
    (sb_cons (ss_set (se_op op_mod ref_mod (se_callTy call_int1 ref_int rfl T.int_ (sa_cons (se_op or_mul ref_mul (se_var 4) (se_op or_add ref_add (se_op op_fdiv ref_fdiv (se_var 4) se_int) se_int)) sa_nil)) se_int) (sg_nm 4 nd))
    (sb_cons (ss_set (se_op op_mod ref_mod (se_callTy call_int1 ref_int rfl T.int_ (sa_cons (se_op or_mul ref_mul (se_var 4) (se_op or_add ref_add (se_op op_fdiv ref_fdiv (se_var 4) se_int) se_int)) sa_nil)) se_int) (sg_nm 4 nd))
    (sb_cons (ss_ret (se_op op_mod ref_mod (se_callTy call_int1 ref_int rfl T.int_ (sa_cons (se_op op_fdiv ref_fdiv (se_var 4) se_int) sa_nil)) (se_var 1)))
    sb_nil))))))))
/-! ### _law_some -/
abbrev s__law_some : Stmt := top 110
abbrev n__law_some : List Str := ["_law_bag_here", "_law_things"]
theorem sc__law_some : FnScope n__law_some ["_law_bag_here", "_law_things"] (defScope s__law_some) := ⟨rfl, rfl, rfl, by decide +kernel, rfl, by decide +kernel, by decide +kernel⟩
def F__law_some : List W → M W := fnM 2 2 (bCons (sRet (eOp fIx (eVar 1) (eCall F__law_pick (aCons (eVar 0) (aCons (eCall bLen (aCons (eVar 1) aNil)) aNil)))))
    bNil)
theorem ok__law_some {f : Addr} {fd : FuncData} (T : Txt K w mg) (F : Fun K "_law_some" "_law_some" s__law_some f fd) (hm : mg "_law_some" = some (.ref f)) (b : Binds K fd ["_law_bag_here", "_law_things"] []) (c__law_pick : CallOk P w K mg base "_law_pick" 1 2 F__law_pick) : CallOk P w K mg base "_law_some" 2 2 F__law_some := by
  have c__law_pick := c__law_pick.mono (k := 1) (j := 1) (by omega); 
  refine call_ok (k := 1) F hm sc__law_some b fun cdv A outer s H E hr => ?_
  have nd := sc__law_some.nd
  exact (sb_cons (ss_ret (se_ix (se_var 1) (se_call c__law_pick hr rfl (sa_cons (se_var 0) (sa_cons (se_callB call_len_seq ref_len rfl T.len_ (sa_cons (se_var 1) sa_nil)) sa_nil)))))
    sb_nil)
/-! ### Program.__eq__ -/
abbrev s_Program___eq__ : Stmt := inCls (top 106) 1
abbrev n_Program___eq__ : List Str := ["self", "other"]
theorem sc_Program___eq__ : FnScope n_Program___eq__ ["self", "other"] (defScope s_Program___eq__) := ⟨rfl, rfl, rfl, by decide +kernel, rfl, by decide +kernel, by decide +kernel⟩
def F_Program___eq__ : List W → M W := fnM 2 2 (bCons (sRet (eAnd (eUn (fIsW "Program") (eVar 1)) (eAnd (eOp fEq (eUn (fFld ["Program"] "book") (eVar 0)) (eUn (fFld ["Program"] "book") (eVar 1))) (eOp fEq (eUn (fFld ["Program"] "bodies") (eVar 0)) (eUn (fFld ["Program"] "bodies") (eVar 1))))))
    bNil)
theorem ok_Program___eq__ {C f : Addr} {fd : FuncData} (T : Txt K w mg) (F : Fun K "__eq__" "Program.__eq__" s_Program___eq__ f fd) (hns : PySem.W.nsIn K mainGlobals "Program" = some (some (.ref C))) (hf : PySem.W.findIn K (.ref C) "__eq__" = some (some (.ref f))) (hi : PySem.W.isFn K (.ref f) = true) (b : Binds K fd ["self", "other"] [])  : EqOk P w K mg base "Program" 1 F_Program___eq__ := by
  
  have q_bodies := T.f_bodies
  have q_book := T.f_book
  refine ⟨C, f, fd, ["self", "other"], hns, hf, hi, b, def_ok (k := 0) F sc_Program___eq__ fun cdv A outer s H E hr => ?_⟩
  have nd := sc_Program___eq__.nd
  exact (sb_cons (ss_ret (se_and (se_isW T.iw_Program (se_var 1) rfl T.isinstance_ rfl) (se_and (se_cmp (op_eqD hr.units) ref_eq (se_fld (se_var 0) q_book) (se_fld (se_var 1) q_book)) (se_one (se_cmp (op_eqD hr.units) ref_eq (se_fld (se_var 0) q_bodies) (se_fld (se_var 1) q_bodies))))))
    sb_nil)
/-! ### _law_is -/
abbrev s__law_is : Stmt := top 111
abbrev n__law_is : List Str := ["_law_thing", "_law_due", "_law_one", "_law_other"]
theorem sc__law_is : FnScope n__law_is ["_law_thing", "_law_due"] (defScope s__law_is) := ⟨rfl, rfl, rfl, by decide +kernel, rfl, by decide +kernel, by decide +kernel⟩
def ct1__law_is (Fd : List W → M W) : TM := tYesM
def ce1__law_is (Fd : List W → M W) : EM := (eCall Fd (aCons (eVar 2) (aCons (eVar 3) aNil)))
def G__law_is (Fd : List W → M W) : List W → M W := fnM 2 4 (bCons (sIf (tVal (eUn (fIsO2 "Program" "tuple" "list") (eVar 1))) (bCons (sIf (tOrM (tBl (eOp fNe (eUn (fIsO "Program" "tuple") (eVar 0)) (eUn (fIsO "Program" "tuple") (eVar 1)))) (tBl (eOp fNe (eUn (fIsO "Program" "list") (eVar 0)) (eUn (fIsO "Program" "list") (eVar 1))))) (bCons (sRet (eC (.bl false)))
    bNil) bNil)
    (bCons (sRet (eAnd (eOp fEq (eCall bLen (aCons (eVar 0) aNil)) (eCall bLen (aCons (eVar 1) aNil))) (eCall bAll (aCons (eComp (iZipB (aCons (eVar 0) (aCons (eVar 1) aNil))) (.tp [(.nm 2), (.nm 3)]) [2, 3] (ct1__law_is Fd) (ce1__law_is Fd) 1000000) aNil))))
    bNil)) bNil)
    (bCons (sRet (eAnd (eOp fEq (eUn (fIsO "Program" "bool") (eVar 0)) (eUn (fIsO "Program" "bool") (eVar 1))) (eOp (fEqP "Program" F_Program___eq__) (eVar 0) (eVar 1))))
    bNil))
def F__law_is : Nat → List W → M W
  | 0 => fnM 2 4 sNever
  | d + 1 => G__law_is (F__law_is d)
theorem ok__law_is {f : Addr} {fd : FuncData} (T : Txt K w mg) (F : Fun K "_law_is" "_law_is" s__law_is f fd) (hm : mg "_law_is" = some (.ref f)) (b : Binds K fd ["_law_thing", "_law_due"] []) (c_Program___eq__ : EqOk P w K mg base "Program" 1 F_Program___eq__) : ∀ d, CallOk P w K mg base "_law_is" (3 + d) 2 (F__law_is d)
  | 0 => call_ok (k := 2) F hm sc__law_is b fun _ _ _ _ _ _ _ => sb_never
  | d + 1 => by
    have c__law_is := ok__law_is T F hm b c_Program___eq__ d
    have c_Program___eq__ := c_Program___eq__.mono (k := 1) (j := (3 + d)) (by omega); 
    refine call_ok (k := 3 + d) F hm sc__law_is b fun cdv A outer s H E hr => ?_
    have nd := sc__law_is.nd
    exact (sb_cons (ss_if (st_val (se_isO2 T.io_tuple T.io_list (se_var 1) rfl T.isinstance_ rfl T.tuple_ rfl T.list_)) (sb_cons (ss_if (st_w (sw_or (st_cmp (op_neD hr.units) ref_ne (se_isO T.io_tuple (se_var 0) rfl T.isinstance_ rfl T.tuple_) (se_isO T.io_tuple (se_var 1) rfl T.isinstance_ rfl T.tuple_)) (sw_or1 (st_cmp (op_neD hr.units) ref_ne (se_isO T.io_list (se_var 0) rfl T.isinstance_ rfl T.list_) (se_isO T.io_list (se_var 1) rfl T.isinstance_ rfl T.list_))))) (sb_cons (ss_ret se_bl)
    sb_nil) sb_nil)
    (sb_cons (ss_ret (se_and (se_cmp (op_eqD hr.units) ref_eq (se_callB call_len_seq ref_len rfl T.len_ (sa_cons (se_var 0) sa_nil)) (se_callB call_len_seq ref_len rfl T.len_ (sa_cons (se_var 1) sa_nil))) (se_one (se_callB (cr_all rfl) ref_all rfl T.all_ (sa_cons (se_comp [("_law_one", 2), ("_law_other", 3)] 1000000 rfl nd (blkOk_by (by with_unfolding_all rfl)) (by decide) (si_zipB rfl T.zip_ (sa_cons (se_var 0) (sa_cons (se_var 1) sa_nil))) (fun _ _ _ _ _ => (sg_tp rfl (sgs_cons (sg_nm 2 nd) (sgs_cons (sg_nm 3 nd) sgs_nil)))) (fun _ _ _ _ _ => sts_nil) (fun _ _ _ _ _ => (se_call c__law_is hr rfl (sa_cons (se_var 2) (sa_cons (se_var 3) sa_nil))))) sa_nil)))))
    sb_nil)) sb_nil)
    (sb_cons (ss_ret (se_and (se_cmp (op_eqD hr.units) ref_eq (se_isO T.io_bool (se_var 0) rfl T.isinstance_ rfl T.bool_) (se_isO T.io_bool (se_var 1) rfl T.isinstance_ rfl T.bool_)) (se_one (se_cmp (op_eqP c_Program___eq__ hr) ref_eqP (se_var 0) (se_var 1)))))
    sb_nil))
/-! ### _law_deep -/
abbrev s__law_deep : Stmt := top 112
abbrev n__law_deep : List Str := ["_law_thing", "_law_turn"]
theorem sc__law_deep : FnScope n__law_deep [] (defScope s__law_deep) := ⟨rfl, rfl, rfl, by decide +kernel, rfl, by decide +kernel, by decide +kernel⟩
def fb1__law_deep : SM := (bCons (sSet (.nm 0) (eTup (aCons (eVar 0) aNil)))
    bNil)
def F__law_deep : List W → M W := fnM 0 2 (bCons (sSet (.nm 0) (eTup aNil))
    (bCons (sFor (iRng1M (aCons (eC (.int 40)) aNil)) (.nm 1) fb1__law_deep 1000000)
    (bCons (sRet (eVar 0))
    bNil)))
theorem ok__law_deep {f : Addr} {fd : FuncData} (T : Txt K w mg) (F : Fun K "_law_deep" "_law_deep" s__law_deep f fd) (hm : mg "_law_deep" = some (.ref f)) (b : Binds K fd [] [])  : CallOk P w K mg base "_law_deep" 1 0 F__law_deep := by
  
  refine call_ok (k := 0) F hm sc__law_deep b fun cdv A outer s H E hr => ?_
  have nd := sc__law_deep.nd
  exact (sb_cons (ss_set (se_tup sa_nil) (sg_nm 0 nd))
    (sb_cons (ss_for 1000000 PassesOwn.never rfl (si_rng1 rfl T.range_ (sa_cons se_int sa_nil)) (sg_nm 1 nd) (sb_cons (ss_set (se_tup (sa_cons (se_var 0) sa_nil)) (sg_nm 0 nd))
    sb_nil))
    (sb_cons (ss_ret (se_var 0))
    sb_nil)))
/-! ### _law_flags -/
abbrev s__law_flags : Stmt := top 113
abbrev n__law_flags : List Str := ["_law_e", "_law_flags_here"]
theorem sc__law_flags : FnScope n__law_flags ["_law_e"] (defScope s__law_flags) := ⟨rfl, rfl, rfl, by decide +kernel, rfl, by decide +kernel, by decide +kernel⟩
def F__law_flags : List W → M W := fnM 1 2 (bCons (sSet (.nm 1) (eLst (aCons (eUn (fIsX CS (fun c => decide (c = "NoKind"))) (eVar 0)) (aCons (eUn (fIsX CS (fun c => decide (c = "NoKinds"))) (eVar 0)) (aCons (eUn (fIsX CS (fun c => decide (c = "NoBody"))) (eVar 0)) (aCons (eUn (fIsX CS (fun c => decide (c = "NoPoint"))) (eVar 0)) aNil))))))
    (bCons (sSet (.nm 1) (eOp fAdd (eVar 1) (eLst (aCons (eUn (fIsX CS (fun c => decide (c = "NoInputs"))) (eVar 0)) (aCons (eUn (fIsX CS (fun c => decide (c = "NoNumber"))) (eVar 0)) (aCons (eUn (fIsX CS (fun c => decide (c = "IsOver"))) (eVar 0)) (aCons (eUn (fIsX CS (fun c => decide (c = "NoPlace"))) (eVar 0)) aNil)))))))
    (bCons (sSet (.nm 1) (eOp fAdd (eVar 1) (eLst (aCons (eUn (fIsX CS (fun c => decide (c = "NoLot"))) (eVar 0)) (aCons (eUn (fIsX CS (fun c => decide (c = "NoSpot"))) (eVar 0)) (aCons (eUn (fIsX CS (fun c => decide (c = "NoSource"))) (eVar 0)) (aCons (eUn (fIsX CS (fun c => decide (c = "NoWords"))) (eVar 0)) aNil)))))))
    (bCons (sSet (.nm 1) (eOp fAdd (eVar 1) (eLst (aCons (eUn (fIsX CS (fun c => decide (c = "NoKinding"))) (eVar 0)) (aCons (eUn (fIsX CS (fun c => decide (c = "NoOver"))) (eVar 0)) (aCons (eUn (fIsX CS (fun c => decide (c = "NoText"))) (eVar 0)) (aCons (eUn (fIsX CS (fun c => decide (c = "NoRecord"))) (eVar 0)) aNil)))))))
    (bCons (sSet (.nm 1) (eOp fAdd (eVar 1) (eLst (aCons (eUn (fIsX CS (fun c => decide (c = "NothingDone"))) (eVar 0)) (aCons (eUn (fIsX CS (fun c => decide (c = "NoForm"))) (eVar 0)) (aCons (eUn (fIsX CS (fun c => decide (c = "NothingChosen"))) (eVar 0)) aNil))))))
    (bCons (sSet (.nm 1) (eOp fAdd (eVar 1) (eLst (aCons (eUn (fIsX CS (fun c => decide (c = "BadProgram"))) (eVar 0)) (aCons (eUn (fIsX CS (fun c => decide (c = "BadPlacer"))) (eVar 0)) (aCons (eUn (fIsX CS (fun c => decide (c = "TooMany"))) (eVar 0)) aNil))))))
    (bCons (sRet (eOp fAdd (eVar 1) (eLst (aCons (eUn (fIsX CS (fun c => decide (c = "BadImage"))) (eVar 0)) (aCons (eUn (fIsX CS (fun c => decide (c = "BadText"))) (eVar 0)) (aCons (eUn (fIsX CS (fun c => decide (c = "NoName"))) (eVar 0)) aNil))))))
    bNil)))))))
theorem ok__law_flags {f : Addr} {fd : FuncData} (T : Txt K w mg) (F : Fun K "_law_flags" "_law_flags" s__law_flags f fd) (hm : mg "_law_flags" = some (.ref f)) (b : Binds K fd ["_law_e"] [])  : CallOk P w K mg base "_law_flags" 1 1 F__law_flags := by
  
  obtain ⟨E_BadImage, mg_BadImage, it_BadImage⟩ := T.it_BadImage
  obtain ⟨E_BadPlacer, mg_BadPlacer, it_BadPlacer⟩ := T.it_BadPlacer
  obtain ⟨E_BadProgram, mg_BadProgram, it_BadProgram⟩ := T.it_BadProgram
  obtain ⟨E_BadText, mg_BadText, it_BadText⟩ := T.it_BadText
  obtain ⟨E_IsOver, mg_IsOver, it_IsOver⟩ := T.it_IsOver
  obtain ⟨E_NoBody, mg_NoBody, it_NoBody⟩ := T.it_NoBody
  obtain ⟨E_NoForm, mg_NoForm, it_NoForm⟩ := T.it_NoForm
  obtain ⟨E_NoInputs, mg_NoInputs, it_NoInputs⟩ := T.it_NoInputs
  obtain ⟨E_NoKind, mg_NoKind, it_NoKind⟩ := T.it_NoKind
  obtain ⟨E_NoKinding, mg_NoKinding, it_NoKinding⟩ := T.it_NoKinding
  obtain ⟨E_NoKinds, mg_NoKinds, it_NoKinds⟩ := T.it_NoKinds
  obtain ⟨E_NoLot, mg_NoLot, it_NoLot⟩ := T.it_NoLot
  obtain ⟨E_NoName, mg_NoName, it_NoName⟩ := T.it_NoName
  obtain ⟨E_NoNumber, mg_NoNumber, it_NoNumber⟩ := T.it_NoNumber
  obtain ⟨E_NoOver, mg_NoOver, it_NoOver⟩ := T.it_NoOver
  obtain ⟨E_NoPlace, mg_NoPlace, it_NoPlace⟩ := T.it_NoPlace
  obtain ⟨E_NoPoint, mg_NoPoint, it_NoPoint⟩ := T.it_NoPoint
  obtain ⟨E_NoRecord, mg_NoRecord, it_NoRecord⟩ := T.it_NoRecord
  obtain ⟨E_NoSource, mg_NoSource, it_NoSource⟩ := T.it_NoSource
  obtain ⟨E_NoSpot, mg_NoSpot, it_NoSpot⟩ := T.it_NoSpot
  obtain ⟨E_NoText, mg_NoText, it_NoText⟩ := T.it_NoText
  obtain ⟨E_NoWords, mg_NoWords, it_NoWords⟩ := T.it_NoWords
  obtain ⟨E_NothingChosen, mg_NothingChosen, it_NothingChosen⟩ := T.it_NothingChosen
  obtain ⟨E_NothingDone, mg_NothingDone, it_NothingDone⟩ := T.it_NothingDone
  obtain ⟨E_TooMany, mg_TooMany, it_TooMany⟩ := T.it_TooMany
  refine call_ok (k := 0) F hm sc__law_flags b fun cdv A outer s H E hr => ?_
  have nd := sc__law_flags.nd
  exact (sb_cons (ss_set (se_lst (sa_cons (se_isX T.ecs it_NoKind (pe_glob (v := .ref E_NoKind) rfl mg_NoKind rfl) (fun u h => h) rfl T.isinstance_ (se_var 0)) (sa_cons (se_isX T.ecs it_NoKinds (pe_glob (v := .ref E_NoKinds) rfl mg_NoKinds rfl) (fun u h => h) rfl T.isinstance_ (se_var 0)) (sa_cons (se_isX T.ecs it_NoBody (pe_glob (v := .ref E_NoBody) rfl mg_NoBody rfl) (fun u h => h) rfl T.isinstance_ (se_var 0)) (sa_cons (se_isX T.ecs it_NoPoint (pe_glob (v := .ref E_NoPoint) rfl mg_NoPoint rfl) (fun u h => h) rfl T.isinstance_ (se_var 0)) sa_nil))))) (sg_nm 1 nd))
    (sb_cons (ss_set (se_op or_add ref_add (se_var 1) (se_lst (sa_cons (se_isX T.ecs it_NoInputs (pe_glob (v := .ref E_NoInputs) rfl mg_NoInputs rfl) (fun u h => h) rfl T.isinstance_ (se_var 0)) (sa_cons (se_isX T.ecs it_NoNumber (pe_glob (v := .ref E_NoNumber) rfl mg_NoNumber rfl) (fun u h => h) rfl T.isinstance_ (se_var 0)) (sa_cons (se_isX T.ecs it_IsOver (pe_glob (v := .ref E_IsOver) rfl mg_IsOver rfl) (fun u h => h) rfl T.isinstance_ (se_var 0)) (sa_cons (se_isX T.ecs it_NoPlace (pe_glob (v := .ref E_NoPlace) rfl mg_NoPlace rfl) (fun u h => h) rfl T.isinstance_ (se_var 0)) sa_nil)))))) (sg_nm 1 nd))
    (sb_cons (ss_set (se_op or_add ref_add (se_var 1) (se_lst (sa_cons (se_isX T.ecs it_NoLot (pe_glob (v := .ref E_NoLot) rfl mg_NoLot rfl) (fun u h => h) rfl T.isinstance_ (se_var 0)) (sa_cons (se_isX T.ecs it_NoSpot (pe_glob (v := .ref E_NoSpot) rfl mg_NoSpot rfl) (fun u h => h) rfl T.isinstance_ (se_var 0)) (sa_cons (se_isX T.ecs it_NoSource (pe_glob (v := .ref E_NoSource) rfl mg_NoSource rfl) (fun u h => h) rfl T.isinstance_ (se_var 0)) (sa_cons (se_isX T.ecs it_NoWords (pe_glob (v := .ref E_NoWords) rfl mg_NoWords rfl) (fun u h => h) rfl T.isinstance_ (se_var 0)) sa_nil)))))) (sg_nm 1 nd))
    (sb_cons (ss_set (se_op or_add ref_add (se_var 1) (se_lst (sa_cons (se_isX T.ecs it_NoKinding (pe_glob (v := .ref E_NoKinding) rfl mg_NoKinding rfl) (fun u h => h) rfl T.isinstance_ (se_var 0)) (sa_cons (se_isX T.ecs it_NoOver (pe_glob (v := .ref E_NoOver) rfl mg_NoOver rfl) (fun u h => h) rfl T.isinstance_ (se_var 0)) (sa_cons (se_isX T.ecs it_NoText (pe_glob (v := .ref E_NoText) rfl mg_NoText rfl) (fun u h => h) rfl T.isinstance_ (se_var 0)) (sa_cons (se_isX T.ecs it_NoRecord (pe_glob (v := .ref E_NoRecord) rfl mg_NoRecord rfl) (fun u h => h) rfl T.isinstance_ (se_var 0)) sa_nil)))))) (sg_nm 1 nd))
    (sb_cons (ss_set (se_op or_add ref_add (se_var 1) (se_lst (sa_cons (se_isX T.ecs it_NothingDone (pe_glob (v := .ref E_NothingDone) rfl mg_NothingDone rfl) (fun u h => h) rfl T.isinstance_ (se_var 0)) (sa_cons (se_isX T.ecs it_NoForm (pe_glob (v := .ref E_NoForm) rfl mg_NoForm rfl) (fun u h => h) rfl T.isinstance_ (se_var 0)) (sa_cons (se_isX T.ecs it_NothingChosen (pe_glob (v := .ref E_NothingChosen) rfl mg_NothingChosen rfl) (fun u h => h) rfl T.isinstance_ (se_var 0)) sa_nil))))) (sg_nm 1 nd))
    (sb_cons (ss_set (se_op or_add ref_add (se_var 1) (se_lst (sa_cons (se_isX T.ecs it_BadProgram (pe_glob (v := .ref E_BadProgram) rfl mg_BadProgram rfl) (fun u h => h) rfl T.isinstance_ (se_var 0)) (sa_cons (se_isX T.ecs it_BadPlacer (pe_glob (v := .ref E_BadPlacer) rfl mg_BadPlacer rfl) (fun u h => h) rfl T.isinstance_ (se_var 0)) (sa_cons (se_isX T.ecs it_TooMany (pe_glob (v := .ref E_TooMany) rfl mg_TooMany rfl) (fun u h => h) rfl T.isinstance_ (se_var 0)) sa_nil))))) (sg_nm 1 nd))
    (sb_cons (ss_ret (se_op or_add ref_add (se_var 1) (se_lst (sa_cons (se_isX T.ecs it_BadImage (pe_glob (v := .ref E_BadImage) rfl mg_BadImage rfl) (fun u h => h) rfl T.isinstance_ (se_var 0)) (sa_cons (se_isX T.ecs it_BadText (pe_glob (v := .ref E_BadText) rfl mg_BadText rfl) (fun u h => h) rfl T.isinstance_ (se_var 0)) (sa_cons (se_isX T.ecs it_NoName (pe_glob (v := .ref E_NoName) rfl mg_NoName rfl) (fun u h => h) rfl T.isinstance_ (se_var 0)) sa_nil))))))
    sb_nil)))))))
/-! ### _law_fields -/
abbrev s__law_fields : Stmt := top 114
abbrev n__law_fields : List Str := ["_law_e", "_law_found"]
theorem sc__law_fields : FnScope n__law_fields ["_law_e"] (defScope s__law_fields) := ⟨rfl, rfl, rfl, by decide +kernel, rfl, by decide +kernel, by decide +kernel⟩
def F__law_fields : List W → M W := fnM 1 2 (bCons (sSet (.nm 1) (eLst aNil))
    (bCons (sIf (tVal (eUn (fIsX CS (fun c => decide (c = "BadProgram"))) (eVar 0))) (bCons (sExpr (eMeth mApp (eVar 1) (aCons (eUn (fFldX CS "part") (eVar 0)) aNil)))
    bNil) bNil)
    (bCons (sIf (tVal (eUn (fIsX CS (fun c => decide (c = "BadPlacer"))) (eVar 0))) (bCons (sExpr (eMeth mApp (eVar 1) (aCons (eUn (fFldX CS "number") (eVar 0)) aNil)))
    bNil) bNil)
    (bCons (sIf (tVal (eUn (fIsX CS (fun c => decide (c = "TooMany"))) (eVar 0))) (bCons (sExpr (eMeth mApp (eVar 1) (aCons (eUn (fFldX CS "most") (eVar 0)) aNil)))
    bNil) bNil)
    (bCons (sIf (tVal (eUn (fIsX CS (fun c => decide (c = "BadImage") || decide (c = "BadText"))) (eVar 0))) (bCons (sExpr (eMeth mApp (eVar 1) (aCons (eUn (fFldX CS "line") (eVar 0)) aNil)))
    bNil) bNil)
    (bCons (sIf (tVal (eUn (fIsX CS (fun c => decide (c = "NoName"))) (eVar 0))) (bCons (sExpr (eMeth mApp (eVar 1) (aCons (eUn (fFldX CS "name") (eVar 0)) aNil)))
    bNil) bNil)
    (bCons (sRet (eVar 1))
    bNil)))))))
theorem ok__law_fields {f : Addr} {fd : FuncData} (T : Txt K w mg) (F : Fun K "_law_fields" "_law_fields" s__law_fields f fd) (hm : mg "_law_fields" = some (.ref f)) (b : Binds K fd ["_law_e"] [])  : CallOk P w K mg base "_law_fields" 1 1 F__law_fields := by
  
  obtain ⟨E_BadImage, mg_BadImage, it_BadImage⟩ := T.it_BadImage
  obtain ⟨E_BadPlacer, mg_BadPlacer, it_BadPlacer⟩ := T.it_BadPlacer
  obtain ⟨E_BadProgram, mg_BadProgram, it_BadProgram⟩ := T.it_BadProgram
  obtain ⟨E_BadText, mg_BadText, it_BadText⟩ := T.it_BadText
  obtain ⟨E_NoName, mg_NoName, it_NoName⟩ := T.it_NoName
  obtain ⟨E_TooMany, mg_TooMany, it_TooMany⟩ := T.it_TooMany
  refine call_ok (k := 0) F hm sc__law_fields b fun cdv A outer s H E hr => ?_
  have nd := sc__law_fields.nd
  exact (sb_cons (ss_set (se_lst sa_nil) (sg_nm 1 nd))
    (sb_cons (ss_if (st_val (se_isX T.ecs it_BadProgram (pe_glob (v := .ref E_BadProgram) rfl mg_BadProgram rfl) (fun u h => h) rfl T.isinstance_ (se_var 0))) (sb_cons (ss_expr (se_append (se_var 1) (se_fldX T.fx_part (se_var 0))))
    sb_nil) sb_nil)
    (sb_cons (ss_if (st_val (se_isX T.ecs it_BadPlacer (pe_glob (v := .ref E_BadPlacer) rfl mg_BadPlacer rfl) (fun u h => h) rfl T.isinstance_ (se_var 0))) (sb_cons (ss_expr (se_append (se_var 1) (se_fldX T.fx_number (se_var 0))))
    sb_nil) sb_nil)
    (sb_cons (ss_if (st_val (se_isX T.ecs it_TooMany (pe_glob (v := .ref E_TooMany) rfl mg_TooMany rfl) (fun u h => h) rfl T.isinstance_ (se_var 0))) (sb_cons (ss_expr (se_append (se_var 1) (se_fldX T.fx_most (se_var 0))))
    sb_nil) sb_nil)
    (sb_cons (ss_if (st_val (se_isX2 T.ecs it_BadImage it_BadText rfl T.isinstance_ rfl mg_BadImage rfl mg_BadText (se_var 0))) (sb_cons (ss_expr (se_append (se_var 1) (se_fldX T.fx_line (se_var 0))))
    sb_nil) sb_nil)
    (sb_cons (ss_if (st_val (se_isX T.ecs it_NoName (pe_glob (v := .ref E_NoName) rfl mg_NoName rfl) (fun u h => h) rfl T.isinstance_ (se_var 0))) (sb_cons (ss_expr (se_append (se_var 1) (se_fldX T.fx_name (se_var 0))))
    sb_nil) sb_nil)
    (sb_cons (ss_ret (se_var 1))
    sb_nil)))))))
/-! ### law -/
abbrev s_law : Stmt := top 115
abbrev n_law : List Str := ["_law_script", "_law_bag_here", "_law_program", "_law_made", "_law_things", "_law_kept", "_law_number", "_law_error", "_law_told", "_law_turn", "_law_at"]
theorem sc_law : FnScope n_law ["_law_script"] (defScope s_law) := ⟨rfl, rfl, rfl, by decide +kernel, rfl, by decide +kernel, by decide +kernel⟩
def ct1_law : TM := tYesM
def ce1_law : EM := (eCall F__law_some (aCons (eVar 1) (aCons (eVar 4) aNil)))
def ct2_law : TM := tYesM
def ce2_law : EM := (eOp fEq (eVar 10) (eVar 6))
def fb3_law : SM := (bCons (sIf (tOrM (tBl (eOp fNe (eCall F__law_flags (aCons (eVar 7) aNil)) (eComp (iRng1M (aCons (eC (.int 25)) aNil)) (.nm 10) [10] ct2_law ce2_law 1000000))) (tNotM (tVal (eUn (fIsX CS (fun _ => true)) (eVar 7))))) (bCons (sRet (eC (.bl false)))
    bNil) bNil)
    (bCons (sIf (tNotM (tVal (eUn (fIsX CS (fun _ => true)) (eVar 7)))) (bCons (sRet (eC (.bl false)))
    bNil) bNil)
    (bCons (sSet (.nm 8) (eCall F__law_fields (aCons (eVar 7) aNil)))
    (bCons (sIf (tOrM (tBl (eOp fNe (eCall bLen (aCons (eVar 8) aNil)) (eCall bInt (aCons (eOp fGt (eVar 6) (eC (.int 18))) aNil)))) (tAndM (tBl (eOp fGt (eVar 6) (eC (.int 18)))) (tNotM (tVal (eCall (F__law_is 45) (aCons (eOp fIx (eVar 8) (eC (.int 0))) (aCons (eOp fIx (eVar 5) (eOp fSub (eVar 6) (eC (.int 19)))) aNil))))))) (bCons (sRet (eC (.bl false)))
    bNil) bNil)
    bNil))))
def F_law : List W → M W := fnM 1 11 (bCons (sSet (.nm 1) (eCall F__law_bag (aCons (eVar 0) aNil)))
    (bCons (sSet (.nm 2) (eMake "Program" F_Program___init__ (aCons (eTup aNil) (aCons (eTup (aCons (eTup (aCons (eC (.int 0)) (aCons (eTup aNil) (aCons (eTup (aCons (eC (.str "num")) aNil)) (aCons (eTup (aCons (eTup (aCons (eTup (aCons (eC (.str "num")) (aCons (eC (.int 1)) aNil))) aNil)) (aCons (eTup (aCons (eC (.str "back")) (aCons (eC (.int 0)) aNil))) aNil))) aNil))))) aNil)) aNil))))
    (bCons (sSet (.nm 3) (eLst (aCons (eC (.exc "NoKind" "" [])) (aCons (eC (.exc "NoKinds" "" [])) (aCons (eC (.exc "NoBody" "" [])) (aCons (eC (.exc "NoPoint" "" [])) (aCons (eC (.exc "NoInputs" "" [])) (aCons (eC (.exc "NoNumber" "" [])) (aCons (eC (.exc "IsOver" "" [])) (aCons (eC (.exc "NoPlace" "" [])) (aCons (eC (.exc "NoLot" "" [])) (aCons (eC (.exc "NoSpot" "" [])) aNil))))))))))))
    (bCons (sSet (.nm 3) (eOp fAdd (eVar 3) (eLst (aCons (eC (.exc "NoSource" "" [])) (aCons (eC (.exc "NoWords" "" [])) (aCons (eC (.exc "NoKinding" "" [])) (aCons (eC (.exc "NoOver" "" [])) (aCons (eC (.exc "NoText" "" [])) (aCons (eC (.exc "NoRecord" "" [])) (aCons (eC (.exc "NothingDone" "" [])) (aCons (eC (.exc "NoForm" "" [])) aNil)))))))))))
    (bCons (sExpr (eMeth mApp (eVar 3) (aCons (eC (.exc "NothingChosen" "" [])) aNil)))
    (bCons (sSet (.nm 4) (eLst (aCons (eC (.int 0)) (aCons (eUn fNeg (eC (.int 7))) (aCons (eC (.bl true)) (aCons (eC .non) (aCons (eC (.str "word")) (aCons (eTup (aCons (eC (.int 0)) (aCons (eC (.str "a")) aNil))) (aCons (eLst (aCons (eC (.int 1)) aNil)) (aCons (eDict1 2 (eC (.int 3))) (aCons (eTup (aCons (eC (.str "body")) (aCons (eC (.int 1)) (aCons (eC (.str "form")) aNil)))) (aCons (eOp fPow (eC (.int 10)) (eC (.int 30))) (aCons (eVar 2) (aCons (eCall F__law_deep aNil) aNil))))))))))))))
    (bCons (sSet (.nm 5) (eComp (iRng1M (aCons (eC (.int 6)) aNil)) (.nm 9) [9] ct1_law ce1_law 1000000))
    (bCons (sSet (.nm 3) (eOp fAdd (eVar 3) (eLst (aCons (eUn (fExc "BadProgram" "part") (eOp fIx (eVar 5) (eC (.int 0)))) (aCons (eUn (fExc "BadPlacer" "number") (eOp fIx (eVar 5) (eC (.int 1)))) (aCons (eUn (fExc "TooMany" "most") (eOp fIx (eVar 5) (eC (.int 2)))) (aCons (eUn (fExc "BadImage" "line") (eOp fIx (eVar 5) (eC (.int 3)))) (aCons (eUn (fExc "BadText" "line") (eOp fIx (eVar 5) (eC (.int 4)))) aNil))))))))
    (bCons (sExpr (eMeth mApp (eVar 3) (aCons (eUn (fExc "NoName" "name") (eOp fIx (eVar 5) (eC (.int 5)))) aNil)))
    (bCons (sFor (iEnumM (aCons (eVar 3) aNil)) (.tp [(.nm 6), (.nm 7)]) fb3_law 1000000)
    (bCons (sRet (eC (.bl true)))
    bNil)))))))))))
theorem ok_law {f : Addr} {fd : FuncData} (T : Txt K w mg) (F : Fun K "law" "law" s_law f fd) (hm : mg "law" = some (.ref f)) (b : Binds K fd ["_law_script"] []) (EX : Excs P w K mg base) (c_Program___init__ : MkOk P w K mg base "Program" 13 2 F_Program___init__) (c__law_bag : CallOk P w K mg base "_law_bag" 1 1 F__law_bag) (c__law_some : CallOk P w K mg base "_law_some" 2 2 F__law_some) (c__law_is : CallOk P w K mg base "_law_is" 48 2 (F__law_is 45)) (c__law_deep : CallOk P w K mg base "_law_deep" 1 0 F__law_deep) (c__law_flags : CallOk P w K mg base "_law_flags" 1 1 F__law_flags) (c__law_fields : CallOk P w K mg base "_law_fields" 1 1 F__law_fields) : FnOk P w K mg base CX0 49 f fd ["_law_script"] (spM K 1 F_law) := by
  have c_Program___init__ := c_Program___init__.mono (k := 13) (j := 48 - 1) (by omega); have c__law_bag := c__law_bag.mono (k := 1) (j := 48) (by omega); have c__law_some := c__law_some.mono (k := 2) (j := 48) (by omega); have c__law_is := c__law_is.mono (k := 48) (j := 48) (by omega); have c__law_deep := c__law_deep.mono (k := 1) (j := 48) (by omega); have c__law_flags := c__law_flags.mono (k := 1) (j := 48) (by omega); have c__law_fields := c__law_fields.mono (k := 1) (j := 48) (by omega); 
  obtain ⟨E_WordsError, mg_WordsError, it_WordsError⟩ := T.it_WordsError
  refine def_ok (k := 48) F sc_law fun cdv A outer s H E hr => ?_
  have nd := sc_law.nd
  exact (sb_cons (ss_set (se_call c__law_bag hr rfl (sa_cons (se_var 0) sa_nil)) (sg_nm 1 nd))
    (sb_cons (ss_set (se_make c_Program___init__ hr rfl (sa_cons (se_tup sa_nil) (sa_cons (se_tup (sa_cons (se_tup (sa_cons se_int (sa_cons (se_tup sa_nil) (sa_cons (se_tup (sa_cons se_str sa_nil)) (sa_cons (se_tup (sa_cons (se_tup (sa_cons (se_tup (sa_cons se_str (sa_cons se_int sa_nil))) sa_nil)) (sa_cons (se_tup (sa_cons se_str (sa_cons se_int sa_nil))) sa_nil))) sa_nil))))) sa_nil)) sa_nil))) (sg_nm 2 nd))
    (sb_cons (ss_set (se_lst (sa_cons (se_exc0 EX.e_NoKind (hr.mono (by decide)) rfl) (sa_cons (se_exc0 EX.e_NoKinds (hr.mono (by decide)) rfl) (sa_cons (se_exc0 EX.e_NoBody (hr.mono (by decide)) rfl) (sa_cons (se_exc0 EX.e_NoPoint (hr.mono (by decide)) rfl) (sa_cons (se_exc0 EX.e_NoInputs (hr.mono (by decide)) rfl) (sa_cons (se_exc0 EX.e_NoNumber (hr.mono (by decide)) rfl) (sa_cons (se_exc0 EX.e_IsOver (hr.mono (by decide)) rfl) (sa_cons (se_exc0 EX.e_NoPlace (hr.mono (by decide)) rfl) (sa_cons (se_exc0 EX.e_NoLot (hr.mono (by decide)) rfl) (sa_cons (se_exc0 EX.e_NoSpot (hr.mono (by decide)) rfl) sa_nil))))))))))) (sg_nm 3 nd))
    (sb_cons (ss_set (se_op or_add ref_add (se_var 3) (se_lst (sa_cons (se_exc0 EX.e_NoSource (hr.mono (by decide)) rfl) (sa_cons (se_exc0 EX.e_NoWords (hr.mono (by decide)) rfl) (sa_cons (se_exc0 EX.e_NoKinding (hr.mono (by decide)) rfl) (sa_cons (se_exc0 EX.e_NoOver (hr.mono (by decide)) rfl) (sa_cons (se_exc0 EX.e_NoText (hr.mono (by decide)) rfl) (sa_cons (se_exc0 EX.e_NoRecord (hr.mono (by decide)) rfl) (sa_cons (se_exc0 EX.e_NothingDone (hr.mono (by decide)) rfl) (sa_cons (se_exc0 EX.e_NoForm (hr.mono (by decide)) rfl) sa_nil)))))))))) (sg_nm 3 nd))
    (sb_cons (ss_expr (se_append (se_var 3) (se_exc0 EX.e_NothingChosen (hr.mono (by decide)) rfl)))
    (sb_cons (ss_set (se_lst (sa_cons se_int (sa_cons (se_un un_neg ref_neg se_int) (sa_cons se_bl (sa_cons se_non (sa_cons se_str (sa_cons (se_tup (sa_cons se_int (sa_cons se_str sa_nil))) (sa_cons (se_lst (sa_cons se_int sa_nil)) (sa_cons (se_dict1 se_int) (sa_cons (se_tup (sa_cons se_str (sa_cons se_int (sa_cons se_str sa_nil)))) (sa_cons (se_op op_pow ref_pow se_int se_int) (sa_cons (se_var 2) (sa_cons (se_call0 c__law_deep hr rfl) sa_nil))))))))))))) (sg_nm 4 nd))
    (sb_cons (ss_setComp [("_law_turn", 9)] 1000000 rfl nd (blkOk_by (by with_unfolding_all rfl)) (by decide) rfl (si_rng1 rfl T.range_ (sa_cons se_int sa_nil)) (fun _ _ _ _ _ => (sg_nm 9 nd)) (fun _ _ _ _ _ => sts_nil) (fun _ _ _ _ _ => (se_call c__law_some hr rfl (sa_cons (se_var 1) (sa_cons (se_var 4) sa_nil)))))
    (sb_cons (ss_set (se_op or_add ref_add (se_var 3) (se_lst (sa_cons (se_exc1 EX.e_BadProgram (hr.mono (by decide)) rfl (se_ix (se_var 5) se_int)) (sa_cons (se_exc1 EX.e_BadPlacer (hr.mono (by decide)) rfl (se_ix (se_var 5) se_int)) (sa_cons (se_exc1 EX.e_TooMany (hr.mono (by decide)) rfl (se_ix (se_var 5) se_int)) (sa_cons (se_exc1 EX.e_BadImage (hr.mono (by decide)) rfl (se_ix (se_var 5) se_int)) (sa_cons (se_exc1 EX.e_BadText (hr.mono (by decide)) rfl (se_ix (se_var 5) se_int)) sa_nil))))))) (sg_nm 3 nd))
    (sb_cons (ss_expr (se_append (se_var 3) (se_exc1 EX.e_NoName (hr.mono (by decide)) rfl (se_ix (se_var 5) se_int))))
    (sb_cons (ss_for 1000000 PassesOwn.never rfl (si_enum rfl T.enumerate_ (sa_cons (se_var 3) sa_nil)) (sg_tp rfl (sgs_cons (sg_nm 6 nd) (sgs_cons (sg_nm 7 nd) sgs_nil))) (sb_cons (ss_if (st_w (sw_or (st_cmp (op_neD hr.units) ref_ne (se_call c__law_flags hr rfl (sa_cons (se_var 7) sa_nil)) (se_comp [("_law_at", 10)] 1000000 rfl nd (blkOk_by (by with_unfolding_all rfl)) (by decide) (si_rng1 rfl T.range_ (sa_cons se_int sa_nil)) (fun _ _ _ _ _ => (sg_nm 10 nd)) (fun _ _ _ _ _ => sts_nil) (fun _ _ _ _ _ => (se_cmp (op_eqD hr.units) ref_eq (se_var 10) (se_var 6))))) (sw_or1 (st_not (st_val (se_isX T.ecs it_WordsError (pe_glob (v := .ref E_WordsError) rfl mg_WordsError rfl) (fun u h => h) rfl T.isinstance_ (se_var 7))))))) (sb_cons (ss_ret se_bl)
    sb_nil) sb_nil)
    (sb_cons (ss_if (st_not (st_val (se_isX T.ecs T.it_ValueError (pe_bltn (v := .ty "ValueError") rfl T.ValueError_ (by decide +kernel) rfl) (fun u h => h) rfl T.isinstance_ (se_var 7)))) (sb_cons (ss_ret se_bl)
    sb_nil) sb_nil)
    (sb_cons (ss_set (se_call c__law_fields hr rfl (sa_cons (se_var 7) sa_nil)) (sg_nm 8 nd))
    (sb_cons (ss_if (st_w (sw_or (st_cmp (op_neD hr.units) ref_ne (se_callB call_len_seq ref_len rfl T.len_ (sa_cons (se_var 8) sa_nil)) (se_callTy call_int1 ref_int rfl T.int_ (sa_cons (se_cmp op_gt ref_gt (se_var 6) se_int) sa_nil))) (sw_or1 (st_w (sw_and (st_cmp op_gt ref_gt (se_var 6) se_int) (sw_and1 (st_not (st_val (se_call c__law_is hr rfl (sa_cons (se_ix (se_var 8) se_int) (sa_cons (se_ix (se_var 5) (se_op op_sub ref_sub (se_var 6) se_int)) sa_nil))))))))))) (sb_cons (ss_ret se_bl)
    sb_nil) sb_nil)
    sb_nil)))))
    (sb_cons (ss_ret se_bl)
    sb_nil)))))))))))
abbrev s_NoKind___init__ : Stmt := inCls (top 2) 0
theorem sc_NoKind___init__ : FnScope ["self"] ["self"] (defScope s_NoKind___init__) := ⟨rfl, rfl, rfl, by decide +kernel, rfl, by decide +kernel, by decide +kernel⟩
theorem ok_NoKind___init__ {W0 C f : Addr} {fd : FuncData} (h : EF K W0 "NoKind" C) (F : Fun K "__init__" "NoKind.__init__" s_NoKind___init__ f fd) (fi : PySem.W.findIn K (.ref C) "__init__" = some (some (.ref f))) (ty : PySem.W.typeIn K (.ref f) = some (.type "function")) (b : Binds K fd ["self"] []) (hm : mg "NoKind" = some (.ref C)) (TI : ClsInit K W0) (hW : mg "WordsError" = some (.ref W0)) : ExV P w K mg base "NoKind" 1 ["self"] spIn0 :=
  ExV.of0 (qual := "NoKind.__init__") (st := s_NoKind___init__) h fi ty (init0_ok (k := 0) (c0 := "WordsError") F sc_NoKind___init__ h.oex TI hW rfl (.inr trivial) (by first | exact Or.inl rfl | exact Or.inr (Or.inl rfl) | exact Or.inr (Or.inr rfl)) (fun _ _ _ _ _ _ => rfl)) b hm
abbrev s_NoKinds___init__ : Stmt := inCls (top 3) 0
theorem sc_NoKinds___init__ : FnScope ["self"] ["self"] (defScope s_NoKinds___init__) := ⟨rfl, rfl, rfl, by decide +kernel, rfl, by decide +kernel, by decide +kernel⟩
theorem ok_NoKinds___init__ {W0 C f : Addr} {fd : FuncData} (h : EF K W0 "NoKinds" C) (F : Fun K "__init__" "NoKinds.__init__" s_NoKinds___init__ f fd) (fi : PySem.W.findIn K (.ref C) "__init__" = some (some (.ref f))) (ty : PySem.W.typeIn K (.ref f) = some (.type "function")) (b : Binds K fd ["self"] []) (hm : mg "NoKinds" = some (.ref C)) (TI : ClsInit K W0) (hW : mg "WordsError" = some (.ref W0)) : ExV P w K mg base "NoKinds" 1 ["self"] spIn0 :=
  ExV.of0 (qual := "NoKinds.__init__") (st := s_NoKinds___init__) h fi ty (init0_ok (k := 0) (c0 := "WordsError") F sc_NoKinds___init__ h.oex TI hW rfl (.inr trivial) (by first | exact Or.inl rfl | exact Or.inr (Or.inl rfl) | exact Or.inr (Or.inr rfl)) (fun _ _ _ _ _ _ => rfl)) b hm
abbrev s_BadProgram___init__ : Stmt := inCls (top 4) 0
theorem sc_BadProgram___init__ : FnScope ["self", "part"] ["self", "part"] (defScope s_BadProgram___init__) := ⟨rfl, rfl, rfl, by decide +kernel, rfl, by decide +kernel, by decide +kernel⟩
theorem ok_BadProgram___init__ {W0 C f : Addr} {fd : FuncData} (h : EF K W0 "BadProgram" C) (F : Fun K "__init__" "BadProgram.__init__" s_BadProgram___init__ f fd) (fi : PySem.W.findIn K (.ref C) "__init__" = some (some (.ref f))) (ty : PySem.W.typeIn K (.ref f) = some (.type "function")) (b : Binds K fd ["self", "part"] []) (hm : mg "BadProgram" = some (.ref C)) (nf : PySem.W.findIn K (.ref C) "part" = some none) : ExV P w K mg base "BadProgram" 1 ["self", "part"] (fun C => spIn K C "part") :=
  ExV.of1 h fi ty (init_ok (k := 0) F sc_BadProgram___init__ h.oex nf rfl (by first | exact Or.inl rfl | exact Or.inr (Or.inl rfl) | exact Or.inr (Or.inr rfl)) (by first | exact Or.inl rfl | exact Or.inr (Or.inl rfl) | exact Or.inr (Or.inr rfl))) b hm
abbrev s_NoBody___init__ : Stmt := inCls (top 5) 0
theorem sc_NoBody___init__ : FnScope ["self"] ["self"] (defScope s_NoBody___init__) := ⟨rfl, rfl, rfl, by decide +kernel, rfl, by decide +kernel, by decide +kernel⟩
theorem ok_NoBody___init__ {W0 C f : Addr} {fd : FuncData} (h : EF K W0 "NoBody" C) (F : Fun K "__init__" "NoBody.__init__" s_NoBody___init__ f fd) (fi : PySem.W.findIn K (.ref C) "__init__" = some (some (.ref f))) (ty : PySem.W.typeIn K (.ref f) = some (.type "function")) (b : Binds K fd ["self"] []) (hm : mg "NoBody" = some (.ref C)) (TI : ClsInit K W0) (hW : mg "WordsError" = some (.ref W0)) : ExV P w K mg base "NoBody" 1 ["self"] spIn0 :=
  ExV.of0 (qual := "NoBody.__init__") (st := s_NoBody___init__) h fi ty (init0_ok (k := 0) (c0 := "WordsError") F sc_NoBody___init__ h.oex TI hW rfl (.inr trivial) (by first | exact Or.inl rfl | exact Or.inr (Or.inl rfl) | exact Or.inr (Or.inr rfl)) (fun _ _ _ _ _ _ => rfl)) b hm
abbrev s_NoPoint___init__ : Stmt := inCls (top 6) 0
theorem sc_NoPoint___init__ : FnScope ["self"] ["self"] (defScope s_NoPoint___init__) := ⟨rfl, rfl, rfl, by decide +kernel, rfl, by decide +kernel, by decide +kernel⟩
theorem ok_NoPoint___init__ {W0 C f : Addr} {fd : FuncData} (h : EF K W0 "NoPoint" C) (F : Fun K "__init__" "NoPoint.__init__" s_NoPoint___init__ f fd) (fi : PySem.W.findIn K (.ref C) "__init__" = some (some (.ref f))) (ty : PySem.W.typeIn K (.ref f) = some (.type "function")) (b : Binds K fd ["self"] []) (hm : mg "NoPoint" = some (.ref C)) (TI : ClsInit K W0) (hW : mg "WordsError" = some (.ref W0)) : ExV P w K mg base "NoPoint" 1 ["self"] spIn0 :=
  ExV.of0 (qual := "NoPoint.__init__") (st := s_NoPoint___init__) h fi ty (init0_ok (k := 0) (c0 := "WordsError") F sc_NoPoint___init__ h.oex TI hW rfl (.inr trivial) (by first | exact Or.inl rfl | exact Or.inr (Or.inl rfl) | exact Or.inr (Or.inr rfl)) (fun _ _ _ _ _ _ => rfl)) b hm
abbrev s_NoInputs___init__ : Stmt := inCls (top 7) 0
theorem sc_NoInputs___init__ : FnScope ["self"] ["self"] (defScope s_NoInputs___init__) := ⟨rfl, rfl, rfl, by decide +kernel, rfl, by decide +kernel, by decide +kernel⟩
theorem ok_NoInputs___init__ {W0 C f : Addr} {fd : FuncData} (h : EF K W0 "NoInputs" C) (F : Fun K "__init__" "NoInputs.__init__" s_NoInputs___init__ f fd) (fi : PySem.W.findIn K (.ref C) "__init__" = some (some (.ref f))) (ty : PySem.W.typeIn K (.ref f) = some (.type "function")) (b : Binds K fd ["self"] []) (hm : mg "NoInputs" = some (.ref C)) (TI : ClsInit K W0) (hW : mg "WordsError" = some (.ref W0)) : ExV P w K mg base "NoInputs" 1 ["self"] spIn0 :=
  ExV.of0 (qual := "NoInputs.__init__") (st := s_NoInputs___init__) h fi ty (init0_ok (k := 0) (c0 := "WordsError") F sc_NoInputs___init__ h.oex TI hW rfl (.inr trivial) (by first | exact Or.inl rfl | exact Or.inr (Or.inl rfl) | exact Or.inr (Or.inr rfl)) (fun _ _ _ _ _ _ => rfl)) b hm
abbrev s_NoNumber___init__ : Stmt := inCls (top 8) 0
theorem sc_NoNumber___init__ : FnScope ["self"] ["self"] (defScope s_NoNumber___init__) := ⟨rfl, rfl, rfl, by decide +kernel, rfl, by decide +kernel, by decide +kernel⟩
theorem ok_NoNumber___init__ {W0 C f : Addr} {fd : FuncData} (h : EF K W0 "NoNumber" C) (F : Fun K "__init__" "NoNumber.__init__" s_NoNumber___init__ f fd) (fi : PySem.W.findIn K (.ref C) "__init__" = some (some (.ref f))) (ty : PySem.W.typeIn K (.ref f) = some (.type "function")) (b : Binds K fd ["self"] []) (hm : mg "NoNumber" = some (.ref C)) (TI : ClsInit K W0) (hW : mg "WordsError" = some (.ref W0)) : ExV P w K mg base "NoNumber" 1 ["self"] spIn0 :=
  ExV.of0 (qual := "NoNumber.__init__") (st := s_NoNumber___init__) h fi ty (init0_ok (k := 0) (c0 := "WordsError") F sc_NoNumber___init__ h.oex TI hW rfl (.inr trivial) (by first | exact Or.inl rfl | exact Or.inr (Or.inl rfl) | exact Or.inr (Or.inr rfl)) (fun _ _ _ _ _ _ => rfl)) b hm
abbrev s_IsOver___init__ : Stmt := inCls (top 9) 0
theorem sc_IsOver___init__ : FnScope ["self"] ["self"] (defScope s_IsOver___init__) := ⟨rfl, rfl, rfl, by decide +kernel, rfl, by decide +kernel, by decide +kernel⟩
theorem ok_IsOver___init__ {W0 C f : Addr} {fd : FuncData} (h : EF K W0 "IsOver" C) (F : Fun K "__init__" "IsOver.__init__" s_IsOver___init__ f fd) (fi : PySem.W.findIn K (.ref C) "__init__" = some (some (.ref f))) (ty : PySem.W.typeIn K (.ref f) = some (.type "function")) (b : Binds K fd ["self"] []) (hm : mg "IsOver" = some (.ref C)) (TI : ClsInit K W0) (hW : mg "WordsError" = some (.ref W0)) : ExV P w K mg base "IsOver" 1 ["self"] spIn0 :=
  ExV.of0 (qual := "IsOver.__init__") (st := s_IsOver___init__) h fi ty (init0_ok (k := 0) (c0 := "WordsError") F sc_IsOver___init__ h.oex TI hW rfl (.inr trivial) (by first | exact Or.inl rfl | exact Or.inr (Or.inl rfl) | exact Or.inr (Or.inr rfl)) (fun _ _ _ _ _ _ => rfl)) b hm
abbrev s_NoPlace___init__ : Stmt := inCls (top 10) 0
theorem sc_NoPlace___init__ : FnScope ["self"] ["self"] (defScope s_NoPlace___init__) := ⟨rfl, rfl, rfl, by decide +kernel, rfl, by decide +kernel, by decide +kernel⟩
theorem ok_NoPlace___init__ {W0 C f : Addr} {fd : FuncData} (h : EF K W0 "NoPlace" C) (F : Fun K "__init__" "NoPlace.__init__" s_NoPlace___init__ f fd) (fi : PySem.W.findIn K (.ref C) "__init__" = some (some (.ref f))) (ty : PySem.W.typeIn K (.ref f) = some (.type "function")) (b : Binds K fd ["self"] []) (hm : mg "NoPlace" = some (.ref C)) (TI : ClsInit K W0) (hW : mg "WordsError" = some (.ref W0)) : ExV P w K mg base "NoPlace" 1 ["self"] spIn0 :=
  ExV.of0 (qual := "NoPlace.__init__") (st := s_NoPlace___init__) h fi ty (init0_ok (k := 0) (c0 := "WordsError") F sc_NoPlace___init__ h.oex TI hW rfl (.inr trivial) (by first | exact Or.inl rfl | exact Or.inr (Or.inl rfl) | exact Or.inr (Or.inr rfl)) (fun _ _ _ _ _ _ => rfl)) b hm
abbrev s_BadPlacer___init__ : Stmt := inCls (top 11) 0
theorem sc_BadPlacer___init__ : FnScope ["self", "number"] ["self", "number"] (defScope s_BadPlacer___init__) := ⟨rfl, rfl, rfl, by decide +kernel, rfl, by decide +kernel, by decide +kernel⟩
theorem ok_BadPlacer___init__ {W0 C f : Addr} {fd : FuncData} (h : EF K W0 "BadPlacer" C) (F : Fun K "__init__" "BadPlacer.__init__" s_BadPlacer___init__ f fd) (fi : PySem.W.findIn K (.ref C) "__init__" = some (some (.ref f))) (ty : PySem.W.typeIn K (.ref f) = some (.type "function")) (b : Binds K fd ["self", "number"] []) (hm : mg "BadPlacer" = some (.ref C)) (nf : PySem.W.findIn K (.ref C) "number" = some none) : ExV P w K mg base "BadPlacer" 1 ["self", "number"] (fun C => spIn K C "number") :=
  ExV.of1 h fi ty (init_ok (k := 0) F sc_BadPlacer___init__ h.oex nf rfl (by first | exact Or.inl rfl | exact Or.inr (Or.inl rfl) | exact Or.inr (Or.inr rfl)) (by first | exact Or.inl rfl | exact Or.inr (Or.inl rfl) | exact Or.inr (Or.inr rfl))) b hm
abbrev s_TooMany___init__ : Stmt := inCls (top 12) 0
theorem sc_TooMany___init__ : FnScope ["self", "most"] ["self", "most"] (defScope s_TooMany___init__) := ⟨rfl, rfl, rfl, by decide +kernel, rfl, by decide +kernel, by decide +kernel⟩
theorem ok_TooMany___init__ {W0 C f : Addr} {fd : FuncData} (h : EF K W0 "TooMany" C) (F : Fun K "__init__" "TooMany.__init__" s_TooMany___init__ f fd) (fi : PySem.W.findIn K (.ref C) "__init__" = some (some (.ref f))) (ty : PySem.W.typeIn K (.ref f) = some (.type "function")) (b : Binds K fd ["self", "most"] []) (hm : mg "TooMany" = some (.ref C)) (nf : PySem.W.findIn K (.ref C) "most" = some none) : ExV P w K mg base "TooMany" 1 ["self", "most"] (fun C => spIn K C "most") :=
  ExV.of1 h fi ty (init_ok (k := 0) F sc_TooMany___init__ h.oex nf rfl (by first | exact Or.inl rfl | exact Or.inr (Or.inl rfl) | exact Or.inr (Or.inr rfl)) (by first | exact Or.inl rfl | exact Or.inr (Or.inl rfl) | exact Or.inr (Or.inr rfl))) b hm
abbrev s_NoLot___init__ : Stmt := inCls (top 13) 0
theorem sc_NoLot___init__ : FnScope ["self"] ["self"] (defScope s_NoLot___init__) := ⟨rfl, rfl, rfl, by decide +kernel, rfl, by decide +kernel, by decide +kernel⟩
theorem ok_NoLot___init__ {W0 C f : Addr} {fd : FuncData} (h : EF K W0 "NoLot" C) (F : Fun K "__init__" "NoLot.__init__" s_NoLot___init__ f fd) (fi : PySem.W.findIn K (.ref C) "__init__" = some (some (.ref f))) (ty : PySem.W.typeIn K (.ref f) = some (.type "function")) (b : Binds K fd ["self"] []) (hm : mg "NoLot" = some (.ref C)) (TI : ClsInit K W0) (hW : mg "WordsError" = some (.ref W0)) : ExV P w K mg base "NoLot" 1 ["self"] spIn0 :=
  ExV.of0 (qual := "NoLot.__init__") (st := s_NoLot___init__) h fi ty (init0_ok (k := 0) (c0 := "WordsError") F sc_NoLot___init__ h.oex TI hW rfl (.inr trivial) (by first | exact Or.inl rfl | exact Or.inr (Or.inl rfl) | exact Or.inr (Or.inr rfl)) (fun _ _ _ _ _ _ => rfl)) b hm
abbrev s_NoSpot___init__ : Stmt := inCls (top 14) 0
theorem sc_NoSpot___init__ : FnScope ["self"] ["self"] (defScope s_NoSpot___init__) := ⟨rfl, rfl, rfl, by decide +kernel, rfl, by decide +kernel, by decide +kernel⟩
theorem ok_NoSpot___init__ {W0 C f : Addr} {fd : FuncData} (h : EF K W0 "NoSpot" C) (F : Fun K "__init__" "NoSpot.__init__" s_NoSpot___init__ f fd) (fi : PySem.W.findIn K (.ref C) "__init__" = some (some (.ref f))) (ty : PySem.W.typeIn K (.ref f) = some (.type "function")) (b : Binds K fd ["self"] []) (hm : mg "NoSpot" = some (.ref C)) (TI : ClsInit K W0) (hW : mg "WordsError" = some (.ref W0)) : ExV P w K mg base "NoSpot" 1 ["self"] spIn0 :=
  ExV.of0 (qual := "NoSpot.__init__") (st := s_NoSpot___init__) h fi ty (init0_ok (k := 0) (c0 := "WordsError") F sc_NoSpot___init__ h.oex TI hW rfl (.inr trivial) (by first | exact Or.inl rfl | exact Or.inr (Or.inl rfl) | exact Or.inr (Or.inr rfl)) (fun _ _ _ _ _ _ => rfl)) b hm
abbrev s_NoSource___init__ : Stmt := inCls (top 15) 0
theorem sc_NoSource___init__ : FnScope ["self"] ["self"] (defScope s_NoSource___init__) := ⟨rfl, rfl, rfl, by decide +kernel, rfl, by decide +kernel, by decide +kernel⟩
theorem ok_NoSource___init__ {W0 C f : Addr} {fd : FuncData} (h : EF K W0 "NoSource" C) (F : Fun K "__init__" "NoSource.__init__" s_NoSource___init__ f fd) (fi : PySem.W.findIn K (.ref C) "__init__" = some (some (.ref f))) (ty : PySem.W.typeIn K (.ref f) = some (.type "function")) (b : Binds K fd ["self"] []) (hm : mg "NoSource" = some (.ref C)) (TI : ClsInit K W0) (hW : mg "WordsError" = some (.ref W0)) : ExV P w K mg base "NoSource" 1 ["self"] spIn0 :=
  ExV.of0 (qual := "NoSource.__init__") (st := s_NoSource___init__) h fi ty (init0_ok (k := 0) (c0 := "WordsError") F sc_NoSource___init__ h.oex TI hW rfl (.inr trivial) (by first | exact Or.inl rfl | exact Or.inr (Or.inl rfl) | exact Or.inr (Or.inr rfl)) (fun _ _ _ _ _ _ => rfl)) b hm
abbrev s_NoWords___init__ : Stmt := inCls (top 16) 0
theorem sc_NoWords___init__ : FnScope ["self"] ["self"] (defScope s_NoWords___init__) := ⟨rfl, rfl, rfl, by decide +kernel, rfl, by decide +kernel, by decide +kernel⟩
theorem ok_NoWords___init__ {W0 C f : Addr} {fd : FuncData} (h : EF K W0 "NoWords" C) (F : Fun K "__init__" "NoWords.__init__" s_NoWords___init__ f fd) (fi : PySem.W.findIn K (.ref C) "__init__" = some (some (.ref f))) (ty : PySem.W.typeIn K (.ref f) = some (.type "function")) (b : Binds K fd ["self"] []) (hm : mg "NoWords" = some (.ref C)) (TI : ClsInit K W0) (hW : mg "WordsError" = some (.ref W0)) : ExV P w K mg base "NoWords" 1 ["self"] spIn0 :=
  ExV.of0 (qual := "NoWords.__init__") (st := s_NoWords___init__) h fi ty (init0_ok (k := 0) (c0 := "WordsError") F sc_NoWords___init__ h.oex TI hW rfl (.inr trivial) (by first | exact Or.inl rfl | exact Or.inr (Or.inl rfl) | exact Or.inr (Or.inr rfl)) (fun _ _ _ _ _ _ => rfl)) b hm
abbrev s_NoKinding___init__ : Stmt := inCls (top 17) 0
theorem sc_NoKinding___init__ : FnScope ["self"] ["self"] (defScope s_NoKinding___init__) := ⟨rfl, rfl, rfl, by decide +kernel, rfl, by decide +kernel, by decide +kernel⟩
theorem ok_NoKinding___init__ {W0 C f : Addr} {fd : FuncData} (h : EF K W0 "NoKinding" C) (F : Fun K "__init__" "NoKinding.__init__" s_NoKinding___init__ f fd) (fi : PySem.W.findIn K (.ref C) "__init__" = some (some (.ref f))) (ty : PySem.W.typeIn K (.ref f) = some (.type "function")) (b : Binds K fd ["self"] []) (hm : mg "NoKinding" = some (.ref C)) (TI : ClsInit K W0) (hW : mg "WordsError" = some (.ref W0)) : ExV P w K mg base "NoKinding" 1 ["self"] spIn0 :=
  ExV.of0 (qual := "NoKinding.__init__") (st := s_NoKinding___init__) h fi ty (init0_ok (k := 0) (c0 := "WordsError") F sc_NoKinding___init__ h.oex TI hW rfl (.inr trivial) (by first | exact Or.inl rfl | exact Or.inr (Or.inl rfl) | exact Or.inr (Or.inr rfl)) (fun _ _ _ _ _ _ => rfl)) b hm
abbrev s_NoOver___init__ : Stmt := inCls (top 18) 0
theorem sc_NoOver___init__ : FnScope ["self"] ["self"] (defScope s_NoOver___init__) := ⟨rfl, rfl, rfl, by decide +kernel, rfl, by decide +kernel, by decide +kernel⟩
theorem ok_NoOver___init__ {W0 C f : Addr} {fd : FuncData} (h : EF K W0 "NoOver" C) (F : Fun K "__init__" "NoOver.__init__" s_NoOver___init__ f fd) (fi : PySem.W.findIn K (.ref C) "__init__" = some (some (.ref f))) (ty : PySem.W.typeIn K (.ref f) = some (.type "function")) (b : Binds K fd ["self"] []) (hm : mg "NoOver" = some (.ref C)) (TI : ClsInit K W0) (hW : mg "WordsError" = some (.ref W0)) : ExV P w K mg base "NoOver" 1 ["self"] spIn0 :=
  ExV.of0 (qual := "NoOver.__init__") (st := s_NoOver___init__) h fi ty (init0_ok (k := 0) (c0 := "WordsError") F sc_NoOver___init__ h.oex TI hW rfl (.inr trivial) (by first | exact Or.inl rfl | exact Or.inr (Or.inl rfl) | exact Or.inr (Or.inr rfl)) (fun _ _ _ _ _ _ => rfl)) b hm
abbrev s_BadImage___init__ : Stmt := inCls (top 19) 0
theorem sc_BadImage___init__ : FnScope ["self", "line"] ["self", "line"] (defScope s_BadImage___init__) := ⟨rfl, rfl, rfl, by decide +kernel, rfl, by decide +kernel, by decide +kernel⟩
theorem ok_BadImage___init__ {W0 C f : Addr} {fd : FuncData} (h : EF K W0 "BadImage" C) (F : Fun K "__init__" "BadImage.__init__" s_BadImage___init__ f fd) (fi : PySem.W.findIn K (.ref C) "__init__" = some (some (.ref f))) (ty : PySem.W.typeIn K (.ref f) = some (.type "function")) (b : Binds K fd ["self", "line"] []) (hm : mg "BadImage" = some (.ref C)) (nf : PySem.W.findIn K (.ref C) "line" = some none) : ExV P w K mg base "BadImage" 1 ["self", "line"] (fun C => spIn K C "line") :=
  ExV.of1 h fi ty (init_ok (k := 0) F sc_BadImage___init__ h.oex nf rfl (by first | exact Or.inl rfl | exact Or.inr (Or.inl rfl) | exact Or.inr (Or.inr rfl)) (by first | exact Or.inl rfl | exact Or.inr (Or.inl rfl) | exact Or.inr (Or.inr rfl))) b hm
abbrev s_NoText___init__ : Stmt := inCls (top 20) 0
theorem sc_NoText___init__ : FnScope ["self"] ["self"] (defScope s_NoText___init__) := ⟨rfl, rfl, rfl, by decide +kernel, rfl, by decide +kernel, by decide +kernel⟩
theorem ok_NoText___init__ {W0 C f : Addr} {fd : FuncData} (h : EF K W0 "NoText" C) (F : Fun K "__init__" "NoText.__init__" s_NoText___init__ f fd) (fi : PySem.W.findIn K (.ref C) "__init__" = some (some (.ref f))) (ty : PySem.W.typeIn K (.ref f) = some (.type "function")) (b : Binds K fd ["self"] []) (hm : mg "NoText" = some (.ref C)) (TI : ClsInit K W0) (hW : mg "WordsError" = some (.ref W0)) : ExV P w K mg base "NoText" 1 ["self"] spIn0 :=
  ExV.of0 (qual := "NoText.__init__") (st := s_NoText___init__) h fi ty (init0_ok (k := 0) (c0 := "WordsError") F sc_NoText___init__ h.oex TI hW rfl (.inr trivial) (by first | exact Or.inl rfl | exact Or.inr (Or.inl rfl) | exact Or.inr (Or.inr rfl)) (fun _ _ _ _ _ _ => rfl)) b hm
abbrev s_NoRecord___init__ : Stmt := inCls (top 21) 0
theorem sc_NoRecord___init__ : FnScope ["self"] ["self"] (defScope s_NoRecord___init__) := ⟨rfl, rfl, rfl, by decide +kernel, rfl, by decide +kernel, by decide +kernel⟩
theorem ok_NoRecord___init__ {W0 C f : Addr} {fd : FuncData} (h : EF K W0 "NoRecord" C) (F : Fun K "__init__" "NoRecord.__init__" s_NoRecord___init__ f fd) (fi : PySem.W.findIn K (.ref C) "__init__" = some (some (.ref f))) (ty : PySem.W.typeIn K (.ref f) = some (.type "function")) (b : Binds K fd ["self"] []) (hm : mg "NoRecord" = some (.ref C)) (TI : ClsInit K W0) (hW : mg "WordsError" = some (.ref W0)) : ExV P w K mg base "NoRecord" 1 ["self"] spIn0 :=
  ExV.of0 (qual := "NoRecord.__init__") (st := s_NoRecord___init__) h fi ty (init0_ok (k := 0) (c0 := "WordsError") F sc_NoRecord___init__ h.oex TI hW rfl (.inr trivial) (by first | exact Or.inl rfl | exact Or.inr (Or.inl rfl) | exact Or.inr (Or.inr rfl)) (fun _ _ _ _ _ _ => rfl)) b hm
abbrev s_BadText___init__ : Stmt := inCls (top 22) 0
theorem sc_BadText___init__ : FnScope ["self", "line"] ["self", "line"] (defScope s_BadText___init__) := ⟨rfl, rfl, rfl, by decide +kernel, rfl, by decide +kernel, by decide +kernel⟩
theorem ok_BadText___init__ {W0 C f : Addr} {fd : FuncData} (h : EF K W0 "BadText" C) (F : Fun K "__init__" "BadText.__init__" s_BadText___init__ f fd) (fi : PySem.W.findIn K (.ref C) "__init__" = some (some (.ref f))) (ty : PySem.W.typeIn K (.ref f) = some (.type "function")) (b : Binds K fd ["self", "line"] []) (hm : mg "BadText" = some (.ref C)) (nf : PySem.W.findIn K (.ref C) "line" = some none) : ExV P w K mg base "BadText" 1 ["self", "line"] (fun C => spIn K C "line") :=
  ExV.of1 h fi ty (init_ok (k := 0) F sc_BadText___init__ h.oex nf rfl (by first | exact Or.inl rfl | exact Or.inr (Or.inl rfl) | exact Or.inr (Or.inr rfl)) (by first | exact Or.inl rfl | exact Or.inr (Or.inl rfl) | exact Or.inr (Or.inr rfl))) b hm
abbrev s_NothingDone___init__ : Stmt := inCls (top 23) 0
theorem sc_NothingDone___init__ : FnScope ["self"] ["self"] (defScope s_NothingDone___init__) := ⟨rfl, rfl, rfl, by decide +kernel, rfl, by decide +kernel, by decide +kernel⟩
theorem ok_NothingDone___init__ {W0 C f : Addr} {fd : FuncData} (h : EF K W0 "NothingDone" C) (F : Fun K "__init__" "NothingDone.__init__" s_NothingDone___init__ f fd) (fi : PySem.W.findIn K (.ref C) "__init__" = some (some (.ref f))) (ty : PySem.W.typeIn K (.ref f) = some (.type "function")) (b : Binds K fd ["self"] []) (hm : mg "NothingDone" = some (.ref C)) (TI : ClsInit K W0) (hW : mg "WordsError" = some (.ref W0)) : ExV P w K mg base "NothingDone" 1 ["self"] spIn0 :=
  ExV.of0 (qual := "NothingDone.__init__") (st := s_NothingDone___init__) h fi ty (init0_ok (k := 0) (c0 := "WordsError") F sc_NothingDone___init__ h.oex TI hW rfl (.inr trivial) (by first | exact Or.inl rfl | exact Or.inr (Or.inl rfl) | exact Or.inr (Or.inr rfl)) (fun _ _ _ _ _ _ => rfl)) b hm
abbrev s_NoForm___init__ : Stmt := inCls (top 24) 0
theorem sc_NoForm___init__ : FnScope ["self"] ["self"] (defScope s_NoForm___init__) := ⟨rfl, rfl, rfl, by decide +kernel, rfl, by decide +kernel, by decide +kernel⟩
theorem ok_NoForm___init__ {W0 C f : Addr} {fd : FuncData} (h : EF K W0 "NoForm" C) (F : Fun K "__init__" "NoForm.__init__" s_NoForm___init__ f fd) (fi : PySem.W.findIn K (.ref C) "__init__" = some (some (.ref f))) (ty : PySem.W.typeIn K (.ref f) = some (.type "function")) (b : Binds K fd ["self"] []) (hm : mg "NoForm" = some (.ref C)) (TI : ClsInit K W0) (hW : mg "WordsError" = some (.ref W0)) : ExV P w K mg base "NoForm" 1 ["self"] spIn0 :=
  ExV.of0 (qual := "NoForm.__init__") (st := s_NoForm___init__) h fi ty (init0_ok (k := 0) (c0 := "WordsError") F sc_NoForm___init__ h.oex TI hW rfl (.inr trivial) (by first | exact Or.inl rfl | exact Or.inr (Or.inl rfl) | exact Or.inr (Or.inr rfl)) (fun _ _ _ _ _ _ => rfl)) b hm
abbrev s_NoName___init__ : Stmt := inCls (top 25) 0
theorem sc_NoName___init__ : FnScope ["self", "name"] ["self", "name"] (defScope s_NoName___init__) := ⟨rfl, rfl, rfl, by decide +kernel, rfl, by decide +kernel, by decide +kernel⟩
theorem ok_NoName___init__ {W0 C f : Addr} {fd : FuncData} (h : EF K W0 "NoName" C) (F : Fun K "__init__" "NoName.__init__" s_NoName___init__ f fd) (fi : PySem.W.findIn K (.ref C) "__init__" = some (some (.ref f))) (ty : PySem.W.typeIn K (.ref f) = some (.type "function")) (b : Binds K fd ["self", "name"] []) (hm : mg "NoName" = some (.ref C)) (nf : PySem.W.findIn K (.ref C) "name" = some none) : ExV P w K mg base "NoName" 1 ["self", "name"] (fun C => spIn K C "name") :=
  ExV.of1 h fi ty (init_ok (k := 0) F sc_NoName___init__ h.oex nf rfl (by first | exact Or.inl rfl | exact Or.inr (Or.inl rfl) | exact Or.inr (Or.inr rfl)) (by first | exact Or.inl rfl | exact Or.inr (Or.inl rfl) | exact Or.inr (Or.inr rfl))) b hm
abbrev s_NothingChosen___init__ : Stmt := inCls (top 26) 0
theorem sc_NothingChosen___init__ : FnScope ["self"] ["self"] (defScope s_NothingChosen___init__) := ⟨rfl, rfl, rfl, by decide +kernel, rfl, by decide +kernel, by decide +kernel⟩
theorem ok_NothingChosen___init__ {W0 C f : Addr} {fd : FuncData} (h : EF K W0 "NothingChosen" C) (F : Fun K "__init__" "NothingChosen.__init__" s_NothingChosen___init__ f fd) (fi : PySem.W.findIn K (.ref C) "__init__" = some (some (.ref f))) (ty : PySem.W.typeIn K (.ref f) = some (.type "function")) (b : Binds K fd ["self"] []) (hm : mg "NothingChosen" = some (.ref C)) (TI : ClsInit K W0) (hW : mg "WordsError" = some (.ref W0)) : ExV P w K mg base "NothingChosen" 1 ["self"] spIn0 :=
  ExV.of0 (qual := "NothingChosen.__init__") (st := s_NothingChosen___init__) h fi ty (init0_ok (k := 0) (c0 := "WordsError") F sc_NothingChosen___init__ h.oex TI hW rfl (.inr trivial) (by first | exact Or.inl rfl | exact Or.inr (Or.inl rfl) | exact Or.inr (Or.inr rfl)) (fun _ _ _ _ _ _ => rfl)) b hm
end
end K00

set_option Elab.async false
set_option linter.all false
set_option maxRecDepth 100000
set_option maxHeartbeats 2000000
namespace K00
open PySem PySem.Spec L2 B
set_option autoImplicit false
@[simp] theorem atI_0 {α : Type} (x : α) (xs : List α) : atI (x :: xs) 0 = some x := by
  have e : ixN (x :: xs).length 0 = some 0 := by unfold ixN; rw [if_pos (by decide), if_pos (by simp only [List.length_cons]; omega)]; rfl
  unfold atI; rw [e]; rfl
@[simp] theorem atI_1 {α : Type} (x y : α) (xs : List α) : atI (x :: y :: xs) 1 = some y := by
  have e : ixN (x :: y :: xs).length 1 = some 1 := by unfold ixN; rw [if_pos (by decide), if_pos (by simp only [List.length_cons]; omega)]; rfl
  unfold atI; rw [e]; rfl
@[simp] theorem atI_2 {α : Type} (x y z : α) (xs : List α) : atI (x :: y :: z :: xs) 2 = some z := by
  have e : ixN (x :: y :: z :: xs).length 2 = some 2 := by unfold ixN; rw [if_pos (by decide), if_pos (by simp only [List.length_cons]; omega)]; rfl
  unfold atI; rw [e]; rfl
theorem shaped_dec {d : PyData} (h : SeqAt.shaped d = true) : SeqAt.shaped d = true := h
/-- the words -/
def okS (x : Str) : Bool := SeqAt.shaped (.str x)
theorem fEq_str (x y : Str) (st : Sto) (hx : okS x = true) (hy : okS y = true) : fEq (.str x) (.str y) st = some (.bl (x == y), st) := by
  unfold okS at hx hy
  simp [fEq, toDS, toD, hx, hy, PyData.eqv]
theorem fNe_str (x y : Str) (st : Sto) (hx : okS x = true) (hy : okS y = true) : fNe (.str x) (.str y) st = some (.bl (!(x == y)), st) := by
  unfold okS at hx hy
  simp [fNe, toDS, toD, hx, hy, PyData.eqv]
@[simp] theorem ok_num : okS "num" = true := by decide +kernel
@[simp] theorem ok_nil : okS "nil" = true := by decide +kernel
@[simp] theorem ok_row : okS "row" = true := by decide +kernel
@[simp] theorem ok_data : okS "data" = true := by decide +kernel
@[simp] theorem ok_fun : okS "fun" = true := by decide +kernel
@[simp] theorem ok_box : okS "box" = true := by decide +kernel
@[simp] theorem ok_letter : okS "letter" = true := by decide +kernel
@[simp] theorem ok_thing : okS "thing" = true := by decide +kernel
@[simp] theorem sml_0 : sml 0 = true := rfl
@[simp] theorem sml_1 : sml 1 = true := rfl
@[simp] theorem sml_2 : sml 2 = true := rfl
@[simp] theorem sml_3 : sml 3 = true := rfl
@[simp] theorem sml_4 : sml 4 = true := rfl
@[simp] theorem sml_5 : sml 5 = true := rfl
@[simp] theorem sml_6 : sml 6 = true := rfl
@[simp] theorem sml_7 : sml 7 = true := rfl
@[simp] theorem sml_8 : sml 8 = true := rfl
@[simp] theorem sml_9 : sml 9 = true := rfl
@[simp] theorem sml_10 : sml 10 = true := rfl
@[simp] theorem sml_11 : sml 11 = true := rfl
@[simp] theorem sml_12 : sml 12 = true := rfl
@[simp] theorem sml_13 : sml 13 = true := rfl
@[simp] theorem sml_14 : sml 14 = true := rfl
@[simp] theorem sml_15 : sml 15 = true := rfl
@[simp] theorem sml_16 : sml 16 = true := rfl
@[simp] theorem sml_17 : sml 17 = true := rfl
@[simp] theorem sml_18 : sml 18 = true := rfl
@[simp] theorem sml_19 : sml 19 = true := rfl
@[simp] theorem sml_20 : sml 20 = true := rfl
@[simp] theorem sml_21 : sml 21 = true := rfl
@[simp] theorem sml_22 : sml 22 = true := rfl
@[simp] theorem sml_23 : sml 23 = true := rfl
@[simp] theorem sml_24 : sml 24 = true := rfl
@[simp] theorem sml_25 : sml 25 = true := rfl
@[simp] theorem sml_26 : sml 26 = true := rfl
@[simp] theorem sml_27 : sml 27 = true := rfl
@[simp] theorem sml_28 : sml 28 = true := rfl
@[simp] theorem sml_29 : sml 29 = true := rfl
@[simp] theorem sml_30 : sml 30 = true := rfl
@[simp] theorem sml_31 : sml 31 = true := rfl
@[simp] theorem sml_32 : sml 32 = true := rfl
@[simp] theorem sml_33 : sml 33 = true := rfl
@[simp] theorem sml_34 : sml 34 = true := rfl
@[simp] theorem sml_35 : sml 35 = true := rfl
@[simp] theorem sml_36 : sml 36 = true := rfl
@[simp] theorem sml_37 : sml 37 = true := rfl
@[simp] theorem sml_38 : sml 38 = true := rfl
@[simp] theorem sml_39 : sml 39 = true := rfl
@[simp] theorem sml_40 : sml 40 = true := rfl
@[simp] theorem sml_41 : sml 41 = true := rfl
/-! ### what may become of the store -/
structure Fr (P : Nat → Prop) (st st' : Sto) : Prop where
  len : st.length ≤ st'.length
  same : ∀ i, i < st.length → ¬ P i → st'[i]? = st[i]?
abbrev Gr (st st' : Sto) : Prop := Fr (fun _ => False) st st'
theorem Fr.refl {P : Nat → Prop} {st : Sto} : Fr P st st := ⟨Nat.le_refl _, fun _ _ _ => rfl⟩
theorem Fr.trans {P : Nat → Prop} {a b c : Sto} (h : Fr P a b) (g : Fr P b c) : Fr P a c :=
  ⟨Nat.le_trans h.len g.len, fun i hi n => (g.same i (Nat.lt_of_lt_of_le hi h.len) n).trans (h.same i hi n)⟩
theorem Fr.mono {P Q : Nat → Prop} {a b : Sto} (h : Fr P a b) (k : ∀ i, P i → Q i) : Fr Q a b :=
  ⟨h.len, fun i hi n => h.same i hi fun p => n (k i p)⟩
theorem Fr.any {P : Nat → Prop} {a b : Sto} (h : Gr a b) : Fr P a b := h.mono fun _ z => z.elim
theorem Fr.app {P : Nat → Prop} {st : Sto} (γ : Sto) : Fr P st (st ++ γ) := ⟨by simp, fun i hi _ => List.getElem?_append_left hi⟩
theorem Fr.set {P : Nat → Prop} {st : Sto} {i : Nat} (o : SO) (h : P i) : Fr P st (st.set i o) :=
  ⟨by simp, fun j hj n => List.getElem?_set_ne (fun e => n (by subst e; exact h))⟩
theorem Fr.get {P : Nat → Prop} {st st' : Sto} (h : Fr P st st') {i : Nat} {o : SO} (e : st[i]? = some o) (n : ¬ P i) : st'[i]? = some o :=
  (h.same i (List.getElem?_eq_some_iff.mp e).1 n).trans e
theorem Fr.own {P Q : Nat → Prop} {st st1 st' : Sto} (h0 : Fr Q st st1) (h : Fr P st1 st') (hP : ∀ i, i < st.length → P i → Q i) : Fr Q st st' :=
  ⟨Nat.le_trans h0.len h.len, fun i hi n => (h.same i (Nat.lt_of_lt_of_le hi h0.len) (fun p => n (hP i hi p))).trans (h0.same i hi n)⟩
theorem lt_of_get {st : Sto} {i : Nat} {o : SO} (e : st[i]? = some o) : i < st.length := (List.getElem?_eq_some_iff.mp e).1

/-! ### the outer form -/
@[simp] theorem fEq_int (i j : Int) (st : Sto) : fEq (.int i) (.int j) st = some (.bl (i == j), st) := by
  have h : ∀ k : Int, SeqAt.shaped (.int k) = true := fun k => by simp [SeqAt.shaped, PyData.canLay0, PyData.depth]
  simp [fEq, toDS, toD, h, PyData.eqv]
@[simp] theorem fNe_int (i j : Int) (st : Sto) : fNe (.int i) (.int j) st = some (.bl (!(i == j)), st) := by
  have h : ∀ k : Int, SeqAt.shaped (.int k) = true := fun k => by simp [SeqAt.shaped, PyData.canLay0, PyData.depth]
  simp [fNe, toDS, toD, h, PyData.eqv]
@[simp] theorem fEq_bl (i j : Bool) (st : Sto) : fEq (.bl i) (.bl j) st = some (.bl (i == j), st) := by
  have h : ∀ k : Bool, SeqAt.shaped (.bool k) = true := fun k => by simp [SeqAt.shaped, PyData.canLay0, PyData.depth]
  simp [fEq, toDS, toD, h, PyData.eqv]
@[simp] theorem fNe_bl (i j : Bool) (st : Sto) : fNe (.bl i) (.bl j) st = some (.bl (!(i == j)), st) := by
  have h : ∀ k : Bool, SeqAt.shaped (.bool k) = true := fun k => by simp [SeqAt.shaped, PyData.canLay0, PyData.depth]
  simp [fNe, toDS, toD, h, PyData.eqv]
theorem sml_le {n : Nat} (h : n ≤ 1000000) : sml n = true := sml_of h
theorem comp_go {src : Src} {p : Pat} {t : TM} {e : EM} {k : Nat} {env : En} (xs : List W) (Inv : Nat → List W → Sto → Prop)
    (hsrc : ∀ j ys st, Inv j ys st → j ≤ xs.length → src j st = some xs[j]?)
    (step : ∀ j ys st x, Inv j ys st → st[k]? = some (.lst ys) → xs[j]? = some x → ∃ env1 b, p.asg x env st = some (env1, st) ∧ t env1 st = some (b, st) ∧
      (b = false → Inv (j + 1) ys st) ∧ (b = true → ∃ y st1, e env1 st = some (y, st1) ∧ st1[k]? = some (.lst ys) ∧ Inv (j + 1) (ys ++ [y]) (st1.set k (.lst (ys ++ [y])))))
    (hx : xs.length ≤ 1000000) : ∀ (n j : Nat) (ys : List W) (st : Sto), Inv j ys st → st[k]? = some (.lst ys) → j ≤ xs.length → ys.length ≤ j → xs.length - j < n →
      ∃ ys' st', compGo src p t e k n j env st = some ((), st') ∧ Inv xs.length ys' st' ∧ st'[k]? = some (.lst ys') ∧ ys'.length ≤ xs.length := by
  intro n
  induction n with
  | zero => intro j ys st _ _ _ _ h; omega
  | succ n ih =>
    intro j ys st I hk hj hy hn
    have hs := hsrc j ys st I hj
    by_cases c : j < xs.length
    · rw [List.getElem?_eq_getElem c] at hs
      obtain ⟨env1, b, e1, e2, e3, e4⟩ := step j ys st _ I hk (List.getElem?_eq_getElem c)
      cases b with
      | false =>
        obtain ⟨ys', st', r1, r2⟩ := ih (j + 1) ys st (e3 rfl) hk (by omega) (by omega) (by omega)
        exact ⟨ys', st', by simp [compGo, hs, e1, e2, r1], r2⟩
      | true =>
        obtain ⟨y, st1, e5, e6, e7⟩ := e4 rfl
        obtain ⟨ys', st', r1, r2⟩ := ih (j + 1) (ys ++ [y]) _ e7 (List.getElem?_set_self (lt_of_get e6)) (by omega) (by simp; omega) (by omega)
        have hz : sml (ys.length + 1) = true := sml_le (by omega)
        exact ⟨ys', st', by simp [compGo, hs, e1, e2, e5, push, e6, hz, r1], r2⟩
    · have : j = xs.length := by omega
      subst this
      simp at hs
      exact ⟨ys, st, by simp [compGo, hs], I, hk, hy⟩
theorem eComp_of {i : IM} {p : Pat} {vs : List Nat} {t : TM} {e : EM} {n : Nat} {env : En} {st st0 st' : Sto} {src : Src} (hi : i env st = some (src, st0))
    (hc : compGo src p t e st0.length n 0 (wipeE env vs) (st0 ++ [.lst []]) = some ((), st')) : eComp i p vs t e n env st = some (.ref st0.length, st') := by
  simp [eComp, hi, hc]
theorem for_go {src : Src} {p : Pat} {b : SM} (xs : List W) (Inv : Nat → En → Sto → Prop) (Ret : W → Sto → Prop)
    (hsrc : ∀ j env st, Inv j env st → j ≤ xs.length → src j st = some xs[j]?)
    (step : ∀ j env st x, Inv j env st → xs[j]? = some x → ∃ env1 fl env2 st2, p.asg x env st = some (env1, st) ∧ b env1 st = some ((fl, env2), st2) ∧ ((fl = .nx ∧ Inv (j + 1) env2 st2) ∨ ∃ w, fl = .rt w ∧ Ret w st2)) :
    ∀ (n j : Nat) (env : En) (st : Sto), Inv j env st → j ≤ xs.length → xs.length - j < n →
      ∃ fl env' st', forGo src p b n j env st = some ((fl, env'), st') ∧ ((fl = .nx ∧ Inv xs.length env' st') ∨ ∃ w, fl = .rt w ∧ Ret w st') := by
  intro n
  induction n with
  | zero => intro j env st _ _ h; omega
  | succ n ih =>
    intro j env st I hj hn
    have hs := hsrc j env st I hj
    by_cases c : j < xs.length
    · rw [List.getElem?_eq_getElem c] at hs
      obtain ⟨env1, fl, env2, st2, e1, e2, r⟩ := step j env st _ I (List.getElem?_eq_getElem c)
      rcases r with ⟨rfl, r⟩ | ⟨w, rfl, r⟩
      · obtain ⟨fl', env', st', r1, r2⟩ := ih (j + 1) env2 st2 r (by omega) (by omega)
        exact ⟨fl', env', st', by simp [forGo, hs, e1, e2, r1], r2⟩
      · exact ⟨.rt w, env2, st2, by simp [forGo, hs, e1, e2], .inr ⟨w, rfl, r⟩⟩
    · have : j = xs.length := by omega
      subst this
      simp at hs
      exact ⟨.nx, env, st, by simp [forGo, hs], .inl ⟨rfl, I⟩⟩
theorem atI_nat {α : Type} (xs : List α) (n : Nat) (h : n < xs.length) : atI xs (n : Int) = xs[n]? := by
  have e : ixN xs.length (n : Int) = some n := by unfold ixN; rw [if_pos (by omega), if_pos (by omega)]; simp
  unfold atI; rw [e]; rfl
end K00

set_option Elab.async false
set_option linter.all false
set_option maxRecDepth 100000
set_option maxHeartbeats 2000000
namespace K00
open PySem PySem.Spec L2 B
set_option autoImplicit false
theorem intsW_map (xs : List Int) : intsW (xs.map .int) = some xs := by
  induction xs with
  | nil => rfl
  | cons x xs ih => simp [intsW, ih]
structure Bag (b g : Nat) (st : Sto) : Prop where
  ne : b ≠ g
  at' : ∃ (seed cnt : Int) (ns : List Int) (al : W), st[b]? = some (.lst [.int seed, .int cnt, .ref g, al]) ∧ st[g]? = some (.lst (ns.map .int)) ∧ (al = .non ∨ ∃ i, al = .int i)
abbrev BF (b g : Nat) (st st' : Sto) : Prop := Fr (fun i => i = b ∨ i = g) st st'
theorem Bag.fr {b g : Nat} {st st' : Sto} (h : Bag b g st) {P : Nat → Prop} (f : Fr P st st') (hb : ¬ P b) (hg : ¬ P g) : Bag b g st' := by
  obtain ⟨s, c, ns, al, h1, h2, h3⟩ := h.at'
  exact ⟨h.ne, s, c, ns, al, f.get h1 hb, f.get h2 hg, h3⟩
theorem Bag.gr {b g : Nat} {st st' : Sto} (h : Bag b g st) (f : Gr st st') : Bag b g st' := h.fr f (by simp) (by simp)
theorem Bag.lt {b g : Nat} {st : Sto} (h : Bag b g st) : b < st.length ∧ g < st.length := by
  obtain ⟨s, c, ns, al, h1, h2, h3⟩ := h.at'
  exact ⟨lt_of_get h1, lt_of_get h2⟩
theorem mulI1 (i j : Int) (st : Sto) (h0 : 0 ≤ i) (h1 : i < 2147483648) : fMulA (.int i) (.int j) st = some (.int (i * j), st) := by
  have : decide ((-(2 ^ 64) < i ∧ i < 2 ^ 64) ∨ (-(2 ^ 64) < j ∧ j < 2 ^ 64)) = true := decide_eq_true (.inl (by omega))
  simp only [fMulA, this, if_true]
theorem mulI2 (i j : Int) (st : Sto) (h0 : 0 ≤ j) (h1 : j < 2147483648) : fMulA (.int i) (.int j) st = some (.int (i * j), st) := by
  have : decide ((-(2 ^ 64) < i ∧ i < 2 ^ 64) ∨ (-(2 ^ 64) < j ∧ j < 2 ^ 64)) = true := decide_eq_true (.inr (by omega))
  simp only [fMulA, this, if_true]
@[simp] theorem ixN_4_0 : ixN 4 0 = some 0 := by decide +kernel
@[simp] theorem ixN_4_1 : ixN 4 1 = some 1 := by decide +kernel
@[simp] theorem ixN_4_2 : ixN 4 2 = some 2 := by decide +kernel
@[simp] theorem ixN_4_3 : ixN 4 3 = some 3 := by decide +kernel
@[simp] theorem ixN_s_0 (n : Nat) : ixN (n + 1) 0 = some 0 := by unfold ixN; rw [if_pos (by omega), if_pos (by omega)]; rfl
@[simp] theorem seqIx_0 (n : Nat) : seqIndex? 0 (n + 1) = some 0 := by
  exact (ixN_seq (ixN_s_0 n)).1
@[simp] theorem atI_3 {α : Type} (x y z u : α) (xs : List α) : atI (x :: y :: z :: u :: xs) 3 = some u := by
  have e : ixN (x :: y :: z :: u :: xs).length 3 = some 3 := by unfold ixN; rw [if_pos (by decide), if_pos (by simp only [List.length_cons]; omega)]; rfl
  unfold atI; rw [e]; rfl
theorem em_nn (a : Int) : 0 ≤ a % 2147483647 := Int.emod_nonneg _ (by decide)
theorem em_lt (a : Int) : a % 2147483647 < 2147483648 := by have := Int.emod_lt_of_pos a (b := 2147483647) (by decide); omega
def px0 (s c : Int) : Int := ((s + 7919 * (c + 1)) * 48271) % 2147483647
def px1 (s c : Int) : Int := (px0 s c * (px0 s c / 1009 + 69621)) % 2147483647
def px2 (s c : Int) : Int := (px1 s c * (px1 s c / 2003 + 40692)) % 2147483399
theorem pick_num (b g : Nat) (seed cnt m : Int) (st : Sto) (al : W) (hm : 0 < m) (h1 : st[b]? = some (.lst [.int seed, .int cnt, .ref g, .non])) (h2 : st[g]? = some (.lst [])) (hbg : b ≠ g) :
    ∃ r, F__law_pick [.ref b, .int m] st = some (.int r, st.set b (.lst [.int seed, .int (cnt + 1), .ref g, .non])) ∧ 0 ≤ r ∧ r < m := by
  have hb := lt_of_get h1
  have h3 : (st.set b (SO.lst [.int seed, .int (cnt + 1), .ref g, .non]))[b]? = some (.lst [.int seed, .int (cnt + 1), .ref g, .non]) := List.getElem?_set_self hb
  have h4 : (st.set b (SO.lst [.int seed, .int (cnt + 1), .ref g, .non]))[g]? = some (.lst []) := by rw [List.getElem?_set_ne hbg]; exact h2
  obtain ⟨sa, hsa⟩ : ∃ s, st.set b (SO.lst [.int seed, .int (cnt + 1), .ref g, .non]) = s := ⟨_, rfl⟩
  rw [hsa] at h3 h4 ⊢
  refine ⟨px2 seed cnt / 16 % m, ?_, Int.emod_nonneg _ (by omega), Int.emod_lt_of_pos _ hm⟩
  simp [-fMulA, F__law_pick, h1, hsa, h3, h4, hm, mulI1, mulI2, em_nn, em_lt, px0, px1, px2]
theorem law_pick_ok {b g : Nat} {st : Sto} {m : Int} (h : Bag b g st) (hm : 0 < m) (hm2 : m < 1073741824) :
    ∃ r st', F__law_pick [.ref b, .int m] st = some (.int r, st') ∧ 0 ≤ r ∧ r < m ∧ Bag b g st' ∧ BF b g st st' ∧ st'.length = st.length := by
  obtain ⟨hbg, seed, cnt, ns, al, h1, h2, h3⟩ := h
  have hb := lt_of_get h1
  have hg := lt_of_get h2
  rcases h3 with rfl | ⟨i, rfl⟩
  · cases ns with
    | nil =>
      obtain ⟨r, e, r0, r1⟩ := pick_num b g seed cnt m st .non hm h1 h2 hbg
      refine ⟨r, _, e, r0, r1, ⟨hbg, seed, cnt + 1, [], .non, List.getElem?_set_self hb, ?_, .inl rfl⟩, .set _ (.inl rfl), by simp⟩
      rw [List.getElem?_set_ne hbg]; exact h2
    | cons n ns =>
      simp only [List.map_cons] at h2
      obtain ⟨sa, hsa⟩ : ∃ s, st.set b (SO.lst [.int seed, .int (cnt + 1), .ref g, .non]) = s := ⟨_, rfl⟩
      have a1 : sa[b]? = some (.lst [.int seed, .int (cnt + 1), .ref g, .non]) := by rw [← hsa]; exact List.getElem?_set_self hb
      have a2 : sa[g]? = some (.lst (.int n :: ns.map .int)) := by rw [← hsa, List.getElem?_set_ne hbg]; exact h2
      have fa : BF b g st sa := by rw [← hsa]; exact .set _ (.inl rfl)
      obtain ⟨sb, hsb⟩ : ∃ s, sa.set g (SO.lst (.int (n / m) :: ns.map .int)) = s := ⟨_, rfl⟩
      have b1 : sb[b]? = some (.lst [.int seed, .int (cnt + 1), .ref g, .non]) := by rw [← hsb, List.getElem?_set_ne (Ne.symm hbg)]; exact a1
      have b2 : sb[g]? = some (.lst (.int (n / m) :: ns.map .int)) := by rw [← hsb]; exact List.getElem?_set_self (lt_of_get a2)
      have fb : BF b g st sb := by rw [← hsb]; exact fa.trans (.set _ (.inr rfl))
      have hl : sb.length = st.length := by rw [← hsb, ← hsa]; simp
      have q : ((0 : Int) < (ns.length : Int) + 1) = True := eq_true (by omega)
      by_cases hz : n / m = 0
      · refine ⟨n % m, sb.set g (.lst (ns.map .int)), ?_, Int.emod_nonneg _ (by omega), Int.emod_lt_of_pos _ hm, ⟨hbg, seed, cnt + 1, ns, .non, ?_, List.getElem?_set_self (lt_of_get b2), .inl rfl⟩, fb.trans (.set _ (.inr rfl)), by simp [hl]⟩
        · rw [hz] at hsb b2
          simp [F__law_pick, h1, hsa, a1, a2, hm, hm2, q, hz, hsb, b2]
        · rw [List.getElem?_set_ne (Ne.symm hbg)]; exact b1
      · refine ⟨n % m, sb, ?_, Int.emod_nonneg _ (by omega), Int.emod_lt_of_pos _ hm, ⟨hbg, seed, cnt + 1, n / m :: ns, .non, b1, b2, .inl rfl⟩, fb, hl⟩
        have hz2 : (n / m == 0) = false := by simpa using hz
        simp [F__law_pick, h1, hsa, a1, a2, hm, hm2, q, hz, hz2, hsb, b2]
  · refine ⟨i % m, st, ?_, Int.emod_nonneg _ (by omega), Int.emod_lt_of_pos _ hm, ⟨hbg, seed, cnt, ns, .int i, h1, h2, .inr ⟨i, rfl⟩⟩, .refl, rfl⟩
    simp [F__law_pick, h1, hm]

theorem some_ok {b g l : Nat} {st : Sto} {xs : List W} (h : Bag b g st) (hl : st[l]? = some (.lst xs)) (h1 : l ≠ b) (h2 : l ≠ g) (h3 : 0 < xs.length) (h4 : xs.length < 1000) :
    ∃ x st', F__law_some [.ref b, .ref l] st = some (x, st') ∧ x ∈ xs ∧ Bag b g st' ∧ BF b g st st' := by
  obtain ⟨r, st', e, r0, r1, B', f, _⟩ := law_pick_ok (m := (xs.length : Int)) h (by omega) (by omega)
  have hl' := f.get hl (by simp; omega)
  obtain ⟨n, rfl⟩ : ∃ n : Nat, r = n := ⟨r.toNat, by omega⟩
  have hn : n < xs.length := by omega
  have ha := atI_nat xs n hn
  rw [List.getElem?_eq_getElem hn] at ha
  exact ⟨xs[n], st', by simp [F__law_some, hl, e, hl', ha], List.getElem_mem hn, B', f⟩
theorem range_get (m j : Nat) : ((List.range m).map fun (i : Nat) => W.int (i : Int))[j]? = if j < m then some (.int j) else none := by
  rw [List.getElem?_map]
  by_cases h : j < m
  · rw [List.getElem?_range h, if_pos h]; rfl
  · rw [List.getElem?_eq_none (by simpa using h), if_neg h]; rfl
theorem cut_63 (xs : List W) (h : xs.length ≤ 63) : cutW xs none (some 63) = xs := by
  have e1 : HT.sIx xs.length 0 none = 0 := rfl
  have e2 : HT.sIx xs.length xs.length (some ((63 : Nat) : Int)) = xs.length := by rw [HT.sIx_nat]; omega
  unfold cutW
  have e3 : (63 : Int) = ((63 : Nat) : Int) := rfl
  rw [e1, e3, e2]; simp
theorem ints_get {ns : List Int} {j : Nat} {x : W} (h : (ns.map W.int)[j]? = some x) : ∃ i, ns[j]? = some i ∧ x = .int i := by
  rw [List.getElem?_map] at h
  cases e : ns[j]? with
  | none => rw [e] at h; simp at h
  | some k => rw [e] at h; simp at h; exact ⟨k, rfl, h.symm⟩
theorem bag_ok (ns : List Int) (hn : ns.length ≤ 63) (st : Sto) : ∃ b g st', F__law_bag [.fl (ns.map .int)] st = some (.ref b, st') ∧ Bag b g st' ∧ Gr st st' ∧ st'.length ≤ st.length + 5 := by
  obtain ⟨xs, hxs⟩ : ∃ y : List W, ns.map .int = y := ⟨_, rfl⟩
  have hlen : xs.length = ns.length := by rw [← hxs]; simp
  have hc := cut_63 xs (by omega)
  let En0 (s : Int) (o : Option W) : En := [some (.fl xs), some (.int s), o, none, none]
  -- the seed
  obtain ⟨fl, env1, s1, r1, r2⟩ := for_go (src := srcRef st.length) (p := .nm 2) (b := fb1__law_bag) xs
    (fun j env s => s = st ++ [.lst xs] ∧ ∃ v o, env = En0 v o) (fun _ _ => False)
    (fun j env s ⟨h, _⟩ _ => by subst h; simp [srcRef])
    (fun j env s x ⟨h, v, o, h2⟩ hx => by
      subst h; subst h2
      rw [← hxs] at hx
      obtain ⟨i, _, rfl⟩ := ints_get hx
      refine ⟨En0 v (some (.int i)), .nx, En0 ((v * 69621 + i % 1000003 + 7) % 2147483647) (some (.int i)), _, by simp [En0], ?_, .inl ⟨rfl, rfl, _, _, rfl⟩⟩
      simp [-fMulA, fb1__law_bag, En0, mulI2])
    1000000 0 (En0 (29 + xs.length) none) (st ++ [.lst xs]) ⟨rfl, _, _, rfl⟩ (by omega) (by omega)
  have r3 : fl = .nx ∧ s1 = st ++ [.lst xs] ∧ ∃ v o, env1 = En0 v o := by
    rcases r2 with r2 | ⟨_, _, r2⟩
    · exact r2
    · exact r2.elim
  clear r2
  obtain ⟨rfl, rfl, v, o, rfl⟩ := r3
  -- the great ones
  have S2 : (st ++ [SO.lst xs] ++ [SO.lst xs]).length = st.length + 2 := by simp
  obtain ⟨ys, s2, c1, ⟨x1, xl, is, x2⟩, c4, c5⟩ := comp_go (src := srcRef (st.length + 1)) (p := .nm 2) (t := ct2__law_bag) (e := ce2__law_bag) (k := st.length + 2) (env := wipeE (En0 v o) [2]) xs
    (fun j ys s => Fr (fun i => i = st.length + 2) (st ++ [.lst xs] ++ [.lst xs] ++ [.lst []]) s ∧ s.length = st.length + 3 ∧ ∃ is : List Int, ys = is.map .int)
    (fun j ys s I _ => by
      have := I.1.get (i := st.length + 1) (o := .lst xs) (by simp) (by omega)
      simp [srcRef, this])
    (fun j ys s x ⟨x1, xl, is, x2⟩ hk hx => by
      rw [← hxs] at hx
      obtain ⟨i, _, rfl⟩ := ints_get hx
      refine ⟨[some (.fl xs), some (.int v), some (.int i), none, none], decide ((10 : Int) ^ 18 ≤ (if i < 0 then -i else i)), by simp [wipeE, En0], ?_, fun _ => ⟨x1, xl, is, x2⟩, fun _ => ⟨.int (if i < 0 then -i else i), s, by simp [ce2__law_bag], hk, x1.trans (.set _ rfl), by simpa using xl, is ++ [if i < 0 then -i else i], by rw [x2]; simp⟩⟩
      simp [ct2__law_bag])
    (by omega) 1000000 0 [] (st ++ [.lst xs] ++ [.lst xs] ++ [.lst []]) ⟨.refl, by simp, [], rfl⟩ (by simp) (by omega) (by simp) (by omega)
  have ec2 := eComp_of (i := iSeq (eSl (eVar 0) oNone (oSome (eC (.int 63))))) (p := .nm 2) (vs := [2]) (t := ct2__law_bag) (e := ce2__law_bag) (n := 1000000) (env := En0 v o) (st := st ++ [.lst xs]) (st0 := st ++ [.lst xs] ++ [.lst xs]) (src := srcRef (st.length + 1))
    (by simp [iSeq, En0, hc]) (by rw [S2]; exact c1)
  rw [S2] at ec2
  subst x2
  have G2 : Gr st s2 := (((Fr.app [SO.lst xs]).trans (.app [SO.lst xs])).trans (.app [SO.lst []])).own x1 (fun i hi e => by omega)
  have L2 := lt_of_get c4
  by_cases hcond : xs.length < 2 ∧ is.length = 0
  · obtain ⟨zs, s3, d1, ⟨y1, yl, js, y2⟩, d4, d5⟩ := comp_go (src := srcTup xs) (p := .nm 2) (t := ct3__law_bag) (e := ce3__law_bag) (k := s2.length) (env := wipeE [some (.fl xs), some (.int v), o, some (.ref (st.length + 2)), some .non] [2]) xs
      (fun j ys s => Fr (fun i => i = s2.length) (s2 ++ [.lst []]) s ∧ s.length = s2.length + 1 ∧ ∃ is : List Int, ys = is.map .int)
      (fun j ys s I _ => rfl)
      (fun j ys s x ⟨x1, xl, is, x2⟩ hk hx => by
        rw [← hxs] at hx
        obtain ⟨i, _, rfl⟩ := ints_get hx
        refine ⟨[some (.fl xs), some (.int v), some (.int i), some (.ref (st.length + 2)), some .non], true, by simp [wipeE], by simp [ct3__law_bag, tYesM], by simp, fun _ => ⟨.int i, s, by simp [ce3__law_bag], hk, x1.trans (.set _ rfl), by simpa using xl, is ++ [i], by rw [x2]; simp⟩⟩)
      (by omega) 1000000 0 [] (s2 ++ [.lst []]) ⟨.refl, by simp, [], rfl⟩ (by simp) (by omega) (by simp) (by omega)
    have ec3 := eComp_of (i := iSeq (eVar 0)) (p := .nm 2) (vs := [2]) (t := ct3__law_bag) (e := ce3__law_bag) (n := 1000000) (env := [some (.fl xs), some (.int v), o, some (.ref (st.length + 2)), some .non]) (st := s2) (st0 := s2) (src := srcTup xs)
      (by simp [iSeq]) d1
    subst y2
    have G3 : Gr s2 s3 := (Fr.app _).own y1 (fun i hi e => by omega)
    have c5 := G3.get c4 (by simp)
    have L3 := lt_of_get c5
    have hi0 : is = [] := List.eq_nil_of_length_eq_zero hcond.2
    subst hi0
    simp at c4 c5
    refine ⟨s3.length, st.length + 2, s3 ++ [.lst [.int v, .int 1, .ref (st.length + 2), .int (if js.sum < 0 then -js.sum else js.sum)]], ?_, ⟨by omega, v, 1, [], .int (if js.sum < 0 then -js.sum else js.sum), by simp, ?_, .inr ⟨_, rfl⟩⟩, (G2.trans G3).trans (.app _), by simp; omega⟩
    · have h2 : ((xs.length : Int) < 2) = True := eq_true (by omega)
      simp only [En0] at r1 ec2
      simp [F__law_bag, hxs, hc, sFor, iSeq, h2, r1, ec2, c4, ec3, d4, intsW_map]
    · rw [List.getElem?_append_left L3]; simpa using c5
  · refine ⟨s2.length, st.length + 2, s2 ++ [.lst [.int v, .int 1, .ref (st.length + 2), .non]], ?_, ⟨by omega, v, 1, is, .non, by simp, ?_, .inl rfl⟩, G2.trans (.app _), by simp; omega⟩
    · simp only [En0] at r1 ec2
      by_cases h2 : xs.length < 2
      · have h3 : ¬ is.length = 0 := fun z => hcond ⟨h2, z⟩
        have h2' : ((xs.length : Int) < 2) = True := eq_true (by omega)
        have h3' : ((is.length : Int) == 0) = false := beq_eq_false_iff_ne.mpr (by omega)
        simp [F__law_bag, hxs, hc, sFor, iSeq, h2', r1, ec2, c4, h3']
      · have h2' : ((xs.length : Int) < 2) = False := eq_false (by omega)
        simp [F__law_bag, hxs, hc, sFor, iSeq, h2', r1, ec2, c4]
    · rw [List.getElem?_append_left L2]; exact c4

theorem ofS_inj {a b : String} (h : Str.ofString a = Str.ofString b) : a = b := by
  rw [Str.ofString_eq_toList, Str.ofString_eq_toList] at h
  have h1 : a.toList.map Char.toNat = b.toList.map Char.toNat := by
    have := congrArg (fun s : Str => s.cps.toList) h
    simpa using this
  have inj : ∀ c d : Char, c.toNat = d.toNat → c = d := fun c d h => Char.ext (UInt32.toNat_inj.mp h)
  have h2 : a.toList = b.toList := (List.map_inj_right fun c d => inj c d).mp h1
  exact String.toList_inj.mp h2
@[simp] theorem ofS_beq (a b : String) : (Str.ofString a == Str.ofString b) = (a == b) := by
  rw [Bool.eq_iff_iff, beq_iff_eq, beq_iff_eq]
  exact ⟨ofS_inj, fun h => by rw [h]⟩
@[simp] theorem ofS_eq (a b : String) : (Str.ofString a = Str.ofString b) = (a = b) := propext ⟨ofS_inj, fun h => by rw [h]⟩
example : (("take" : Str) == ("body" : Str)) = false := by simp
@[simp] theorem okw_0 : okS "body" = true := by decide +kernel
@[simp] theorem okw_1 : okS "take" = true := by decide +kernel
@[simp] theorem okw_2 : okS "sum" = true := by decide +kernel
@[simp] theorem okw_3 : okS "less" = true := by decide +kernel
@[simp] theorem okw_4 : okS "print" = true := by decide +kernel
@[simp] theorem okw_5 : okS "use" = true := by decide +kernel
@[simp] theorem okw_6 : okS "way" = true := by decide +kernel
@[simp] theorem okw_7 : okS "either" = true := by decide +kernel
@[simp] theorem okw_8 : okS "four" = true := by decide +kernel
@[simp] theorem okw_9 : okS "part" = true := by decide +kernel
@[simp] theorem okw_10 : okS "open" = true := by decide +kernel
@[simp] theorem okw_11 : okS "put" = true := by decide +kernel
@[simp] theorem okw_12 : okS "call" = true := by decide +kernel
@[simp] theorem okw_13 : okS "back" = true := by decide +kernel
@[simp] theorem okw_14 : okS "if" = true := by decide +kernel
@[simp] theorem okw_15 : okS "look" = true := by decide +kernel
@[simp] theorem okw_16 : okS "form" = true := by decide +kernel
@[simp] theorem okw_17 : okS "kinds" = true := by decide +kernel
@[simp] theorem okw_18 : okS "first" = true := by decide +kernel
@[simp] theorem okw_19 : okS "number" = true := by decide +kernel
@[simp] theorem okw_20 : okS "place" = true := by decide +kernel
@[simp] theorem okw_21 : okS "places" = true := by decide +kernel
@[simp] theorem okw_22 : okS "row places" = true := by decide +kernel
@[simp] theorem okw_23 : okS "choice" = true := by decide +kernel
@[simp] theorem okw_24 : okS "block" = true := by decide +kernel
@[simp] theorem okw_25 : okS "blocks" = true := by decide +kernel
@[simp] theorem okw_26 : okS "bodies" = true := by decide +kernel
@[simp] theorem okw_27 : okS "book" = true := by decide +kernel
@[simp] theorem okw_28 : okS "step" = true := by decide +kernel
@[simp] theorem okw_29 : okS "" = true := by decide +kernel

/-! ### going through a def statement by statement -/
section
variable {P : W → Sto → Prop} {s b : SM} {t : TM} {env env1 : En} {st st1 : Sto}
theorem fnE {n N : Nat} {body : SM} {ws : List W} (env0 : En) (he : ws.map some ++ List.replicate (N - ws.length) none = env0) (hl : ws.length = n)
    (k : ∃ r st', (∃ e', body env0 st = some ((.rt r, e'), st')) ∧ P r st') : ∃ r st', fnM n N body ws st = some (r, st') ∧ P r st' := by
  obtain ⟨r, st', ⟨e', h⟩, p⟩ := k
  subst hl
  exact ⟨r, st', by simp only [fnM, if_true, he, h], p⟩
theorem rc (env1 : En) (st1 : Sto) (h : s env st = some ((.nx, env1), st1)) (k : ∃ r st', (∃ e', b env1 st1 = some ((.rt r, e'), st')) ∧ P r st') :
    ∃ r st', (∃ e', bCons s b env st = some ((.rt r, e'), st')) ∧ P r st' := by
  obtain ⟨r, st', ⟨e', h2⟩, p⟩ := k
  exact ⟨r, st', ⟨e', by simp only [bCons, bnd, h, h2]⟩, p⟩
theorem rr (k : ∃ r st', (∃ e', s env st = some ((.rt r, e'), st')) ∧ P r st') : ∃ r st', (∃ e', bCons s b env st = some ((.rt r, e'), st')) ∧ P r st' := by
  obtain ⟨r, st', ⟨e', h2⟩, p⟩ := k
  exact ⟨r, st', ⟨e', by simp only [bCons, bnd, h2, B.ret]⟩, p⟩
theorem rIfT {x y : SM} (st1 : Sto) (h : t env st = some (true, st1)) (k : ∃ r st', (∃ e', x env st1 = some ((.rt r, e'), st')) ∧ P r st') : ∃ r st', (∃ e', bCons (sIf t x y) b env st = some ((.rt r, e'), st')) ∧ P r st' := by
  obtain ⟨r, st', ⟨e', h2⟩, p⟩ := k
  exact ⟨r, st', ⟨e', by simp only [bCons, sIf, bnd, h, if_true, h2, B.ret]⟩, p⟩
theorem rIfF {x : SM} (st1 : Sto) (h : t env st = some (false, st1)) (k : ∃ r st', (∃ e', b env st1 = some ((.rt r, e'), st')) ∧ P r st') : ∃ r st', (∃ e', bCons (sIf t x bNil) b env st = some ((.rt r, e'), st')) ∧ P r st' := by
  obtain ⟨r, st', ⟨e', h2⟩, p⟩ := k
  exact ⟨r, st', ⟨e', by simp [bCons, sIf, bnd, h, h2, B.ret]⟩, p⟩
theorem rR {e : EM} (r : W) (st' : Sto) (h : e env st = some (r, st')) (p : P r st') : ∃ r st', (∃ e', bCons (sRet e) b env st = some ((.rt r, e'), st')) ∧ P r st' :=
  ⟨r, st', ⟨env, by simp [h]⟩, p⟩
end
theorem rng_dec (n : Nat) (h : n ≤ 1000) : decide (-(2 ^ 62 : Int) ≤ (n : Int) ∧ (n : Int) < 2 ^ 62) = true := by
  have : (2 : Int) ^ 62 = 4611686018427387904 := by decide +kernel
  rw [this]
  exact decide_eq_true (by omega)
theorem rng1_ok {a : AM} {env : En} {st st1 : Sto} (n : Nat) (h : n ≤ 1000) (ha : a env st = some ([.int n], st1)) : iRng1M a env st = some (srcRng 0 n, st1) := by
  unfold iRng1M
  simp only [bnd, ha, rng_dec n h, if_true, Int.toNat_natCast]
theorem rTup {C : EM} {k l : Nat} {env env1 : En} {st st1 : Sto} {ys : List W} (h : C env st = some (.ref l, st1)) (hl : st1[l]? = some (.lst ys)) (hb : env.set k (some (.tup ys)) = env1) :
    sSet (.nm k) (eCall bTuple (aCons C aNil)) env st = some ((.nx, env1), st1) := by
  subst hb
  simp [h, hl]
theorem rSet {C : EM} {k : Nat} {env env1 : En} {st st1 : Sto} {w : W} (h : C env st = some (w, st1)) (hb : env.set k (some w) = env1) :
    sSet (.nm k) C env st = some ((.nx, env1), st1) := by
  subst hb
  simp [h]
theorem rFor {i : IM} {p : Pat} {b : SM} {n : Nat} {env env1 : En} {st st1 st2 : Sto} {src : Src} (hi : i env st = some (src, st1)) (hg : forGo src p b n 0 env st1 = some ((.nx, env1), st2)) :
    sFor i p b n env st = some ((.nx, env1), st2) := by simp only [sFor, bnd, hi, hg]
/-! ### bodies of loops, statement by statement -/
/-! ### bodies of loops, statement by statement -/
section
variable {P : En → Sto → Prop} {s b : SM} {t : TM} {env env1 : En} {st st1 : Sto}
theorem nc (env1 : En) (st1 : Sto) (h : s env st = some ((.nx, env1), st1)) (k : ∃ e' s', b env1 st1 = some ((.nx, e'), s') ∧ P e' s') : ∃ e' s', bCons s b env st = some ((.nx, e'), s') ∧ P e' s' := by
  obtain ⟨e', s', h2, p⟩ := k
  exact ⟨e', s', by simp only [bCons, bnd, h, h2], p⟩
theorem nIfF {x : SM} (st1 : Sto) (h : t env st = some (false, st1)) (k : ∃ e' s', b env st1 = some ((.nx, e'), s') ∧ P e' s') : ∃ e' s', bCons (sIf t x bNil) b env st = some ((.nx, e'), s') ∧ P e' s' := by
  obtain ⟨e', s', h2, p⟩ := k
  exact ⟨e', s', by simp [bCons, sIf, bnd, h, h2, B.ret], p⟩
theorem nEnd (p : P env st) : ∃ e' s', bNil env st = some ((.nx, e'), s') ∧ P e' s' := ⟨env, st, rfl, p⟩
end
theorem torF {a b : TM} {env : En} {st st1 st2 : Sto} (h : a env st = some (false, st1)) (h2 : b env st1 = some (false, st2)) : tOrM a b env st = some (false, st2) := by simp [tOrM, h, h2]
theorem tnotT {a : EM} {env : En} {st st1 : Sto} (h : a env st = some (.bl true, st1)) : tNotM (tVal a) env st = some (false, st1) := by simp [h]

end K00

set_option Elab.async false
set_option linter.all false
set_option maxRecDepth 100000
set_option maxHeartbeats 2000000
namespace K00
open PySem PySem.Spec L2 B
set_option autoImplicit false
/-! ### the program is made -/
def bdW : W := .tup [.tup [.int 0, .tup [], .tup [.str "num"], .tup [.tup [.tup [.str "num", .int 1]], .tup [.str "back", .int 0]]]]
abbrev mkP (st : Sto) : Option (W × Sto) := mkIns "Program" F_Program___init__ [.tup [], bdW] st
def gF (f : Str) : Option SO → Option W | some (.ins _ fs) => fs.lookup f | _ => none
def gC : Option SO → Str | some (.ins c _) => c | _ => ""
structure MkF (st : Sto) : Prop where
  h1 : (mkP st).map (fun x => x.2.take st.length) = some st
  h2 : (mkP st).map (fun x => x.1) = some (.ref st.length)
  h3 : (mkP st).map (fun x => gC (x.2[st.length]?)) = some ("Program" : Str)
  h4 : (mkP st).map (fun x => gF "book" (x.2[st.length]?)) = some (some (W.tup []))
  h5 : (mkP st).map (fun x => gF "bodies" (x.2[st.length]?)) = some (some bdW)
theorem m0_0 : (mkP []).map (fun x => x.2.take 0) = some ([] : List SO) := by kernel_rfl
theorem m0_1 : (mkP []).map (fun x => x.1) = some (.ref 0) := by kernel_rfl
theorem m0_2 : (mkP []).map (fun x => gC (x.2[0]?)) = some ("Program" : Str) := by kernel_rfl
theorem m0_3 : (mkP []).map (fun x => gF "book" (x.2[0]?)) = some (some (W.tup [])) := by kernel_rfl
theorem m0_4 : (mkP []).map (fun x => gF "bodies" (x.2[0]?)) = some (some bdW) := by kernel_rfl
theorem mk0 : MkF [] := ⟨m0_0, m0_1, m0_2, m0_3, m0_4⟩
theorem m1_0 (a : SO) : (mkP [a]).map (fun x => x.2.take 1) = some ([a] : List SO) := by kernel_rfl
theorem m1_1 (a : SO) : (mkP [a]).map (fun x => x.1) = some (.ref 1) := by kernel_rfl
theorem m1_2 (a : SO) : (mkP [a]).map (fun x => gC (x.2[1]?)) = some ("Program" : Str) := by kernel_rfl
theorem m1_3 (a : SO) : (mkP [a]).map (fun x => gF "book" (x.2[1]?)) = some (some (W.tup [])) := by kernel_rfl
theorem m1_4 (a : SO) : (mkP [a]).map (fun x => gF "bodies" (x.2[1]?)) = some (some bdW) := by kernel_rfl
theorem mk1 (a : SO) : MkF [a] := ⟨m1_0 a, m1_1 a, m1_2 a, m1_3 a, m1_4 a⟩
theorem m2_0 (a b : SO) : (mkP [a, b]).map (fun x => x.2.take 2) = some ([a, b] : List SO) := by kernel_rfl
theorem m2_1 (a b : SO) : (mkP [a, b]).map (fun x => x.1) = some (.ref 2) := by kernel_rfl
theorem m2_2 (a b : SO) : (mkP [a, b]).map (fun x => gC (x.2[2]?)) = some ("Program" : Str) := by kernel_rfl
theorem m2_3 (a b : SO) : (mkP [a, b]).map (fun x => gF "book" (x.2[2]?)) = some (some (W.tup [])) := by kernel_rfl
theorem m2_4 (a b : SO) : (mkP [a, b]).map (fun x => gF "bodies" (x.2[2]?)) = some (some bdW) := by kernel_rfl
theorem mk2 (a b : SO) : MkF [a, b] := ⟨m2_0 a b, m2_1 a b, m2_2 a b, m2_3 a b, m2_4 a b⟩
theorem m3_0 (a b c : SO) : (mkP [a, b, c]).map (fun x => x.2.take 3) = some ([a, b, c] : List SO) := by kernel_rfl
theorem m3_1 (a b c : SO) : (mkP [a, b, c]).map (fun x => x.1) = some (.ref 3) := by kernel_rfl
theorem m3_2 (a b c : SO) : (mkP [a, b, c]).map (fun x => gC (x.2[3]?)) = some ("Program" : Str) := by kernel_rfl
theorem m3_3 (a b c : SO) : (mkP [a, b, c]).map (fun x => gF "book" (x.2[3]?)) = some (some (W.tup [])) := by kernel_rfl
theorem m3_4 (a b c : SO) : (mkP [a, b, c]).map (fun x => gF "bodies" (x.2[3]?)) = some (some bdW) := by kernel_rfl
theorem mk3 (a b c : SO) : MkF [a, b, c] := ⟨m3_0 a b c, m3_1 a b c, m3_2 a b c, m3_3 a b c, m3_4 a b c⟩
theorem m4_0 (a b c d : SO) : (mkP [a, b, c, d]).map (fun x => x.2.take 4) = some ([a, b, c, d] : List SO) := by kernel_rfl
theorem m4_1 (a b c d : SO) : (mkP [a, b, c, d]).map (fun x => x.1) = some (.ref 4) := by kernel_rfl
theorem m4_2 (a b c d : SO) : (mkP [a, b, c, d]).map (fun x => gC (x.2[4]?)) = some ("Program" : Str) := by kernel_rfl
theorem m4_3 (a b c d : SO) : (mkP [a, b, c, d]).map (fun x => gF "book" (x.2[4]?)) = some (some (W.tup [])) := by kernel_rfl
theorem m4_4 (a b c d : SO) : (mkP [a, b, c, d]).map (fun x => gF "bodies" (x.2[4]?)) = some (some bdW) := by kernel_rfl
theorem mk4 (a b c d : SO) : MkF [a, b, c, d] := ⟨m4_0 a b c d, m4_1 a b c d, m4_2 a b c d, m4_3 a b c d, m4_4 a b c d⟩
theorem m5_0 (a b c d e : SO) : (mkP [a, b, c, d, e]).map (fun x => x.2.take 5) = some ([a, b, c, d, e] : List SO) := by kernel_rfl
theorem m5_1 (a b c d e : SO) : (mkP [a, b, c, d, e]).map (fun x => x.1) = some (.ref 5) := by kernel_rfl
theorem m5_2 (a b c d e : SO) : (mkP [a, b, c, d, e]).map (fun x => gC (x.2[5]?)) = some ("Program" : Str) := by kernel_rfl
theorem m5_3 (a b c d e : SO) : (mkP [a, b, c, d, e]).map (fun x => gF "book" (x.2[5]?)) = some (some (W.tup [])) := by kernel_rfl
theorem m5_4 (a b c d e : SO) : (mkP [a, b, c, d, e]).map (fun x => gF "bodies" (x.2[5]?)) = some (some bdW) := by kernel_rfl
theorem mk5 (a b c d e : SO) : MkF [a, b, c, d, e] := ⟨m5_0 a b c d e, m5_1 a b c d e, m5_2 a b c d e, m5_3 a b c d e, m5_4 a b c d e⟩
theorem mk_of {st : Sto} (h : MkF st) : ∃ (st' : Sto) (fs : List (Str × W)), mkP st = some (.ref st.length, st') ∧ Gr st st' ∧ st'[st.length]? = some (.ins "Program" fs) ∧ fs.lookup ("book" : Str) = some (W.tup []) ∧ fs.lookup ("bodies" : Str) = some bdW := by
  obtain ⟨h1, h2, h3, h4, h5⟩ := h
  cases e : mkP st with
  | none => rw [e] at h1; cases h1
  | some x =>
    obtain ⟨w, st'⟩ := x
    rw [e] at h1 h2 h3 h4 h5
    simp only [Option.map_some, Option.some.injEq] at h1 h2 h3 h4 h5
    subst h2
    unfold gF at h4
    split at h4
    · rename_i c fs hi
      rw [hi] at h3 h5
      simp only [gC, gF] at h3 h5
      subst h3
      refine ⟨st', fs, rfl, ⟨Nat.le_of_lt (lt_of_get hi), fun i hi2 _ => ?_⟩, hi, h4, h5⟩
      have := congrArg (fun l : List SO => l[i]?) h1
      simp only [List.getElem?_take] at this
      rw [if_pos hi2] at this
      exact this
    · cases h4
theorem prog_made (st : Sto) (h : st.length ≤ 5) : ∃ (st' : Sto) (fs : List (Str × W)), mkP st = some (.ref st.length, st') ∧ Gr st st' ∧ st'[st.length]? = some (.ins "Program" fs) ∧ fs.lookup ("book" : Str) = some (W.tup []) ∧ fs.lookup ("bodies" : Str) = some bdW := by
  refine mk_of ?_
  match st, h with
  | [], _ => exact mk0
  | [a], _ => exact mk1 a
  | [a, b], _ => exact mk2 a b
  | [a, b, c], _ => exact mk3 a b c
  | [a, b, c, d], _ => exact mk4 a b c d
  | [a, b, c, d, e], _ => exact mk5 a b c d e
  | _ :: _ :: _ :: _ :: _ :: _ :: _, h => simp at h
end K00

set_option Elab.async false
set_option linter.all false
set_option maxRecDepth 100000
set_option maxHeartbeats 2000000
namespace K00
open PySem PySem.Spec L2 B
set_option autoImplicit false
/-! ### which class an exception is of -/
def ORD : List Str := ["NoKind", "NoKinds", "NoBody", "NoPoint", "NoInputs", "NoNumber", "IsOver", "NoPlace", "NoLot", "NoSpot", "NoSource", "NoWords", "NoKinding", "NoOver", "NoText", "NoRecord", "NothingDone", "NoForm", "NothingChosen", "BadProgram", "BadPlacer", "TooMany", "BadImage", "BadText", "NoName"]
theorem cs_ok : ∀ c ∈ ORD, CS.contains c = true := by decide +kernel
theorem isX_ok {c f : Str} {ws : List W} {isf : Str → Bool} {st : Sto} (hc : CS.contains c = true) : fIsX CS isf (.exc c f ws) st = some (.bl (isf c), st) := by
  simp only [fIsX, hc, if_true]
theorem isX_all {c f : Str} {ws : List W} {m : EM} {isf : Str → Bool} {env : En} {st : Sto} (hc : CS.contains c = true) (h : m env st = some (.exc c f ws, st)) : eUn (fIsX CS isf) m env st = some (.bl (isf c), st) := by
  simp only [eUn, bnd, h, isX_ok hc]
theorem addL {i j : Nat} {xs ys : List W} {st : Sto} (h1 : st[i]? = some (.lst xs)) (h2 : st[j]? = some (.lst ys)) (hl : xs.length + ys.length ≤ 1000) : fAdd (.ref i) (.ref j) st = some (.ref st.length, st ++ [.lst (xs ++ ys)]) := by
  have hz : sml (xs.length + ys.length) = true := sml_le (by omega)
  simp [fAdd, h1, h2, hz]
/-- [..] of worths that are there -/
theorem lst_ok {a : AM} {env : En} {st : Sto} {ws : List W} (h : a env st = some (ws, st)) (hl : ws.length ≤ 1000) : eLst a env st = some (.ref st.length, st ++ [.lst ws]) := by
  have hz : sml ws.length = true := sml_le (by omega)
  simp [eLst, h, mkLst, hz]
theorem add_ok {a : AM} {k i : Nat} {env : En} {st : Sto} {xs ws : List W} (hk : env[k]? = some (some (.ref i))) (hi : st[i]? = some (.lst xs)) (h : a env st = some (ws, st)) (hl : xs.length + ws.length ≤ 1000) :
    ∃ st', eOp fAdd (eVar k) (eLst a) env st = some (.ref (st.length + 1), st') ∧ st'[st.length + 1]? = some (.lst (xs ++ ws)) ∧ Gr st st' := by
  have h1 : (st ++ [SO.lst ws])[i]? = some (.lst xs) := by rw [List.getElem?_append_left (lt_of_get hi)]; exact hi
  refine ⟨st ++ [.lst ws] ++ [.lst (xs ++ ws)], ?_, by simp, (Fr.app _).trans (.app _)⟩
  have e := addL h1 (j := st.length) (ys := ws) (by simp) hl
  simp only [eOp, bnd, eVar, hk, lst_ok h (by omega), e]
  simp
def eqs (c : Str) (ds : List Str) : List W := ds.map fun d => .bl (decide (c = d))
theorem eqs_app (c : Str) (a b : List Str) : eqs c a ++ eqs c b = eqs c (a ++ b) := by simp [eqs]
def gI : List Str → AM
  | [] => aNil
  | d :: ds => aCons (eUn (fIsX CS (fun c => decide (c = d))) (eVar 0)) (gI ds)
theorem gI_ok {c f : Str} {ws : List W} {env : En} {st : Sto} (hc : CS.contains c = true) (h0 : env[0]? = some (some (.exc c f ws))) : ∀ ds, gI ds env st = some (eqs c ds, st)
  | [] => rfl
  | d :: ds => by
    have e0 : eVar 0 env st = some (.exc c f ws, st) := by simp only [eVar, h0]
    simp only [gI, aCons, bnd, isX_all hc e0, gI_ok hc h0 ds]
    rfl
def addI (ds : List Str) : SM := sSet (.nm 1) (eOp fAdd (eVar 1) (eLst (gI ds)))
theorem flags_eq : F__law_flags = fnM 1 2 (bCons (sSet (.nm 1) (eLst (gI ["NoKind", "NoKinds", "NoBody", "NoPoint"]))) (bCons (addI ["NoInputs", "NoNumber", "IsOver", "NoPlace"]) (bCons (addI ["NoLot", "NoSpot", "NoSource", "NoWords"]) (bCons (addI ["NoKinding", "NoOver", "NoText", "NoRecord"])
    (bCons (addI ["NothingDone", "NoForm", "NothingChosen"]) (bCons (addI ["BadProgram", "BadPlacer", "TooMany"]) (bCons (sRet (eOp fAdd (eVar 1) (eLst (gI ["BadImage", "BadText", "NoName"])))) bNil))))))) := rfl
theorem addI_ok {c f : Str} {ws : List W} {i : Nat} {st : Sto} {ds es : List Str} (hc : CS.contains c = true) (hi : st[i]? = some (.lst (eqs c ds))) (hl : ds.length + es.length ≤ 1000) :
    ∃ st', addI es [some (.exc c f ws), some (.ref i)] st = some ((.nx, [some (.exc c f ws), some (.ref (st.length + 1))]), st') ∧ st'[st.length + 1]? = some (.lst (eqs c (ds ++ es))) ∧ Gr st st' := by
  obtain ⟨st', e1, e2, e3⟩ := add_ok (a := gI es) (k := 1) (i := i) (env := [some (.exc c f ws), some (.ref i)]) (st := st) rfl hi (gI_ok hc rfl es) (by simpa [eqs] using hl)
  rw [eqs_app] at e2
  exact ⟨st', rSet e1 rfl, e2, e3⟩
theorem flags_ok {c f : Str} {ws : List W} (hc : CS.contains c = true) (st : Sto) : ∃ k st', F__law_flags [.exc c f ws] st = some (.ref k, st') ∧ st'[k]? = some (.lst (eqs c ORD)) ∧ st.length ≤ k ∧ Gr st st' := by
  have go : ∃ r st', F__law_flags [.exc c f ws] st = some (r, st') ∧ ∃ k, r = .ref k ∧ st'[k]? = some (.lst (eqs c ORD)) ∧ st.length ≤ k ∧ Gr st st' := by
    rw [flags_eq]
    refine fnE [some (.exc c f ws), none] rfl rfl ?_
    refine rc [some (.exc c f ws), some (.ref st.length)] _ (rSet (lst_ok (gI_ok hc rfl _) (by simp [eqs])) rfl) ?_
    obtain ⟨s1, hs1⟩ : ∃ s, st ++ [SO.lst (eqs c ["NoKind", "NoKinds", "NoBody", "NoPoint"])] = s := ⟨_, rfl⟩
    have b1 : s1[st.length]? = some (.lst (eqs c ["NoKind", "NoKinds", "NoBody", "NoPoint"])) := by rw [← hs1]; simp
    have g1 : Gr st s1 := by rw [← hs1]; exact .app _
    rw [hs1]
    obtain ⟨s2, a2, b2, g2⟩ := addI_ok (f := f) (ws := ws) (es := ["NoInputs", "NoNumber", "IsOver", "NoPlace"]) hc b1 (by simp)
    refine rc _ _ a2 ?_
    obtain ⟨s3, a3, b3, g3⟩ := addI_ok (f := f) (ws := ws) (es := ["NoLot", "NoSpot", "NoSource", "NoWords"]) hc b2 (by simp)
    refine rc _ _ a3 ?_
    obtain ⟨s4, a4, b4, g4⟩ := addI_ok (f := f) (ws := ws) (es := ["NoKinding", "NoOver", "NoText", "NoRecord"]) hc b3 (by simp)
    refine rc _ _ a4 ?_
    obtain ⟨s5, a5, b5, g5⟩ := addI_ok (f := f) (ws := ws) (es := ["NothingDone", "NoForm", "NothingChosen"]) hc b4 (by simp)
    refine rc _ _ a5 ?_
    obtain ⟨s6, a6, b6, g6⟩ := addI_ok (f := f) (ws := ws) (es := ["BadProgram", "BadPlacer", "TooMany"]) hc b5 (by simp)
    refine rc _ _ a6 ?_
    obtain ⟨s7, a7, b7, g7⟩ := add_ok (a := gI ["BadImage", "BadText", "NoName"]) (k := 1) (i := s5.length + 1) (env := [some (.exc c f ws), some (.ref (s5.length + 1))]) (st := s6) rfl b6 (gI_ok hc rfl _) (by simp [eqs])
    rw [eqs_app] at b7
    have gg := g1.trans (g2.trans (g3.trans (g4.trans (g5.trans g6))))
    exact rR _ s7 a7 ⟨_, rfl, b7, by have := gg.len; omega, gg.trans g7⟩
  obtain ⟨r, st', e, k, rfl, h⟩ := go
  exact ⟨k, st', e, h⟩
end K00

set_option Elab.async false
set_option linter.all false
set_option maxRecDepth 100000
set_option maxHeartbeats 4000000
namespace K00
open PySem PySem.Spec L2 B
set_option autoImplicit false
/-- the field of a class -/
def fld (c : Str) : Str := if c = "BadProgram" then "part" else if c = "BadPlacer" then "number" else if c = "TooMany" then "most" else if c = "BadImage" then "line" else if c = "BadText" then "line" else if c = "NoName" then "name" else ""
def hasF (c : Str) : Bool := decide (c = "BadProgram") || decide (c = "BadPlacer") || decide (c = "TooMany") || decide (c = "BadImage") || decide (c = "BadText") || decide (c = "NoName")
def made (c : Str) (w : W) : W := .exc c (fld c) (if hasF c then [w] else [])
def grab (f : Str) : SM := bCons (sExpr (eMeth mApp (eVar 1) (aCons (eUn (fFldX CS f) (eVar 0)) aNil))) bNil
theorem fields_eq : F__law_fields = fnM 1 2 (bCons (sSet (.nm 1) (eLst aNil))
    (bCons (sIf (tVal (eUn (fIsX CS (fun c => decide (c = "BadProgram"))) (eVar 0))) (grab "part") bNil)
    (bCons (sIf (tVal (eUn (fIsX CS (fun c => decide (c = "BadPlacer"))) (eVar 0))) (grab "number") bNil)
    (bCons (sIf (tVal (eUn (fIsX CS (fun c => decide (c = "TooMany"))) (eVar 0))) (grab "most") bNil)
    (bCons (sIf (tVal (eUn (fIsX CS (fun c => decide (c = "BadImage") || decide (c = "BadText"))) (eVar 0))) (grab "line") bNil)
    (bCons (sIf (tVal (eUn (fIsX CS (fun c => decide (c = "NoName"))) (eVar 0))) (grab "name") bNil)
    (bCons (sRet (eVar 1)) bNil))))))) := rfl
theorem tst {c f : Str} {ws : List W} {isf : Str → Bool} {o : Option W} {st : Sto} (hc : CS.contains c = true) : tVal (eUn (fIsX CS isf) (eVar 0)) [some (.exc c f ws), o] st = some (isf c, st) := by
  have e0 : eVar 0 [some (W.exc c f ws), o] st = some (.exc c f ws, st) := rfl
  simp only [tVal, bnd, isX_all hc e0]
  rfl
theorem skip {c f : Str} {ws : List W} {isf : Str → Bool} {x : SM} {i : Nat} {st : Sto} (hc : CS.contains c = true) (h : isf c = false) : sIf (tVal (eUn (fIsX CS isf) (eVar 0))) x bNil [some (.exc c f ws), some (.ref i)] st = some ((.nx, [some (.exc c f ws), some (.ref i)]), st) := by
  simp only [sIf, bnd, tst hc, h]
  rfl
theorem take1 {c f : Str} {w : W} {isf : Str → Bool} {i : Nat} {st : Sto} (hc : CS.contains c = true) (h : isf c = true) (hi : st[i]? = some (.lst [])) : sIf (tVal (eUn (fIsX CS isf) (eVar 0))) (grab f) bNil [some (.exc c f [w]), some (.ref i)] st = some ((.nx, [some (.exc c f [w]), some (.ref i)]), st.set i (.lst [w])) := by
  have e0 : eUn (fFldX CS f) (eVar 0) [some (.exc c f [w]), some (.ref i)] st = some (w, st) := by
    have hcc : (CS.contains c && f == f) = true := by rw [hc]; simp
    simp only [eUn, bnd, eVar, List.getElem?_cons_zero, fFldX, hcc, if_true]
  have ea : aCons (eUn (fFldX CS f) (eVar 0)) aNil [some (.exc c f [w]), some (.ref i)] st = some ([w], st) := by
    simp only [aCons, aNil, bnd, e0, B.ret]
  have eg : grab f [some (.exc c f [w]), some (.ref i)] st = some ((.nx, [some (.exc c f [w]), some (.ref i)]), st.set i (.lst [w])) := by
    unfold grab
    generalize aCons (eUn (fFldX CS f) (eVar 0)) aNil = A at ea
    simp [ea, hi, bCons, bNil]
  simp only [sIf, bnd, tst hc, h, if_true, eg]
theorem fields_ok (c : Str) (w : W) (h : c ∈ ORD) (st : Sto) : ∃ st', F__law_fields [made c w] st = some (.ref st.length, st') ∧ st'[st.length]? = some (.lst (if hasF c then [w] else [])) ∧ Gr st st' := by
  have hc := cs_ok c h
  have key : ∃ r st', F__law_fields [made c w] st = some (r, st') ∧ (r = .ref st.length ∧ st'[st.length]? = some (.lst (if hasF c then [w] else [])) ∧ Gr st st') := by
    rw [fields_eq]
    refine fnE (n := 1) (N := 2) [some (made c w), none] rfl rfl ?_
    refine rc [some (made c w), some (.ref st.length)] (st ++ [.lst []]) (rSet (lst_ok (ws := []) rfl (by simp)) rfl) ?_
    have hn : (st ++ [SO.lst []])[st.length]? = some (.lst []) := by simp
    have hg : Gr st (st ++ [SO.lst []]) := .app _
    have hs : ((st ++ [SO.lst []]).set st.length (.lst [w]))[st.length]? = some (.lst [w]) := by simp
    have hgs : Gr st ((st ++ [SO.lst []]).set st.length (.lst [w])) := (Fr.app [SO.lst []]).own (P := fun i => i = st.length) (.set _ rfl) (fun i hi e => by omega)
    by_cases c0 : c = "BadProgram"
    · subst c0
      refine rc _ _ (take1 (c := "BadProgram") (f := "part") hc (by simp) hn) ?_
      refine rc _ _ (skip hc (by simp)) ?_
      refine rc _ _ (skip hc (by simp)) ?_
      refine rc _ _ (skip hc (by simp)) ?_
      refine rc _ _ (skip hc (by simp)) ?_
      exact rR _ _ rfl ⟨rfl, by simpa [hasF] using hs, hgs⟩
    by_cases c1 : c = "BadPlacer"
    · subst c1
      refine rc _ _ (skip hc (by simp)) ?_
      refine rc _ _ (take1 (c := "BadPlacer") (f := "number") hc (by simp) hn) ?_
      refine rc _ _ (skip hc (by simp)) ?_
      refine rc _ _ (skip hc (by simp)) ?_
      refine rc _ _ (skip hc (by simp)) ?_
      exact rR _ _ rfl ⟨rfl, by simpa [hasF] using hs, hgs⟩
    by_cases c2 : c = "TooMany"
    · subst c2
      refine rc _ _ (skip hc (by simp)) ?_
      refine rc _ _ (skip hc (by simp)) ?_
      refine rc _ _ (take1 (c := "TooMany") (f := "most") hc (by simp) hn) ?_
      refine rc _ _ (skip hc (by simp)) ?_
      refine rc _ _ (skip hc (by simp)) ?_
      exact rR _ _ rfl ⟨rfl, by simpa [hasF] using hs, hgs⟩
    by_cases c3 : c = "BadImage"
    · subst c3
      refine rc _ _ (skip hc (by simp)) ?_
      refine rc _ _ (skip hc (by simp)) ?_
      refine rc _ _ (skip hc (by simp)) ?_
      refine rc _ _ (take1 (c := "BadImage") (f := "line") hc (by simp) hn) ?_
      refine rc _ _ (skip hc (by simp)) ?_
      exact rR _ _ rfl ⟨rfl, by simpa [hasF] using hs, hgs⟩
    by_cases c4 : c = "BadText"
    · subst c4
      refine rc _ _ (skip hc (by simp)) ?_
      refine rc _ _ (skip hc (by simp)) ?_
      refine rc _ _ (skip hc (by simp)) ?_
      refine rc _ _ (take1 (c := "BadText") (f := "line") hc (by simp) hn) ?_
      refine rc _ _ (skip hc (by simp)) ?_
      exact rR _ _ rfl ⟨rfl, by simpa [hasF] using hs, hgs⟩
    by_cases c5 : c = "NoName"
    · subst c5
      refine rc _ _ (skip hc (by simp)) ?_
      refine rc _ _ (skip hc (by simp)) ?_
      refine rc _ _ (skip hc (by simp)) ?_
      refine rc _ _ (skip hc (by simp)) ?_
      refine rc _ _ (take1 (c := "NoName") (f := "name") hc (by simp) hn) ?_
      exact rR _ _ rfl ⟨rfl, by simpa [hasF] using hs, hgs⟩
    have hf : hasF c = false := by simp [hasF, c0, c1, c2, c3, c4, c5]
    refine rc _ _ (skip hc (by simp [c0, c1, c2, c3, c4, c5])) ?_
    refine rc _ _ (skip hc (by simp [c0, c1, c2, c3, c4, c5])) ?_
    refine rc _ _ (skip hc (by simp [c0, c1, c2, c3, c4, c5])) ?_
    refine rc _ _ (skip hc (by simp [c0, c1, c2, c3, c4, c5])) ?_
    refine rc _ _ (skip hc (by simp [c0, c1, c2, c3, c4, c5])) ?_
    exact rR _ _ rfl ⟨rfl, by rw [hf]; simpa using hn, hg⟩
  obtain ⟨r, st', e, rfl, h1, h2⟩ := key
  exact ⟨st', e, h1, h2⟩
end K00

set_option Elab.async false
set_option linter.all false
set_option maxRecDepth 100000
set_option maxHeartbeats 4000000
namespace K00
open PySem PySem.Spec L2 B
set_option autoImplicit false
/-! ### what is kept is what was handed in -/
mutual
def sim : W → Bool
  | .tup xs => sims xs
  | .int _ => true
  | .bl _ => true
  | .non => true
  | .str x => okS x
  | _ => false
def sims : List W → Bool
  | [] => true
  | x :: xs => sim x && sims xs
end
mutual
def dW : W → Nat
  | .tup xs => dWs xs + 1
  | _ => 0
def dWs : List W → Nat
  | [] => 0
  | x :: xs => max (dW x) (dWs xs)
end
mutual
def wid : W → Nat
  | .tup xs => wids xs + xs.length + 1
  | _ => 1
def wids : List W → Nat
  | [] => 0
  | x :: xs => max (wid x) (wids xs)
end
theorem sims_mem {xs : List W} (h : sims xs = true) {x : W} (hx : x ∈ xs) : sim x = true := by
  induction xs with
  | nil => cases hx
  | cons y ys ih =>
    simp only [sims, Bool.and_eq_true] at h
    rcases List.mem_cons.mp hx with rfl | hx
    · exact h.1
    · exact ih h.2 hx
theorem dWs_mem {xs : List W} {x : W} (hx : x ∈ xs) : dW x ≤ dWs xs := by
  induction xs with
  | nil => cases hx
  | cons y ys ih =>
    rcases List.mem_cons.mp hx with rfl | hx
    · simp [dWs]; omega
    · have := ih hx; simp [dWs]; omega
theorem wids_mem {xs : List W} {x : W} (hx : x ∈ xs) : wid x ≤ wids xs := by
  induction xs with
  | nil => cases hx
  | cons y ys ih =>
    rcases List.mem_cons.mp hx with rfl | hx
    · simp [wids]; omega
    · have := ih hx; simp [wids]; omega
theorem boolsW_rep (n : Nat) : boolsW (List.replicate n (.bl true)) = some (List.replicate n true) := by
  induction n with
  | zero => rfl
  | succ n ih => simp [List.replicate_succ, boolsW, ih]
def tyn : W → String
  | .tup _ => "tuple"
  | .int _ => "int"
  | .bl _ => "bool"
  | .non => "NoneType"
  | _ => "str"
theorem isO_sim {x : W} {T : String} {b : Bool} {st : Sto} (h : sim x = true) (k : kitB (tyn x) T = some b) : fIsO "Program" T x st = some (.bl b, st) := by
  cases x <;> first | (simp [sim] at h; done) | (simp only [fIsO, bIsi, tyW]; simp only [tyn] at k; rw [k])
theorem kit_tuple : ∀ x : W, kitB (tyn x) "tuple" = some (match x with | .tup _ => true | _ => false)
  | .tup _ => (by decide +kernel : kitB "tuple" "tuple" = some true)
  | .int _ => (by decide +kernel : kitB "int" "tuple" = some false)
  | .bl _ => (by decide +kernel : kitB "bool" "tuple" = some false)
  | .non => (by decide +kernel : kitB "NoneType" "tuple" = some false)
  | .str _ => (by decide +kernel : kitB "str" "tuple" = some false)
  | .fl _ => (by decide +kernel : kitB "str" "tuple" = some false)
  | .ref _ => (by decide +kernel : kitB "str" "tuple" = some false)
  | .ext _ => (by decide +kernel : kitB "str" "tuple" = some false)
  | .fnc _ => (by decide +kernel : kitB "str" "tuple" = some false)
  | .exc _ _ _ => (by decide +kernel : kitB "str" "tuple" = some false)
theorem kit_list (x : W) : kitB (tyn x) "list" = some false := by
  cases x <;> first | (show kitB "tuple" "list" = _; decide +kernel) | (show kitB "int" "list" = _; decide +kernel) | (show kitB "bool" "list" = _; decide +kernel) | (show kitB "NoneType" "list" = _; decide +kernel) | (show kitB "str" "list" = _; decide +kernel)
theorem kit_bool (x : W) : ∃ b, kitB (tyn x) "bool" = some b := by
  cases x <;> first | exact ⟨_, (by decide +kernel : kitB "tuple" "bool" = some false)⟩ | exact ⟨_, (by decide +kernel : kitB "int" "bool" = some false)⟩ | exact ⟨_, (by decide +kernel : kitB "bool" "bool" = some true)⟩ | exact ⟨_, (by decide +kernel : kitB "NoneType" "bool" = some false)⟩ | exact ⟨_, (by decide +kernel : kitB "str" "bool" = some false)⟩
theorem fEq_non (st : Sto) : fEq .non .non st = some (.bl true, st) := by
  have h : SeqAt.shaped .none = true := by decide +kernel
  simp [fEq, toDS, toD, h, PyData.eqv]
theorem fEq_same {x : W} (h : sim x = true) (ht : ∀ xs, x ≠ .tup xs) (st : Sto) : fEq x x st = some (.bl true, st) := by
  cases x with
  | tup xs => exact absurd rfl (ht xs)
  | int i => simp
  | bl b => simp
  | non => exact fEq_non st
  | str s => rw [fEq_str s s st (by simpa [sim] using h) (by simpa [sim] using h)]; simp
  | _ => simp [sim] at h
/-- the last row of _law_is -/
theorem atom_ok {d : Nat} {x : W} {st : Sto} {b : Bool} (h2 : fIsO2 "Program" "tuple" "list" x st = some (.bl false, st)) (hb : fIsO "Program" "bool" x st = some (.bl b, st)) (he : fEqP "Program" F_Program___eq__ x x st = some (.bl true, st)) :
    F__law_is (d + 1) [x, x] st = some (.bl true, st) := by
  simp [F__law_is, G__law_is, h2, hb, he]
theorem law_is_ok : ∀ (d : Nat) (x : W) (st : Sto), dW x < d → sim x = true → wid x ≤ 900000 → ∃ st', F__law_is d [x, x] st = some (.bl true, st') ∧ Gr st st' := by
  intro d
  induction d with
  | zero => intro x st h; omega
  | succ d ih =>
    intro x st hd hs hw
    have e1 := isO_sim (st := st) hs (kit_tuple x)
    have e2 := isO_sim (st := st) hs (kit_list x)
    obtain ⟨b, hb⟩ := kit_bool x
    have e3 := isO_sim (st := st) hs hb
    by_cases ht : ∃ xs, x = .tup xs
    · obtain ⟨xs, rfl⟩ := ht
      have hxs : sims xs = true := by simpa [sim] using hs
      simp only [wid] at hw
      simp only [dW] at hd
      obtain ⟨ys, st2, r1, ⟨r2, r3⟩, r4, r5⟩ := comp_go (src := srcZipT xs xs) (p := .tp [.nm 2, .nm 3]) (t := ct1__law_is (F__law_is d)) (e := ce1__law_is (F__law_is d)) (k := st.length) (env := wipeE [some (.tup xs), some (.tup xs), none, none] [2, 3]) (xs.map fun x => .tup [x, x])
        (fun j ys s => Fr (fun i => i = st.length) (st ++ [.lst []]) s ∧ ys = List.replicate j (.bl true))
        (fun j ys s I _ => by
          unfold srcZipT
          rw [List.getElem?_map]
          cases xs[j]? <;> rfl)
        (fun j ys s x I hk hx => by
          rw [List.getElem?_map] at hx
          cases hx2 : xs[j]? with
          | none => rw [hx2] at hx; simp at hx
          | some y =>
            rw [hx2] at hx; simp at hx; subst hx
            have hm : y ∈ xs := List.mem_of_getElem? hx2
            have hd3 := dWs_mem hm
            have hsw := wids_mem hm
            obtain ⟨s1, q1, q2⟩ := ih y s (by omega) (sims_mem hxs hm) (by omega)
            refine ⟨[some (.tup xs), some (.tup xs), some y, some y], true, by simp [wipeE], by simp [ct1__law_is, tYesM], by simp, fun _ => ⟨.bl true, s1, by simp [ce1__law_is, q1], q2.get hk (by simp), (I.1.trans q2.any).trans (.set _ rfl), ?_⟩⟩
            rw [I.2, List.replicate_succ'])
        (by simp; omega) 1000000 0 [] (st ++ [.lst []]) ⟨.refl, by simp⟩ (by simp) (by omega) (by simp) (by simp; omega)
      subst r3
      simp at r4
      have ec := eComp_of (i := iZipB (aCons (eVar 0) (aCons (eVar 1) aNil))) (p := .tp [.nm 2, .nm 3]) (vs := [2, 3]) (t := ct1__law_is (F__law_is d)) (e := ce1__law_is (F__law_is d)) (n := 1000000) (env := [some (.tup xs), some (.tup xs), none, none]) (st := st) (st0 := st) (src := srcZipT xs xs)
        (by simp [iZipB]) r1
      refine ⟨st2, ?_, (Fr.app _).own r2 fun i hi e => by omega⟩
      simp [F__law_is, G__law_is, fIsO2, e1, e2, ec, r4, boolsW_rep]
    · have hn : ∀ xs, x ≠ .tup xs := fun xs e => ht ⟨xs, e⟩
      have e1' : fIsO "Program" "tuple" x st = some (.bl false, st) := by
        rw [e1]
        cases x <;> first | rfl | exact absurd rfl (hn _)
      refine ⟨st, atom_ok (b := b) ?_ e3 ?_, .refl⟩
      · simp [fIsO2, e1', e2]
      · have := fEq_same hs hn st
        cases x <;> first | (simp [sim] at hs; done) | exact this
end K00

set_option Elab.async false
set_option linter.all false
set_option maxRecDepth 100000
set_option maxHeartbeats 4000000
namespace K00
open PySem PySem.Spec L2 B
set_option autoImplicit false
theorem isO_lst {l : Nat} {xs : List W} {T : String} {b : Bool} {st : Sto} (h : st[l]? = some (.lst xs)) (k : kitB "list" T = some b) : fIsO "Program" T (.ref l) st = some (.bl b, st) := by
  simp only [fIsO, h, bIsi, tyW, k]
theorem isO_dct {l : Nat} {xs : List (Key × W)} {T : String} {b : Bool} {st : Sto} (h : st[l]? = some (.dct xs)) (k : kitB "dict" T = some b) : fIsO "Program" T (.ref l) st = some (.bl b, st) := by
  simp only [fIsO, h, bIsi, tyW, k]
theorem isO_ins {l : Nat} {fs : List (Str × W)} {T : String} {st : Sto} (h : st[l]? = some (.ins "Program" fs)) : fIsO "Program" T (.ref l) st = some (.bl false, st) := by
  simp only [fIsO, h, if_true]
theorem is_list (d l : Nat) (st : Sto) (h : st[l]? = some (.lst [.int 1])) : ∃ st', F__law_is (d + 2) [.ref l, .ref l] st = some (.bl true, st') ∧ Gr st st' := by
  have e1 : ∀ {s : Sto}, s[l]? = some (.lst [.int 1]) → fIsO "Program" "tuple" (.ref l) s = some (.bl false, s) := fun h => isO_lst h (by decide +kernel)
  have e2 : ∀ {s : Sto}, s[l]? = some (.lst [.int 1]) → fIsO "Program" "list" (.ref l) s = some (.bl true, s) := fun h => isO_lst h (by decide +kernel)
  have hl := lt_of_get h
  obtain ⟨ys, st2, r1, ⟨r2, r3⟩, r4, r5⟩ := comp_go (src := srcZipL (.ref l) (.ref l)) (p := .tp [.nm 2, .nm 3]) (t := ct1__law_is (F__law_is (d + 1))) (e := ce1__law_is (F__law_is (d + 1))) (k := st.length) (env := wipeE [some (.ref l), some (.ref l), none, none] [2, 3]) [.tup [.int 1, .int 1]]
    (fun j ys s => Fr (fun i => i = st.length) (st ++ [.lst []]) s ∧ ys = List.replicate j (.bl true))
    (fun j ys s I hj => by
      have hs : s[l]? = some (.lst [.int 1]) := I.1.get (by rw [List.getElem?_append_left hl]; exact h) (by omega)
      unfold srcZipL
      simp only [B.listOf, hs]
      match j with
      | 0 => rfl
      | 1 => rfl
      | j + 2 => rfl)
    (fun j ys s x I hk hx => by
      have hx' : x = .tup [.int 1, .int 1] := by
        match j, hx with
        | 0, hx => simpa using hx.symm
        | j + 1, hx => simp at hx
      subst hx'
      obtain ⟨s1, q1, q2⟩ := law_is_ok (d + 1) (.int 1) s (by simp [dW]) rfl (by simp [wid])
      refine ⟨[some (.ref l), some (.ref l), some (.int 1), some (.int 1)], true, by simp [wipeE], by simp [ct1__law_is, tYesM], by simp, fun _ => ⟨.bl true, s1, by simp [ce1__law_is, q1], q2.get hk (by simp), (I.1.trans q2.any).trans (.set _ rfl), ?_⟩⟩
      rw [I.2, List.replicate_succ'])
    (by simp) 1000000 0 [] (st ++ [.lst []]) ⟨.refl, by simp⟩ (by simp) (by omega) (by simp) (by simp)
  subst r3
  simp at r4
  have ec := eComp_of (i := iZipB (aCons (eVar 0) (aCons (eVar 1) aNil))) (p := .tp [.nm 2, .nm 3]) (vs := [2, 3]) (t := ct1__law_is (F__law_is (d + 1))) (e := ce1__law_is (F__law_is (d + 1))) (n := 1000000) (env := [some (.ref l), some (.ref l), none, none]) (st := st) (st0 := st) (src := srcZipL (.ref l) (.ref l))
    (by simp [iZipB, B.listOf, h]) r1
  refine ⟨st2, ?_, (Fr.app _).own r2 fun i hi e => by omega⟩
  have ef : F__law_is (d + 2) = G__law_is (F__law_is (d + 1)) := rfl
  simp [ef, G__law_is, fIsO2, e1 h, e2 h, h, ec, r4, boolsW]
theorem is_dict (d l : Nat) (st : Sto) (h : st[l]? = some (.dct [(Sum.inl 2, .int 3)])) : F__law_is (d + 1) [.ref l, .ref l] st = some (.bl true, st) := by
  refine atom_ok (b := false) ?_ (isO_dct h (by decide +kernel)) ?_
  · simp [fIsO2, isO_dct (T := "tuple") (b := false) h (by decide +kernel), isO_dct (T := "list") (b := false) h (by decide +kernel)]
  · have e : eqDW [((Sum.inl 2 : Key), W.int 3)] [(Sum.inl 2, .int 3)] = some true := by decide +kernel
    simp [fEqP, h, e]
theorem eq_e (st : Sto) : fEq (.tup []) (.tup []) st = some (.bl true, st) := by kernel_rfl
theorem eq_bd (st : Sto) : fEq bdW bdW st = some (.bl true, st) := by kernel_rfl
theorem is_prog (d l : Nat) (st : Sto) (fs : List (Str × W)) (h : st[l]? = some (.ins "Program" fs)) (h1 : fs.lookup ("book" : Str) = some (W.tup [])) (h2 : fs.lookup ("bodies" : Str) = some bdW) : F__law_is (d + 1) [.ref l, .ref l] st = some (.bl true, st) := by
  refine atom_ok (b := false) ?_ (isO_ins h) ?_
  · simp [fIsO2, isO_ins h]
  · have e : F_Program___eq__ [.ref l, .ref l] st = some (.bl true, st) := by
      have f1 : fFld ["Program"] "book" (.ref l) st = some (W.tup [], st) := by simp [fFld, h, h1]
      have f2 : fFld ["Program"] "bodies" (.ref l) st = some (bdW, st) := by simp [fFld, h, h2]
      have w1 : fIsW "Program" (.ref l) st = some (.bl true, st) := by simp [fIsW, h]
      have e1 := eq_e st
      have e2 := eq_bd st
      generalize bdW = bb at f2 e2
      simp [-fEq, F_Program___eq__, w1, f1, f2, e1, e2]
    simp [fEqP, h, e]
def deepW : W := (List.range 40).foldl (fun w _ => .tup [w]) (.tup [])
theorem deep_ok (st : Sto) : F__law_deep [] st = some (deepW, st) := by kernel_rfl
theorem deep_sim : sim deepW = true := by decide +kernel
theorem deep_d : dW deepW = 41 := by decide +kernel
theorem deep_w : wid deepW ≤ 900000 := by decide +kernel
/-! ### the things -/
structure There (l4 l5 p : Nat) (st : Sto) : Prop where
  a : st[l4]? = some (.lst [.int 1])
  b : st[l5]? = some (.dct [(Sum.inl 2, .int 3)])
  c : ∃ fs, st[p]? = some (.ins "Program" fs) ∧ fs.lookup ("book" : Str) = some (W.tup []) ∧ fs.lookup ("bodies" : Str) = some bdW
theorem There.gr {l4 l5 p : Nat} {st st' : Sto} (h : There l4 l5 p st) (g : Gr st st') : There l4 l5 p st' := by
  obtain ⟨fs, h1, h2⟩ := h.c
  exact ⟨g.get h.a (by simp), g.get h.b (by simp), fs, g.get h1 (by simp), h2⟩
def things (l4 l5 p : Nat) : List W := [.int 0, .int (-7), .bl true, .non, .str "word", .tup [.int 0, .str "a"], .ref l4, .ref l5, .tup [.str "body", .int 1, .str "form"], .int (10 ^ 30), .ref p, deepW]
theorem thing_ok {l4 l5 p : Nat} {w : W} {st : Sto} (h : There l4 l5 p st) (hw : w ∈ things l4 l5 p) : ∃ st', F__law_is 45 [w, w] st = some (.bl true, st') ∧ Gr st st' := by
  have s1 : okS "word" = true := by decide +kernel
  have s2 : okS "a" = true := by decide +kernel
  have s3 : okS "body" = true := by decide +kernel
  have s4 : okS "form" = true := by decide +kernel
  simp only [things, List.mem_cons, List.not_mem_nil, or_false] at hw
  rcases hw with rfl | rfl | rfl | rfl | rfl | rfl | rfl | rfl | rfl | rfl | rfl | rfl
  · exact law_is_ok 45 _ st (by simp [dW]) rfl (by simp [wid])
  · exact law_is_ok 45 _ st (by simp [dW]) rfl (by simp [wid])
  · exact law_is_ok 45 _ st (by simp [dW]) rfl (by simp [wid])
  · exact law_is_ok 45 _ st (by simp [dW]) rfl (by simp [wid])
  · exact law_is_ok 45 _ st (by simp [dW]) (by simp [sim, s1]) (by simp [wid])
  · exact law_is_ok 45 _ st (by simp [dW, dWs]) (by simp [sim, sims, s2]) (by simp [wid, wids])
  · exact is_list 43 _ st h.a
  · exact ⟨st, is_dict 44 _ st h.b, .refl⟩
  · exact law_is_ok 45 _ st (by simp [dW, dWs]) (by simp [sim, sims, s3, s4]) (by simp [wid, wids])
  · exact law_is_ok 45 _ st (by simp [dW]) rfl (by simp [wid])
  · obtain ⟨fs, c1, c2, c3⟩ := h.c
    exact ⟨st, is_prog 44 _ st fs c1 c2 c3, .refl⟩
  · exact law_is_ok 45 _ st (by rw [deep_d]; decide) deep_sim deep_w
end K00

set_option Elab.async false
set_option linter.all false
set_option maxRecDepth 100000
set_option maxHeartbeats 4000000
namespace K00
open PySem PySem.Spec L2 B
set_option autoImplicit false
/-! ### one turn of the law's loop -/
def cAt (n : Nat) : Str := ORD.getD n ""
def bsN (n : Nat) : List Bool := ORD.map fun d => decide (cAt n = d)
theorem bs_rng : ∀ n : Fin 25, bsN n = (List.range 25).map fun i => decide (i = (n : Nat)) := by decide +kernel
theorem bs_sh : ∀ n : Fin 25, SeqAt.shaped (.list ((bsN n).map .bool)) = true ∧ PyData.eqv (.list ((bsN n).map .bool)) (.list ((bsN n).map .bool)) = true := by decide +kernel
theorem hasF_at : ∀ n : Fin 25, hasF (cAt n) = decide (18 < (n : Nat)) := by decide +kernel
theorem cAt_mem : ∀ n : Fin 25, cAt n ∈ ORD := by decide +kernel
theorem eqs_bs (n : Nat) : eqs (cAt n) ORD = (bsN n).map W.bl := by simp [eqs, bsN, List.map_map]
theorem toDs_bl : ∀ bs : List Bool, toDs (bs.map W.bl) = some (bs.map PyData.bool)
  | [] => rfl
  | b :: bs => by simp only [List.map_cons, toDs, toD, toDs_bl bs]
theorem ne_same {i j n : Nat} {st : Sto} (hn : n < 25) (hi : st[i]? = some (.lst ((bsN n).map W.bl))) (hj : st[j]? = some (.lst ((bsN n).map W.bl))) : fNe (.ref i) (.ref j) st = some (.bl false, st) := by
  obtain ⟨h1, h2⟩ := bs_sh ⟨n, hn⟩
  have h1' : (SeqAt.shaped (.list ((bsN n).map .bool)) && SeqAt.shaped (.list ((bsN n).map .bool))) = true := by rw [h1]; rfl
  simp only [fNe, toDS, hi, hj, toDs_bl, h1', if_true, h2]
  rfl
theorem comp25 (env : En) (n : Nat) (h10 : env.length = 11) (h6 : env[6]? = some (some (.int n))) (st : Sto) : ∃ st', eComp (iRng1M (aCons (eC (.int 25)) aNil)) (.nm 10) [10] ct2_law ce2_law 1000000 env st = some (.ref st.length, st') ∧ st'[st.length]? = some (.lst ((List.range 25).map fun i => W.bl (decide (i = n)))) ∧ Gr st st' := by
  obtain ⟨ys, st2, r1, ⟨r2, r3⟩, r4, r5⟩ := comp_go (src := srcRng 0 25) (p := .nm 10) (t := ct2_law) (e := ce2_law) (k := st.length) (env := wipeE env [10]) ((List.range 25).map fun (i : Nat) => W.int i)
    (fun j ys s => Fr (fun i => i = st.length) (st ++ [.lst []]) s ∧ ys = (List.range j).map fun i => W.bl (decide (i = n)))
    (fun j ys s I hj => by rw [range_get]; simp only [srcRng]; split <;> simp)
    (fun j ys s x I hk hx => by
      rw [range_get] at hx
      split at hx
      · cases hx
        have hw : (wipeE env [10]) = env.set 10 none := by simp [wipeE]
        have e10 : ((env.set 10 none).set 10 (some (W.int (j : Nat))))[10]? = some (some (.int (j : Nat))) := by
          rw [List.getElem?_set_self]; rw [List.length_set, h10]; decide
        have e6 : ((env.set 10 none).set 10 (some (W.int (j : Nat))))[6]? = some (some (.int n)) := by
          rw [List.getElem?_set_ne (by decide), List.getElem?_set_ne (by decide)]; exact h6
        refine ⟨(env.set 10 none).set 10 (some (W.int (j : Nat))), true, by rw [hw]; rfl, by simp [ct2_law, tYesM], by simp, fun _ => ⟨.bl (decide (j = n)), s, ?_, hk, I.1.trans (.set _ rfl), by rw [I.2, List.range_succ]; simp⟩⟩
        have hd : ((j : Int) == (n : Int)) = decide (j = n) := by
          by_cases q : j = n
          · subst q; simp
          · have : ((j : Int) == (n : Int)) = false := beq_eq_false_iff_ne.mpr (by omega)
            simp [this, q]
        simp only [ce2_law, eOp, bnd, eVar, e10, e6, fEq_int, hd]
      · cases hx)
    (by simp) 1000000 0 [] (st ++ [.lst []]) ⟨.refl, by simp⟩ (by simp) (by omega) (by simp) (by simp)
  subst r3
  simp only [List.length_map, List.length_range] at r4
  refine ⟨st2, eComp_of (st0 := st) (src := srcRng 0 25) (rng1_ok 25 (by decide) (by rfl)) r1, r4, (Fr.app _).own r2 fun i hi e => by omega⟩
theorem tORF {a b : TM} {env : En} {st st1 st2 : Sto} (h : a env st = some (false, st1)) (h2 : b env st1 = some (false, st2)) : tOrM a b env st = some (false, st2) := by simp only [tOrM, bnd, h, Bool.false_eq_true, if_false, h2]
theorem tANF {a b : TM} {env : En} {st st1 : Sto} (h : a env st = some (false, st1)) : tAndM a b env st = some (false, st1) := by simp only [tAndM, bnd, h, Bool.false_eq_true, if_false, B.ret]
theorem tANT {a b : TM} {env : En} {st st1 st2 : Sto} {r : Bool} (h : a env st = some (true, st1)) (h2 : b env st1 = some (r, st2)) : tAndM a b env st = some (r, st2) := by simp only [tAndM, bnd, h, if_true, h2]
theorem tNF {a : EM} {env : En} {st st1 : Sto} (h : a env st = some (.bl true, st1)) : tNotM (tVal a) env st = some (false, st1) := by simp [h, truth]
theorem tBN {f : W → W → M W} {a b : EM} {x y : W} {r : Bool} {env : En} {st st1 st2 st3 : Sto} (h1 : a env st = some (x, st1)) (h2 : b env st1 = some (y, st2)) (h3 : f x y st2 = some (.bl r, st3)) : tBl (eOp f a b) env st = some (r, st3) := by
  simp only [tBl, eOp, bnd, h1, h2, h3, isBl]
structure EnvN (lk n : Nat) (x : W) (env : En) : Prop where
  len : env.length = 11
  h5 : env[5]? = some (some (.ref lk))
  h6 : env[6]? = some (some (.int n))
  h7 : env[7]? = some (some x)
theorem iter {lk l4 l5 p n : Nat} {w : W} {ks : List W} {env : En} {st : Sto} (hn : n < 25) (E : EnvN lk n (made (cAt n) w) env) (T : There l4 l5 p st) (hk : st[lk]? = some (.lst ks)) (hks : ks.length = 6) (hw : 18 < n → ks[n - 19]? = some w ∧ w ∈ things l4 l5 p) :
    ∃ e' s', fb3_law env st = some ((.nx, e'), s') ∧ (∃ o, e' = env.set 8 o) ∧ Gr st s' := by
  have hmem := cAt_mem ⟨n, hn⟩
  have hc := cs_ok _ hmem
  have hF := hasF_at ⟨n, hn⟩
  simp only at hmem hc hF
  have v7 : ∀ s, eVar 7 env s = some (made (cAt n) w, s) := fun s => by simp only [eVar, E.h7]
  obtain ⟨k1, s1, f1, f2, f3, f4⟩ := flags_ok (f := fld (cAt n)) (ws := if hasF (cAt n) then [w] else []) hc st
  obtain ⟨s2, c1, c2, c3⟩ := comp25 env n E.len E.h6 s1
  have hl1 := lt_of_get f2
  have hne : fNe (.ref k1) (.ref s1.length) s2 = some (.bl false, s2) := by
    refine ne_same hn ?_ ?_
    · rw [← eqs_bs]; exact c3.get f2 (by simp)
    · rw [c2]
      have := bs_rng ⟨n, hn⟩
      simp only at this
      rw [this, List.map_map]; rfl
  have g2 : Gr st s2 := f4.trans c3
  have isT : ∀ s, eUn (fIsX CS (fun _ => true)) (eVar 7) env s = some (.bl true, s) := fun s => isX_all hc (v7 s)
  have t1 : tBl (eOp fNe (eCall F__law_flags (aCons (eVar 7) aNil)) (eComp (iRng1M (aCons (eC (.int 25)) aNil)) (.nm 10) [10] ct2_law ce2_law 1000000)) env st = some (false, s2) := by
    refine tBN (x := .ref k1) ?_ c1 hne
    simp only [eCall, aCons, aNil, bnd, v7, B.ret]
    exact f1
  have t2 := tNF (isT s2)
  unfold fb3_law
  refine nIfF s2 (tORF t1 t2) (nIfF s2 t2 ?_)
  obtain ⟨s3, a1, a2, a3⟩ := fields_ok (cAt n) w hmem s2
  have g3 : Gr st s3 := g2.trans a3
  refine nc (env.set 8 (some (.ref s2.length))) s3 (rSet ?_ rfl) ?_
  · simp only [eCall, aCons, aNil, bnd, v7, B.ret]
    exact a1
  have h8 : (env.set 8 (some (W.ref s2.length)))[8]? = some (some (.ref s2.length)) := by rw [List.getElem?_set_self]; rw [E.len]; decide
  have h6 : (env.set 8 (some (W.ref s2.length)))[6]? = some (some (.int n)) := by rw [List.getElem?_set_ne (by decide)]; exact E.h6
  have h5 : (env.set 8 (some (W.ref s2.length)))[5]? = some (some (.ref lk)) := by rw [List.getElem?_set_ne (by decide)]; exact E.h5
  have v8 : ∀ s, eVar 8 (env.set 8 (some (W.ref s2.length))) s = some (.ref s2.length, s) := fun s => by simp only [eVar, h8]
  have v6 : ∀ s, eVar 6 (env.set 8 (some (W.ref s2.length))) s = some (.int n, s) := fun s => by simp only [eVar, h6]
  have v5 : ∀ s, eVar 5 (env.set 8 (some (W.ref s2.length))) s = some (.ref lk, s) := fun s => by simp only [eVar, h5]
  generalize he2 : env.set 8 (some (W.ref s2.length)) = env2 at v5 v6 v8 ⊢
  have gt : eOp fGt (eVar 6) (eC (.int 18)) env2 s3 = some (.bl (decide (18 < n)), s3) := by
    have : decide ((18 : Int) < (n : Int)) = decide (18 < n) := by simp only [decide_eq_decide]; omega
    simp only [eOp, bnd, v6, eC, B.ret, fGt, fI0, this]
  have t4 : tBl (eOp fNe (eCall bLen (aCons (eVar 8) aNil)) (eCall bInt (aCons (eOp fGt (eVar 6) (eC (.int 18))) aNil))) env2 s3 = some (false, s3) := by
    have e1 : eCall bLen (aCons (eVar 8) aNil) env2 s3 = some (.int (if hasF (cAt n) then 1 else 0), s3) := by
      simp only [eCall, aCons, aNil, bnd, v8, B.ret, bLen, B.itemsOf, a2]
      cases hasF (cAt n) <;> rfl
    have e2 : eCall bInt (aCons (eOp fGt (eVar 6) (eC (.int 18))) aNil) env2 s3 = some (.int (if decide (18 < n) then 1 else 0), s3) := by
      simp only [eCall, aCons, aNil, bnd, gt, B.ret, bInt]
    refine tBN e1 e2 ?_
    rw [hF, fNe_int]
    simp
  have tg : tBl (eOp fGt (eVar 6) (eC (.int 18))) env2 s3 = some (decide (18 < n), s3) := by
    simp only [tBl, bnd, gt, isBl]
  by_cases q : 18 < n
  · obtain ⟨w1, w2⟩ := hw q
    obtain ⟨s4, b1, b2⟩ := thing_ok (T.gr g3) w2
    have hk3 := g3.get hk (by simp)
    have e1 : eOp fIx (eVar 8) (eC (.int 0)) env2 s3 = some (w, s3) := by
      have hf : hasF (cAt n) = true := by rw [hF]; simp [q]
      rw [hf] at a2
      simp only [eOp, bnd, v8, eC, B.ret, fIx, B.itemsOf, a2, if_true]
      simp
    have e2 : eOp fIx (eVar 5) (eOp fSub (eVar 6) (eC (.int 19))) env2 s3 = some (w, s3) := by
      have es : ((n : Int) - 19) = ((n - 19 : Nat) : Int) := by omega
      have ea : atI ks ((n - 19 : Nat) : Int) = some w := by rw [atI_nat ks _ (by omega)]; exact w1
      simp only [eOp, bnd, v5, v6, eC, B.ret, fSub, fI0, es, fIx, B.itemsOf, hk3, ea]
    have t5 : tNotM (tVal (eCall (F__law_is 45) (aCons (eOp fIx (eVar 8) (eC (.int 0))) (aCons (eOp fIx (eVar 5) (eOp fSub (eVar 6) (eC (.int 19)))) aNil)))) env2 s3 = some (false, s4) := by
      refine tNF ?_
      simp only [eCall, aCons, aNil, bnd, e1, e2, B.ret]
      exact b1
    refine nIfF s4 (tORF t4 (tANT (by rw [tg]; simp [q]) t5)) (nEnd ⟨⟨_, he2.symm⟩, g3.trans b2⟩)
  · refine nIfF s3 (tORF t4 (tANF (by rw [tg]; simp [q]))) (nEnd ⟨⟨_, he2.symm⟩, g3⟩)
end K00

set_option Elab.async false
set_option linter.all false
set_option maxRecDepth 100000
set_option maxHeartbeats 4000000
namespace K00
open PySem PySem.Spec L2 B
set_option autoImplicit false
/-! ### the law -/
def plains : List Str := ORD.take 19
def ex0 (c : Str) : W := .exc c "" []
theorem made0 : ∀ n : Fin 25, n.val ≤ 18 → fld (cAt n) = "" ∧ hasF (cAt n) = false := by decide +kernel
def MD (ks : List W) : List W := plains.map ex0 ++ [made "BadProgram" (ks.getD 0 .non), made "BadPlacer" (ks.getD 1 .non), made "TooMany" (ks.getD 2 .non), made "BadImage" (ks.getD 3 .non), made "BadText" (ks.getD 4 .non), made "NoName" (ks.getD 5 .non)]
theorem MD_get (ks : List W) (n : Nat) (h : n < 25) : (MD ks)[n]? = some (made (cAt n) (ks.getD (n - 19) .non)) := by
  by_cases q : n ≤ 18
  · obtain ⟨h1, h2⟩ := made0 ⟨n, h⟩ q
    simp only at h1 h2
    have hl : (plains.map ex0).length = 19 := by decide +kernel
    unfold MD
    rw [List.getElem?_append_left (by rw [hl]; omega), List.getElem?_map]
    have hp : plains[n]? = some (cAt n) := by
      unfold plains cAt
      rw [List.getElem?_take, if_pos (by omega), List.getD_eq_getElem?_getD]
      have hO : n < ORD.length := by have : ORD.length = 25 := by decide +kernel
                                     omega
      rw [List.getElem?_eq_getElem hO]; rfl
    rw [hp]
    simp only [Option.map_some, made, h1, h2, ex0]
    rfl
  · have hn : n = 19 ∨ n = 20 ∨ n = 21 ∨ n = 22 ∨ n = 23 ∨ n = 24 := by omega
    rcases hn with rfl | rfl | rfl | rfl | rfl | rfl <;> rfl
theorem MD_len (ks : List W) : (MD ks).length = 25 := rfl
theorem app_ok {k i : Nat} {e : EM} {env : En} {st : Sto} {xs : List W} {w : W} (hk : env[k]? = some (some (.ref i))) (hi : st[i]? = some (.lst xs)) (he : e env st = some (w, st)) (hl : xs.length ≤ 1000) : sExpr (eMeth mApp (eVar k) (aCons e aNil)) env st = some ((.nx, env), st.set i (.lst (xs ++ [w]))) := by
  have hz : sml (xs.length + 1) = true := sml_le (by omega)
  simp [hk, hi, he, hz]
/-- the kept ones are drawn -/
theorem kept_ok {b g lt : Nat} {ts : List W} {env : En} {st : Sto} (Bg : Bag b g st) (h1 : env[1]? = some (some (.ref b))) (h4 : env[4]? = some (some (.ref lt))) (hlen : env.length = 11) (ht : st[lt]? = some (.lst ts)) (n1 : lt ≠ b) (n2 : lt ≠ g) (hts : 0 < ts.length) (hts2 : ts.length < 1000) :
    ∃ ks st', eComp (iRng1M (aCons (eC (.int 6)) aNil)) (.nm 9) [9] ct1_law ce1_law 1000000 env st = some (.ref st.length, st') ∧ st'[st.length]? = some (.lst ks) ∧ ks.length = 6 ∧ (∀ k ∈ ks, k ∈ ts) ∧ Fr (fun i => i = b ∨ i = g) st st' := by
  have hb := Bg.lt
  have hlt := lt_of_get ht
  obtain ⟨ys, st2, r1, ⟨r2, r3, r6, r7⟩, r4, r5⟩ := comp_go (src := srcRng 0 6) (p := .nm 9) (t := ct1_law) (e := ce1_law) (k := st.length) (env := wipeE env [9]) ((List.range 6).map fun (i : Nat) => W.int i)
    (fun j ys s => Fr (fun i => i = st.length ∨ (i = b ∨ i = g)) (st ++ [.lst []]) s ∧ Bag b g s ∧ ys.length = j ∧ ∀ y ∈ ys, y ∈ ts)
    (fun j ys s I hj => by rw [range_get]; simp only [srcRng]; split <;> simp)
    (fun j ys s x ⟨I1, I2, I3, I4⟩ hk hx => by
      rw [range_get] at hx
      split at hx
      · cases hx
        have hw : wipeE env [9] = env.set 9 none := by simp [wipeE]
        have e1 : ((env.set 9 none).set 9 (some (W.int (j : Nat))))[1]? = some (some (.ref b)) := by
          rw [List.getElem?_set_ne (by decide), List.getElem?_set_ne (by decide)]; exact h1
        have e4 : ((env.set 9 none).set 9 (some (W.int (j : Nat))))[4]? = some (some (.ref lt)) := by
          rw [List.getElem?_set_ne (by decide), List.getElem?_set_ne (by decide)]; exact h4
        have hts' : s[lt]? = some (.lst ts) := I1.get (by rw [List.getElem?_append_left hlt]; exact ht) (by omega)
        obtain ⟨y, s1, q1, q2, q3, q4⟩ := some_ok I2 hts' n1 n2 hts hts2
        have hkk : s1[st.length]? = some (.lst ys) := q4.get hk (by omega)
        refine ⟨(env.set 9 none).set 9 (some (W.int (j : Nat))), true, by rw [hw]; rfl, by simp [ct1_law, tYesM], by simp, fun _ => ⟨y, s1, ?_, hkk, (I1.trans (q4.mono fun i h => .inr h)).trans (.set _ (.inl rfl)), ?_, by simp [I3], fun z hz => ?_⟩⟩
        · simp only [ce1_law, eCall, aCons, aNil, bnd, eVar, e1, e4, B.ret]
          exact q1
        · exact q3.fr (.set (P := fun i => i = st.length) _ rfl) (by omega) (by omega)
        · rcases List.mem_append.mp hz with hz | hz
          · exact I4 z hz
          · simp at hz; subst hz; exact q2
      · cases hx)
    (by simp) 1000000 0 [] (st ++ [.lst []]) ⟨.refl, Bg.gr (.app _), rfl, by simp⟩ (by simp) (by omega) (by simp) (by simp)
  refine ⟨ys, st2, eComp_of (st0 := st) (src := srcRng 0 6) (rng1_ok 6 (by decide) (by rfl)) r1, r4, by simpa using r6, r7, ?_⟩
  exact ⟨by have := r2.len; simp at this; omega, fun i hi hn => by
    rw [r2.same i (by simp; omega) (by omega), List.getElem?_append_left hi]⟩
end K00

set_option Elab.async false
set_option linter.all false
set_option maxRecDepth 100000
set_option maxHeartbeats 4000000
namespace K00
open PySem PySem.Spec L2 B
set_option autoImplicit false
def gE : List Str → AM
  | [] => aNil
  | d :: ds => aCons (eC (ex0 d)) (gE ds)
theorem gE_ok {env : En} {st : Sto} : ∀ ds, gE ds env st = some (ds.map ex0, st)
  | [] => rfl
  | d :: ds => by
    simp only [gE, aCons, bnd, eC, B.ret, gE_ok ds, List.map_cons]
def fE (ps : List (Str × Str × Int)) : AM := ps.foldr (fun x m => aCons (eUn (fExc x.1 x.2.1) (eOp fIx (eVar 5) (eC (.int x.2.2)))) m) aNil
def oA : AM := aCons (eTup aNil) (aCons (eTup (aCons (eTup (aCons (eC (.int 0)) (aCons (eTup aNil) (aCons (eTup (aCons (eC (.str "num")) aNil)) (aCons (eTup (aCons (eTup (aCons (eTup (aCons (eC (.str "num")) (aCons (eC (.int 1)) aNil))) aNil)) (aCons (eTup (aCons (eC (.str "back")) (aCons (eC (.int 0)) aNil))) aNil))) aNil))))) aNil)) aNil)
theorem oA_ok (env : En) (st : Sto) : oA env st = some ([.tup [], bdW], st) := by kernel_rfl
def tA : AM := aCons (eC (.int 0)) (aCons (eUn fNeg (eC (.int 7))) (aCons (eC (.bl true)) (aCons (eC .non) (aCons (eC (.str "word")) (aCons (eTup (aCons (eC (.int 0)) (aCons (eC (.str "a")) aNil))) (aCons (eLst (aCons (eC (.int 1)) aNil)) (aCons (eDict1 2 (eC (.int 3))) (aCons (eTup (aCons (eC (.str "body")) (aCons (eC (.int 1)) (aCons (eC (.str "form")) aNil)))) (aCons (eOp fPow (eC (.int 10)) (eC (.int 30))) (aCons (eVar 2) (aCons (eCall F__law_deep aNil) aNil)))))))))))
def lastA : List (Str × Str × Int) := [("BadProgram", "part", 0), ("BadPlacer", "number", 1), ("TooMany", "most", 2), ("BadImage", "line", 3), ("BadText", "line", 4)]
theorem law_eq : F_law = fnM 1 11 (bCons (sSet (.nm 1) (eCall F__law_bag (aCons (eVar 0) aNil)))
    (bCons (sSet (.nm 2) (eMake "Program" F_Program___init__ oA))
    (bCons (sSet (.nm 3) (eLst (gE ["NoKind", "NoKinds", "NoBody", "NoPoint", "NoInputs", "NoNumber", "IsOver", "NoPlace", "NoLot", "NoSpot"])))
    (bCons (sSet (.nm 3) (eOp fAdd (eVar 3) (eLst (gE ["NoSource", "NoWords", "NoKinding", "NoOver", "NoText", "NoRecord", "NothingDone", "NoForm"]))))
    (bCons (sExpr (eMeth mApp (eVar 3) (aCons (eC (ex0 "NothingChosen")) aNil)))
    (bCons (sSet (.nm 4) (eLst tA))
    (bCons (sSet (.nm 5) (eComp (iRng1M (aCons (eC (.int 6)) aNil)) (.nm 9) [9] ct1_law ce1_law 1000000))
    (bCons (sSet (.nm 3) (eOp fAdd (eVar 3) (eLst (fE lastA))))
    (bCons (sExpr (eMeth mApp (eVar 3) (aCons (eUn (fExc "NoName" "name") (eOp fIx (eVar 5) (eC (.int 5)))) aNil)))
    (bCons (sFor (iEnumM (aCons (eVar 3) aNil)) (.tp [(.nm 6), (.nm 7)]) fb3_law 1000000)
    (bCons (sRet (eC (.bl true)))
    bNil))))))))))) := rfl
theorem tA_ok {p : Nat} {env : En} {st : Sto} (h2 : env[2]? = some (some (.ref p))) : tA env st = some (things st.length (st.length + 1) p, st ++ [.lst [.int 1]] ++ [.dct [(Sum.inl 2, .int 3)]]) := by
  have v2 : ∀ s, eVar 2 env s = some (.ref p, s) := fun s => by simp only [eVar, h2]
  have d1 : ∀ s : Sto, eDict1 2 (eC (.int 3)) env s = some (.ref s.length, s ++ [.dct [(Sum.inl 2, .int 3)]]) := fun s => by
    simp [eDict1]
  have l1 : ∀ s : Sto, eLst (aCons (eC (.int 1)) aNil) env s = some (.ref s.length, s ++ [.lst [.int 1]]) := fun s => lst_ok (ws := [.int 1]) rfl (by simp)
  have dp : ∀ s : Sto, eCall F__law_deep aNil env s = some (deepW, s) := fun s => by simp only [eCall, aNil, bnd, B.ret, deep_ok]
  have t1 : ∀ s : Sto, eTup (aCons (eC (.int 0)) (aCons (eC (.str "a")) aNil)) env s = some (.tup [.int 0, .str "a"], s) := fun s => by kernel_rfl
  have t2 : ∀ s : Sto, eTup (aCons (eC (.str "body")) (aCons (eC (.int 1)) (aCons (eC (.str "form")) aNil))) env s = some (.tup [.str "body", .int 1, .str "form"], s) := fun s => by kernel_rfl
  have pw : ∀ s : Sto, eOp fPow (eC (.int 10)) (eC (.int 30)) env s = some (.int (10 ^ 30), s) := fun s => by kernel_rfl
  have ng : ∀ s : Sto, eUn fNeg (eC (.int 7)) env s = some (.int (-7), s) := fun s => by kernel_rfl
  unfold tA
  simp only [aCons, bnd, d1, l1, dp, t1, t2, pw, ng, v2, eC, B.ret, aNil, things]
  simp
theorem fIx5 {lk : Nat} {ks : List W} {env : En} {st : Sto} (h5 : env[5]? = some (some (.ref lk))) (hk : st[lk]? = some (.lst ks)) (hl : ks.length = 6) (n : Nat) (hn : n < 6) : eOp fIx (eVar 5) (eC (.int (n : Nat))) env st = some (ks.getD n .non, st) := by
  have ea : atI ks (n : Int) = some (ks.getD n .non) := by
    rw [atI_nat ks n (by omega), List.getD_eq_getElem?_getD, List.getElem?_eq_getElem (by omega)]; rfl
  simp only [eOp, bnd, eVar, h5, eC, B.ret, fIx, B.itemsOf, hk, ea]
theorem law_true (ns : List Int) (hns : ns.length ≤ 63) : ∃ st, F_law [.fl (ns.map .int)] [] = some (.bl true, st) := by
  have go : ∃ r st, F_law [.fl (ns.map .int)] [] = some (r, st) ∧ r = .bl true := by
    obtain ⟨x0, hx0⟩ : ∃ x, W.fl (ns.map .int) = x := ⟨_, rfl⟩
    obtain ⟨b, g, s1, e1, B1, G1, L1⟩ := bag_ok ns hns []
    rw [hx0] at e1
    obtain ⟨s2, fs, e2, G2, P2, P3, P4⟩ := prog_made s1 (by simpa using L1)
    obtain ⟨p, hp⟩ : ∃ p, s1.length = p := ⟨_, rfl⟩
    rw [hp] at e2 P2
    have hbl := B1.lt
    rw [law_eq, hx0]
    refine fnE [some x0, none, none, none, none, none, none, none, none, none, none] rfl rfl ?_
    refine rc [some x0, some (.ref b), none, none, none, none, none, none, none, none, none] s1 (rSet (by simp only [eCall, aCons, aNil, bnd, eVar, List.getElem?_cons_zero, B.ret, e1]) rfl) ?_
    refine rc [some x0, some (.ref b), some (.ref p), none, none, none, none, none, none, none, none] s2 (rSet (by simp only [eMake, bnd, oA_ok]; exact e2) rfl) ?_
    have B2 := B1.gr G2
    have hp2 := lt_of_get P2
    refine rc [some x0, some (.ref b), some (.ref p), some (.ref s2.length), none, none, none, none, none, none, none] _ (rSet (lst_ok (gE_ok _) (by simp)) rfl) ?_
    obtain ⟨A1, hA1⟩ : ∃ A, (["NoKind", "NoKinds", "NoBody", "NoPoint", "NoInputs", "NoNumber", "IsOver", "NoPlace", "NoLot", "NoSpot"] : List Str).map ex0 = A := ⟨_, rfl⟩
    have A1l : A1.length = 10 := by rw [← hA1]; rfl
    rw [hA1]
    obtain ⟨s3, hs3⟩ : ∃ s, s2 ++ [SO.lst A1] = s := ⟨_, rfl⟩
    rw [hs3]
    have G3 : Gr s2 s3 := by rw [← hs3]; exact .app _
    have C3 : s3[s2.length]? = some (.lst A1) := by rw [← hs3]; simp
    obtain ⟨s4, a4, b4, G4⟩ := add_ok (a := gE ["NoSource", "NoWords", "NoKinding", "NoOver", "NoText", "NoRecord", "NothingDone", "NoForm"]) (k := 3) (i := s2.length) (env := [some x0, some (.ref b), some (.ref p), some (.ref s2.length), none, none, none, none, none, none, none]) (st := s3) rfl C3 (gE_ok _) (by rw [A1l]; simp)
    refine rc [some x0, some (.ref b), some (.ref p), some (.ref (s3.length + 1)), none, none, none, none, none, none, none] s4 (rSet a4 rfl) ?_
    obtain ⟨A2, hA2⟩ : ∃ A, A1 ++ (["NoSource", "NoWords", "NoKinding", "NoOver", "NoText", "NoRecord", "NothingDone", "NoForm"] : List Str).map ex0 = A := ⟨_, rfl⟩
    have A2l : A2.length = 18 := by rw [← hA2]; simp [A1l]
    rw [hA2] at b4
    refine rc _ _ (app_ok (k := 3) (i := s3.length + 1) (w := ex0 "NothingChosen") rfl b4 rfl (by omega)) ?_
    obtain ⟨A3, hA3⟩ : ∃ A, A2 ++ [ex0 "NothingChosen"] = A := ⟨_, rfl⟩
    have A3e : A3 = plains.map ex0 := by rw [← hA3, ← hA2, ← hA1]; rfl
    rw [hA3]
    obtain ⟨s5, hs5⟩ : ∃ s, s4.set (s3.length + 1) (.lst A3) = s := ⟨_, rfl⟩
    rw [hs5]
    have l4 := lt_of_get b4
    have C5 : s5[s3.length + 1]? = some (.lst A3) := by rw [← hs5]; exact List.getElem?_set_self l4
    have l23 := G3.len
    have G5 : Gr s2 s5 := by
      rw [← hs5]
      exact (G3.trans G4).own (P := fun i => i = s3.length + 1) (.set _ rfl) (fun i hi e => by omega)
    refine rc [some x0, some (.ref b), some (.ref p), some (.ref (s3.length + 1)), some (.ref (s5.length + 2)), none, none, none, none, none, none] (s5 ++ [.lst [.int 1]] ++ [.dct [(Sum.inl 2, .int 3)]] ++ [.lst (things s5.length (s5.length + 1) p)]) (rSet ?_ rfl) ?_
    · have hz : sml (things s5.length (s5.length + 1) p).length = true := rfl
      have := tA_ok (p := p) (env := [some x0, some (.ref b), some (.ref p), some (.ref (s3.length + 1)), none, none, none, none, none, none, none]) (st := s5) rfl
      simp only [eLst, bnd, this, mkLst, hz, if_true]
      simp
    obtain ⟨s6, hs6⟩ : ∃ s, s5 ++ [SO.lst [W.int 1]] ++ [SO.dct [(Sum.inl 2, W.int 3)]] ++ [SO.lst (things s5.length (s5.length + 1) p)] = s := ⟨_, rfl⟩
    rw [hs6]
    have G6 : Gr s5 s6 := by rw [← hs6]; exact ((Fr.app _).trans (.app _)).trans (.app _)
    have T6 : s6[s5.length + 2]? = some (.lst (things s5.length (s5.length + 1) p)) := by rw [← hs6]; simp
    have G26 := G5.trans G6
    have Th6 : There s5.length (s5.length + 1) p s6 := ⟨by rw [← hs6]; simp, by rw [← hs6]; simp, fs, G26.get P2 (by simp), P3, P4⟩
    have l25 := G5.len
    have C6 := G6.get C5 (by simp)
    have B6 := B2.gr G26
    have hb2 := B2.lt
    obtain ⟨ks, s7, k1, k2, k3, k4, G7⟩ := kept_ok (env := [some x0, some (.ref b), some (.ref p), some (.ref (s3.length + 1)), some (.ref (s5.length + 2)), none, none, none, none, none, none]) B6 rfl rfl rfl T6 (by omega) (by omega) (by simp [things]) (by simp [things])
    have l56 := G6.len
    have l45 : s4.length = s5.length := by rw [← hs5]; simp
    have bp : b ≠ p ∧ g ≠ p := by omega
    refine rc [some x0, some (.ref b), some (.ref p), some (.ref (s3.length + 1)), some (.ref (s5.length + 2)), some (.ref s6.length), none, none, none, none, none] s7 (rSet k1 rfl) ?_
    have C7 : s7[s3.length + 1]? = some (.lst A3) := G7.get C6 (by omega)
    have Th7 : There s5.length (s5.length + 1) p s7 := by
      obtain ⟨fs', c1, c2⟩ := Th6.c
      exact ⟨G7.get Th6.a (by omega), G7.get Th6.b (by omega), fs', G7.get c1 (by omega), c2⟩
    have ix := fun n hn => fIx5 (env := [some x0, some (W.ref b), some (.ref p), some (.ref (s3.length + 1)), some (.ref (s5.length + 2)), some (.ref s6.length), none, none, none, none, none]) (st := s7) (lk := s6.length) rfl k2 k3 n hn
    have fe : fE lastA [some x0, some (W.ref b), some (.ref p), some (.ref (s3.length + 1)), some (.ref (s5.length + 2)), some (.ref s6.length), none, none, none, none, none] s7 = some ([made "BadProgram" (ks.getD 0 .non), made "BadPlacer" (ks.getD 1 .non), made "TooMany" (ks.getD 2 .non), made "BadImage" (ks.getD 3 .non), made "BadText" (ks.getD 4 .non)], s7) := by
      have i0 := ix 0 (by decide)
      have i1 := ix 1 (by decide)
      have i2 := ix 2 (by decide)
      have i3 := ix 3 (by decide)
      have i4 := ix 4 (by decide)
      simp only [Int.ofNat_eq_natCast, Int.cast_ofNat_Int] at i0 i1 i2 i3 i4
      simp only [fE, lastA, List.foldr, aCons, aNil, bnd, eUn, i0, i1, i2, i3, i4, fExc, B.ret]
      rfl
    obtain ⟨s8, a8, b8, G8⟩ := add_ok (a := fE lastA) (k := 3) (i := s3.length + 1) rfl C7 fe (by rw [A3e]; simp [plains, ORD])
    refine rc [some x0, some (.ref b), some (.ref p), some (.ref (s7.length + 1)), some (.ref (s5.length + 2)), some (.ref s6.length), none, none, none, none, none] s8 (rSet a8 rfl) ?_
    have K8 := G8.get k2 (by simp)
    have ixn := fIx5 (env := [some x0, some (W.ref b), some (.ref p), some (.ref (s7.length + 1)), some (.ref (s5.length + 2)), some (.ref s6.length), none, none, none, none, none]) (st := s8) (lk := s6.length) rfl K8 k3 5 (by decide)
    refine rc _ _ (app_ok (k := 3) (i := s7.length + 1) (w := made "NoName" (ks.getD 5 .non)) rfl b8 (by simp only [Int.ofNat_eq_natCast, Int.cast_ofNat_Int] at ixn; simp only [eUn, bnd, ixn, fExc]; rfl) (by rw [A3e]; simp [plains, ORD])) ?_
    have hMD : A3 ++ [made "BadProgram" (ks.getD 0 .non), made "BadPlacer" (ks.getD 1 .non), made "TooMany" (ks.getD 2 .non), made "BadImage" (ks.getD 3 .non), made "BadText" (ks.getD 4 .non)] ++ [made "NoName" (ks.getD 5 .non)] = MD ks := by
      rw [A3e, MD, List.append_assoc]; rfl
    rw [hMD]
    obtain ⟨s9, hs9⟩ : ∃ s, s8.set (s7.length + 1) (.lst (MD ks)) = s := ⟨_, rfl⟩
    rw [hs9]
    have l8 := lt_of_get b8
    have C9 : s9[s7.length + 1]? = some (.lst (MD ks)) := by rw [← hs9]; exact List.getElem?_set_self l8
    have G9 : Gr s7 s9 := by
      rw [← hs9]
      exact G8.own (P := fun i => i = s7.length + 1) (.set _ rfl) (fun i hi e => by omega)
    have Th9 := Th7.gr G9
    have K9 := G9.get k2 (by simp)
    obtain ⟨fl, env', s10, r1, r2⟩ := for_go (src := srcEnR (s7.length + 1)) (p := .tp [.nm 6, .nm 7]) (b := fb3_law) ((List.range 25).map fun (n : Nat) => W.tup [.int n, made (cAt n) (ks.getD (n - 19) .non)])
      (fun j env s => Gr s9 s ∧ env.length = 11 ∧ env[5]? = some (some (.ref s6.length))) (fun _ _ => False)
      (fun j env s ⟨I1, _, _⟩ hj => by
        have hc := I1.get C9 (by simp)
        simp only [srcEnR, hc, List.getElem?_map]
        by_cases q : j < 25
        · rw [MD_get ks j q, List.getElem?_range q]; rfl
        · have h1 : (MD ks)[j]? = none := List.getElem?_eq_none (by rw [MD_len]; omega)
          have h2 : (List.range 25)[j]? = none := List.getElem?_eq_none (by simp; omega)
          rw [h1, h2]; rfl)
      (fun j env s x ⟨I1, I2, I3⟩ hx => by
        rw [List.getElem?_map] at hx
        by_cases q : j < 25
        · rw [List.getElem?_range q] at hx
          simp only [Option.map_some, Option.some.injEq] at hx
          subst hx
          obtain ⟨env1, he1⟩ : ∃ e, (env.set 6 (some (W.int j))).set 7 (some (made (cAt j) (ks.getD (j - 19) .non))) = e := ⟨_, rfl⟩
          have E1 : EnvN s6.length j (made (cAt j) (ks.getD (j - 19) .non)) env1 := by
            rw [← he1]
            exact ⟨by simp [I2], by rw [List.getElem?_set_ne (by decide), List.getElem?_set_ne (by decide)]; exact I3, by rw [List.getElem?_set_ne (by decide), List.getElem?_set_self (by rw [I2]; decide)], by rw [List.getElem?_set_self (by rw [List.length_set, I2]; decide)]⟩
          obtain ⟨e2, s', q1, ⟨o, q2⟩, q3⟩ := iter q E1 (Th9.gr I1) (I1.get K9 (by simp)) k3 (fun hq => by
            have hl : j - 19 < ks.length := by omega
            have e : ks.getD (j - 19) .non = ks[j - 19] := by rw [List.getD_eq_getElem?_getD, List.getElem?_eq_getElem hl]; rfl
            rw [e]
            exact ⟨List.getElem?_eq_getElem hl, k4 _ (List.getElem_mem hl)⟩)
          refine ⟨env1, .nx, e2, s', by rw [← he1]; simp, q1, .inl ⟨rfl, I1.trans q3, by rw [q2, List.length_set]; exact E1.len, by rw [q2, List.getElem?_set_ne (by decide)]; exact E1.h5⟩⟩
        · rw [List.getElem?_eq_none (by simp; omega)] at hx; cases hx)
      1000000 0 [some x0, some (.ref b), some (.ref p), some (.ref (s7.length + 1)), some (.ref (s5.length + 2)), some (.ref s6.length), none, none, none, none, none] s9 ⟨.refl, rfl, rfl⟩ (by omega) (by simp)
    rcases r2 with ⟨rfl, _⟩ | ⟨_, _, z⟩
    · refine rc env' s10 (rFor ?_ r1) ?_
      · simp only [iEnumM, bnd, aCons, aNil, eVar, List.getElem?_cons_succ, List.getElem?_cons_zero, B.ret, C9]
      · exact rR _ s10 rfl rfl
    · exact z.elim
  obtain ⟨r, st, e, rfl⟩ := go
  exact ⟨st, e⟩
end K00

set_option Elab.async false
set_option linter.all false
set_option maxRecDepth 100000
set_option maxHeartbeats 1000000
namespace K00
open PySem PySem.Spec L2 B
set_option autoImplicit false
theorem all_mk {l : PySem.W.OpenLaw} {w : World} {K : PySem.W.Frag} {h : Heap} {mg : Str → Option Value} {fa X_NoKind X_NoKinds X_BadProgram X_NoBody X_NoPoint X_NoInputs X_NoNumber X_IsOver X_NoPlace X_BadPlacer X_TooMany X_NoLot X_NoSpot X_NoSource X_NoWords X_NoKinding X_NoOver X_BadImage X_NoText X_NoRecord X_BadText X_NothingDone X_NoForm X_NoName X_NothingChosen Y_NoKind Y_NoKinds Y_BadProgram Y_NoBody Y_NoPoint Y_NoInputs Y_NoNumber Y_IsOver Y_NoPlace Y_BadPlacer Y_TooMany Y_NoLot Y_NoSpot Y_NoSource Y_NoWords Y_NoKinding Y_NoOver Y_BadImage Y_NoText Y_NoRecord Y_BadText Y_NothingDone Y_NoForm Y_NoName Y_NothingChosen X_W0 f0 f1 f2 f3 f4 f5 f6 f7 f8 f9 f10 f11 f12 f13 f14 f15 f16 f17 f18 f19 f20 f21 f22 f23 f24 f25 f26 f27 f28 f29 f30 f31 f32 f33 f34 f35 f36 f37 f38 f39 f40 f41 f42 f43 f44 f45 f46 f47 f48 f49 f50 f51 f52 f53 f54 f55 f56 f57 f58 f59 f60 f61 f62 f63 A_NIL A_NUM A_END_FORMS A_STEP_FORMS A_STEP_KINDS C_Program : Addr} (X : K.In h) (G : h.Ns mainGlobals mg) (hfa : mg "law" = some (.ref fa))
    {od0 an0 od1 an1 od2 an2 od3 an3 od4 an4 od5 an5 od6 an6 od7 an7 od8 an8 od9 an9 od10 an10 od11 an11 od12 an12 od13 an13 od14 an14 od15 an15 od16 an16 od17 an17 od18 an18 od19 an19 od20 an20 od21 an21 od22 an22 od23 an23 od24 an24 od25 an25 od26 an26 od27 an27 od28 an28 od29 an29 od30 an30 od31 an31 od32 an32 od33 an33 od34 an34 od35 an35 od36 an36 od37 an37 od38 an38 od39 an39 od40 an40 od41 an41 od42 an42 od43 an43 od44 an44 od45 an45 od46 an46 od47 an47 od48 an48 od49 an49 od50 an50 od51 an51 od52 an52 od53 an53 od54 an54 od55 an55 od56 an56 od57 an57 od58 an58 od59 an59 od60 an60 od61 an61 od62 an62 od63 an63 xd0 xa0 xd1 xa1 xd2 xa2 xd3 xa3 xd4 xa4 xd5 xa5 xd6 xa6 xd7 xa7 xd8 xa8 xd9 xa9 xd10 xa10 xd11 xa11 xd12 xa12 xd13 xa13 xd14 xa14 xd15 xa15 xd16 xa16 xd17 xa17 xd18 xa18 xd19 xa19 xd20 xa20 xd21 xa21 xd22 xa22 xd23 xa23 xd24 xa24 : Option Addr} {sl0 sl1 sl2 sl3 sl4 sl5 sl6 sl7 sl8 sl9 sl10 sl11 sl12 sl13 sl14 sl15 sl16 sl17 sl18 sl19 sl20 sl21 sl22 sl23 sl24 sl25 sl26 sl27 sl28 sl29 sl30 sl31 sl32 sl33 sl34 sl35 sl36 sl37 sl38 sl39 sl40 sl41 sl42 sl43 sl44 sl45 sl46 sl47 sl48 sl49 sl50 sl51 sl52 sl53 sl54 sl55 sl56 sl57 sl58 sl59 sl60 sl61 sl62 sl63 xs0 xs1 xs2 xs3 xs4 xs5 xs6 xs7 xs8 xs9 xs10 xs11 xs12 xs13 xs14 xs15 xs16 xs17 xs18 xs19 xs20 xs21 xs22 xs23 xs24 : Array (Option Value)} {oc0 kV0 dc0 pm0 cd0 ct0 oc1 kV1 dc1 pm1 cd1 ct1 oc2 kV2 dc2 pm2 cd2 ct2 oc3 kV3 dc3 pm3 cd3 ct3 oc4 kV4 dc4 pm4 cd4 ct4 oc5 kV5 dc5 pm5 cd5 ct5 oc6 kV6 dc6 pm6 cd6 ct6 oc7 kV7 dc7 pm7 cd7 ct7 oc8 kV8 dc8 pm8 cd8 ct8 oc9 kV9 dc9 pm9 cd9 ct9 oc10 kV10 dc10 pm10 cd10 ct10 oc11 kV11 dc11 pm11 cd11 ct11 oc12 kV12 dc12 pm12 cd12 ct12 oc13 kV13 dc13 pm13 cd13 ct13 oc14 kV14 dc14 pm14 cd14 ct14 oc15 kV15 dc15 pm15 cd15 ct15 oc16 kV16 dc16 pm16 cd16 ct16 oc17 kV17 dc17 pm17 cd17 ct17 oc18 kV18 dc18 pm18 cd18 ct18 oc19 kV19 dc19 pm19 cd19 ct19 oc20 kV20 dc20 pm20 cd20 ct20 oc21 kV21 dc21 pm21 cd21 ct21 oc22 kV22 dc22 pm22 cd22 ct22 oc23 kV23 dc23 pm23 cd23 ct23 oc24 kV24 dc24 pm24 cd24 ct24 oc25 kV25 dc25 pm25 cd25 ct25 oc26 kV26 dc26 pm26 cd26 ct26 oc27 kV27 dc27 pm27 cd27 ct27 oc28 kV28 dc28 pm28 cd28 ct28 oc29 kV29 dc29 pm29 cd29 ct29 oc30 kV30 dc30 pm30 cd30 ct30 oc31 kV31 dc31 pm31 cd31 ct31 oc32 kV32 dc32 pm32 cd32 ct32 oc33 kV33 dc33 pm33 cd33 ct33 oc34 kV34 dc34 pm34 cd34 ct34 oc35 kV35 dc35 pm35 cd35 ct35 oc36 kV36 dc36 pm36 cd36 ct36 oc37 kV37 dc37 pm37 cd37 ct37 oc38 kV38 dc38 pm38 cd38 ct38 oc39 kV39 dc39 pm39 cd39 ct39 oc40 kV40 dc40 pm40 cd40 ct40 oc41 kV41 dc41 pm41 cd41 ct41 oc42 kV42 dc42 pm42 cd42 ct42 oc43 kV43 dc43 pm43 cd43 ct43 oc44 kV44 dc44 pm44 cd44 ct44 oc45 kV45 dc45 pm45 cd45 ct45 oc46 kV46 dc46 pm46 cd46 ct46 oc47 kV47 dc47 pm47 cd47 ct47 oc48 kV48 dc48 pm48 cd48 ct48 oc49 kV49 dc49 pm49 cd49 ct49 oc50 kV50 dc50 pm50 cd50 ct50 oc51 kV51 dc51 pm51 cd51 ct51 oc52 kV52 dc52 pm52 cd52 ct52 oc53 kV53 dc53 pm53 cd53 ct53 oc54 kV54 dc54 pm54 cd54 ct54 oc55 kV55 dc55 pm55 cd55 ct55 oc56 kV56 dc56 pm56 cd56 ct56 oc57 kV57 dc57 pm57 cd57 ct57 oc58 kV58 dc58 pm58 cd58 ct58 oc59 kV59 dc59 pm59 cd59 ct59 oc60 kV60 dc60 pm60 cd60 ct60 oc61 kV61 dc61 pm61 cd61 ct61 oc62 kV62 dc62 pm62 cd62 ct62 oc63 kV63 dc63 pm63 cd63 ct63 xo0 xk0 xc0 xp0 xe0 xt0 xo1 xk1 xc1 xp1 xe1 xt1 xo2 xk2 xc2 xp2 xe2 xt2 xo3 xk3 xc3 xp3 xe3 xt3 xo4 xk4 xc4 xp4 xe4 xt4 xo5 xk5 xc5 xp5 xe5 xt5 xo6 xk6 xc6 xp6 xe6 xt6 xo7 xk7 xc7 xp7 xe7 xt7 xo8 xk8 xc8 xp8 xe8 xt8 xo9 xk9 xc9 xp9 xe9 xt9 xo10 xk10 xc10 xp10 xe10 xt10 xo11 xk11 xc11 xp11 xe11 xt11 xo12 xk12 xc12 xp12 xe12 xt12 xo13 xk13 xc13 xp13 xe13 xt13 xo14 xk14 xc14 xp14 xe14 xt14 xo15 xk15 xc15 xp15 xe15 xt15 xo16 xk16 xc16 xp16 xe16 xt16 xo17 xk17 xc17 xp17 xe17 xt17 xo18 xk18 xc18 xp18 xe18 xt18 xo19 xk19 xc19 xp19 xe19 xt19 xo20 xk20 xc20 xp20 xe20 xt20 xo21 xk21 xc21 xp21 xe21 xt21 xo22 xk22 xc22 xp22 xe22 xt22 xo23 xk23 xc23 xp23 xe23 xt23 xo24 xk24 xc24 xp24 xe24 xt24 : Value}
    {tk_LARGEST tk_MOST_BLOCKS_DEEP tk_MOST_BODIES tk_MOST_BODY_LETTERS tk_MOST_CHOICES tk_MOST_CHOICE_LETTERS tk_MOST_KINDS tk_MOST_KINDS_DEEP tk_MOST_KINDS_IN_PLACE tk_MOST_LEFT tk_MOST_PARTS tk_MOST_PLACES tk_MOST_ROW tk_MOST_STEPS tk_MOST_WAYS : Tok} {cdW0 : ClassData}
    (v_Program : PySem.W.nsIn K mainGlobals "Program" = some (some (.ref C_Program)))
    (a0 : PySem.W.nsIn K mainGlobals "is_tuple" = some (some (.ref f0)))
    (l0 : K.lookup f0 = some ⟨oc0, od0, .func (PySem.W.fnOf "is_tuple" "is_tuple" (defArgs s_is_tuple) (defBody s_is_tuple) (defScope s_is_tuple) .none kV0 dc0 pm0 an0 cd0 ct0), sl0⟩)
    (c0 : PySem.W.codeIn K cd0 "is_tuple" = true)
    (k0 : PySem.W.keepIn K (.ref f0) = true)
    (a1 : PySem.W.nsIn K mainGlobals "is_integer" = some (some (.ref f1)))
    (l1 : K.lookup f1 = some ⟨oc1, od1, .func (PySem.W.fnOf "is_integer" "is_integer" (defArgs s_is_integer) (defBody s_is_integer) (defScope s_is_integer) .none kV1 dc1 pm1 an1 cd1 ct1), sl1⟩)
    (c1 : PySem.W.codeIn K cd1 "is_integer" = true)
    (k1 : PySem.W.keepIn K (.ref f1) = true)
    (a2 : PySem.W.nsIn K mainGlobals "is_between" = some (some (.ref f2)))
    (l2 : K.lookup f2 = some ⟨oc2, od2, .func (PySem.W.fnOf "is_between" "is_between" (defArgs s_is_between) (defBody s_is_between) (defScope s_is_between) .none kV2 dc2 pm2 an2 cd2 ct2), sl2⟩)
    (c2 : PySem.W.codeIn K cd2 "is_between" = true)
    (k2 : PySem.W.keepIn K (.ref f2) = true)
    (a3 : PySem.W.nsIn K mainGlobals "letters_told" = some (some (.ref f3)))
    (l3 : K.lookup f3 = some ⟨oc3, od3, .func (PySem.W.fnOf "letters_told" "letters_told" (defArgs s_letters_told) (defBody s_letters_told) (defScope s_letters_told) .none kV3 dc3 pm3 an3 cd3 ct3), sl3⟩)
    (c3 : PySem.W.codeIn K cd3 "letters_told" = true)
    (k3 : PySem.W.keepIn K (.ref f3) = true)
    (a4 : PySem.W.nsIn K mainGlobals "choice_letters" = some (some (.ref f4)))
    (l4 : K.lookup f4 = some ⟨oc4, od4, .func (PySem.W.fnOf "choice_letters" "choice_letters" (defArgs s_choice_letters) (defBody s_choice_letters) (defScope s_choice_letters) .none kV4 dc4 pm4 an4 cd4 ct4), sl4⟩)
    (c4 : PySem.W.codeIn K cd4 "choice_letters" = true)
    (k4 : PySem.W.keepIn K (.ref f4) = true)
    (a5 : PySem.W.nsIn K mainGlobals "is_natural" = some (some (.ref f5)))
    (l5 : K.lookup f5 = some ⟨oc5, od5, .func (PySem.W.fnOf "is_natural" "is_natural" (defArgs s_is_natural) (defBody s_is_natural) (defScope s_is_natural) .none kV5 dc5 pm5 an5 cd5 ct5), sl5⟩)
    (c5 : PySem.W.codeIn K cd5 "is_natural" = true)
    (k5 : PySem.W.keepIn K (.ref f5) = true)
    (a6 : PySem.W.nsIn K mainGlobals "has_outer_form" = some (some (.ref f6)))
    (l6 : K.lookup f6 = some ⟨oc6, od6, .func (PySem.W.fnOf "has_outer_form" "has_outer_form" (defArgs s_has_outer_form) (defBody s_has_outer_form) (defScope s_has_outer_form) .none kV6 dc6 pm6 an6 cd6 ct6), sl6⟩)
    (c6 : PySem.W.codeIn K cd6 "has_outer_form" = true)
    (k6 : PySem.W.keepIn K (.ref f6) = true)
    (a7 : PySem.W.nsIn K mainGlobals "kinds_within" = some (some (.ref f7)))
    (l7 : K.lookup f7 = some ⟨oc7, od7, .func (PySem.W.fnOf "kinds_within" "kinds_within" (defArgs s_kinds_within) (defBody s_kinds_within) (defScope s_kinds_within) .none kV7 dc7 pm7 an7 cd7 ct7), sl7⟩)
    (c7 : PySem.W.codeIn K cd7 "kinds_within" = true)
    (k7 : PySem.W.keepIn K (.ref f7) = true)
    (a8 : PySem.W.nsIn K mainGlobals "is_kind" = some (some (.ref f8)))
    (l8 : K.lookup f8 = some ⟨oc8, od8, .func (PySem.W.fnOf "is_kind" "is_kind" (defArgs s_is_kind) (defBody s_is_kind) (defScope s_is_kind) .none kV8 dc8 pm8 an8 cd8 ct8), sl8⟩)
    (c8 : PySem.W.codeIn K cd8 "is_kind" = true)
    (k8 : PySem.W.keepIn K (.ref f8) = true)
    (a9 : PySem.W.nsIn K mainGlobals "names_what_is" = some (some (.ref f9)))
    (l9 : K.lookup f9 = some ⟨oc9, od9, .func (PySem.W.fnOf "names_what_is" "names_what_is" (defArgs s_names_what_is) (defBody s_names_what_is) (defScope s_names_what_is) .none kV9 dc9 pm9 an9 cd9 ct9), sl9⟩)
    (c9 : PySem.W.codeIn K cd9 "names_what_is" = true)
    (k9 : PySem.W.keepIn K (.ref f9) = true)
    (a10 : PySem.W.nsIn K mainGlobals "may_be_written" = some (some (.ref f10)))
    (l10 : K.lookup f10 = some ⟨oc10, od10, .func (PySem.W.fnOf "may_be_written" "may_be_written" (defArgs s_may_be_written) (defBody s_may_be_written) (defScope s_may_be_written) .none kV10 dc10 pm10 an10 cd10 ct10), sl10⟩)
    (c10 : PySem.W.codeIn K cd10 "may_be_written" = true)
    (k10 : PySem.W.keepIn K (.ref f10) = true)
    (a11 : PySem.W.nsIn K mainGlobals "is_way" = some (some (.ref f11)))
    (l11 : K.lookup f11 = some ⟨oc11, od11, .func (PySem.W.fnOf "is_way" "is_way" (defArgs s_is_way) (defBody s_is_way) (defScope s_is_way) .none kV11 dc11 pm11 an11 cd11 ct11), sl11⟩)
    (c11 : PySem.W.codeIn K cd11 "is_way" = true)
    (k11 : PySem.W.keepIn K (.ref f11) = true)
    (a12 : PySem.W.nsIn K mainGlobals "is_choice" = some (some (.ref f12)))
    (l12 : K.lookup f12 = some ⟨oc12, od12, .func (PySem.W.fnOf "is_choice" "is_choice" (defArgs s_is_choice) (defBody s_is_choice) (defScope s_is_choice) .none kV12 dc12 pm12 an12 cd12 ct12), sl12⟩)
    (c12 : PySem.W.codeIn K cd12 "is_choice" = true)
    (k12 : PySem.W.keepIn K (.ref f12) = true)
    (a13 : PySem.W.nsIn K mainGlobals "body_letters" = some (some (.ref f13)))
    (l13 : K.lookup f13 = some ⟨oc13, od13, .func (PySem.W.fnOf "body_letters" "body_letters" (defArgs s_body_letters) (defBody s_body_letters) (defScope s_body_letters) .none kV13 dc13 pm13 an13 cd13 ct13), sl13⟩)
    (c13 : PySem.W.codeIn K cd13 "body_letters" = true)
    (k13 : PySem.W.keepIn K (.ref f13) = true)
    (a14 : PySem.W.nsIn K mainGlobals "are_kinds" = some (some (.ref f14)))
    (l14 : K.lookup f14 = some ⟨oc14, od14, .func (PySem.W.fnOf "are_kinds" "are_kinds" (defArgs s_are_kinds) (defBody s_are_kinds) (defScope s_are_kinds) .none kV14 dc14 pm14 an14 cd14 ct14), sl14⟩)
    (c14 : PySem.W.codeIn K cd14 "are_kinds" = true)
    (k14 : PySem.W.keepIn K (.ref f14) = true)
    (a15 : PySem.W.nsIn K mainGlobals "head_of" = some (some (.ref f15)))
    (l15 : K.lookup f15 = some ⟨oc15, od15, .func (PySem.W.fnOf "head_of" "head_of" (defArgs s_head_of) (defBody s_head_of) (defScope s_head_of) .none kV15 dc15 pm15 an15 cd15 ct15), sl15⟩)
    (c15 : PySem.W.codeIn K cd15 "head_of" = true)
    (k15 : PySem.W.keepIn K (.ref f15) = true)
    (a16 : PySem.W.nsIn K mainGlobals "are_naturals" = some (some (.ref f16)))
    (l16 : K.lookup f16 = some ⟨oc16, od16, .func (PySem.W.fnOf "are_naturals" "are_naturals" (defArgs s_are_naturals) (defBody s_are_naturals) (defScope s_are_naturals) .none kV16 dc16 pm16 an16 cd16 ct16), sl16⟩)
    (c16 : PySem.W.codeIn K cd16 "are_naturals" = true)
    (k16 : PySem.W.keepIn K (.ref f16) = true)
    (a17 : PySem.W.nsIn K mainGlobals "word_has_form" = some (some (.ref f17)))
    (l17 : K.lookup f17 = some ⟨oc17, od17, .func (PySem.W.fnOf "word_has_form" "word_has_form" (defArgs s_word_has_form) (defBody s_word_has_form) (defScope s_word_has_form) .none kV17 dc17 pm17 an17 cd17 ct17), sl17⟩)
    (c17 : PySem.W.codeIn K cd17 "word_has_form" = true)
    (k17 : PySem.W.keepIn K (.ref f17) = true)
    (a18 : PySem.W.nsIn K mainGlobals "words_have_forms" = some (some (.ref f18)))
    (l18 : K.lookup f18 = some ⟨oc18, od18, .func (PySem.W.fnOf "words_have_forms" "words_have_forms" (defArgs s_words_have_forms) (defBody s_words_have_forms) (defScope s_words_have_forms) .none kV18 dc18 pm18 an18 cd18 ct18), sl18⟩)
    (c18 : PySem.W.codeIn K cd18 "words_have_forms" = true)
    (k18 : PySem.W.keepIn K (.ref f18) = true)
    (a19 : PySem.W.nsIn K mainGlobals "is_step" = some (some (.ref f19)))
    (l19 : K.lookup f19 = some ⟨oc19, od19, .func (PySem.W.fnOf "is_step" "is_step" (defArgs s_is_step) (defBody s_is_step) (defScope s_is_step) .none kV19 dc19 pm19 an19 cd19 ct19), sl19⟩)
    (c19 : PySem.W.codeIn K cd19 "is_step" = true)
    (k19 : PySem.W.keepIn K (.ref f19) = true)
    (a20 : PySem.W.nsIn K mainGlobals "is_end" = some (some (.ref f20)))
    (l20 : K.lookup f20 = some ⟨oc20, od20, .func (PySem.W.fnOf "is_end" "is_end" (defArgs s_is_end) (defBody s_is_end) (defScope s_is_end) .none kV20 dc20 pm20 an20 cd20 ct20), sl20⟩)
    (c20 : PySem.W.codeIn K cd20 "is_end" = true)
    (k20 : PySem.W.keepIn K (.ref f20) = true)
    (a21 : PySem.W.nsIn K mainGlobals "blocks_within" = some (some (.ref f21)))
    (l21 : K.lookup f21 = some ⟨oc21, od21, .func (PySem.W.fnOf "blocks_within" "blocks_within" (defArgs s_blocks_within) (defBody s_blocks_within) (defScope s_blocks_within) .none kV21 dc21 pm21 an21 cd21 ct21), sl21⟩)
    (c21 : PySem.W.codeIn K cd21 "blocks_within" = true)
    (k21 : PySem.W.keepIn K (.ref f21) = true)
    (a22 : PySem.W.nsIn K mainGlobals "rows_of" = some (some (.ref f22)))
    (l22 : K.lookup f22 = some ⟨oc22, od22, .func (PySem.W.fnOf "rows_of" "rows_of" (defArgs s_rows_of) (defBody s_rows_of) (defScope s_rows_of) .none kV22 dc22 pm22 an22 cd22 ct22), sl22⟩)
    (c22 : PySem.W.codeIn K cd22 "rows_of" = true)
    (k22 : PySem.W.keepIn K (.ref f22) = true)
    (a23 : PySem.W.nsIn K mainGlobals "body_rows" = some (some (.ref f23)))
    (l23 : K.lookup f23 = some ⟨oc23, od23, .func (PySem.W.fnOf "body_rows" "body_rows" (defArgs s_body_rows) (defBody s_body_rows) (defScope s_body_rows) .none kV23 dc23 pm23 an23 cd23 ct23), sl23⟩)
    (c23 : PySem.W.codeIn K cd23 "body_rows" = true)
    (k23 : PySem.W.keepIn K (.ref f23) = true)
    (a24 : PySem.W.nsIn K mainGlobals "has_right_kinds" = some (some (.ref f24)))
    (l24 : K.lookup f24 = some ⟨oc24, od24, .func (PySem.W.fnOf "has_right_kinds" "has_right_kinds" (defArgs s_has_right_kinds) (defBody s_has_right_kinds) (defScope s_has_right_kinds) .none kV24 dc24 pm24 an24 cd24 ct24), sl24⟩)
    (c24 : PySem.W.codeIn K cd24 "has_right_kinds" = true)
    (k24 : PySem.W.keepIn K (.ref f24) = true)
    (a25 : PySem.W.nsIn K mainGlobals "takes_numbers_alone" = some (some (.ref f25)))
    (l25 : K.lookup f25 = some ⟨oc25, od25, .func (PySem.W.fnOf "takes_numbers_alone" "takes_numbers_alone" (defArgs s_takes_numbers_alone) (defBody s_takes_numbers_alone) (defScope s_takes_numbers_alone) .none kV25 dc25 pm25 an25 cd25 ct25), sl25⟩)
    (c25 : PySem.W.codeIn K cd25 "takes_numbers_alone" = true)
    (k25 : PySem.W.keepIn K (.ref f25) = true)
    (a26 : PySem.W.nsIn K mainGlobals "body_fault" = some (some (.ref f26)))
    (l26 : K.lookup f26 = some ⟨oc26, od26, .func (PySem.W.fnOf "body_fault" "body_fault" (defArgs s_body_fault) (defBody s_body_fault) (defScope s_body_fault) .none kV26 dc26 pm26 an26 cd26 ct26), sl26⟩)
    (c26 : PySem.W.codeIn K cd26 "body_fault" = true)
    (k26 : PySem.W.keepIn K (.ref f26) = true)
    (a27 : PySem.W.nsIn K mainGlobals "form_fault" = some (some (.ref f27)))
    (l27 : K.lookup f27 = some ⟨oc27, od27, .func (PySem.W.fnOf "form_fault" "form_fault" (defArgs s_form_fault) (defBody s_form_fault) (defScope s_form_fault) .none kV27 dc27 pm27 an27 cd27 ct27), sl27⟩)
    (c27 : PySem.W.codeIn K cd27 "form_fault" = true)
    (k27 : PySem.W.keepIn K (.ref f27) = true)
    (a28 : PySem.W.nsIn K mainGlobals "num_kind" = some (some (.ref f28)))
    (l28 : K.lookup f28 = some ⟨oc28, od28, .func (PySem.W.fnOf "num_kind" "num_kind" (defArgs s_num_kind) (defBody s_num_kind) (defScope s_num_kind) .none kV28 dc28 pm28 an28 cd28 ct28), sl28⟩)
    (c28 : PySem.W.codeIn K cd28 "num_kind" = true)
    (k28 : PySem.W.keepIn K (.ref f28) = true)
    (a29 : PySem.W.nsIn K mainGlobals "nil_kind" = some (some (.ref f29)))
    (l29 : K.lookup f29 = some ⟨oc29, od29, .func (PySem.W.fnOf "nil_kind" "nil_kind" (defArgs s_nil_kind) (defBody s_nil_kind) (defScope s_nil_kind) .none kV29 dc29 pm29 an29 cd29 ct29), sl29⟩)
    (c29 : PySem.W.codeIn K cd29 "nil_kind" = true)
    (k29 : PySem.W.keepIn K (.ref f29) = true)
    (a30 : PySem.W.nsIn K mainGlobals "are_made_alike" = some (some (.ref f30)))
    (l30 : K.lookup f30 = some ⟨oc30, od30, .func (PySem.W.fnOf "are_made_alike" "are_made_alike" (defArgs s_are_made_alike) (defBody s_are_made_alike) (defScope s_are_made_alike) .none kV30 dc30 pm30 an30 cd30 ct30), sl30⟩)
    (c30 : PySem.W.codeIn K cd30 "are_made_alike" = true)
    (k30 : PySem.W.keepIn K (.ref f30) = true)
    (a31 : PySem.W.nsIn K mainGlobals "are_same" = some (some (.ref f31)))
    (l31 : K.lookup f31 = some ⟨oc31, od31, .func (PySem.W.fnOf "are_same" "are_same" (defArgs s_are_same) (defBody s_are_same) (defScope s_are_same) .none kV31 dc31 pm31 an31 cd31 ct31), sl31⟩)
    (c31 : PySem.W.codeIn K cd31 "are_same" = true)
    (k31 : PySem.W.keepIn K (.ref f31) = true)
    (a32 : PySem.W.nsIn K mainGlobals "are_there" = some (some (.ref f32)))
    (l32 : K.lookup f32 = some ⟨oc32, od32, .func (PySem.W.fnOf "are_there" "are_there" (defArgs s_are_there) (defBody s_are_there) (defScope s_are_there) .none kV32 dc32 pm32 an32 cd32 ct32), sl32⟩)
    (c32 : PySem.W.codeIn K cd32 "are_there" = true)
    (k32 : PySem.W.keepIn K (.ref f32) = true)
    (a33 : PySem.W.nsIn K mainGlobals "sum_kind" = some (some (.ref f33)))
    (l33 : K.lookup f33 = some ⟨oc33, od33, .func (PySem.W.fnOf "sum_kind" "sum_kind" (defArgs s_sum_kind) (defBody s_sum_kind) (defScope s_sum_kind) .none kV33 dc33 pm33 an33 cd33 ct33), sl33⟩)
    (c33 : PySem.W.codeIn K cd33 "sum_kind" = true)
    (k33 : PySem.W.keepIn K (.ref f33) = true)
    (a34 : PySem.W.nsIn K mainGlobals "row_kind" = some (some (.ref f34)))
    (l34 : K.lookup f34 = some ⟨oc34, od34, .func (PySem.W.fnOf "row_kind" "row_kind" (defArgs s_row_kind) (defBody s_row_kind) (defScope s_row_kind) .none kV34 dc34 pm34 an34 cd34 ct34), sl34⟩)
    (c34 : PySem.W.codeIn K cd34 "row_kind" = true)
    (k34 : PySem.W.keepIn K (.ref f34) = true)
    (a35 : PySem.W.nsIn K mainGlobals "there_with" = some (some (.ref f35)))
    (l35 : K.lookup f35 = some ⟨oc35, od35, .func (PySem.W.fnOf "there_with" "there_with" (defArgs s_there_with) (defBody s_there_with) (defScope s_there_with) .none kV35 dc35 pm35 an35 cd35 ct35), sl35⟩)
    (c35 : PySem.W.codeIn K cd35 "there_with" = true)
    (k35 : PySem.W.keepIn K (.ref f35) = true)
    (a36 : PySem.W.nsIn K mainGlobals "part_kind" = some (some (.ref f36)))
    (l36 : K.lookup f36 = some ⟨oc36, od36, .func (PySem.W.fnOf "part_kind" "part_kind" (defArgs s_part_kind) (defBody s_part_kind) (defScope s_part_kind) .none kV36 dc36 pm36 an36 cd36 ct36), sl36⟩)
    (c36 : PySem.W.codeIn K cd36 "part_kind" = true)
    (k36 : PySem.W.keepIn K (.ref f36) = true)
    (a37 : PySem.W.nsIn K mainGlobals "with_kinds" = some (some (.ref f37)))
    (l37 : K.lookup f37 = some ⟨oc37, od37, .func (PySem.W.fnOf "with_kinds" "with_kinds" (defArgs s_with_kinds) (defBody s_with_kinds) (defScope s_with_kinds) .none kV37 dc37 pm37 an37 cd37 ct37), sl37⟩)
    (c37 : PySem.W.codeIn K cd37 "with_kinds" = true)
    (k37 : PySem.W.keepIn K (.ref f37) = true)
    (a38 : PySem.W.nsIn K mainGlobals "all_kinds" = some (some (.ref f38)))
    (l38 : K.lookup f38 = some ⟨oc38, od38, .func (PySem.W.fnOf "all_kinds" "all_kinds" (defArgs s_all_kinds) (defBody s_all_kinds) (defScope s_all_kinds) .none kV38 dc38 pm38 an38 cd38 ct38), sl38⟩)
    (c38 : PySem.W.codeIn K cd38 "all_kinds" = true)
    (k38 : PySem.W.keepIn K (.ref f38) = true)
    (a39 : PySem.W.nsIn K mainGlobals "folded" = some (some (.ref f39)))
    (l39 : K.lookup f39 = some ⟨oc39, od39, .func (PySem.W.fnOf "folded" "folded" (defArgs s_folded) (defBody s_folded) (defScope s_folded) .none kV39 dc39 pm39 an39 cd39 ct39), sl39⟩)
    (c39 : PySem.W.codeIn K cd39 "folded" = true)
    (k39 : PySem.W.keepIn K (.ref f39) = true)
    (a40 : PySem.W.nsIn K mainGlobals "put_in" = some (some (.ref f40)))
    (l40 : K.lookup f40 = some ⟨oc40, od40, .func (PySem.W.fnOf "put_in" "put_in" (defArgs s_put_in) (defBody s_put_in) (defScope s_put_in) .none kV40 dc40 pm40 an40 cd40 ct40), sl40⟩)
    (c40 : PySem.W.codeIn K cd40 "put_in" = true)
    (k40 : PySem.W.keepIn K (.ref f40) = true)
    (a41 : PySem.W.nsIn K mainGlobals "all_put_in" = some (some (.ref f41)))
    (l41 : K.lookup f41 = some ⟨oc41, od41, .func (PySem.W.fnOf "all_put_in" "all_put_in" (defArgs s_all_put_in) (defBody s_all_put_in) (defScope s_all_put_in) .none kV41 dc41 pm41 an41 cd41 ct41), sl41⟩)
    (c41 : PySem.W.codeIn K cd41 "all_put_in" = true)
    (k41 : PySem.W.keepIn K (.ref f41) = true)
    (a42 : PySem.W.nsIn K mainGlobals "way_kind" = some (some (.ref f42)))
    (l42 : K.lookup f42 = some ⟨oc42, od42, .func (PySem.W.fnOf "way_kind" "way_kind" (defArgs s_way_kind) (defBody s_way_kind) (defScope s_way_kind) .none kV42 dc42 pm42 an42 cd42 ct42), sl42⟩)
    (c42 : PySem.W.codeIn K cd42 "way_kind" = true)
    (k42 : PySem.W.keepIn K (.ref f42) = true)
    (a43 : PySem.W.nsIn K mainGlobals "take_kind" = some (some (.ref f43)))
    (l43 : K.lookup f43 = some ⟨oc43, od43, .func (PySem.W.fnOf "take_kind" "take_kind" (defArgs s_take_kind) (defBody s_take_kind) (defScope s_take_kind) .none kV43 dc43 pm43 an43 cd43 ct43), sl43⟩)
    (c43 : PySem.W.codeIn K cd43 "take_kind" = true)
    (k43 : PySem.W.keepIn K (.ref f43) = true)
    (a44 : PySem.W.nsIn K mainGlobals "box_kind" = some (some (.ref f44)))
    (l44 : K.lookup f44 = some ⟨oc44, od44, .func (PySem.W.fnOf "box_kind" "box_kind" (defArgs s_box_kind) (defBody s_box_kind) (defScope s_box_kind) .none kV44 dc44 pm44 an44 cd44 ct44), sl44⟩)
    (c44 : PySem.W.codeIn K cd44 "box_kind" = true)
    (k44 : PySem.W.keepIn K (.ref f44) = true)
    (a45 : PySem.W.nsIn K mainGlobals "open_kind" = some (some (.ref f45)))
    (l45 : K.lookup f45 = some ⟨oc45, od45, .func (PySem.W.fnOf "open_kind" "open_kind" (defArgs s_open_kind) (defBody s_open_kind) (defScope s_open_kind) .none kV45 dc45 pm45 an45 cd45 ct45), sl45⟩)
    (c45 : PySem.W.codeIn K cd45 "open_kind" = true)
    (k45 : PySem.W.keepIn K (.ref f45) = true)
    (a46 : PySem.W.nsIn K mainGlobals "put_kind" = some (some (.ref f46)))
    (l46 : K.lookup f46 = some ⟨oc46, od46, .func (PySem.W.fnOf "put_kind" "put_kind" (defArgs s_put_kind) (defBody s_put_kind) (defScope s_put_kind) .none kV46 dc46 pm46 an46 cd46 ct46), sl46⟩)
    (c46 : PySem.W.codeIn K cd46 "put_kind" = true)
    (k46 : PySem.W.keepIn K (.ref f46) = true)
    (a47 : PySem.W.nsIn K mainGlobals "print_kind" = some (some (.ref f47)))
    (l47 : K.lookup f47 = some ⟨oc47, od47, .func (PySem.W.fnOf "print_kind" "print_kind" (defArgs s_print_kind) (defBody s_print_kind) (defScope s_print_kind) .none kV47 dc47 pm47 an47 cd47 ct47), sl47⟩)
    (c47 : PySem.W.codeIn K cd47 "print_kind" = true)
    (k47 : PySem.W.keepIn K (.ref f47) = true)
    (a48 : PySem.W.nsIn K mainGlobals "body_kind" = some (some (.ref f48)))
    (l48 : K.lookup f48 = some ⟨oc48, od48, .func (PySem.W.fnOf "body_kind" "body_kind" (defArgs s_body_kind) (defBody s_body_kind) (defScope s_body_kind) .none kV48 dc48 pm48 an48 cd48 ct48), sl48⟩)
    (c48 : PySem.W.codeIn K cd48 "body_kind" = true)
    (k48 : PySem.W.keepIn K (.ref f48) = true)
    (a49 : PySem.W.nsIn K mainGlobals "call_kind" = some (some (.ref f49)))
    (l49 : K.lookup f49 = some ⟨oc49, od49, .func (PySem.W.fnOf "call_kind" "call_kind" (defArgs s_call_kind) (defBody s_call_kind) (defScope s_call_kind) .none kV49 dc49 pm49 an49 cd49 ct49), sl49⟩)
    (c49 : PySem.W.codeIn K cd49 "call_kind" = true)
    (k49 : PySem.W.keepIn K (.ref f49) = true)
    (a50 : PySem.W.nsIn K mainGlobals "is_too_great" = some (some (.ref f50)))
    (l50 : K.lookup f50 = some ⟨oc50, od50, .func (PySem.W.fnOf "is_too_great" "is_too_great" (defArgs s_is_too_great) (defBody s_is_too_great) (defScope s_is_too_great) .none kV50 dc50 pm50 an50 cd50 ct50), sl50⟩)
    (c50 : PySem.W.codeIn K cd50 "is_too_great" = true)
    (k50 : PySem.W.keepIn K (.ref f50) = true)
    (a51 : PySem.W.nsIn K mainGlobals "made_kind" = some (some (.ref f51)))
    (l51 : K.lookup f51 = some ⟨oc51, od51, .func (PySem.W.fnOf "made_kind" "made_kind" (defArgs s_made_kind) (defBody s_made_kind) (defScope s_made_kind) .none kV51 dc51 pm51 an51 cd51 ct51), sl51⟩)
    (c51 : PySem.W.codeIn K cd51 "made_kind" = true)
    (k51 : PySem.W.keepIn K (.ref f51) = true)
    (a52 : PySem.W.nsIn K mainGlobals "come_ahead" = some (some (.ref f52)))
    (l52 : K.lookup f52 = some ⟨oc52, od52, .func (PySem.W.fnOf "come_ahead" "come_ahead" (defArgs s_come_ahead) (defBody s_come_ahead) (defScope s_come_ahead) .none kV52 dc52 pm52 an52 cd52 ct52), sl52⟩)
    (c52 : PySem.W.codeIn K cd52 "come_ahead" = true)
    (k52 : PySem.W.keepIn K (.ref f52) = true)
    (a53 : PySem.W.nsIn K mainGlobals "rows_and_tables" = some (some (.ref f53)))
    (l53 : K.lookup f53 = some ⟨oc53, od53, .func (PySem.W.fnOf "rows_and_tables" "rows_and_tables" (defArgs s_rows_and_tables) (defBody s_rows_and_tables) (defScope s_rows_and_tables) .none kV53 dc53 pm53 an53 cd53 ct53), sl53⟩)
    (c53 : PySem.W.codeIn K cd53 "rows_and_tables" = true)
    (k53 : PySem.W.keepIn K (.ref f53) = true)
    (a54 : PySem.W.findIn K (.ref C_Program) "__init__" = some (some (.ref f54)))
    (l54 : K.lookup f54 = some ⟨oc54, od54, .func (PySem.W.fnOf "__init__" "Program.__init__" (defArgs s_Program___init__) (defBody s_Program___init__) (defScope s_Program___init__) .none kV54 dc54 pm54 an54 cd54 ct54), sl54⟩)
    (c54 : PySem.W.codeIn K cd54 "Program.__init__" = true)
    (k54 : PySem.W.keepIn K (.ref f54) = true)
    (m1_Program : PySem.W.makesIn K C_Program = true)
    (m2_Program : PySem.W.isFn K (.ref f54) = true)
    (m3_Program : PySem.W.keepIn K (.ref C_Program) = true)
    (a55 : PySem.W.nsIn K mainGlobals "_law_bag" = some (some (.ref f55)))
    (l55 : K.lookup f55 = some ⟨oc55, od55, .func (PySem.W.fnOf "_law_bag" "_law_bag" (defArgs s__law_bag) (defBody s__law_bag) (defScope s__law_bag) .none kV55 dc55 pm55 an55 cd55 ct55), sl55⟩)
    (c55 : PySem.W.codeIn K cd55 "_law_bag" = true)
    (k55 : PySem.W.keepIn K (.ref f55) = true)
    (a56 : PySem.W.nsIn K mainGlobals "_law_pick" = some (some (.ref f56)))
    (l56 : K.lookup f56 = some ⟨oc56, od56, .func (PySem.W.fnOf "_law_pick" "_law_pick" (defArgs s__law_pick) (defBody s__law_pick) (defScope s__law_pick) .none kV56 dc56 pm56 an56 cd56 ct56), sl56⟩)
    (c56 : PySem.W.codeIn K cd56 "_law_pick" = true)
    (k56 : PySem.W.keepIn K (.ref f56) = true)
    (a57 : PySem.W.nsIn K mainGlobals "_law_some" = some (some (.ref f57)))
    (l57 : K.lookup f57 = some ⟨oc57, od57, .func (PySem.W.fnOf "_law_some" "_law_some" (defArgs s__law_some) (defBody s__law_some) (defScope s__law_some) .none kV57 dc57 pm57 an57 cd57 ct57), sl57⟩)
    (c57 : PySem.W.codeIn K cd57 "_law_some" = true)
    (k57 : PySem.W.keepIn K (.ref f57) = true)
    (a58 : PySem.W.findIn K (.ref C_Program) "__eq__" = some (some (.ref f58)))
    (l58 : K.lookup f58 = some ⟨oc58, od58, .func (PySem.W.fnOf "__eq__" "Program.__eq__" (defArgs s_Program___eq__) (defBody s_Program___eq__) (defScope s_Program___eq__) .none kV58 dc58 pm58 an58 cd58 ct58), sl58⟩)
    (c58 : PySem.W.codeIn K cd58 "Program.__eq__" = true)
    (k58 : PySem.W.keepIn K (.ref f58) = true)
    (eqfn : PySem.W.isFn K (.ref f58) = true)
    (a59 : PySem.W.nsIn K mainGlobals "_law_is" = some (some (.ref f59)))
    (l59 : K.lookup f59 = some ⟨oc59, od59, .func (PySem.W.fnOf "_law_is" "_law_is" (defArgs s__law_is) (defBody s__law_is) (defScope s__law_is) .none kV59 dc59 pm59 an59 cd59 ct59), sl59⟩)
    (c59 : PySem.W.codeIn K cd59 "_law_is" = true)
    (k59 : PySem.W.keepIn K (.ref f59) = true)
    (a60 : PySem.W.nsIn K mainGlobals "_law_deep" = some (some (.ref f60)))
    (l60 : K.lookup f60 = some ⟨oc60, od60, .func (PySem.W.fnOf "_law_deep" "_law_deep" (defArgs s__law_deep) (defBody s__law_deep) (defScope s__law_deep) .none kV60 dc60 pm60 an60 cd60 ct60), sl60⟩)
    (c60 : PySem.W.codeIn K cd60 "_law_deep" = true)
    (k60 : PySem.W.keepIn K (.ref f60) = true)
    (a61 : PySem.W.nsIn K mainGlobals "_law_flags" = some (some (.ref f61)))
    (l61 : K.lookup f61 = some ⟨oc61, od61, .func (PySem.W.fnOf "_law_flags" "_law_flags" (defArgs s__law_flags) (defBody s__law_flags) (defScope s__law_flags) .none kV61 dc61 pm61 an61 cd61 ct61), sl61⟩)
    (c61 : PySem.W.codeIn K cd61 "_law_flags" = true)
    (k61 : PySem.W.keepIn K (.ref f61) = true)
    (a62 : PySem.W.nsIn K mainGlobals "_law_fields" = some (some (.ref f62)))
    (l62 : K.lookup f62 = some ⟨oc62, od62, .func (PySem.W.fnOf "_law_fields" "_law_fields" (defArgs s__law_fields) (defBody s__law_fields) (defScope s__law_fields) .none kV62 dc62 pm62 an62 cd62 ct62), sl62⟩)
    (c62 : PySem.W.codeIn K cd62 "_law_fields" = true)
    (k62 : PySem.W.keepIn K (.ref f62) = true)
    (a63 : PySem.W.nsIn K mainGlobals "law" = some (some (.ref f63)))
    (l63 : K.lookup f63 = some ⟨oc63, od63, .func (PySem.W.fnOf "law" "law" (defArgs s_law) (defBody s_law) (defScope s_law) .none kV63 dc63 pm63 an63 cd63 ct63), sl63⟩)
    (c63 : PySem.W.codeIn K cd63 "law" = true)
    (k63 : PySem.W.keepIn K (.ref f63) = true)
    (p1_Program : PySem.W.plainGet K C_Program Str.empty = true)
    (p2_Program : PySem.W.hasDictIn K C_Program = true)
    (p3_Program : PySem.W.plainOver K C_Program = true)
    (p4_Program : PySem.W.findIn K (.ref C_Program) "__setattr__" = some (some (.builtin "object.__setattr__")))
    (na_Program_bodies : PySem.W.findIn K (.ref C_Program) "bodies" = some none)
    (na_Program_book : PySem.W.findIn K (.ref C_Program) "book" = some none)
    (na_Program_tables : PySem.W.findIn K (.ref C_Program) "tables" = some none)
    (v_LARGEST : PySem.W.nsIn K mainGlobals "LARGEST" = some (some (.int 1000000000000 tk_LARGEST)))
    (v_MOST_BLOCKS_DEEP : PySem.W.nsIn K mainGlobals "MOST_BLOCKS_DEEP" = some (some (.int 6 tk_MOST_BLOCKS_DEEP)))
    (v_MOST_BODIES : PySem.W.nsIn K mainGlobals "MOST_BODIES" = some (some (.int 12 tk_MOST_BODIES)))
    (v_MOST_BODY_LETTERS : PySem.W.nsIn K mainGlobals "MOST_BODY_LETTERS" = some (some (.int 4 tk_MOST_BODY_LETTERS)))
    (v_MOST_CHOICES : PySem.W.nsIn K mainGlobals "MOST_CHOICES" = some (some (.int 6 tk_MOST_CHOICES)))
    (v_MOST_CHOICE_LETTERS : PySem.W.nsIn K mainGlobals "MOST_CHOICE_LETTERS" = some (some (.int 3 tk_MOST_CHOICE_LETTERS)))
    (v_MOST_KINDS : PySem.W.nsIn K mainGlobals "MOST_KINDS" = some (some (.int 40 tk_MOST_KINDS)))
    (v_MOST_KINDS_DEEP : PySem.W.nsIn K mainGlobals "MOST_KINDS_DEEP" = some (some (.int 8 tk_MOST_KINDS_DEEP)))
    (v_MOST_KINDS_IN_PLACE : PySem.W.nsIn K mainGlobals "MOST_KINDS_IN_PLACE" = some (some (.int 400 tk_MOST_KINDS_IN_PLACE)))
    (v_MOST_LEFT : PySem.W.nsIn K mainGlobals "MOST_LEFT" = some (some (.int 3 tk_MOST_LEFT)))
    (v_MOST_PARTS : PySem.W.nsIn K mainGlobals "MOST_PARTS" = some (some (.int 3 tk_MOST_PARTS)))
    (v_MOST_PLACES : PySem.W.nsIn K mainGlobals "MOST_PLACES" = some (some (.int 5 tk_MOST_PLACES)))
    (v_MOST_ROW : PySem.W.nsIn K mainGlobals "MOST_ROW" = some (some (.int 4 tk_MOST_ROW)))
    (v_MOST_STEPS : PySem.W.nsIn K mainGlobals "MOST_STEPS" = some (some (.int 60 tk_MOST_STEPS)))
    (v_MOST_WAYS : PySem.W.nsIn K mainGlobals "MOST_WAYS" = some (some (.int 4 tk_MOST_WAYS)))
    (v_NIL : PySem.W.nsIn K mainGlobals "NIL" = some (some (.ref A_NIL)))
    (w_NIL : WK K (.tup ((["nil"] : List Str).map .str)) (.ref A_NIL))
    (v_NUM : PySem.W.nsIn K mainGlobals "NUM" = some (some (.ref A_NUM)))
    (w_NUM : WK K (.tup ((["num"] : List Str).map .str)) (.ref A_NUM))
    (v_END_FORMS : PySem.W.nsIn K mainGlobals "END_FORMS" = some (some (.ref A_END_FORMS)))
    (w_END_FORMS : TabK K w A_END_FORMS tab_END_FORMS)
    (v_STEP_FORMS : PySem.W.nsIn K mainGlobals "STEP_FORMS" = some (some (.ref A_STEP_FORMS)))
    (w_STEP_FORMS : TabK K w A_STEP_FORMS tab_STEP_FORMS)
    (v_STEP_KINDS : PySem.W.nsIn K mainGlobals "STEP_KINDS" = some (some (.ref A_STEP_KINDS)))
    (w_STEP_KINDS : TabK K w A_STEP_KINDS tab_STEP_KINDS)
    (z_ValueError : PySem.W.nsIn K mainGlobals "ValueError" = some none)
    (z_abs : PySem.W.nsIn K mainGlobals "abs" = some none)
    (z_all : PySem.W.nsIn K mainGlobals "all" = some none)
    (z_any : PySem.W.nsIn K mainGlobals "any" = some none)
    (z_bool : PySem.W.nsIn K mainGlobals "bool" = some none)
    (z_enumerate : PySem.W.nsIn K mainGlobals "enumerate" = some none)
    (z_int : PySem.W.nsIn K mainGlobals "int" = some none)
    (z_isinstance : PySem.W.nsIn K mainGlobals "isinstance" = some none)
    (z_len : PySem.W.nsIn K mainGlobals "len" = some none)
    (z_list : PySem.W.nsIn K mainGlobals "list" = some none)
    (z_max : PySem.W.nsIn K mainGlobals "max" = some none)
    (z_range : PySem.W.nsIn K mainGlobals "range" = some none)
    (z_reversed : PySem.W.nsIn K mainGlobals "reversed" = some none)
    (z_str : PySem.W.nsIn K mainGlobals "str" = some none)
    (z_sum : PySem.W.nsIn K mainGlobals "sum" = some none)
    (z_tuple : PySem.W.nsIn K mainGlobals "tuple" = some none)
    (z_zip : PySem.W.nsIn K mainGlobals "zip" = some none)
    (v_W0 : PySem.W.nsIn K mainGlobals "WordsError" = some (some (.ref X_W0)))
    (rd_W0 : PySem.W.readsIn K X_W0 (.type "type") = true)
    (fc_W0 : PySem.W.findCls K (.ref X_W0) (.type "type") "__init__" = some (.val (.builtin "ValueError.__init__")))
    (ty_W0 : PySem.W.typeIn K (.ref X_W0) = some (.type "type"))
    (cl_W0 : PySem.W.clsIn K X_W0 = some cdW0)
    (sp_c : PySem.W.specialIn K (.builtin "object.__class__") "__get__" = some (some (.builtin "getset_descriptor.__get__")))
    (tk_c : PySem.W.takesIn K (.builtin "object.__class__") = some true)
    (ha_P : PySem.W.findIn K (.ref C_Program) "__class__" = some (some (.builtin "object.__class__")))
    (hm_P : PySem.W.mroIn K C_Program (.type "object") = some true)
    (io_bool : PySem.W.subIn K (.ref C_Program) (.type "bool") = some false)
    (io_list : PySem.W.subIn K (.ref C_Program) (.type "list") = some false)
    (io_tuple : PySem.W.subIn K (.ref C_Program) (.type "tuple") = some false)
    (ef_NoKind : B.EF K X_W0 "NoKind" X_NoKind)
    (fi_NoKind : PySem.W.findIn K (.ref X_NoKind) "__init__" = some (some (.ref Y_NoKind)))
    (ly_NoKind : K.lookup Y_NoKind = some ⟨xo0, xd0, .func (PySem.W.fnOf "__init__" "NoKind.__init__" (defArgs s_NoKind___init__) (defBody s_NoKind___init__) (defScope s_NoKind___init__) .none xk0 xc0 xp0 xa0 xe0 xt0), xs0⟩)
    (cy_NoKind : PySem.W.codeIn K xe0 "NoKind.__init__" = true)
    (ky_NoKind : PySem.W.keepIn K (.ref Y_NoKind) = true)
    (ty_NoKind : PySem.W.typeIn K (.ref Y_NoKind) = some (.type "function"))
    (nx_NoKind_line : PySem.W.findIn K (.ref X_NoKind) "line" = some none)
    (nx_NoKind_most : PySem.W.findIn K (.ref X_NoKind) "most" = some none)
    (nx_NoKind_name : PySem.W.findIn K (.ref X_NoKind) "name" = some none)
    (nx_NoKind_number : PySem.W.findIn K (.ref X_NoKind) "number" = some none)
    (nx_NoKind_part : PySem.W.findIn K (.ref X_NoKind) "part" = some none)
    (ef_NoKinds : B.EF K X_W0 "NoKinds" X_NoKinds)
    (fi_NoKinds : PySem.W.findIn K (.ref X_NoKinds) "__init__" = some (some (.ref Y_NoKinds)))
    (ly_NoKinds : K.lookup Y_NoKinds = some ⟨xo1, xd1, .func (PySem.W.fnOf "__init__" "NoKinds.__init__" (defArgs s_NoKinds___init__) (defBody s_NoKinds___init__) (defScope s_NoKinds___init__) .none xk1 xc1 xp1 xa1 xe1 xt1), xs1⟩)
    (cy_NoKinds : PySem.W.codeIn K xe1 "NoKinds.__init__" = true)
    (ky_NoKinds : PySem.W.keepIn K (.ref Y_NoKinds) = true)
    (ty_NoKinds : PySem.W.typeIn K (.ref Y_NoKinds) = some (.type "function"))
    (nx_NoKinds_line : PySem.W.findIn K (.ref X_NoKinds) "line" = some none)
    (nx_NoKinds_most : PySem.W.findIn K (.ref X_NoKinds) "most" = some none)
    (nx_NoKinds_name : PySem.W.findIn K (.ref X_NoKinds) "name" = some none)
    (nx_NoKinds_number : PySem.W.findIn K (.ref X_NoKinds) "number" = some none)
    (nx_NoKinds_part : PySem.W.findIn K (.ref X_NoKinds) "part" = some none)
    (ef_BadProgram : B.EF K X_W0 "BadProgram" X_BadProgram)
    (fi_BadProgram : PySem.W.findIn K (.ref X_BadProgram) "__init__" = some (some (.ref Y_BadProgram)))
    (ly_BadProgram : K.lookup Y_BadProgram = some ⟨xo2, xd2, .func (PySem.W.fnOf "__init__" "BadProgram.__init__" (defArgs s_BadProgram___init__) (defBody s_BadProgram___init__) (defScope s_BadProgram___init__) .none xk2 xc2 xp2 xa2 xe2 xt2), xs2⟩)
    (cy_BadProgram : PySem.W.codeIn K xe2 "BadProgram.__init__" = true)
    (ky_BadProgram : PySem.W.keepIn K (.ref Y_BadProgram) = true)
    (ty_BadProgram : PySem.W.typeIn K (.ref Y_BadProgram) = some (.type "function"))
    (nx_BadProgram_line : PySem.W.findIn K (.ref X_BadProgram) "line" = some none)
    (nx_BadProgram_most : PySem.W.findIn K (.ref X_BadProgram) "most" = some none)
    (nx_BadProgram_name : PySem.W.findIn K (.ref X_BadProgram) "name" = some none)
    (nx_BadProgram_number : PySem.W.findIn K (.ref X_BadProgram) "number" = some none)
    (nx_BadProgram_part : PySem.W.findIn K (.ref X_BadProgram) "part" = some none)
    (ef_NoBody : B.EF K X_W0 "NoBody" X_NoBody)
    (fi_NoBody : PySem.W.findIn K (.ref X_NoBody) "__init__" = some (some (.ref Y_NoBody)))
    (ly_NoBody : K.lookup Y_NoBody = some ⟨xo3, xd3, .func (PySem.W.fnOf "__init__" "NoBody.__init__" (defArgs s_NoBody___init__) (defBody s_NoBody___init__) (defScope s_NoBody___init__) .none xk3 xc3 xp3 xa3 xe3 xt3), xs3⟩)
    (cy_NoBody : PySem.W.codeIn K xe3 "NoBody.__init__" = true)
    (ky_NoBody : PySem.W.keepIn K (.ref Y_NoBody) = true)
    (ty_NoBody : PySem.W.typeIn K (.ref Y_NoBody) = some (.type "function"))
    (nx_NoBody_line : PySem.W.findIn K (.ref X_NoBody) "line" = some none)
    (nx_NoBody_most : PySem.W.findIn K (.ref X_NoBody) "most" = some none)
    (nx_NoBody_name : PySem.W.findIn K (.ref X_NoBody) "name" = some none)
    (nx_NoBody_number : PySem.W.findIn K (.ref X_NoBody) "number" = some none)
    (nx_NoBody_part : PySem.W.findIn K (.ref X_NoBody) "part" = some none)
    (ef_NoPoint : B.EF K X_W0 "NoPoint" X_NoPoint)
    (fi_NoPoint : PySem.W.findIn K (.ref X_NoPoint) "__init__" = some (some (.ref Y_NoPoint)))
    (ly_NoPoint : K.lookup Y_NoPoint = some ⟨xo4, xd4, .func (PySem.W.fnOf "__init__" "NoPoint.__init__" (defArgs s_NoPoint___init__) (defBody s_NoPoint___init__) (defScope s_NoPoint___init__) .none xk4 xc4 xp4 xa4 xe4 xt4), xs4⟩)
    (cy_NoPoint : PySem.W.codeIn K xe4 "NoPoint.__init__" = true)
    (ky_NoPoint : PySem.W.keepIn K (.ref Y_NoPoint) = true)
    (ty_NoPoint : PySem.W.typeIn K (.ref Y_NoPoint) = some (.type "function"))
    (nx_NoPoint_line : PySem.W.findIn K (.ref X_NoPoint) "line" = some none)
    (nx_NoPoint_most : PySem.W.findIn K (.ref X_NoPoint) "most" = some none)
    (nx_NoPoint_name : PySem.W.findIn K (.ref X_NoPoint) "name" = some none)
    (nx_NoPoint_number : PySem.W.findIn K (.ref X_NoPoint) "number" = some none)
    (nx_NoPoint_part : PySem.W.findIn K (.ref X_NoPoint) "part" = some none)
    (ef_NoInputs : B.EF K X_W0 "NoInputs" X_NoInputs)
    (fi_NoInputs : PySem.W.findIn K (.ref X_NoInputs) "__init__" = some (some (.ref Y_NoInputs)))
    (ly_NoInputs : K.lookup Y_NoInputs = some ⟨xo5, xd5, .func (PySem.W.fnOf "__init__" "NoInputs.__init__" (defArgs s_NoInputs___init__) (defBody s_NoInputs___init__) (defScope s_NoInputs___init__) .none xk5 xc5 xp5 xa5 xe5 xt5), xs5⟩)
    (cy_NoInputs : PySem.W.codeIn K xe5 "NoInputs.__init__" = true)
    (ky_NoInputs : PySem.W.keepIn K (.ref Y_NoInputs) = true)
    (ty_NoInputs : PySem.W.typeIn K (.ref Y_NoInputs) = some (.type "function"))
    (nx_NoInputs_line : PySem.W.findIn K (.ref X_NoInputs) "line" = some none)
    (nx_NoInputs_most : PySem.W.findIn K (.ref X_NoInputs) "most" = some none)
    (nx_NoInputs_name : PySem.W.findIn K (.ref X_NoInputs) "name" = some none)
    (nx_NoInputs_number : PySem.W.findIn K (.ref X_NoInputs) "number" = some none)
    (nx_NoInputs_part : PySem.W.findIn K (.ref X_NoInputs) "part" = some none)
    (ef_NoNumber : B.EF K X_W0 "NoNumber" X_NoNumber)
    (fi_NoNumber : PySem.W.findIn K (.ref X_NoNumber) "__init__" = some (some (.ref Y_NoNumber)))
    (ly_NoNumber : K.lookup Y_NoNumber = some ⟨xo6, xd6, .func (PySem.W.fnOf "__init__" "NoNumber.__init__" (defArgs s_NoNumber___init__) (defBody s_NoNumber___init__) (defScope s_NoNumber___init__) .none xk6 xc6 xp6 xa6 xe6 xt6), xs6⟩)
    (cy_NoNumber : PySem.W.codeIn K xe6 "NoNumber.__init__" = true)
    (ky_NoNumber : PySem.W.keepIn K (.ref Y_NoNumber) = true)
    (ty_NoNumber : PySem.W.typeIn K (.ref Y_NoNumber) = some (.type "function"))
    (nx_NoNumber_line : PySem.W.findIn K (.ref X_NoNumber) "line" = some none)
    (nx_NoNumber_most : PySem.W.findIn K (.ref X_NoNumber) "most" = some none)
    (nx_NoNumber_name : PySem.W.findIn K (.ref X_NoNumber) "name" = some none)
    (nx_NoNumber_number : PySem.W.findIn K (.ref X_NoNumber) "number" = some none)
    (nx_NoNumber_part : PySem.W.findIn K (.ref X_NoNumber) "part" = some none)
    (ef_IsOver : B.EF K X_W0 "IsOver" X_IsOver)
    (fi_IsOver : PySem.W.findIn K (.ref X_IsOver) "__init__" = some (some (.ref Y_IsOver)))
    (ly_IsOver : K.lookup Y_IsOver = some ⟨xo7, xd7, .func (PySem.W.fnOf "__init__" "IsOver.__init__" (defArgs s_IsOver___init__) (defBody s_IsOver___init__) (defScope s_IsOver___init__) .none xk7 xc7 xp7 xa7 xe7 xt7), xs7⟩)
    (cy_IsOver : PySem.W.codeIn K xe7 "IsOver.__init__" = true)
    (ky_IsOver : PySem.W.keepIn K (.ref Y_IsOver) = true)
    (ty_IsOver : PySem.W.typeIn K (.ref Y_IsOver) = some (.type "function"))
    (nx_IsOver_line : PySem.W.findIn K (.ref X_IsOver) "line" = some none)
    (nx_IsOver_most : PySem.W.findIn K (.ref X_IsOver) "most" = some none)
    (nx_IsOver_name : PySem.W.findIn K (.ref X_IsOver) "name" = some none)
    (nx_IsOver_number : PySem.W.findIn K (.ref X_IsOver) "number" = some none)
    (nx_IsOver_part : PySem.W.findIn K (.ref X_IsOver) "part" = some none)
    (ef_NoPlace : B.EF K X_W0 "NoPlace" X_NoPlace)
    (fi_NoPlace : PySem.W.findIn K (.ref X_NoPlace) "__init__" = some (some (.ref Y_NoPlace)))
    (ly_NoPlace : K.lookup Y_NoPlace = some ⟨xo8, xd8, .func (PySem.W.fnOf "__init__" "NoPlace.__init__" (defArgs s_NoPlace___init__) (defBody s_NoPlace___init__) (defScope s_NoPlace___init__) .none xk8 xc8 xp8 xa8 xe8 xt8), xs8⟩)
    (cy_NoPlace : PySem.W.codeIn K xe8 "NoPlace.__init__" = true)
    (ky_NoPlace : PySem.W.keepIn K (.ref Y_NoPlace) = true)
    (ty_NoPlace : PySem.W.typeIn K (.ref Y_NoPlace) = some (.type "function"))
    (nx_NoPlace_line : PySem.W.findIn K (.ref X_NoPlace) "line" = some none)
    (nx_NoPlace_most : PySem.W.findIn K (.ref X_NoPlace) "most" = some none)
    (nx_NoPlace_name : PySem.W.findIn K (.ref X_NoPlace) "name" = some none)
    (nx_NoPlace_number : PySem.W.findIn K (.ref X_NoPlace) "number" = some none)
    (nx_NoPlace_part : PySem.W.findIn K (.ref X_NoPlace) "part" = some none)
    (ef_BadPlacer : B.EF K X_W0 "BadPlacer" X_BadPlacer)
    (fi_BadPlacer : PySem.W.findIn K (.ref X_BadPlacer) "__init__" = some (some (.ref Y_BadPlacer)))
    (ly_BadPlacer : K.lookup Y_BadPlacer = some ⟨xo9, xd9, .func (PySem.W.fnOf "__init__" "BadPlacer.__init__" (defArgs s_BadPlacer___init__) (defBody s_BadPlacer___init__) (defScope s_BadPlacer___init__) .none xk9 xc9 xp9 xa9 xe9 xt9), xs9⟩)
    (cy_BadPlacer : PySem.W.codeIn K xe9 "BadPlacer.__init__" = true)
    (ky_BadPlacer : PySem.W.keepIn K (.ref Y_BadPlacer) = true)
    (ty_BadPlacer : PySem.W.typeIn K (.ref Y_BadPlacer) = some (.type "function"))
    (nx_BadPlacer_line : PySem.W.findIn K (.ref X_BadPlacer) "line" = some none)
    (nx_BadPlacer_most : PySem.W.findIn K (.ref X_BadPlacer) "most" = some none)
    (nx_BadPlacer_name : PySem.W.findIn K (.ref X_BadPlacer) "name" = some none)
    (nx_BadPlacer_number : PySem.W.findIn K (.ref X_BadPlacer) "number" = some none)
    (nx_BadPlacer_part : PySem.W.findIn K (.ref X_BadPlacer) "part" = some none)
    (ef_TooMany : B.EF K X_W0 "TooMany" X_TooMany)
    (fi_TooMany : PySem.W.findIn K (.ref X_TooMany) "__init__" = some (some (.ref Y_TooMany)))
    (ly_TooMany : K.lookup Y_TooMany = some ⟨xo10, xd10, .func (PySem.W.fnOf "__init__" "TooMany.__init__" (defArgs s_TooMany___init__) (defBody s_TooMany___init__) (defScope s_TooMany___init__) .none xk10 xc10 xp10 xa10 xe10 xt10), xs10⟩)
    (cy_TooMany : PySem.W.codeIn K xe10 "TooMany.__init__" = true)
    (ky_TooMany : PySem.W.keepIn K (.ref Y_TooMany) = true)
    (ty_TooMany : PySem.W.typeIn K (.ref Y_TooMany) = some (.type "function"))
    (nx_TooMany_line : PySem.W.findIn K (.ref X_TooMany) "line" = some none)
    (nx_TooMany_most : PySem.W.findIn K (.ref X_TooMany) "most" = some none)
    (nx_TooMany_name : PySem.W.findIn K (.ref X_TooMany) "name" = some none)
    (nx_TooMany_number : PySem.W.findIn K (.ref X_TooMany) "number" = some none)
    (nx_TooMany_part : PySem.W.findIn K (.ref X_TooMany) "part" = some none)
    (ef_NoLot : B.EF K X_W0 "NoLot" X_NoLot)
    (fi_NoLot : PySem.W.findIn K (.ref X_NoLot) "__init__" = some (some (.ref Y_NoLot)))
    (ly_NoLot : K.lookup Y_NoLot = some ⟨xo11, xd11, .func (PySem.W.fnOf "__init__" "NoLot.__init__" (defArgs s_NoLot___init__) (defBody s_NoLot___init__) (defScope s_NoLot___init__) .none xk11 xc11 xp11 xa11 xe11 xt11), xs11⟩)
    (cy_NoLot : PySem.W.codeIn K xe11 "NoLot.__init__" = true)
    (ky_NoLot : PySem.W.keepIn K (.ref Y_NoLot) = true)
    (ty_NoLot : PySem.W.typeIn K (.ref Y_NoLot) = some (.type "function"))
    (nx_NoLot_line : PySem.W.findIn K (.ref X_NoLot) "line" = some none)
    (nx_NoLot_most : PySem.W.findIn K (.ref X_NoLot) "most" = some none)
    (nx_NoLot_name : PySem.W.findIn K (.ref X_NoLot) "name" = some none)
    (nx_NoLot_number : PySem.W.findIn K (.ref X_NoLot) "number" = some none)
    (nx_NoLot_part : PySem.W.findIn K (.ref X_NoLot) "part" = some none)
    (ef_NoSpot : B.EF K X_W0 "NoSpot" X_NoSpot)
    (fi_NoSpot : PySem.W.findIn K (.ref X_NoSpot) "__init__" = some (some (.ref Y_NoSpot)))
    (ly_NoSpot : K.lookup Y_NoSpot = some ⟨xo12, xd12, .func (PySem.W.fnOf "__init__" "NoSpot.__init__" (defArgs s_NoSpot___init__) (defBody s_NoSpot___init__) (defScope s_NoSpot___init__) .none xk12 xc12 xp12 xa12 xe12 xt12), xs12⟩)
    (cy_NoSpot : PySem.W.codeIn K xe12 "NoSpot.__init__" = true)
    (ky_NoSpot : PySem.W.keepIn K (.ref Y_NoSpot) = true)
    (ty_NoSpot : PySem.W.typeIn K (.ref Y_NoSpot) = some (.type "function"))
    (nx_NoSpot_line : PySem.W.findIn K (.ref X_NoSpot) "line" = some none)
    (nx_NoSpot_most : PySem.W.findIn K (.ref X_NoSpot) "most" = some none)
    (nx_NoSpot_name : PySem.W.findIn K (.ref X_NoSpot) "name" = some none)
    (nx_NoSpot_number : PySem.W.findIn K (.ref X_NoSpot) "number" = some none)
    (nx_NoSpot_part : PySem.W.findIn K (.ref X_NoSpot) "part" = some none)
    (ef_NoSource : B.EF K X_W0 "NoSource" X_NoSource)
    (fi_NoSource : PySem.W.findIn K (.ref X_NoSource) "__init__" = some (some (.ref Y_NoSource)))
    (ly_NoSource : K.lookup Y_NoSource = some ⟨xo13, xd13, .func (PySem.W.fnOf "__init__" "NoSource.__init__" (defArgs s_NoSource___init__) (defBody s_NoSource___init__) (defScope s_NoSource___init__) .none xk13 xc13 xp13 xa13 xe13 xt13), xs13⟩)
    (cy_NoSource : PySem.W.codeIn K xe13 "NoSource.__init__" = true)
    (ky_NoSource : PySem.W.keepIn K (.ref Y_NoSource) = true)
    (ty_NoSource : PySem.W.typeIn K (.ref Y_NoSource) = some (.type "function"))
    (nx_NoSource_line : PySem.W.findIn K (.ref X_NoSource) "line" = some none)
    (nx_NoSource_most : PySem.W.findIn K (.ref X_NoSource) "most" = some none)
    (nx_NoSource_name : PySem.W.findIn K (.ref X_NoSource) "name" = some none)
    (nx_NoSource_number : PySem.W.findIn K (.ref X_NoSource) "number" = some none)
    (nx_NoSource_part : PySem.W.findIn K (.ref X_NoSource) "part" = some none)
    (ef_NoWords : B.EF K X_W0 "NoWords" X_NoWords)
    (fi_NoWords : PySem.W.findIn K (.ref X_NoWords) "__init__" = some (some (.ref Y_NoWords)))
    (ly_NoWords : K.lookup Y_NoWords = some ⟨xo14, xd14, .func (PySem.W.fnOf "__init__" "NoWords.__init__" (defArgs s_NoWords___init__) (defBody s_NoWords___init__) (defScope s_NoWords___init__) .none xk14 xc14 xp14 xa14 xe14 xt14), xs14⟩)
    (cy_NoWords : PySem.W.codeIn K xe14 "NoWords.__init__" = true)
    (ky_NoWords : PySem.W.keepIn K (.ref Y_NoWords) = true)
    (ty_NoWords : PySem.W.typeIn K (.ref Y_NoWords) = some (.type "function"))
    (nx_NoWords_line : PySem.W.findIn K (.ref X_NoWords) "line" = some none)
    (nx_NoWords_most : PySem.W.findIn K (.ref X_NoWords) "most" = some none)
    (nx_NoWords_name : PySem.W.findIn K (.ref X_NoWords) "name" = some none)
    (nx_NoWords_number : PySem.W.findIn K (.ref X_NoWords) "number" = some none)
    (nx_NoWords_part : PySem.W.findIn K (.ref X_NoWords) "part" = some none)
    (ef_NoKinding : B.EF K X_W0 "NoKinding" X_NoKinding)
    (fi_NoKinding : PySem.W.findIn K (.ref X_NoKinding) "__init__" = some (some (.ref Y_NoKinding)))
    (ly_NoKinding : K.lookup Y_NoKinding = some ⟨xo15, xd15, .func (PySem.W.fnOf "__init__" "NoKinding.__init__" (defArgs s_NoKinding___init__) (defBody s_NoKinding___init__) (defScope s_NoKinding___init__) .none xk15 xc15 xp15 xa15 xe15 xt15), xs15⟩)
    (cy_NoKinding : PySem.W.codeIn K xe15 "NoKinding.__init__" = true)
    (ky_NoKinding : PySem.W.keepIn K (.ref Y_NoKinding) = true)
    (ty_NoKinding : PySem.W.typeIn K (.ref Y_NoKinding) = some (.type "function"))
    (nx_NoKinding_line : PySem.W.findIn K (.ref X_NoKinding) "line" = some none)
    (nx_NoKinding_most : PySem.W.findIn K (.ref X_NoKinding) "most" = some none)
    (nx_NoKinding_name : PySem.W.findIn K (.ref X_NoKinding) "name" = some none)
    (nx_NoKinding_number : PySem.W.findIn K (.ref X_NoKinding) "number" = some none)
    (nx_NoKinding_part : PySem.W.findIn K (.ref X_NoKinding) "part" = some none)
    (ef_NoOver : B.EF K X_W0 "NoOver" X_NoOver)
    (fi_NoOver : PySem.W.findIn K (.ref X_NoOver) "__init__" = some (some (.ref Y_NoOver)))
    (ly_NoOver : K.lookup Y_NoOver = some ⟨xo16, xd16, .func (PySem.W.fnOf "__init__" "NoOver.__init__" (defArgs s_NoOver___init__) (defBody s_NoOver___init__) (defScope s_NoOver___init__) .none xk16 xc16 xp16 xa16 xe16 xt16), xs16⟩)
    (cy_NoOver : PySem.W.codeIn K xe16 "NoOver.__init__" = true)
    (ky_NoOver : PySem.W.keepIn K (.ref Y_NoOver) = true)
    (ty_NoOver : PySem.W.typeIn K (.ref Y_NoOver) = some (.type "function"))
    (nx_NoOver_line : PySem.W.findIn K (.ref X_NoOver) "line" = some none)
    (nx_NoOver_most : PySem.W.findIn K (.ref X_NoOver) "most" = some none)
    (nx_NoOver_name : PySem.W.findIn K (.ref X_NoOver) "name" = some none)
    (nx_NoOver_number : PySem.W.findIn K (.ref X_NoOver) "number" = some none)
    (nx_NoOver_part : PySem.W.findIn K (.ref X_NoOver) "part" = some none)
    (ef_BadImage : B.EF K X_W0 "BadImage" X_BadImage)
    (fi_BadImage : PySem.W.findIn K (.ref X_BadImage) "__init__" = some (some (.ref Y_BadImage)))
    (ly_BadImage : K.lookup Y_BadImage = some ⟨xo17, xd17, .func (PySem.W.fnOf "__init__" "BadImage.__init__" (defArgs s_BadImage___init__) (defBody s_BadImage___init__) (defScope s_BadImage___init__) .none xk17 xc17 xp17 xa17 xe17 xt17), xs17⟩)
    (cy_BadImage : PySem.W.codeIn K xe17 "BadImage.__init__" = true)
    (ky_BadImage : PySem.W.keepIn K (.ref Y_BadImage) = true)
    (ty_BadImage : PySem.W.typeIn K (.ref Y_BadImage) = some (.type "function"))
    (nx_BadImage_line : PySem.W.findIn K (.ref X_BadImage) "line" = some none)
    (nx_BadImage_most : PySem.W.findIn K (.ref X_BadImage) "most" = some none)
    (nx_BadImage_name : PySem.W.findIn K (.ref X_BadImage) "name" = some none)
    (nx_BadImage_number : PySem.W.findIn K (.ref X_BadImage) "number" = some none)
    (nx_BadImage_part : PySem.W.findIn K (.ref X_BadImage) "part" = some none)
    (ef_NoText : B.EF K X_W0 "NoText" X_NoText)
    (fi_NoText : PySem.W.findIn K (.ref X_NoText) "__init__" = some (some (.ref Y_NoText)))
    (ly_NoText : K.lookup Y_NoText = some ⟨xo18, xd18, .func (PySem.W.fnOf "__init__" "NoText.__init__" (defArgs s_NoText___init__) (defBody s_NoText___init__) (defScope s_NoText___init__) .none xk18 xc18 xp18 xa18 xe18 xt18), xs18⟩)
    (cy_NoText : PySem.W.codeIn K xe18 "NoText.__init__" = true)
    (ky_NoText : PySem.W.keepIn K (.ref Y_NoText) = true)
    (ty_NoText : PySem.W.typeIn K (.ref Y_NoText) = some (.type "function"))
    (nx_NoText_line : PySem.W.findIn K (.ref X_NoText) "line" = some none)
    (nx_NoText_most : PySem.W.findIn K (.ref X_NoText) "most" = some none)
    (nx_NoText_name : PySem.W.findIn K (.ref X_NoText) "name" = some none)
    (nx_NoText_number : PySem.W.findIn K (.ref X_NoText) "number" = some none)
    (nx_NoText_part : PySem.W.findIn K (.ref X_NoText) "part" = some none)
    (ef_NoRecord : B.EF K X_W0 "NoRecord" X_NoRecord)
    (fi_NoRecord : PySem.W.findIn K (.ref X_NoRecord) "__init__" = some (some (.ref Y_NoRecord)))
    (ly_NoRecord : K.lookup Y_NoRecord = some ⟨xo19, xd19, .func (PySem.W.fnOf "__init__" "NoRecord.__init__" (defArgs s_NoRecord___init__) (defBody s_NoRecord___init__) (defScope s_NoRecord___init__) .none xk19 xc19 xp19 xa19 xe19 xt19), xs19⟩)
    (cy_NoRecord : PySem.W.codeIn K xe19 "NoRecord.__init__" = true)
    (ky_NoRecord : PySem.W.keepIn K (.ref Y_NoRecord) = true)
    (ty_NoRecord : PySem.W.typeIn K (.ref Y_NoRecord) = some (.type "function"))
    (nx_NoRecord_line : PySem.W.findIn K (.ref X_NoRecord) "line" = some none)
    (nx_NoRecord_most : PySem.W.findIn K (.ref X_NoRecord) "most" = some none)
    (nx_NoRecord_name : PySem.W.findIn K (.ref X_NoRecord) "name" = some none)
    (nx_NoRecord_number : PySem.W.findIn K (.ref X_NoRecord) "number" = some none)
    (nx_NoRecord_part : PySem.W.findIn K (.ref X_NoRecord) "part" = some none)
    (ef_BadText : B.EF K X_W0 "BadText" X_BadText)
    (fi_BadText : PySem.W.findIn K (.ref X_BadText) "__init__" = some (some (.ref Y_BadText)))
    (ly_BadText : K.lookup Y_BadText = some ⟨xo20, xd20, .func (PySem.W.fnOf "__init__" "BadText.__init__" (defArgs s_BadText___init__) (defBody s_BadText___init__) (defScope s_BadText___init__) .none xk20 xc20 xp20 xa20 xe20 xt20), xs20⟩)
    (cy_BadText : PySem.W.codeIn K xe20 "BadText.__init__" = true)
    (ky_BadText : PySem.W.keepIn K (.ref Y_BadText) = true)
    (ty_BadText : PySem.W.typeIn K (.ref Y_BadText) = some (.type "function"))
    (nx_BadText_line : PySem.W.findIn K (.ref X_BadText) "line" = some none)
    (nx_BadText_most : PySem.W.findIn K (.ref X_BadText) "most" = some none)
    (nx_BadText_name : PySem.W.findIn K (.ref X_BadText) "name" = some none)
    (nx_BadText_number : PySem.W.findIn K (.ref X_BadText) "number" = some none)
    (nx_BadText_part : PySem.W.findIn K (.ref X_BadText) "part" = some none)
    (ef_NothingDone : B.EF K X_W0 "NothingDone" X_NothingDone)
    (fi_NothingDone : PySem.W.findIn K (.ref X_NothingDone) "__init__" = some (some (.ref Y_NothingDone)))
    (ly_NothingDone : K.lookup Y_NothingDone = some ⟨xo21, xd21, .func (PySem.W.fnOf "__init__" "NothingDone.__init__" (defArgs s_NothingDone___init__) (defBody s_NothingDone___init__) (defScope s_NothingDone___init__) .none xk21 xc21 xp21 xa21 xe21 xt21), xs21⟩)
    (cy_NothingDone : PySem.W.codeIn K xe21 "NothingDone.__init__" = true)
    (ky_NothingDone : PySem.W.keepIn K (.ref Y_NothingDone) = true)
    (ty_NothingDone : PySem.W.typeIn K (.ref Y_NothingDone) = some (.type "function"))
    (nx_NothingDone_line : PySem.W.findIn K (.ref X_NothingDone) "line" = some none)
    (nx_NothingDone_most : PySem.W.findIn K (.ref X_NothingDone) "most" = some none)
    (nx_NothingDone_name : PySem.W.findIn K (.ref X_NothingDone) "name" = some none)
    (nx_NothingDone_number : PySem.W.findIn K (.ref X_NothingDone) "number" = some none)
    (nx_NothingDone_part : PySem.W.findIn K (.ref X_NothingDone) "part" = some none)
    (ef_NoForm : B.EF K X_W0 "NoForm" X_NoForm)
    (fi_NoForm : PySem.W.findIn K (.ref X_NoForm) "__init__" = some (some (.ref Y_NoForm)))
    (ly_NoForm : K.lookup Y_NoForm = some ⟨xo22, xd22, .func (PySem.W.fnOf "__init__" "NoForm.__init__" (defArgs s_NoForm___init__) (defBody s_NoForm___init__) (defScope s_NoForm___init__) .none xk22 xc22 xp22 xa22 xe22 xt22), xs22⟩)
    (cy_NoForm : PySem.W.codeIn K xe22 "NoForm.__init__" = true)
    (ky_NoForm : PySem.W.keepIn K (.ref Y_NoForm) = true)
    (ty_NoForm : PySem.W.typeIn K (.ref Y_NoForm) = some (.type "function"))
    (nx_NoForm_line : PySem.W.findIn K (.ref X_NoForm) "line" = some none)
    (nx_NoForm_most : PySem.W.findIn K (.ref X_NoForm) "most" = some none)
    (nx_NoForm_name : PySem.W.findIn K (.ref X_NoForm) "name" = some none)
    (nx_NoForm_number : PySem.W.findIn K (.ref X_NoForm) "number" = some none)
    (nx_NoForm_part : PySem.W.findIn K (.ref X_NoForm) "part" = some none)
    (ef_NoName : B.EF K X_W0 "NoName" X_NoName)
    (fi_NoName : PySem.W.findIn K (.ref X_NoName) "__init__" = some (some (.ref Y_NoName)))
    (ly_NoName : K.lookup Y_NoName = some ⟨xo23, xd23, .func (PySem.W.fnOf "__init__" "NoName.__init__" (defArgs s_NoName___init__) (defBody s_NoName___init__) (defScope s_NoName___init__) .none xk23 xc23 xp23 xa23 xe23 xt23), xs23⟩)
    (cy_NoName : PySem.W.codeIn K xe23 "NoName.__init__" = true)
    (ky_NoName : PySem.W.keepIn K (.ref Y_NoName) = true)
    (ty_NoName : PySem.W.typeIn K (.ref Y_NoName) = some (.type "function"))
    (nx_NoName_line : PySem.W.findIn K (.ref X_NoName) "line" = some none)
    (nx_NoName_most : PySem.W.findIn K (.ref X_NoName) "most" = some none)
    (nx_NoName_name : PySem.W.findIn K (.ref X_NoName) "name" = some none)
    (nx_NoName_number : PySem.W.findIn K (.ref X_NoName) "number" = some none)
    (nx_NoName_part : PySem.W.findIn K (.ref X_NoName) "part" = some none)
    (ef_NothingChosen : B.EF K X_W0 "NothingChosen" X_NothingChosen)
    (fi_NothingChosen : PySem.W.findIn K (.ref X_NothingChosen) "__init__" = some (some (.ref Y_NothingChosen)))
    (ly_NothingChosen : K.lookup Y_NothingChosen = some ⟨xo24, xd24, .func (PySem.W.fnOf "__init__" "NothingChosen.__init__" (defArgs s_NothingChosen___init__) (defBody s_NothingChosen___init__) (defScope s_NothingChosen___init__) .none xk24 xc24 xp24 xa24 xe24 xt24), xs24⟩)
    (cy_NothingChosen : PySem.W.codeIn K xe24 "NothingChosen.__init__" = true)
    (ky_NothingChosen : PySem.W.keepIn K (.ref Y_NothingChosen) = true)
    (ty_NothingChosen : PySem.W.typeIn K (.ref Y_NothingChosen) = some (.type "function"))
    (nx_NothingChosen_line : PySem.W.findIn K (.ref X_NothingChosen) "line" = some none)
    (nx_NothingChosen_most : PySem.W.findIn K (.ref X_NothingChosen) "most" = some none)
    (nx_NothingChosen_name : PySem.W.findIn K (.ref X_NothingChosen) "name" = some none)
    (nx_NothingChosen_number : PySem.W.findIn K (.ref X_NothingChosen) "number" = some none)
    (nx_NothingChosen_part : PySem.W.findIn K (.ref X_NothingChosen) "part" = some none)
    (ndup : ([X_NoKind, X_NoKinds, X_BadProgram, X_NoBody, X_NoPoint, X_NoInputs, X_NoNumber, X_IsOver, X_NoPlace, X_BadPlacer, X_TooMany, X_NoLot, X_NoSpot, X_NoSource, X_NoWords, X_NoKinding, X_NoOver, X_BadImage, X_NoText, X_NoRecord, X_BadText, X_NothingDone, X_NoForm, X_NoName, X_NothingChosen] : List Addr).Nodup)
    (w0out : X_W0 ∉ ([X_NoKind, X_NoKinds, X_BadProgram, X_NoBody, X_NoPoint, X_NoInputs, X_NoNumber, X_IsOver, X_NoPlace, X_BadPlacer, X_TooMany, X_NoLot, X_NoSpot, X_NoSource, X_NoWords, X_NoKinding, X_NoOver, X_BadImage, X_NoText, X_NoRecord, X_BadText, X_NothingDone, X_NoForm, X_NoName, X_NothingChosen] : List Addr))
    : ∃ fd : FuncData, (∀ (s : Shared) (v : Value), BindsTo s fd ⟨[v], []⟩ [("_law_script", v)]) ∧ ∀ base : Heap, K.In base → base.Ns mainGlobals mg → FnOk l.prog w K mg base CX0 49 fa fd ["_law_script"] (spM K 1 F_law) := by
  have e := hfa.symm.trans (PySem.W.mg_of X G a63)
  cases e
  have cl_Program : Cls K C_Program := ⟨p1_Program, p2_Program, p3_Program, p4_Program⟩
  have EFS : EFs K X_W0 [("NoKind", X_NoKind), ("NoKinds", X_NoKinds), ("BadProgram", X_BadProgram), ("NoBody", X_NoBody), ("NoPoint", X_NoPoint), ("NoInputs", X_NoInputs), ("NoNumber", X_NoNumber), ("IsOver", X_IsOver), ("NoPlace", X_NoPlace), ("BadPlacer", X_BadPlacer), ("TooMany", X_TooMany), ("NoLot", X_NoLot), ("NoSpot", X_NoSpot), ("NoSource", X_NoSource), ("NoWords", X_NoWords), ("NoKinding", X_NoKinding), ("NoOver", X_NoOver), ("BadImage", X_BadImage), ("NoText", X_NoText), ("NoRecord", X_NoRecord), ("BadText", X_BadText), ("NothingDone", X_NothingDone), ("NoForm", X_NoForm), ("NoName", X_NoName), ("NothingChosen", X_NothingChosen)] := ⟨(List.forall_mem_cons.mpr ⟨ef_NoKind, (List.forall_mem_cons.mpr ⟨ef_NoKinds, (List.forall_mem_cons.mpr ⟨ef_BadProgram, (List.forall_mem_cons.mpr ⟨ef_NoBody, (List.forall_mem_cons.mpr ⟨ef_NoPoint, (List.forall_mem_cons.mpr ⟨ef_NoInputs, (List.forall_mem_cons.mpr ⟨ef_NoNumber, (List.forall_mem_cons.mpr ⟨ef_IsOver, (List.forall_mem_cons.mpr ⟨ef_NoPlace, (List.forall_mem_cons.mpr ⟨ef_BadPlacer, (List.forall_mem_cons.mpr ⟨ef_TooMany, (List.forall_mem_cons.mpr ⟨ef_NoLot, (List.forall_mem_cons.mpr ⟨ef_NoSpot, (List.forall_mem_cons.mpr ⟨ef_NoSource, (List.forall_mem_cons.mpr ⟨ef_NoWords, (List.forall_mem_cons.mpr ⟨ef_NoKinding, (List.forall_mem_cons.mpr ⟨ef_NoOver, (List.forall_mem_cons.mpr ⟨ef_BadImage, (List.forall_mem_cons.mpr ⟨ef_NoText, (List.forall_mem_cons.mpr ⟨ef_NoRecord, (List.forall_mem_cons.mpr ⟨ef_BadText, (List.forall_mem_cons.mpr ⟨ef_NothingDone, (List.forall_mem_cons.mpr ⟨ef_NoForm, (List.forall_mem_cons.mpr ⟨ef_NoName, (List.forall_mem_cons.mpr ⟨ef_NothingChosen, (fun _ z => nomatch z)⟩)⟩)⟩)⟩)⟩)⟩)⟩)⟩)⟩)⟩)⟩)⟩)⟩)⟩)⟩)⟩)⟩)⟩)⟩)⟩)⟩)⟩)⟩)⟩)⟩), ndup, w0out, ⟨sp_c, tk_c⟩⟩
  have IO : InsOk K C_Program := ⟨cl_Program, ha_P, sp_c, tk_c, hm_P⟩
  have T : Txt K w mg := ⟨PySem.W.mg_none_of X G z_ValueError, PySem.W.mg_none_of X G z_abs, PySem.W.mg_none_of X G z_all, PySem.W.mg_none_of X G z_any, PySem.W.mg_none_of X G z_bool, PySem.W.mg_none_of X G z_enumerate, PySem.W.mg_none_of X G z_int, PySem.W.mg_none_of X G z_isinstance, PySem.W.mg_none_of X G z_len, PySem.W.mg_none_of X G z_list, PySem.W.mg_none_of X G z_max, PySem.W.mg_none_of X G z_range, PySem.W.mg_none_of X G z_reversed, PySem.W.mg_none_of X G z_str, PySem.W.mg_none_of X G z_sum, PySem.W.mg_none_of X G z_tuple, PySem.W.mg_none_of X G z_zip, ⟨_, PySem.W.mg_of X G v_LARGEST, .int _ _⟩, ⟨_, PySem.W.mg_of X G v_MOST_BLOCKS_DEEP, .int _ _⟩, ⟨_, PySem.W.mg_of X G v_MOST_BODIES, .int _ _⟩, ⟨_, PySem.W.mg_of X G v_MOST_BODY_LETTERS, .int _ _⟩, ⟨_, PySem.W.mg_of X G v_MOST_CHOICES, .int _ _⟩, ⟨_, PySem.W.mg_of X G v_MOST_CHOICE_LETTERS, .int _ _⟩, ⟨_, PySem.W.mg_of X G v_MOST_KINDS, .int _ _⟩, ⟨_, PySem.W.mg_of X G v_MOST_KINDS_DEEP, .int _ _⟩, ⟨_, PySem.W.mg_of X G v_MOST_KINDS_IN_PLACE, .int _ _⟩, ⟨_, PySem.W.mg_of X G v_MOST_LEFT, .int _ _⟩, ⟨_, PySem.W.mg_of X G v_MOST_PARTS, .int _ _⟩, ⟨_, PySem.W.mg_of X G v_MOST_PLACES, .int _ _⟩, ⟨_, PySem.W.mg_of X G v_MOST_ROW, .int _ _⟩, ⟨_, PySem.W.mg_of X G v_MOST_STEPS, .int _ _⟩, ⟨_, PySem.W.mg_of X G v_MOST_WAYS, .int _ _⟩, ⟨_, PySem.W.mg_of X G v_NIL, w_NIL⟩, ⟨_, PySem.W.mg_of X G v_NUM, w_NUM⟩, ⟨_, PySem.W.mg_of X G v_END_FORMS, w_END_FORMS⟩, ⟨_, PySem.W.mg_of X G v_STEP_FORMS, w_STEP_FORMS⟩, ⟨_, PySem.W.mg_of X G v_STEP_KINDS, w_STEP_KINDS⟩, (fld1 v_Program cl_Program na_Program_bodies), (fld1 v_Program cl_Program na_Program_book), (fld1 v_Program cl_Program na_Program_tables), EFS.ecs rfl, EFS.tabV rfl, ⟨_, PySem.W.mg_of X G ef_BadImage.ns, EFS.tab rfl (by simp)⟩, ⟨_, PySem.W.mg_of X G ef_BadPlacer.ns, EFS.tab rfl (by simp)⟩, ⟨_, PySem.W.mg_of X G ef_BadProgram.ns, EFS.tab rfl (by simp)⟩, ⟨_, PySem.W.mg_of X G ef_BadText.ns, EFS.tab rfl (by simp)⟩, ⟨_, PySem.W.mg_of X G ef_IsOver.ns, EFS.tab rfl (by simp)⟩, ⟨_, PySem.W.mg_of X G ef_NoBody.ns, EFS.tab rfl (by simp)⟩, ⟨_, PySem.W.mg_of X G ef_NoForm.ns, EFS.tab rfl (by simp)⟩, ⟨_, PySem.W.mg_of X G ef_NoInputs.ns, EFS.tab rfl (by simp)⟩, ⟨_, PySem.W.mg_of X G ef_NoKind.ns, EFS.tab rfl (by simp)⟩, ⟨_, PySem.W.mg_of X G ef_NoKinding.ns, EFS.tab rfl (by simp)⟩, ⟨_, PySem.W.mg_of X G ef_NoKinds.ns, EFS.tab rfl (by simp)⟩, ⟨_, PySem.W.mg_of X G ef_NoLot.ns, EFS.tab rfl (by simp)⟩, ⟨_, PySem.W.mg_of X G ef_NoName.ns, EFS.tab rfl (by simp)⟩, ⟨_, PySem.W.mg_of X G ef_NoNumber.ns, EFS.tab rfl (by simp)⟩, ⟨_, PySem.W.mg_of X G ef_NoOver.ns, EFS.tab rfl (by simp)⟩, ⟨_, PySem.W.mg_of X G ef_NoPlace.ns, EFS.tab rfl (by simp)⟩, ⟨_, PySem.W.mg_of X G ef_NoPoint.ns, EFS.tab rfl (by simp)⟩, ⟨_, PySem.W.mg_of X G ef_NoRecord.ns, EFS.tab rfl (by simp)⟩, ⟨_, PySem.W.mg_of X G ef_NoSource.ns, EFS.tab rfl (by simp)⟩, ⟨_, PySem.W.mg_of X G ef_NoSpot.ns, EFS.tab rfl (by simp)⟩, ⟨_, PySem.W.mg_of X G ef_NoText.ns, EFS.tab rfl (by simp)⟩, ⟨_, PySem.W.mg_of X G ef_NoWords.ns, EFS.tab rfl (by simp)⟩, ⟨_, PySem.W.mg_of X G ef_NothingChosen.ns, EFS.tab rfl (by simp)⟩, ⟨_, PySem.W.mg_of X G ef_NothingDone.ns, EFS.tab rfl (by simp)⟩, ⟨_, PySem.W.mg_of X G ef_TooMany.ns, EFS.tab rfl (by simp)⟩, ⟨_, PySem.W.mg_of X G v_W0, EFS.tabW rfl cl_W0 ty_W0⟩, FldX.of EFS rfl (List.forall_mem_cons.mpr ⟨nx_NoKind_line, (List.forall_mem_cons.mpr ⟨nx_NoKinds_line, (List.forall_mem_cons.mpr ⟨nx_BadProgram_line, (List.forall_mem_cons.mpr ⟨nx_NoBody_line, (List.forall_mem_cons.mpr ⟨nx_NoPoint_line, (List.forall_mem_cons.mpr ⟨nx_NoInputs_line, (List.forall_mem_cons.mpr ⟨nx_NoNumber_line, (List.forall_mem_cons.mpr ⟨nx_IsOver_line, (List.forall_mem_cons.mpr ⟨nx_NoPlace_line, (List.forall_mem_cons.mpr ⟨nx_BadPlacer_line, (List.forall_mem_cons.mpr ⟨nx_TooMany_line, (List.forall_mem_cons.mpr ⟨nx_NoLot_line, (List.forall_mem_cons.mpr ⟨nx_NoSpot_line, (List.forall_mem_cons.mpr ⟨nx_NoSource_line, (List.forall_mem_cons.mpr ⟨nx_NoWords_line, (List.forall_mem_cons.mpr ⟨nx_NoKinding_line, (List.forall_mem_cons.mpr ⟨nx_NoOver_line, (List.forall_mem_cons.mpr ⟨nx_BadImage_line, (List.forall_mem_cons.mpr ⟨nx_NoText_line, (List.forall_mem_cons.mpr ⟨nx_NoRecord_line, (List.forall_mem_cons.mpr ⟨nx_BadText_line, (List.forall_mem_cons.mpr ⟨nx_NothingDone_line, (List.forall_mem_cons.mpr ⟨nx_NoForm_line, (List.forall_mem_cons.mpr ⟨nx_NoName_line, (List.forall_mem_cons.mpr ⟨nx_NothingChosen_line, (fun _ z => nomatch z)⟩)⟩)⟩)⟩)⟩)⟩)⟩)⟩)⟩)⟩)⟩)⟩)⟩)⟩)⟩)⟩)⟩)⟩)⟩)⟩)⟩)⟩)⟩)⟩)⟩), FldX.of EFS rfl (List.forall_mem_cons.mpr ⟨nx_NoKind_most, (List.forall_mem_cons.mpr ⟨nx_NoKinds_most, (List.forall_mem_cons.mpr ⟨nx_BadProgram_most, (List.forall_mem_cons.mpr ⟨nx_NoBody_most, (List.forall_mem_cons.mpr ⟨nx_NoPoint_most, (List.forall_mem_cons.mpr ⟨nx_NoInputs_most, (List.forall_mem_cons.mpr ⟨nx_NoNumber_most, (List.forall_mem_cons.mpr ⟨nx_IsOver_most, (List.forall_mem_cons.mpr ⟨nx_NoPlace_most, (List.forall_mem_cons.mpr ⟨nx_BadPlacer_most, (List.forall_mem_cons.mpr ⟨nx_TooMany_most, (List.forall_mem_cons.mpr ⟨nx_NoLot_most, (List.forall_mem_cons.mpr ⟨nx_NoSpot_most, (List.forall_mem_cons.mpr ⟨nx_NoSource_most, (List.forall_mem_cons.mpr ⟨nx_NoWords_most, (List.forall_mem_cons.mpr ⟨nx_NoKinding_most, (List.forall_mem_cons.mpr ⟨nx_NoOver_most, (List.forall_mem_cons.mpr ⟨nx_BadImage_most, (List.forall_mem_cons.mpr ⟨nx_NoText_most, (List.forall_mem_cons.mpr ⟨nx_NoRecord_most, (List.forall_mem_cons.mpr ⟨nx_BadText_most, (List.forall_mem_cons.mpr ⟨nx_NothingDone_most, (List.forall_mem_cons.mpr ⟨nx_NoForm_most, (List.forall_mem_cons.mpr ⟨nx_NoName_most, (List.forall_mem_cons.mpr ⟨nx_NothingChosen_most, (fun _ z => nomatch z)⟩)⟩)⟩)⟩)⟩)⟩)⟩)⟩)⟩)⟩)⟩)⟩)⟩)⟩)⟩)⟩)⟩)⟩)⟩)⟩)⟩)⟩)⟩)⟩)⟩), FldX.of EFS rfl (List.forall_mem_cons.mpr ⟨nx_NoKind_name, (List.forall_mem_cons.mpr ⟨nx_NoKinds_name, (List.forall_mem_cons.mpr ⟨nx_BadProgram_name, (List.forall_mem_cons.mpr ⟨nx_NoBody_name, (List.forall_mem_cons.mpr ⟨nx_NoPoint_name, (List.forall_mem_cons.mpr ⟨nx_NoInputs_name, (List.forall_mem_cons.mpr ⟨nx_NoNumber_name, (List.forall_mem_cons.mpr ⟨nx_IsOver_name, (List.forall_mem_cons.mpr ⟨nx_NoPlace_name, (List.forall_mem_cons.mpr ⟨nx_BadPlacer_name, (List.forall_mem_cons.mpr ⟨nx_TooMany_name, (List.forall_mem_cons.mpr ⟨nx_NoLot_name, (List.forall_mem_cons.mpr ⟨nx_NoSpot_name, (List.forall_mem_cons.mpr ⟨nx_NoSource_name, (List.forall_mem_cons.mpr ⟨nx_NoWords_name, (List.forall_mem_cons.mpr ⟨nx_NoKinding_name, (List.forall_mem_cons.mpr ⟨nx_NoOver_name, (List.forall_mem_cons.mpr ⟨nx_BadImage_name, (List.forall_mem_cons.mpr ⟨nx_NoText_name, (List.forall_mem_cons.mpr ⟨nx_NoRecord_name, (List.forall_mem_cons.mpr ⟨nx_BadText_name, (List.forall_mem_cons.mpr ⟨nx_NothingDone_name, (List.forall_mem_cons.mpr ⟨nx_NoForm_name, (List.forall_mem_cons.mpr ⟨nx_NoName_name, (List.forall_mem_cons.mpr ⟨nx_NothingChosen_name, (fun _ z => nomatch z)⟩)⟩)⟩)⟩)⟩)⟩)⟩)⟩)⟩)⟩)⟩)⟩)⟩)⟩)⟩)⟩)⟩)⟩)⟩)⟩)⟩)⟩)⟩)⟩)⟩), FldX.of EFS rfl (List.forall_mem_cons.mpr ⟨nx_NoKind_number, (List.forall_mem_cons.mpr ⟨nx_NoKinds_number, (List.forall_mem_cons.mpr ⟨nx_BadProgram_number, (List.forall_mem_cons.mpr ⟨nx_NoBody_number, (List.forall_mem_cons.mpr ⟨nx_NoPoint_number, (List.forall_mem_cons.mpr ⟨nx_NoInputs_number, (List.forall_mem_cons.mpr ⟨nx_NoNumber_number, (List.forall_mem_cons.mpr ⟨nx_IsOver_number, (List.forall_mem_cons.mpr ⟨nx_NoPlace_number, (List.forall_mem_cons.mpr ⟨nx_BadPlacer_number, (List.forall_mem_cons.mpr ⟨nx_TooMany_number, (List.forall_mem_cons.mpr ⟨nx_NoLot_number, (List.forall_mem_cons.mpr ⟨nx_NoSpot_number, (List.forall_mem_cons.mpr ⟨nx_NoSource_number, (List.forall_mem_cons.mpr ⟨nx_NoWords_number, (List.forall_mem_cons.mpr ⟨nx_NoKinding_number, (List.forall_mem_cons.mpr ⟨nx_NoOver_number, (List.forall_mem_cons.mpr ⟨nx_BadImage_number, (List.forall_mem_cons.mpr ⟨nx_NoText_number, (List.forall_mem_cons.mpr ⟨nx_NoRecord_number, (List.forall_mem_cons.mpr ⟨nx_BadText_number, (List.forall_mem_cons.mpr ⟨nx_NothingDone_number, (List.forall_mem_cons.mpr ⟨nx_NoForm_number, (List.forall_mem_cons.mpr ⟨nx_NoName_number, (List.forall_mem_cons.mpr ⟨nx_NothingChosen_number, (fun _ z => nomatch z)⟩)⟩)⟩)⟩)⟩)⟩)⟩)⟩)⟩)⟩)⟩)⟩)⟩)⟩)⟩)⟩)⟩)⟩)⟩)⟩)⟩)⟩)⟩)⟩)⟩), FldX.of EFS rfl (List.forall_mem_cons.mpr ⟨nx_NoKind_part, (List.forall_mem_cons.mpr ⟨nx_NoKinds_part, (List.forall_mem_cons.mpr ⟨nx_BadProgram_part, (List.forall_mem_cons.mpr ⟨nx_NoBody_part, (List.forall_mem_cons.mpr ⟨nx_NoPoint_part, (List.forall_mem_cons.mpr ⟨nx_NoInputs_part, (List.forall_mem_cons.mpr ⟨nx_NoNumber_part, (List.forall_mem_cons.mpr ⟨nx_IsOver_part, (List.forall_mem_cons.mpr ⟨nx_NoPlace_part, (List.forall_mem_cons.mpr ⟨nx_BadPlacer_part, (List.forall_mem_cons.mpr ⟨nx_TooMany_part, (List.forall_mem_cons.mpr ⟨nx_NoLot_part, (List.forall_mem_cons.mpr ⟨nx_NoSpot_part, (List.forall_mem_cons.mpr ⟨nx_NoSource_part, (List.forall_mem_cons.mpr ⟨nx_NoWords_part, (List.forall_mem_cons.mpr ⟨nx_NoKinding_part, (List.forall_mem_cons.mpr ⟨nx_NoOver_part, (List.forall_mem_cons.mpr ⟨nx_BadImage_part, (List.forall_mem_cons.mpr ⟨nx_NoText_part, (List.forall_mem_cons.mpr ⟨nx_NoRecord_part, (List.forall_mem_cons.mpr ⟨nx_BadText_part, (List.forall_mem_cons.mpr ⟨nx_NothingDone_part, (List.forall_mem_cons.mpr ⟨nx_NoForm_part, (List.forall_mem_cons.mpr ⟨nx_NoName_part, (List.forall_mem_cons.mpr ⟨nx_NothingChosen_part, (fun _ z => nomatch z)⟩)⟩)⟩)⟩)⟩)⟩)⟩)⟩)⟩)⟩)⟩)⟩)⟩)⟩)⟩)⟩)⟩)⟩)⟩)⟩)⟩)⟩)⟩)⟩)⟩), InsTab.of v_Program IO io_bool, InsTab.of v_Program IO io_list, InsTab.of v_Program IO io_tuple, ⟨_, v_Program, PySem.W.mg_of X G v_Program, IO⟩, ⟨_, a48, PySem.W.mg_of X G a48⟩, ⟨_, a44, PySem.W.mg_of X G a44⟩, ⟨_, a49, PySem.W.mg_of X G a49⟩, ⟨_, a29, PySem.W.mg_of X G a29⟩, ⟨_, a28, PySem.W.mg_of X G a28⟩, ⟨_, a45, PySem.W.mg_of X G a45⟩, ⟨_, a36, PySem.W.mg_of X G a36⟩, ⟨_, a47, PySem.W.mg_of X G a47⟩, ⟨_, a46, PySem.W.mg_of X G a46⟩, ⟨_, a34, PySem.W.mg_of X G a34⟩, ⟨_, a33, PySem.W.mg_of X G a33⟩, ⟨_, a43, PySem.W.mg_of X G a43⟩, ⟨_, a42, PySem.W.mg_of X G a42⟩, ⟨_, a37, PySem.W.mg_of X G a37⟩⟩
  refine ⟨PySem.W.fnOf "law" "law" (defArgs s_law) (defBody s_law) (defScope s_law) .none kV63 dc63 pm63 an63 cd63 ct63, fun s v => .of_eq rfl, fun base _ _ => ?_⟩
  have F0 := fun_mk (st := s_is_tuple) l0 c0 k0
  have b0 := F0.binds (ps := ["thing", "low", "high"]) fun _ _ _ _ _ _ us hl => match us, hl with | [_, _, _], _ => rfl
  have F1 := fun_mk (st := s_is_integer) l1 c1 k1
  have b1 := F1.binds (ps := ["thing"]) fun _ _ _ _ _ _ us hl => match us, hl with | [_], _ => rfl
  have F2 := fun_mk (st := s_is_between) l2 c2 k2
  have b2 := F2.binds (ps := ["thing", "low", "high"]) fun _ _ _ _ _ _ us hl => match us, hl with | [_, _, _], _ => rfl
  have F3 := fun_mk (st := s_letters_told) l3 c3 k3
  have b3 := F3.binds (ps := ["thing", "size", "most"]) fun _ _ _ _ _ _ us hl => match us, hl with | [_, _, _], _ => rfl
  have F4 := fun_mk (st := s_choice_letters) l4 c4 k4
  have b4 := F4.binds (ps := ["book"]) fun _ _ _ _ _ _ us hl => match us, hl with | [_], _ => rfl
  have F5 := fun_mk (st := s_is_natural) l5 c5 k5
  have b5 := F5.binds (ps := ["thing"]) fun _ _ _ _ _ _ us hl => match us, hl with | [_], _ => rfl
  have F6 := fun_mk (st := s_has_outer_form) l6 c6 k6
  have b6 := F6.binds (ps := ["thing"]) fun _ _ _ _ _ _ us hl => match us, hl with | [_], _ => rfl
  have F7 := fun_mk (st := s_kinds_within) l7 c7 k7
  have b7 := F7.binds (ps := ["kind"]) fun _ _ _ _ _ _ us hl => match us, hl with | [_], _ => rfl
  have F8 := fun_mk (st := s_is_kind) l8 c8 k8
  have b8 := F8.binds (ps := ["thing"]) fun _ _ _ _ _ _ us hl => match us, hl with | [_], _ => rfl
  have F9 := fun_mk (st := s_names_what_is) l9 c9 k9
  have b9 := F9.binds (ps := ["kind", "letters", "counts"]) fun _ _ _ _ _ _ us hl => match us, hl with | [_, _, _], _ => rfl
  have F10 := fun_mk (st := s_may_be_written) l10 c10 k10
  have b10 := F10.binds (ps := ["kind", "letters", "counts"]) fun _ _ _ _ _ _ us hl => match us, hl with | [_, _, _], _ => rfl
  have F11 := fun_mk (st := s_is_way) l11 c11 k11
  have b11 := F11.binds (ps := ["thing", "letters", "counts"]) fun _ _ _ _ _ _ us hl => match us, hl with | [_, _, _], _ => rfl
  have F12 := fun_mk (st := s_is_choice) l12 c12 k12
  have b12 := F12.binds (ps := ["thing", "counts"]) fun _ _ _ _ _ _ us hl => match us, hl with | [_, _], _ => rfl
  have F13 := fun_mk (st := s_body_letters) l13 c13 k13
  have b13 := F13.binds (ps := ["bodies"]) fun _ _ _ _ _ _ us hl => match us, hl with | [_], _ => rfl
  have F14 := fun_mk (st := s_are_kinds) l14 c14 k14
  have b14 := F14.binds (ps := ["thing"]) fun _ _ _ _ _ _ us hl => match us, hl with | [_], _ => rfl
  have F15 := fun_mk (st := s_head_of) l15 c15 k15
  have b15 := F15.binds (ps := ["thing"]) fun _ _ _ _ _ _ us hl => match us, hl with | [_], _ => rfl
  have F16 := fun_mk (st := s_are_naturals) l16 c16 k16
  have b16 := F16.binds (ps := ["thing"]) fun _ _ _ _ _ _ us hl => match us, hl with | [_], _ => rfl
  have F17 := fun_mk (st := s_word_has_form) l17 c17 k17
  have b17 := F17.binds (ps := ["word", "form", "ways", "many"]) fun _ _ _ _ _ _ us hl => match us, hl with | [_, _, _, _], _ => rfl
  have F18 := fun_mk (st := s_words_have_forms) l18 c18 k18
  have b18 := F18.binds (ps := ["words", "told", "ways", "many"]) fun _ _ _ _ _ _ us hl => match us, hl with | [_, _, _, _], _ => rfl
  have F19 := fun_mk (st := s_is_step) l19 c19 k19
  have b19 := F19.binds (ps := ["thing", "ways", "many"]) fun _ _ _ _ _ _ us hl => match us, hl with | [_, _, _], _ => rfl
  have F20 := fun_mk (st := s_is_end) l20 c20 k20
  have b20 := F20.binds (ps := ["thing", "ways", "many"]) fun _ _ _ _ _ _ us hl => match us, hl with | [_, _, _], _ => rfl
  have F21 := fun_mk (st := s_blocks_within) l21 c21 k21
  have b21 := F21.binds (ps := ["end"]) fun _ _ _ _ _ _ us hl => match us, hl with | [_], _ => rfl
  have F22 := fun_mk (st := s_rows_of) l22 c22 k22
  have b22 := F22.binds (ps := ["block", "ways", "many"]) fun _ _ _ _ _ _ us hl => match us, hl with | [_, _, _], _ => rfl
  have F23 := fun_mk (st := s_body_rows) l23 c23 k23
  have b23 := F23.binds (ps := ["body", "ways", "many"]) fun _ _ _ _ _ _ us hl => match us, hl with | [_, _, _], _ => rfl
  have F24 := fun_mk (st := s_has_right_kinds) l24 c24 k24
  have b24 := F24.binds (ps := ["body", "steps", "counts", "body_counts"]) fun _ _ _ _ _ _ us hl => match us, hl with | [_, _, _, _], _ => rfl
  have F25 := fun_mk (st := s_takes_numbers_alone) l25 c25 k25
  have b25 := F25.binds (ps := ["body"]) fun _ _ _ _ _ _ us hl => match us, hl with | [_], _ => rfl
  have F26 := fun_mk (st := s_body_fault) l26 c26 k26
  have b26 := F26.binds (ps := ["book", "bodies", "number"]) fun _ _ _ _ _ _ us hl => match us, hl with | [_, _, _], _ => rfl
  have F27 := fun_mk (st := s_form_fault) l27 c27 k27
  have b27 := F27.binds (ps := ["book", "bodies"]) fun _ _ _ _ _ _ us hl => match us, hl with | [_, _], _ => rfl
  have F28 := fun_mk (st := s_num_kind) l28 c28 k28
  have b28 := F28.binds (ps := ["step", "table", "book", "bodies"]) fun _ _ _ _ _ _ us hl => match us, hl with | [_, _, _, _], _ => rfl
  have F29 := fun_mk (st := s_nil_kind) l29 c29 k29
  have b29 := F29.binds (ps := ["step", "table", "book", "bodies"]) fun _ _ _ _ _ _ us hl => match us, hl with | [_, _, _, _], _ => rfl
  have F30 := fun_mk (st := s_are_made_alike) l30 c30 k30
  have b30 := F30.binds (ps := ["kind", "other"]) fun _ _ _ _ _ _ us hl => match us, hl with | [_, _], _ => rfl
  have F31 := fun_mk (st := s_are_same) l31 c31 k31
  have b31 := F31.binds (ps := ["kind", "other"]) fun _ _ _ _ _ _ us hl => match us, hl with | [_, _], _ => rfl
  have F32 := fun_mk (st := s_are_there) l32 c32 k32
  have b32 := F32.binds (ps := ["table", "places", "kinds"]) fun _ _ _ _ _ _ us hl => match us, hl with | [_, _, _], _ => rfl
  have F33 := fun_mk (st := s_sum_kind) l33 c33 k33
  have b33 := F33.binds (ps := ["step", "table", "book", "bodies"]) fun _ _ _ _ _ _ us hl => match us, hl with | [_, _, _, _], _ => rfl
  have F34 := fun_mk (st := s_row_kind) l34 c34 k34
  have b34 := F34.binds (ps := ["step", "table", "book", "bodies"]) fun _ _ _ _ _ _ us hl => match us, hl with | [_, _, _, _], _ => rfl
  have F35 := fun_mk (st := s_there_with) l35 c35 k35
  have b35 := F35.binds (ps := ["table", "place", "head"]) fun _ _ _ _ _ _ us hl => match us, hl with | [_, _, _], _ => rfl
  have F36 := fun_mk (st := s_part_kind) l36 c36 k36
  have b36 := F36.binds (ps := ["step", "table", "book", "bodies"]) fun _ _ _ _ _ _ us hl => match us, hl with | [_, _, _, _], _ => rfl
  have F37 := fun_mk (st := s_with_kinds) l37 c37 k37
  have b37 := F37.binds (ps := ["kind", "within"]) fun _ _ _ _ _ _ us hl => match us, hl with | [_, _], _ => rfl
  have F38 := fun_mk (st := s_all_kinds) l38 c38 k38
  have b38 := F38.binds (ps := ["kind"]) fun _ _ _ _ _ _ us hl => match us, hl with | [_], _ => rfl
  have F39 := fun_mk (st := s_folded) l39 c39 k39
  have b39 := F39.binds (ps := ["kind", "letters", "make"]) fun _ _ _ _ _ _ us hl => match us, hl with | [_, _, _], _ => rfl
  have F40 := fun_mk (st := s_put_in) l40 c40 k40
  have b40 := F40.binds (ps := ["kind", "kinds"]) fun _ _ _ _ _ _ us hl => match us, hl with | [_, _], _ => rfl
  have F41 := fun_mk (st := s_all_put_in) l41 c41 k41
  have b41 := F41.binds (ps := ["kinds", "letters"]) fun _ _ _ _ _ _ us hl => match us, hl with | [_, _], _ => rfl
  have F42 := fun_mk (st := s_way_kind) l42 c42 k42
  have b42 := F42.binds (ps := ["step", "table", "book", "bodies"]) fun _ _ _ _ _ _ us hl => match us, hl with | [_, _, _, _], _ => rfl
  have F43 := fun_mk (st := s_take_kind) l43 c43 k43
  have b43 := F43.binds (ps := ["step", "table", "book", "bodies"]) fun _ _ _ _ _ _ us hl => match us, hl with | [_, _, _, _], _ => rfl
  have F44 := fun_mk (st := s_box_kind) l44 c44 k44
  have b44 := F44.binds (ps := ["step", "table", "book", "bodies"]) fun _ _ _ _ _ _ us hl => match us, hl with | [_, _, _, _], _ => rfl
  have F45 := fun_mk (st := s_open_kind) l45 c45 k45
  have b45 := F45.binds (ps := ["step", "table", "book", "bodies"]) fun _ _ _ _ _ _ us hl => match us, hl with | [_, _, _, _], _ => rfl
  have F46 := fun_mk (st := s_put_kind) l46 c46 k46
  have b46 := F46.binds (ps := ["step", "table", "book", "bodies"]) fun _ _ _ _ _ _ us hl => match us, hl with | [_, _, _, _], _ => rfl
  have F47 := fun_mk (st := s_print_kind) l47 c47 k47
  have b47 := F47.binds (ps := ["step", "table", "book", "bodies"]) fun _ _ _ _ _ _ us hl => match us, hl with | [_, _, _, _], _ => rfl
  have F48 := fun_mk (st := s_body_kind) l48 c48 k48
  have b48 := F48.binds (ps := ["step", "table", "book", "bodies"]) fun _ _ _ _ _ _ us hl => match us, hl with | [_, _, _, _], _ => rfl
  have F49 := fun_mk (st := s_call_kind) l49 c49 k49
  have b49 := F49.binds (ps := ["step", "table", "book", "bodies"]) fun _ _ _ _ _ _ us hl => match us, hl with | [_, _, _, _], _ => rfl
  have F50 := fun_mk (st := s_is_too_great) l50 c50 k50
  have b50 := F50.binds (ps := ["kind"]) fun _ _ _ _ _ _ us hl => match us, hl with | [_], _ => rfl
  have F51 := fun_mk (st := s_made_kind) l51 c51 k51
  have b51 := F51.binds (ps := ["step", "table", "book", "bodies"]) fun _ _ _ _ _ _ us hl => match us, hl with | [_, _, _, _], _ => rfl
  have F52 := fun_mk (st := s_come_ahead) l52 c52 k52
  have b52 := F52.binds (ps := ["end", "table", "book", "answer"]) fun _ _ _ _ _ _ us hl => match us, hl with | [_, _, _, _], _ => rfl
  have F53 := fun_mk (st := s_rows_and_tables) l53 c53 k53
  have b53 := F53.binds (ps := ["book", "bodies", "number"]) fun _ _ _ _ _ _ us hl => match us, hl with | [_, _, _], _ => rfl
  have F54 := fun_mk (st := s_Program___init__) l54 c54 k54
  have b54 := F54.binds (ps := ["self", "book", "bodies"]) fun _ _ _ _ _ _ us hl => match us, hl with | [_, _, _], _ => rfl
  have F55 := fun_mk (st := s__law_bag) l55 c55 k55
  have b55 := F55.binds (ps := ["_law_script"]) fun _ _ _ _ _ _ us hl => match us, hl with | [_], _ => rfl
  have F56 := fun_mk (st := s__law_pick) l56 c56 k56
  have b56 := F56.binds (ps := ["_law_bag_here", "_law_many"]) fun _ _ _ _ _ _ us hl => match us, hl with | [_, _], _ => rfl
  have F57 := fun_mk (st := s__law_some) l57 c57 k57
  have b57 := F57.binds (ps := ["_law_bag_here", "_law_things"]) fun _ _ _ _ _ _ us hl => match us, hl with | [_, _], _ => rfl
  have F58 := fun_mk (st := s_Program___eq__) l58 c58 k58
  have b58 := F58.binds (ps := ["self", "other"]) fun _ _ _ _ _ _ us hl => match us, hl with | [_, _], _ => rfl
  have F59 := fun_mk (st := s__law_is) l59 c59 k59
  have b59 := F59.binds (ps := ["_law_thing", "_law_due"]) fun _ _ _ _ _ _ us hl => match us, hl with | [_, _], _ => rfl
  have F60 := fun_mk (st := s__law_deep) l60 c60 k60
  have b60 := F60.binds (ps := []) fun _ _ _ _ _ _ us hl => match us, hl with | [], _ => rfl
  have F61 := fun_mk (st := s__law_flags) l61 c61 k61
  have b61 := F61.binds (ps := ["_law_e"]) fun _ _ _ _ _ _ us hl => match us, hl with | [_], _ => rfl
  have F62 := fun_mk (st := s__law_fields) l62 c62 k62
  have b62 := F62.binds (ps := ["_law_e"]) fun _ _ _ _ _ _ us hl => match us, hl with | [_], _ => rfl
  have F63 := fun_mk (st := s_law) l63 c63 k63
  have b63 := F63.binds (ps := ["_law_script"]) fun _ _ _ _ _ _ us hl => match us, hl with | [_], _ => rfl
  have XF0 := fun_mk (st := s_NoKind___init__) ly_NoKind cy_NoKind ky_NoKind
  have xb0 := XF0.binds (ps := ["self"]) fun _ _ _ _ _ _ us hl => match us, hl with | [_], _ => rfl
  have XC0 := ok_NoKind___init__ (P := l.prog) (w := w) (base := base) ef_NoKind XF0 fi_NoKind ty_NoKind xb0 (PySem.W.mg_of X G ef_NoKind.ns) ⟨rd_W0, fc_W0⟩ (PySem.W.mg_of X G v_W0)
  have XF1 := fun_mk (st := s_NoKinds___init__) ly_NoKinds cy_NoKinds ky_NoKinds
  have xb1 := XF1.binds (ps := ["self"]) fun _ _ _ _ _ _ us hl => match us, hl with | [_], _ => rfl
  have XC1 := ok_NoKinds___init__ (P := l.prog) (w := w) (base := base) ef_NoKinds XF1 fi_NoKinds ty_NoKinds xb1 (PySem.W.mg_of X G ef_NoKinds.ns) ⟨rd_W0, fc_W0⟩ (PySem.W.mg_of X G v_W0)
  have XF2 := fun_mk (st := s_BadProgram___init__) ly_BadProgram cy_BadProgram ky_BadProgram
  have xb2 := XF2.binds (ps := ["self", "part"]) fun _ _ _ _ _ _ us hl => match us, hl with | [_, _], _ => rfl
  have XC2 := ok_BadProgram___init__ (P := l.prog) (w := w) (base := base) ef_BadProgram XF2 fi_BadProgram ty_BadProgram xb2 (PySem.W.mg_of X G ef_BadProgram.ns) nx_BadProgram_part
  have XF3 := fun_mk (st := s_NoBody___init__) ly_NoBody cy_NoBody ky_NoBody
  have xb3 := XF3.binds (ps := ["self"]) fun _ _ _ _ _ _ us hl => match us, hl with | [_], _ => rfl
  have XC3 := ok_NoBody___init__ (P := l.prog) (w := w) (base := base) ef_NoBody XF3 fi_NoBody ty_NoBody xb3 (PySem.W.mg_of X G ef_NoBody.ns) ⟨rd_W0, fc_W0⟩ (PySem.W.mg_of X G v_W0)
  have XF4 := fun_mk (st := s_NoPoint___init__) ly_NoPoint cy_NoPoint ky_NoPoint
  have xb4 := XF4.binds (ps := ["self"]) fun _ _ _ _ _ _ us hl => match us, hl with | [_], _ => rfl
  have XC4 := ok_NoPoint___init__ (P := l.prog) (w := w) (base := base) ef_NoPoint XF4 fi_NoPoint ty_NoPoint xb4 (PySem.W.mg_of X G ef_NoPoint.ns) ⟨rd_W0, fc_W0⟩ (PySem.W.mg_of X G v_W0)
  have XF5 := fun_mk (st := s_NoInputs___init__) ly_NoInputs cy_NoInputs ky_NoInputs
  have xb5 := XF5.binds (ps := ["self"]) fun _ _ _ _ _ _ us hl => match us, hl with | [_], _ => rfl
  have XC5 := ok_NoInputs___init__ (P := l.prog) (w := w) (base := base) ef_NoInputs XF5 fi_NoInputs ty_NoInputs xb5 (PySem.W.mg_of X G ef_NoInputs.ns) ⟨rd_W0, fc_W0⟩ (PySem.W.mg_of X G v_W0)
  have XF6 := fun_mk (st := s_NoNumber___init__) ly_NoNumber cy_NoNumber ky_NoNumber
  have xb6 := XF6.binds (ps := ["self"]) fun _ _ _ _ _ _ us hl => match us, hl with | [_], _ => rfl
  have XC6 := ok_NoNumber___init__ (P := l.prog) (w := w) (base := base) ef_NoNumber XF6 fi_NoNumber ty_NoNumber xb6 (PySem.W.mg_of X G ef_NoNumber.ns) ⟨rd_W0, fc_W0⟩ (PySem.W.mg_of X G v_W0)
  have XF7 := fun_mk (st := s_IsOver___init__) ly_IsOver cy_IsOver ky_IsOver
  have xb7 := XF7.binds (ps := ["self"]) fun _ _ _ _ _ _ us hl => match us, hl with | [_], _ => rfl
  have XC7 := ok_IsOver___init__ (P := l.prog) (w := w) (base := base) ef_IsOver XF7 fi_IsOver ty_IsOver xb7 (PySem.W.mg_of X G ef_IsOver.ns) ⟨rd_W0, fc_W0⟩ (PySem.W.mg_of X G v_W0)
  have XF8 := fun_mk (st := s_NoPlace___init__) ly_NoPlace cy_NoPlace ky_NoPlace
  have xb8 := XF8.binds (ps := ["self"]) fun _ _ _ _ _ _ us hl => match us, hl with | [_], _ => rfl
  have XC8 := ok_NoPlace___init__ (P := l.prog) (w := w) (base := base) ef_NoPlace XF8 fi_NoPlace ty_NoPlace xb8 (PySem.W.mg_of X G ef_NoPlace.ns) ⟨rd_W0, fc_W0⟩ (PySem.W.mg_of X G v_W0)
  have XF9 := fun_mk (st := s_BadPlacer___init__) ly_BadPlacer cy_BadPlacer ky_BadPlacer
  have xb9 := XF9.binds (ps := ["self", "number"]) fun _ _ _ _ _ _ us hl => match us, hl with | [_, _], _ => rfl
  have XC9 := ok_BadPlacer___init__ (P := l.prog) (w := w) (base := base) ef_BadPlacer XF9 fi_BadPlacer ty_BadPlacer xb9 (PySem.W.mg_of X G ef_BadPlacer.ns) nx_BadPlacer_number
  have XF10 := fun_mk (st := s_TooMany___init__) ly_TooMany cy_TooMany ky_TooMany
  have xb10 := XF10.binds (ps := ["self", "most"]) fun _ _ _ _ _ _ us hl => match us, hl with | [_, _], _ => rfl
  have XC10 := ok_TooMany___init__ (P := l.prog) (w := w) (base := base) ef_TooMany XF10 fi_TooMany ty_TooMany xb10 (PySem.W.mg_of X G ef_TooMany.ns) nx_TooMany_most
  have XF11 := fun_mk (st := s_NoLot___init__) ly_NoLot cy_NoLot ky_NoLot
  have xb11 := XF11.binds (ps := ["self"]) fun _ _ _ _ _ _ us hl => match us, hl with | [_], _ => rfl
  have XC11 := ok_NoLot___init__ (P := l.prog) (w := w) (base := base) ef_NoLot XF11 fi_NoLot ty_NoLot xb11 (PySem.W.mg_of X G ef_NoLot.ns) ⟨rd_W0, fc_W0⟩ (PySem.W.mg_of X G v_W0)
  have XF12 := fun_mk (st := s_NoSpot___init__) ly_NoSpot cy_NoSpot ky_NoSpot
  have xb12 := XF12.binds (ps := ["self"]) fun _ _ _ _ _ _ us hl => match us, hl with | [_], _ => rfl
  have XC12 := ok_NoSpot___init__ (P := l.prog) (w := w) (base := base) ef_NoSpot XF12 fi_NoSpot ty_NoSpot xb12 (PySem.W.mg_of X G ef_NoSpot.ns) ⟨rd_W0, fc_W0⟩ (PySem.W.mg_of X G v_W0)
  have XF13 := fun_mk (st := s_NoSource___init__) ly_NoSource cy_NoSource ky_NoSource
  have xb13 := XF13.binds (ps := ["self"]) fun _ _ _ _ _ _ us hl => match us, hl with | [_], _ => rfl
  have XC13 := ok_NoSource___init__ (P := l.prog) (w := w) (base := base) ef_NoSource XF13 fi_NoSource ty_NoSource xb13 (PySem.W.mg_of X G ef_NoSource.ns) ⟨rd_W0, fc_W0⟩ (PySem.W.mg_of X G v_W0)
  have XF14 := fun_mk (st := s_NoWords___init__) ly_NoWords cy_NoWords ky_NoWords
  have xb14 := XF14.binds (ps := ["self"]) fun _ _ _ _ _ _ us hl => match us, hl with | [_], _ => rfl
  have XC14 := ok_NoWords___init__ (P := l.prog) (w := w) (base := base) ef_NoWords XF14 fi_NoWords ty_NoWords xb14 (PySem.W.mg_of X G ef_NoWords.ns) ⟨rd_W0, fc_W0⟩ (PySem.W.mg_of X G v_W0)
  have XF15 := fun_mk (st := s_NoKinding___init__) ly_NoKinding cy_NoKinding ky_NoKinding
  have xb15 := XF15.binds (ps := ["self"]) fun _ _ _ _ _ _ us hl => match us, hl with | [_], _ => rfl
  have XC15 := ok_NoKinding___init__ (P := l.prog) (w := w) (base := base) ef_NoKinding XF15 fi_NoKinding ty_NoKinding xb15 (PySem.W.mg_of X G ef_NoKinding.ns) ⟨rd_W0, fc_W0⟩ (PySem.W.mg_of X G v_W0)
  have XF16 := fun_mk (st := s_NoOver___init__) ly_NoOver cy_NoOver ky_NoOver
  have xb16 := XF16.binds (ps := ["self"]) fun _ _ _ _ _ _ us hl => match us, hl with | [_], _ => rfl
  have XC16 := ok_NoOver___init__ (P := l.prog) (w := w) (base := base) ef_NoOver XF16 fi_NoOver ty_NoOver xb16 (PySem.W.mg_of X G ef_NoOver.ns) ⟨rd_W0, fc_W0⟩ (PySem.W.mg_of X G v_W0)
  have XF17 := fun_mk (st := s_BadImage___init__) ly_BadImage cy_BadImage ky_BadImage
  have xb17 := XF17.binds (ps := ["self", "line"]) fun _ _ _ _ _ _ us hl => match us, hl with | [_, _], _ => rfl
  have XC17 := ok_BadImage___init__ (P := l.prog) (w := w) (base := base) ef_BadImage XF17 fi_BadImage ty_BadImage xb17 (PySem.W.mg_of X G ef_BadImage.ns) nx_BadImage_line
  have XF18 := fun_mk (st := s_NoText___init__) ly_NoText cy_NoText ky_NoText
  have xb18 := XF18.binds (ps := ["self"]) fun _ _ _ _ _ _ us hl => match us, hl with | [_], _ => rfl
  have XC18 := ok_NoText___init__ (P := l.prog) (w := w) (base := base) ef_NoText XF18 fi_NoText ty_NoText xb18 (PySem.W.mg_of X G ef_NoText.ns) ⟨rd_W0, fc_W0⟩ (PySem.W.mg_of X G v_W0)
  have XF19 := fun_mk (st := s_NoRecord___init__) ly_NoRecord cy_NoRecord ky_NoRecord
  have xb19 := XF19.binds (ps := ["self"]) fun _ _ _ _ _ _ us hl => match us, hl with | [_], _ => rfl
  have XC19 := ok_NoRecord___init__ (P := l.prog) (w := w) (base := base) ef_NoRecord XF19 fi_NoRecord ty_NoRecord xb19 (PySem.W.mg_of X G ef_NoRecord.ns) ⟨rd_W0, fc_W0⟩ (PySem.W.mg_of X G v_W0)
  have XF20 := fun_mk (st := s_BadText___init__) ly_BadText cy_BadText ky_BadText
  have xb20 := XF20.binds (ps := ["self", "line"]) fun _ _ _ _ _ _ us hl => match us, hl with | [_, _], _ => rfl
  have XC20 := ok_BadText___init__ (P := l.prog) (w := w) (base := base) ef_BadText XF20 fi_BadText ty_BadText xb20 (PySem.W.mg_of X G ef_BadText.ns) nx_BadText_line
  have XF21 := fun_mk (st := s_NothingDone___init__) ly_NothingDone cy_NothingDone ky_NothingDone
  have xb21 := XF21.binds (ps := ["self"]) fun _ _ _ _ _ _ us hl => match us, hl with | [_], _ => rfl
  have XC21 := ok_NothingDone___init__ (P := l.prog) (w := w) (base := base) ef_NothingDone XF21 fi_NothingDone ty_NothingDone xb21 (PySem.W.mg_of X G ef_NothingDone.ns) ⟨rd_W0, fc_W0⟩ (PySem.W.mg_of X G v_W0)
  have XF22 := fun_mk (st := s_NoForm___init__) ly_NoForm cy_NoForm ky_NoForm
  have xb22 := XF22.binds (ps := ["self"]) fun _ _ _ _ _ _ us hl => match us, hl with | [_], _ => rfl
  have XC22 := ok_NoForm___init__ (P := l.prog) (w := w) (base := base) ef_NoForm XF22 fi_NoForm ty_NoForm xb22 (PySem.W.mg_of X G ef_NoForm.ns) ⟨rd_W0, fc_W0⟩ (PySem.W.mg_of X G v_W0)
  have XF23 := fun_mk (st := s_NoName___init__) ly_NoName cy_NoName ky_NoName
  have xb23 := XF23.binds (ps := ["self", "name"]) fun _ _ _ _ _ _ us hl => match us, hl with | [_, _], _ => rfl
  have XC23 := ok_NoName___init__ (P := l.prog) (w := w) (base := base) ef_NoName XF23 fi_NoName ty_NoName xb23 (PySem.W.mg_of X G ef_NoName.ns) nx_NoName_name
  have XF24 := fun_mk (st := s_NothingChosen___init__) ly_NothingChosen cy_NothingChosen ky_NothingChosen
  have xb24 := XF24.binds (ps := ["self"]) fun _ _ _ _ _ _ us hl => match us, hl with | [_], _ => rfl
  have XC24 := ok_NothingChosen___init__ (P := l.prog) (w := w) (base := base) ef_NothingChosen XF24 fi_NothingChosen ty_NothingChosen xb24 (PySem.W.mg_of X G ef_NothingChosen.ns) ⟨rd_W0, fc_W0⟩ (PySem.W.mg_of X G v_W0)
  have EX : Excs l.prog w K mg base := ⟨XC0, XC1, XC2, XC3, XC4, XC5, XC6, XC7, XC8, XC9, XC10, XC11, XC12, XC13, XC14, XC15, XC16, XC17, XC18, XC19, XC20, XC21, XC22, XC23, XC24⟩
  have C_is_tuple := ok_is_tuple (P := l.prog) (w := w) (base := base) T F0 (PySem.W.mg_of X G a0) b0 
  have C_is_integer := ok_is_integer (P := l.prog) (w := w) (base := base) T F1 (PySem.W.mg_of X G a1) b1 
  have C_is_between := ok_is_between (P := l.prog) (w := w) (base := base) T F2 (PySem.W.mg_of X G a2) b2 C_is_integer
  have C_letters_told := ok_letters_told (P := l.prog) (w := w) (base := base) T F3 (PySem.W.mg_of X G a3) b3 C_is_tuple C_is_between
  have C_choice_letters := ok_choice_letters (P := l.prog) (w := w) (base := base) T F4 (PySem.W.mg_of X G a4) b4 C_letters_told
  have C_is_natural := ok_is_natural (P := l.prog) (w := w) (base := base) T F5 (PySem.W.mg_of X G a5) b5 C_is_integer
  have C_has_outer_form := ok_has_outer_form (P := l.prog) (w := w) (base := base) T F6 (PySem.W.mg_of X G a6) b6 C_is_tuple C_is_natural
  have C_kinds_within := ok_kinds_within (P := l.prog) (w := w) (base := base) T F7 (PySem.W.mg_of X G a7) b7 
  have C_is_kind := ok_is_kind (P := l.prog) (w := w) (base := base) T F8 (PySem.W.mg_of X G a8) b8 C_has_outer_form C_kinds_within
  have C_names_what_is := ok_names_what_is (P := l.prog) (w := w) (base := base) T F9 (PySem.W.mg_of X G a9) b9 
  have C_may_be_written := ok_may_be_written (P := l.prog) (w := w) (base := base) T F10 (PySem.W.mg_of X G a10) b10 C_kinds_within C_names_what_is
  have C_is_way := ok_is_way (P := l.prog) (w := w) (base := base) T F11 (PySem.W.mg_of X G a11) b11 C_is_tuple C_is_kind C_may_be_written
  have C_is_choice := ok_is_choice (P := l.prog) (w := w) (base := base) T F12 (PySem.W.mg_of X G a12) b12 C_is_tuple C_is_between C_is_way
  have C_body_letters := ok_body_letters (P := l.prog) (w := w) (base := base) T F13 (PySem.W.mg_of X G a13) b13 C_letters_told
  have C_are_kinds := ok_are_kinds (P := l.prog) (w := w) (base := base) T F14 (PySem.W.mg_of X G a14) b14 C_is_kind
  have C_head_of := ok_head_of (P := l.prog) (w := w) (base := base) T F15 (PySem.W.mg_of X G a15) b15 C_is_tuple
  have C_are_naturals := ok_are_naturals (P := l.prog) (w := w) (base := base) T F16 (PySem.W.mg_of X G a16) b16 C_is_natural
  have C_word_has_form := ok_word_has_form (P := l.prog) (w := w) (base := base) T F17 (PySem.W.mg_of X G a17) b17 C_is_between C_is_natural C_are_kinds C_are_naturals
  have C_words_have_forms := ok_words_have_forms (P := l.prog) (w := w) (base := base) T F18 (PySem.W.mg_of X G a18) b18 C_word_has_form
  have C_is_step := ok_is_step (P := l.prog) (w := w) (base := base) T F19 (PySem.W.mg_of X G a19) b19 C_head_of C_words_have_forms
  have C_is_end := ok_is_end (P := l.prog) (w := w) (base := base) T F20 (PySem.W.mg_of X G a20) b20 C_head_of C_words_have_forms
  have C_blocks_within := ok_blocks_within (P := l.prog) (w := w) (base := base) T F21 (PySem.W.mg_of X G a21) b21 
  have C_rows_of := ok_rows_of (P := l.prog) (w := w) (base := base) T F22 (PySem.W.mg_of X G a22) b22 C_is_tuple C_is_step C_is_end C_blocks_within
  have C_body_rows := ok_body_rows (P := l.prog) (w := w) (base := base) T F23 (PySem.W.mg_of X G a23) b23 C_is_tuple C_is_between C_is_kind C_are_kinds C_rows_of
  have C_has_right_kinds := ok_has_right_kinds (P := l.prog) (w := w) (base := base) T F24 (PySem.W.mg_of X G a24) b24 C_may_be_written
  have C_takes_numbers_alone := ok_takes_numbers_alone (P := l.prog) (w := w) (base := base) T F25 (PySem.W.mg_of X G a25) b25 
  have C_body_fault := ok_body_fault (P := l.prog) (w := w) (base := base) T F26 (PySem.W.mg_of X G a26) b26 C_choice_letters C_body_letters C_body_rows C_has_right_kinds C_takes_numbers_alone
  have C_form_fault := ok_form_fault (P := l.prog) (w := w) (base := base) T F27 (PySem.W.mg_of X G a27) b27 C_is_tuple C_choice_letters C_is_choice C_body_fault
  have C_num_kind := ok_num_kind (P := l.prog) (w := w) (base := base) T F28 (PySem.W.mg_of X G a28) b28 
  have C_nil_kind := ok_nil_kind (P := l.prog) (w := w) (base := base) T F29 (PySem.W.mg_of X G a29) b29 
  have C_are_made_alike := ok_are_made_alike (P := l.prog) (w := w) (base := base) T F30 (PySem.W.mg_of X G a30) b30 C_kinds_within
  have C_are_same := ok_are_same (P := l.prog) (w := w) (base := base) T F31 (PySem.W.mg_of X G a31) b31 C_kinds_within C_are_made_alike
  have C_are_there := ok_are_there (P := l.prog) (w := w) (base := base) T F32 (PySem.W.mg_of X G a32) b32 C_are_same
  have C_sum_kind := ok_sum_kind (P := l.prog) (w := w) (base := base) T F33 (PySem.W.mg_of X G a33) b33 C_are_there
  have C_row_kind := ok_row_kind (P := l.prog) (w := w) (base := base) T F34 (PySem.W.mg_of X G a34) b34 
  have C_there_with := ok_there_with (P := l.prog) (w := w) (base := base) T F35 (PySem.W.mg_of X G a35) b35 
  have C_part_kind := ok_part_kind (P := l.prog) (w := w) (base := base) T F36 (PySem.W.mg_of X G a36) b36 C_there_with
  have C_with_kinds := ok_with_kinds (P := l.prog) (w := w) (base := base) T F37 (PySem.W.mg_of X G a37) b37 
  have C_all_kinds := ok_all_kinds (P := l.prog) (w := w) (base := base) T F38 (PySem.W.mg_of X G a38) b38 C_kinds_within
  have C_folded := ok_folded (P := l.prog) (w := w) (base := base) T F39 (PySem.W.mg_of X G a39) b39 C_kinds_within C_with_kinds C_all_kinds
  have C_put_in := ok_put_in (P := l.prog) (w := w) (base := base) T F40 (PySem.W.mg_of X G a40) b40 C_folded
  have C_all_put_in := ok_all_put_in (P := l.prog) (w := w) (base := base) T F41 (PySem.W.mg_of X G a41) b41 C_put_in
  have C_way_kind := ok_way_kind (P := l.prog) (w := w) (base := base) T F42 (PySem.W.mg_of X G a42) b42 C_are_there C_all_put_in
  have C_take_kind := ok_take_kind (P := l.prog) (w := w) (base := base) T F43 (PySem.W.mg_of X G a43) b43 C_are_there C_put_in C_all_put_in
  have C_box_kind := ok_box_kind (P := l.prog) (w := w) (base := base) T F44 (PySem.W.mg_of X G a44) b44 
  have C_open_kind := ok_open_kind (P := l.prog) (w := w) (base := base) T F45 (PySem.W.mg_of X G a45) b45 C_there_with
  have C_put_kind := ok_put_kind (P := l.prog) (w := w) (base := base) T F46 (PySem.W.mg_of X G a46) b46 C_are_there C_there_with
  have C_print_kind := ok_print_kind (P := l.prog) (w := w) (base := base) T F47 (PySem.W.mg_of X G a47) b47 C_are_there
  have C_body_kind := ok_body_kind (P := l.prog) (w := w) (base := base) T F48 (PySem.W.mg_of X G a48) b48 C_are_there C_put_in C_all_put_in
  have C_call_kind := ok_call_kind (P := l.prog) (w := w) (base := base) T F49 (PySem.W.mg_of X G a49) b49 C_are_there C_there_with
  have C_is_too_great := ok_is_too_great (P := l.prog) (w := w) (base := base) T F50 (PySem.W.mg_of X G a50) b50 C_all_kinds
  have C_made_kind := ok_made_kind (P := l.prog) (w := w) (base := base) T F51 (PySem.W.mg_of X G a51) b51 C_num_kind C_nil_kind C_sum_kind C_row_kind C_part_kind C_way_kind C_take_kind C_box_kind C_open_kind C_put_kind C_print_kind C_body_kind C_call_kind C_is_too_great
  have C_come_ahead := ok_come_ahead (P := l.prog) (w := w) (base := base) T F52 (PySem.W.mg_of X G a52) b52 C_are_there C_there_with C_all_put_in C_is_too_great
  have C_rows_and_tables := ok_rows_and_tables (P := l.prog) (w := w) (base := base) T F53 (PySem.W.mg_of X G a53) b53 C_blocks_within C_made_kind C_come_ahead
  have C_Program___init__ := ok_Program___init__ (P := l.prog) (w := w) (base := base) T F54 (PySem.W.mg_of X G v_Program) v_Program ⟨m1_Program, a54, m2_Program, m3_Program⟩ b54 C_form_fault C_rows_and_tables
  have C__law_bag := ok__law_bag (P := l.prog) (w := w) (base := base) T F55 (PySem.W.mg_of X G a55) b55 
  have C__law_pick := ok__law_pick (P := l.prog) (w := w) (base := base) T F56 (PySem.W.mg_of X G a56) b56 
  have C__law_some := ok__law_some (P := l.prog) (w := w) (base := base) T F57 (PySem.W.mg_of X G a57) b57 C__law_pick
  have C_Program___eq__ := ok_Program___eq__ (P := l.prog) (w := w) (base := base) T F58 v_Program a58 eqfn b58 
  have C__law_is := ok__law_is (P := l.prog) (w := w) (base := base) T F59 (PySem.W.mg_of X G a59) b59 C_Program___eq__ 45
  have C__law_deep := ok__law_deep (P := l.prog) (w := w) (base := base) T F60 (PySem.W.mg_of X G a60) b60 
  have C__law_flags := ok__law_flags (P := l.prog) (w := w) (base := base) T F61 (PySem.W.mg_of X G a61) b61 
  have C__law_fields := ok__law_fields (P := l.prog) (w := w) (base := base) T F62 (PySem.W.mg_of X G a62) b62 
  exact ok_law (P := l.prog) (w := w) (base := base) T F63 (PySem.W.mg_of X G a63) b63 EX C_Program___init__ C__law_bag C__law_some C__law_is C__law_deep C__law_flags C__law_fields
theorem fix_of {K : PySem.W.Frag} {H : Hp} {a : Addr} {xs : List V} (o : Only H) (h : SqL K H a xs) : Fix K H a xs := by
  rcases h with (h | ⟨ob, h⟩) | h
  · rcases o a with e | ⟨ob, ys, e⟩
    · rw [h] at e; cases e
    · rw [h] at e; cases e
  · exact .inl ⟨ob, h⟩
  · exact .inr h
theorem walk {l : PySem.W.OpenLaw} {q : Program} {loose : List Str} {XP : (Str → Option Value) → Heap → Prop} {YP : World → Heap → Prop} {d : DefRec} {K : Params → PySem.W.Frag} (hn : l.most = some 63) (hdf : d.params.defaults = [])
    (hv : ∀ ns : List Int, ns.length ≤ 63 → ∃ st, F_law [.fl (ns.map .int)] [] = some (.bl true, st))
    (hY : ∀ (w : World) (h : Heap), YP w h → (K w.params).In h)
    (F : ∀ (w : World) (mg : Str → Option Value) (fa : Addr) (h : Heap), (K w.params).In h → h.Ns mainGlobals mg → mg d.name = some (.ref fa) →
      ∃ fd : FuncData, (∀ (s : Shared) (u : Value), BindsTo s fd ⟨[u], []⟩ [("_law_script", u)]) ∧ ∀ base : Heap, (K w.params).In base → base.Ns mainGlobals mg → FnOk l.prog w (K w.params) mg base CX0 49 fa fd ["_law_script"] (spM (K w.params) 1 F_law)) :
    PySem.W.WalkO q loose XP YP l.row.toRowW d [] (fun f vs => PySem.call f vs) :=
  L2.walk_of (n := 63) (k := 49) (x := "_law_script") (CX := fun _ => CX0) (sp := fun w => spM (K w.params) 1 F_law) hn (by decide) hdf ⟨rfl, by decide, by decide⟩ hY F
    (fun w H a ns hl ho hS => by
      obtain ⟨st, hst⟩ := hv ns hl
      refine ⟨rfl, [], [], [.fl (ns.map .int)], .bl true, st, .cons (.fl (fix_of ho hS) (rws_ints ns)) .nil, ⟨rfl, .nil, fun i o h => by simp at h⟩, hst, fun v H' β' _ _ r => r.bl_inv⟩) fun _ _ _ _ _ z => z
end K00

set_option Elab.async false
set_option linter.all false
set_option maxRecDepth 100000
set_option maxHeartbeats 4000000
namespace K00
open PySem PySem.Spec PyProof.Rows L2 B
set_option autoImplicit false
theorem facts {l : PySem.W.OpenLaw} {w : World} {K : PySem.W.Frag} {h : Heap} {mg : Str → Option Value} {fa : Addr} (X : K.In h) (G : h.Ns mainGlobals mg) (hfa : mg "law" = some (.ref fa)) (c : SaysM K00t.bs K00t.fns K00t.tbs w K)
    : ∃ fd : FuncData, (∀ (s : Shared) (v : Value), BindsTo s fd ⟨[v], []⟩ [("_law_script", v)]) ∧ ∀ base : Heap, K.In base → base.Ns mainGlobals mg → FnOk l.prog w K mg base CX0 49 fa fd ["_law_script"] (spM K 1 F_law) := by
  have g0 := c.chk 0 (b := allC K00t.cs0) rfl
  have g1 := c.chk 1 (b := allC K00t.cs1) rfl
  have g2 := c.chk 2 (b := allC K00t.cs2) rfl
  have g3 := c.chk 3 (b := allC K00t.cs3) rfl
  have g4 := c.chk 4 (b := allC K00t.cs4) rfl
  have g5 := c.chk 5 (b := allC K00t.cs5) rfl
  have g6 := c.chk 6 (b := allC K00t.cs6) rfl
  have g7 := c.chk 7 (b := allC K00t.cs7) rfl
  have g8 := c.chk 8 (b := allC K00t.cs8) rfl
  have g9 := c.chk 9 (b := allC K00t.cs9) rfl
  have g10 := c.chk 10 (b := allC K00t.cs10) rfl
  have p_v_Program : PySem.W.nsIn K mainGlobals "Program" = some (some (.ref (He.ga K "Program"))) := He.eqO_ok (at_ g0 0 rfl)
  have p_a0 : PySem.W.nsIn K mainGlobals "is_tuple" = some (some (.ref (He.ga K "is_tuple"))) := He.eqO_ok (at_ g0 1 rfl)
  obtain ⟨oc0, od0, sl0, kV0, dc0, pm0, an0, cd0, ct0, ql0, rl0⟩ := c.def_ 0 rfl
  have p_k0 : PySem.W.keepIn K (.ref (He.ga K "is_tuple")) = true := (at_ g0 2 rfl)
  have p_a1 : PySem.W.nsIn K mainGlobals "is_integer" = some (some (.ref (He.ga K "is_integer"))) := He.eqO_ok (at_ g0 3 rfl)
  obtain ⟨oc1, od1, sl1, kV1, dc1, pm1, an1, cd1, ct1, ql1, rl1⟩ := c.def_ 1 rfl
  have p_k1 : PySem.W.keepIn K (.ref (He.ga K "is_integer")) = true := (at_ g0 4 rfl)
  have p_a2 : PySem.W.nsIn K mainGlobals "is_between" = some (some (.ref (He.ga K "is_between"))) := He.eqO_ok (at_ g0 5 rfl)
  obtain ⟨oc2, od2, sl2, kV2, dc2, pm2, an2, cd2, ct2, ql2, rl2⟩ := c.def_ 2 rfl
  have p_k2 : PySem.W.keepIn K (.ref (He.ga K "is_between")) = true := (at_ g0 6 rfl)
  have p_a3 : PySem.W.nsIn K mainGlobals "letters_told" = some (some (.ref (He.ga K "letters_told"))) := He.eqO_ok (at_ g0 7 rfl)
  obtain ⟨oc3, od3, sl3, kV3, dc3, pm3, an3, cd3, ct3, ql3, rl3⟩ := c.def_ 3 rfl
  have p_k3 : PySem.W.keepIn K (.ref (He.ga K "letters_told")) = true := (at_ g0 8 rfl)
  have p_a4 : PySem.W.nsIn K mainGlobals "choice_letters" = some (some (.ref (He.ga K "choice_letters"))) := He.eqO_ok (at_ g0 9 rfl)
  obtain ⟨oc4, od4, sl4, kV4, dc4, pm4, an4, cd4, ct4, ql4, rl4⟩ := c.def_ 4 rfl
  have p_k4 : PySem.W.keepIn K (.ref (He.ga K "choice_letters")) = true := (at_ g0 10 rfl)
  have p_a5 : PySem.W.nsIn K mainGlobals "is_natural" = some (some (.ref (He.ga K "is_natural"))) := He.eqO_ok (at_ g0 11 rfl)
  obtain ⟨oc5, od5, sl5, kV5, dc5, pm5, an5, cd5, ct5, ql5, rl5⟩ := c.def_ 5 rfl
  have p_k5 : PySem.W.keepIn K (.ref (He.ga K "is_natural")) = true := (at_ g0 12 rfl)
  have p_a6 : PySem.W.nsIn K mainGlobals "has_outer_form" = some (some (.ref (He.ga K "has_outer_form"))) := He.eqO_ok (at_ g0 13 rfl)
  obtain ⟨oc6, od6, sl6, kV6, dc6, pm6, an6, cd6, ct6, ql6, rl6⟩ := c.def_ 6 rfl
  have p_k6 : PySem.W.keepIn K (.ref (He.ga K "has_outer_form")) = true := (at_ g0 14 rfl)
  have p_a7 : PySem.W.nsIn K mainGlobals "kinds_within" = some (some (.ref (He.ga K "kinds_within"))) := He.eqO_ok (at_ g0 15 rfl)
  obtain ⟨oc7, od7, sl7, kV7, dc7, pm7, an7, cd7, ct7, ql7, rl7⟩ := c.def_ 7 rfl
  have p_k7 : PySem.W.keepIn K (.ref (He.ga K "kinds_within")) = true := (at_ g0 16 rfl)
  have p_a8 : PySem.W.nsIn K mainGlobals "is_kind" = some (some (.ref (He.ga K "is_kind"))) := He.eqO_ok (at_ g0 17 rfl)
  obtain ⟨oc8, od8, sl8, kV8, dc8, pm8, an8, cd8, ct8, ql8, rl8⟩ := c.def_ 8 rfl
  have p_k8 : PySem.W.keepIn K (.ref (He.ga K "is_kind")) = true := (at_ g0 18 rfl)
  have p_a9 : PySem.W.nsIn K mainGlobals "names_what_is" = some (some (.ref (He.ga K "names_what_is"))) := He.eqO_ok (at_ g0 19 rfl)
  obtain ⟨oc9, od9, sl9, kV9, dc9, pm9, an9, cd9, ct9, ql9, rl9⟩ := c.def_ 9 rfl
  have p_k9 : PySem.W.keepIn K (.ref (He.ga K "names_what_is")) = true := (at_ g0 20 rfl)
  have p_a10 : PySem.W.nsIn K mainGlobals "may_be_written" = some (some (.ref (He.ga K "may_be_written"))) := He.eqO_ok (at_ g0 21 rfl)
  obtain ⟨oc10, od10, sl10, kV10, dc10, pm10, an10, cd10, ct10, ql10, rl10⟩ := c.def_ 10 rfl
  have p_k10 : PySem.W.keepIn K (.ref (He.ga K "may_be_written")) = true := (at_ g0 22 rfl)
  have p_a11 : PySem.W.nsIn K mainGlobals "is_way" = some (some (.ref (He.ga K "is_way"))) := He.eqO_ok (at_ g0 23 rfl)
  obtain ⟨oc11, od11, sl11, kV11, dc11, pm11, an11, cd11, ct11, ql11, rl11⟩ := c.def_ 11 rfl
  have p_k11 : PySem.W.keepIn K (.ref (He.ga K "is_way")) = true := (at_ g0 24 rfl)
  have p_a12 : PySem.W.nsIn K mainGlobals "is_choice" = some (some (.ref (He.ga K "is_choice"))) := He.eqO_ok (at_ g0 25 rfl)
  obtain ⟨oc12, od12, sl12, kV12, dc12, pm12, an12, cd12, ct12, ql12, rl12⟩ := c.def_ 12 rfl
  have p_k12 : PySem.W.keepIn K (.ref (He.ga K "is_choice")) = true := (at_ g0 26 rfl)
  have p_a13 : PySem.W.nsIn K mainGlobals "body_letters" = some (some (.ref (He.ga K "body_letters"))) := He.eqO_ok (at_ g0 27 rfl)
  obtain ⟨oc13, od13, sl13, kV13, dc13, pm13, an13, cd13, ct13, ql13, rl13⟩ := c.def_ 13 rfl
  have p_k13 : PySem.W.keepIn K (.ref (He.ga K "body_letters")) = true := (at_ g0 28 rfl)
  have p_a14 : PySem.W.nsIn K mainGlobals "are_kinds" = some (some (.ref (He.ga K "are_kinds"))) := He.eqO_ok (at_ g0 29 rfl)
  obtain ⟨oc14, od14, sl14, kV14, dc14, pm14, an14, cd14, ct14, ql14, rl14⟩ := c.def_ 14 rfl
  have p_k14 : PySem.W.keepIn K (.ref (He.ga K "are_kinds")) = true := (at_ g0 30 rfl)
  have p_a15 : PySem.W.nsIn K mainGlobals "head_of" = some (some (.ref (He.ga K "head_of"))) := He.eqO_ok (at_ g0 31 rfl)
  obtain ⟨oc15, od15, sl15, kV15, dc15, pm15, an15, cd15, ct15, ql15, rl15⟩ := c.def_ 15 rfl
  have p_k15 : PySem.W.keepIn K (.ref (He.ga K "head_of")) = true := (at_ g0 32 rfl)
  have p_a16 : PySem.W.nsIn K mainGlobals "are_naturals" = some (some (.ref (He.ga K "are_naturals"))) := He.eqO_ok (at_ g0 33 rfl)
  obtain ⟨oc16, od16, sl16, kV16, dc16, pm16, an16, cd16, ct16, ql16, rl16⟩ := c.def_ 16 rfl
  have p_k16 : PySem.W.keepIn K (.ref (He.ga K "are_naturals")) = true := (at_ g0 34 rfl)
  have p_a17 : PySem.W.nsIn K mainGlobals "word_has_form" = some (some (.ref (He.ga K "word_has_form"))) := He.eqO_ok (at_ g0 35 rfl)
  obtain ⟨oc17, od17, sl17, kV17, dc17, pm17, an17, cd17, ct17, ql17, rl17⟩ := c.def_ 17 rfl
  have p_k17 : PySem.W.keepIn K (.ref (He.ga K "word_has_form")) = true := (at_ g0 36 rfl)
  have p_a18 : PySem.W.nsIn K mainGlobals "words_have_forms" = some (some (.ref (He.ga K "words_have_forms"))) := He.eqO_ok (at_ g0 37 rfl)
  obtain ⟨oc18, od18, sl18, kV18, dc18, pm18, an18, cd18, ct18, ql18, rl18⟩ := c.def_ 18 rfl
  have p_k18 : PySem.W.keepIn K (.ref (He.ga K "words_have_forms")) = true := (at_ g0 38 rfl)
  have p_a19 : PySem.W.nsIn K mainGlobals "is_step" = some (some (.ref (He.ga K "is_step"))) := He.eqO_ok (at_ g0 39 rfl)
  obtain ⟨oc19, od19, sl19, kV19, dc19, pm19, an19, cd19, ct19, ql19, rl19⟩ := c.def_ 19 rfl
  have p_k19 : PySem.W.keepIn K (.ref (He.ga K "is_step")) = true := (at_ g1 0 rfl)
  have p_a20 : PySem.W.nsIn K mainGlobals "is_end" = some (some (.ref (He.ga K "is_end"))) := He.eqO_ok (at_ g1 1 rfl)
  obtain ⟨oc20, od20, sl20, kV20, dc20, pm20, an20, cd20, ct20, ql20, rl20⟩ := c.def_ 20 rfl
  have p_k20 : PySem.W.keepIn K (.ref (He.ga K "is_end")) = true := (at_ g1 2 rfl)
  have p_a21 : PySem.W.nsIn K mainGlobals "blocks_within" = some (some (.ref (He.ga K "blocks_within"))) := He.eqO_ok (at_ g1 3 rfl)
  obtain ⟨oc21, od21, sl21, kV21, dc21, pm21, an21, cd21, ct21, ql21, rl21⟩ := c.def_ 21 rfl
  have p_k21 : PySem.W.keepIn K (.ref (He.ga K "blocks_within")) = true := (at_ g1 4 rfl)
  have p_a22 : PySem.W.nsIn K mainGlobals "rows_of" = some (some (.ref (He.ga K "rows_of"))) := He.eqO_ok (at_ g1 5 rfl)
  obtain ⟨oc22, od22, sl22, kV22, dc22, pm22, an22, cd22, ct22, ql22, rl22⟩ := c.def_ 22 rfl
  have p_k22 : PySem.W.keepIn K (.ref (He.ga K "rows_of")) = true := (at_ g1 6 rfl)
  have p_a23 : PySem.W.nsIn K mainGlobals "body_rows" = some (some (.ref (He.ga K "body_rows"))) := He.eqO_ok (at_ g1 7 rfl)
  obtain ⟨oc23, od23, sl23, kV23, dc23, pm23, an23, cd23, ct23, ql23, rl23⟩ := c.def_ 23 rfl
  have p_k23 : PySem.W.keepIn K (.ref (He.ga K "body_rows")) = true := (at_ g1 8 rfl)
  have p_a24 : PySem.W.nsIn K mainGlobals "has_right_kinds" = some (some (.ref (He.ga K "has_right_kinds"))) := He.eqO_ok (at_ g1 9 rfl)
  obtain ⟨oc24, od24, sl24, kV24, dc24, pm24, an24, cd24, ct24, ql24, rl24⟩ := c.def_ 24 rfl
  have p_k24 : PySem.W.keepIn K (.ref (He.ga K "has_right_kinds")) = true := (at_ g1 10 rfl)
  have p_a25 : PySem.W.nsIn K mainGlobals "takes_numbers_alone" = some (some (.ref (He.ga K "takes_numbers_alone"))) := He.eqO_ok (at_ g1 11 rfl)
  obtain ⟨oc25, od25, sl25, kV25, dc25, pm25, an25, cd25, ct25, ql25, rl25⟩ := c.def_ 25 rfl
  have p_k25 : PySem.W.keepIn K (.ref (He.ga K "takes_numbers_alone")) = true := (at_ g1 12 rfl)
  have p_a26 : PySem.W.nsIn K mainGlobals "body_fault" = some (some (.ref (He.ga K "body_fault"))) := He.eqO_ok (at_ g1 13 rfl)
  obtain ⟨oc26, od26, sl26, kV26, dc26, pm26, an26, cd26, ct26, ql26, rl26⟩ := c.def_ 26 rfl
  have p_k26 : PySem.W.keepIn K (.ref (He.ga K "body_fault")) = true := (at_ g1 14 rfl)
  have p_a27 : PySem.W.nsIn K mainGlobals "form_fault" = some (some (.ref (He.ga K "form_fault"))) := He.eqO_ok (at_ g1 15 rfl)
  obtain ⟨oc27, od27, sl27, kV27, dc27, pm27, an27, cd27, ct27, ql27, rl27⟩ := c.def_ 27 rfl
  have p_k27 : PySem.W.keepIn K (.ref (He.ga K "form_fault")) = true := (at_ g1 16 rfl)
  have p_a28 : PySem.W.nsIn K mainGlobals "num_kind" = some (some (.ref (He.ga K "num_kind"))) := He.eqO_ok (at_ g1 17 rfl)
  obtain ⟨oc28, od28, sl28, kV28, dc28, pm28, an28, cd28, ct28, ql28, rl28⟩ := c.def_ 28 rfl
  have p_k28 : PySem.W.keepIn K (.ref (He.ga K "num_kind")) = true := (at_ g1 18 rfl)
  have p_a29 : PySem.W.nsIn K mainGlobals "nil_kind" = some (some (.ref (He.ga K "nil_kind"))) := He.eqO_ok (at_ g1 19 rfl)
  obtain ⟨oc29, od29, sl29, kV29, dc29, pm29, an29, cd29, ct29, ql29, rl29⟩ := c.def_ 29 rfl
  have p_k29 : PySem.W.keepIn K (.ref (He.ga K "nil_kind")) = true := (at_ g1 20 rfl)
  have p_a30 : PySem.W.nsIn K mainGlobals "are_made_alike" = some (some (.ref (He.ga K "are_made_alike"))) := He.eqO_ok (at_ g1 21 rfl)
  obtain ⟨oc30, od30, sl30, kV30, dc30, pm30, an30, cd30, ct30, ql30, rl30⟩ := c.def_ 30 rfl
  have p_k30 : PySem.W.keepIn K (.ref (He.ga K "are_made_alike")) = true := (at_ g1 22 rfl)
  have p_a31 : PySem.W.nsIn K mainGlobals "are_same" = some (some (.ref (He.ga K "are_same"))) := He.eqO_ok (at_ g1 23 rfl)
  obtain ⟨oc31, od31, sl31, kV31, dc31, pm31, an31, cd31, ct31, ql31, rl31⟩ := c.def_ 31 rfl
  have p_k31 : PySem.W.keepIn K (.ref (He.ga K "are_same")) = true := (at_ g1 24 rfl)
  have p_a32 : PySem.W.nsIn K mainGlobals "are_there" = some (some (.ref (He.ga K "are_there"))) := He.eqO_ok (at_ g1 25 rfl)
  obtain ⟨oc32, od32, sl32, kV32, dc32, pm32, an32, cd32, ct32, ql32, rl32⟩ := c.def_ 32 rfl
  have p_k32 : PySem.W.keepIn K (.ref (He.ga K "are_there")) = true := (at_ g1 26 rfl)
  have p_a33 : PySem.W.nsIn K mainGlobals "sum_kind" = some (some (.ref (He.ga K "sum_kind"))) := He.eqO_ok (at_ g1 27 rfl)
  obtain ⟨oc33, od33, sl33, kV33, dc33, pm33, an33, cd33, ct33, ql33, rl33⟩ := c.def_ 33 rfl
  have p_k33 : PySem.W.keepIn K (.ref (He.ga K "sum_kind")) = true := (at_ g1 28 rfl)
  have p_a34 : PySem.W.nsIn K mainGlobals "row_kind" = some (some (.ref (He.ga K "row_kind"))) := He.eqO_ok (at_ g1 29 rfl)
  obtain ⟨oc34, od34, sl34, kV34, dc34, pm34, an34, cd34, ct34, ql34, rl34⟩ := c.def_ 34 rfl
  have p_k34 : PySem.W.keepIn K (.ref (He.ga K "row_kind")) = true := (at_ g1 30 rfl)
  have p_a35 : PySem.W.nsIn K mainGlobals "there_with" = some (some (.ref (He.ga K "there_with"))) := He.eqO_ok (at_ g1 31 rfl)
  obtain ⟨oc35, od35, sl35, kV35, dc35, pm35, an35, cd35, ct35, ql35, rl35⟩ := c.def_ 35 rfl
  have p_k35 : PySem.W.keepIn K (.ref (He.ga K "there_with")) = true := (at_ g1 32 rfl)
  have p_a36 : PySem.W.nsIn K mainGlobals "part_kind" = some (some (.ref (He.ga K "part_kind"))) := He.eqO_ok (at_ g1 33 rfl)
  obtain ⟨oc36, od36, sl36, kV36, dc36, pm36, an36, cd36, ct36, ql36, rl36⟩ := c.def_ 36 rfl
  have p_k36 : PySem.W.keepIn K (.ref (He.ga K "part_kind")) = true := (at_ g1 34 rfl)
  have p_a37 : PySem.W.nsIn K mainGlobals "with_kinds" = some (some (.ref (He.ga K "with_kinds"))) := He.eqO_ok (at_ g1 35 rfl)
  obtain ⟨oc37, od37, sl37, kV37, dc37, pm37, an37, cd37, ct37, ql37, rl37⟩ := c.def_ 37 rfl
  have p_k37 : PySem.W.keepIn K (.ref (He.ga K "with_kinds")) = true := (at_ g1 36 rfl)
  have p_a38 : PySem.W.nsIn K mainGlobals "all_kinds" = some (some (.ref (He.ga K "all_kinds"))) := He.eqO_ok (at_ g1 37 rfl)
  obtain ⟨oc38, od38, sl38, kV38, dc38, pm38, an38, cd38, ct38, ql38, rl38⟩ := c.def_ 38 rfl
  have p_k38 : PySem.W.keepIn K (.ref (He.ga K "all_kinds")) = true := (at_ g1 38 rfl)
  have p_a39 : PySem.W.nsIn K mainGlobals "folded" = some (some (.ref (He.ga K "folded"))) := He.eqO_ok (at_ g1 39 rfl)
  obtain ⟨oc39, od39, sl39, kV39, dc39, pm39, an39, cd39, ct39, ql39, rl39⟩ := c.def_ 39 rfl
  have p_k39 : PySem.W.keepIn K (.ref (He.ga K "folded")) = true := (at_ g2 0 rfl)
  have p_a40 : PySem.W.nsIn K mainGlobals "put_in" = some (some (.ref (He.ga K "put_in"))) := He.eqO_ok (at_ g2 1 rfl)
  obtain ⟨oc40, od40, sl40, kV40, dc40, pm40, an40, cd40, ct40, ql40, rl40⟩ := c.def_ 40 rfl
  have p_k40 : PySem.W.keepIn K (.ref (He.ga K "put_in")) = true := (at_ g2 2 rfl)
  have p_a41 : PySem.W.nsIn K mainGlobals "all_put_in" = some (some (.ref (He.ga K "all_put_in"))) := He.eqO_ok (at_ g2 3 rfl)
  obtain ⟨oc41, od41, sl41, kV41, dc41, pm41, an41, cd41, ct41, ql41, rl41⟩ := c.def_ 41 rfl
  have p_k41 : PySem.W.keepIn K (.ref (He.ga K "all_put_in")) = true := (at_ g2 4 rfl)
  have p_a42 : PySem.W.nsIn K mainGlobals "way_kind" = some (some (.ref (He.ga K "way_kind"))) := He.eqO_ok (at_ g2 5 rfl)
  obtain ⟨oc42, od42, sl42, kV42, dc42, pm42, an42, cd42, ct42, ql42, rl42⟩ := c.def_ 42 rfl
  have p_k42 : PySem.W.keepIn K (.ref (He.ga K "way_kind")) = true := (at_ g2 6 rfl)
  have p_a43 : PySem.W.nsIn K mainGlobals "take_kind" = some (some (.ref (He.ga K "take_kind"))) := He.eqO_ok (at_ g2 7 rfl)
  obtain ⟨oc43, od43, sl43, kV43, dc43, pm43, an43, cd43, ct43, ql43, rl43⟩ := c.def_ 43 rfl
  have p_k43 : PySem.W.keepIn K (.ref (He.ga K "take_kind")) = true := (at_ g2 8 rfl)
  have p_a44 : PySem.W.nsIn K mainGlobals "box_kind" = some (some (.ref (He.ga K "box_kind"))) := He.eqO_ok (at_ g2 9 rfl)
  obtain ⟨oc44, od44, sl44, kV44, dc44, pm44, an44, cd44, ct44, ql44, rl44⟩ := c.def_ 44 rfl
  have p_k44 : PySem.W.keepIn K (.ref (He.ga K "box_kind")) = true := (at_ g2 10 rfl)
  have p_a45 : PySem.W.nsIn K mainGlobals "open_kind" = some (some (.ref (He.ga K "open_kind"))) := He.eqO_ok (at_ g2 11 rfl)
  obtain ⟨oc45, od45, sl45, kV45, dc45, pm45, an45, cd45, ct45, ql45, rl45⟩ := c.def_ 45 rfl
  have p_k45 : PySem.W.keepIn K (.ref (He.ga K "open_kind")) = true := (at_ g2 12 rfl)
  have p_a46 : PySem.W.nsIn K mainGlobals "put_kind" = some (some (.ref (He.ga K "put_kind"))) := He.eqO_ok (at_ g2 13 rfl)
  obtain ⟨oc46, od46, sl46, kV46, dc46, pm46, an46, cd46, ct46, ql46, rl46⟩ := c.def_ 46 rfl
  have p_k46 : PySem.W.keepIn K (.ref (He.ga K "put_kind")) = true := (at_ g2 14 rfl)
  have p_a47 : PySem.W.nsIn K mainGlobals "print_kind" = some (some (.ref (He.ga K "print_kind"))) := He.eqO_ok (at_ g2 15 rfl)
  obtain ⟨oc47, od47, sl47, kV47, dc47, pm47, an47, cd47, ct47, ql47, rl47⟩ := c.def_ 47 rfl
  have p_k47 : PySem.W.keepIn K (.ref (He.ga K "print_kind")) = true := (at_ g2 16 rfl)
  have p_a48 : PySem.W.nsIn K mainGlobals "body_kind" = some (some (.ref (He.ga K "body_kind"))) := He.eqO_ok (at_ g2 17 rfl)
  obtain ⟨oc48, od48, sl48, kV48, dc48, pm48, an48, cd48, ct48, ql48, rl48⟩ := c.def_ 48 rfl
  have p_k48 : PySem.W.keepIn K (.ref (He.ga K "body_kind")) = true := (at_ g2 18 rfl)
  have p_a49 : PySem.W.nsIn K mainGlobals "call_kind" = some (some (.ref (He.ga K "call_kind"))) := He.eqO_ok (at_ g2 19 rfl)
  obtain ⟨oc49, od49, sl49, kV49, dc49, pm49, an49, cd49, ct49, ql49, rl49⟩ := c.def_ 49 rfl
  have p_k49 : PySem.W.keepIn K (.ref (He.ga K "call_kind")) = true := (at_ g2 20 rfl)
  have p_a50 : PySem.W.nsIn K mainGlobals "is_too_great" = some (some (.ref (He.ga K "is_too_great"))) := He.eqO_ok (at_ g2 21 rfl)
  obtain ⟨oc50, od50, sl50, kV50, dc50, pm50, an50, cd50, ct50, ql50, rl50⟩ := c.def_ 50 rfl
  have p_k50 : PySem.W.keepIn K (.ref (He.ga K "is_too_great")) = true := (at_ g2 22 rfl)
  have p_a51 : PySem.W.nsIn K mainGlobals "made_kind" = some (some (.ref (He.ga K "made_kind"))) := He.eqO_ok (at_ g2 23 rfl)
  obtain ⟨oc51, od51, sl51, kV51, dc51, pm51, an51, cd51, ct51, ql51, rl51⟩ := c.def_ 51 rfl
  have p_k51 : PySem.W.keepIn K (.ref (He.ga K "made_kind")) = true := (at_ g2 24 rfl)
  have p_a52 : PySem.W.nsIn K mainGlobals "come_ahead" = some (some (.ref (He.ga K "come_ahead"))) := He.eqO_ok (at_ g2 25 rfl)
  obtain ⟨oc52, od52, sl52, kV52, dc52, pm52, an52, cd52, ct52, ql52, rl52⟩ := c.def_ 52 rfl
  have p_k52 : PySem.W.keepIn K (.ref (He.ga K "come_ahead")) = true := (at_ g2 26 rfl)
  have p_a53 : PySem.W.nsIn K mainGlobals "rows_and_tables" = some (some (.ref (He.ga K "rows_and_tables"))) := He.eqO_ok (at_ g2 27 rfl)
  obtain ⟨oc53, od53, sl53, kV53, dc53, pm53, an53, cd53, ct53, ql53, rl53⟩ := c.def_ 53 rfl
  have p_k53 : PySem.W.keepIn K (.ref (He.ga K "rows_and_tables")) = true := (at_ g2 28 rfl)
  have p_a54 : PySem.W.findIn K (.ref (He.ga K "Program")) "__init__" = some (some (.ref (He.ma K (He.ga K "Program") "__init__"))) := He.eqO_ok (at_ g2 29 rfl)
  obtain ⟨oc54, od54, sl54, kV54, dc54, pm54, an54, cd54, ct54, ql54, rl54⟩ := c.def_ 54 rfl
  have p_k54 : PySem.W.keepIn K (.ref (He.ma K (He.ga K "Program") "__init__")) = true := (at_ g2 30 rfl)
  have p_m1_Program : PySem.W.makesIn K (He.ga K "Program") = true := (at_ g2 31 rfl)
  have p_m2_Program : PySem.W.isFn K (.ref (He.ma K (He.ga K "Program") "__init__")) = true := (at_ g2 32 rfl)
  have p_m3_Program : PySem.W.keepIn K (.ref (He.ga K "Program")) = true := (at_ g2 33 rfl)
  have p_a55 : PySem.W.nsIn K mainGlobals "_law_bag" = some (some (.ref (He.ga K "_law_bag"))) := He.eqO_ok (at_ g2 34 rfl)
  obtain ⟨oc55, od55, sl55, kV55, dc55, pm55, an55, cd55, ct55, ql55, rl55⟩ := c.def_ 55 rfl
  have p_k55 : PySem.W.keepIn K (.ref (He.ga K "_law_bag")) = true := (at_ g2 35 rfl)
  have p_a56 : PySem.W.nsIn K mainGlobals "_law_pick" = some (some (.ref (He.ga K "_law_pick"))) := He.eqO_ok (at_ g2 36 rfl)
  obtain ⟨oc56, od56, sl56, kV56, dc56, pm56, an56, cd56, ct56, ql56, rl56⟩ := c.def_ 56 rfl
  have p_k56 : PySem.W.keepIn K (.ref (He.ga K "_law_pick")) = true := (at_ g2 37 rfl)
  have p_a57 : PySem.W.nsIn K mainGlobals "_law_some" = some (some (.ref (He.ga K "_law_some"))) := He.eqO_ok (at_ g2 38 rfl)
  obtain ⟨oc57, od57, sl57, kV57, dc57, pm57, an57, cd57, ct57, ql57, rl57⟩ := c.def_ 57 rfl
  have p_k57 : PySem.W.keepIn K (.ref (He.ga K "_law_some")) = true := (at_ g2 39 rfl)
  have p_a58 : PySem.W.findIn K (.ref (He.ga K "Program")) "__eq__" = some (some (.ref (He.ma K (He.ga K "Program") "__eq__"))) := He.eqO_ok (at_ g3 0 rfl)
  obtain ⟨oc58, od58, sl58, kV58, dc58, pm58, an58, cd58, ct58, ql58, rl58⟩ := c.def_ 58 rfl
  have p_k58 : PySem.W.keepIn K (.ref (He.ma K (He.ga K "Program") "__eq__")) = true := (at_ g3 1 rfl)
  have p_eqfn : PySem.W.isFn K (.ref (He.ma K (He.ga K "Program") "__eq__")) = true := (at_ g3 2 rfl)
  have p_a59 : PySem.W.nsIn K mainGlobals "_law_is" = some (some (.ref (He.ga K "_law_is"))) := He.eqO_ok (at_ g3 3 rfl)
  obtain ⟨oc59, od59, sl59, kV59, dc59, pm59, an59, cd59, ct59, ql59, rl59⟩ := c.def_ 59 rfl
  have p_k59 : PySem.W.keepIn K (.ref (He.ga K "_law_is")) = true := (at_ g3 4 rfl)
  have p_a60 : PySem.W.nsIn K mainGlobals "_law_deep" = some (some (.ref (He.ga K "_law_deep"))) := He.eqO_ok (at_ g3 5 rfl)
  obtain ⟨oc60, od60, sl60, kV60, dc60, pm60, an60, cd60, ct60, ql60, rl60⟩ := c.def_ 60 rfl
  have p_k60 : PySem.W.keepIn K (.ref (He.ga K "_law_deep")) = true := (at_ g3 6 rfl)
  have p_a61 : PySem.W.nsIn K mainGlobals "_law_flags" = some (some (.ref (He.ga K "_law_flags"))) := He.eqO_ok (at_ g3 7 rfl)
  obtain ⟨oc61, od61, sl61, kV61, dc61, pm61, an61, cd61, ct61, ql61, rl61⟩ := c.def_ 61 rfl
  have p_k61 : PySem.W.keepIn K (.ref (He.ga K "_law_flags")) = true := (at_ g3 8 rfl)
  have p_a62 : PySem.W.nsIn K mainGlobals "_law_fields" = some (some (.ref (He.ga K "_law_fields"))) := He.eqO_ok (at_ g3 9 rfl)
  obtain ⟨oc62, od62, sl62, kV62, dc62, pm62, an62, cd62, ct62, ql62, rl62⟩ := c.def_ 62 rfl
  have p_k62 : PySem.W.keepIn K (.ref (He.ga K "_law_fields")) = true := (at_ g3 10 rfl)
  have p_a63 : PySem.W.nsIn K mainGlobals "law" = some (some (.ref (He.ga K "law"))) := He.eqO_ok (at_ g3 11 rfl)
  obtain ⟨oc63, od63, sl63, kV63, dc63, pm63, an63, cd63, ct63, ql63, rl63⟩ := c.def_ 63 rfl
  have p_k63 : PySem.W.keepIn K (.ref (He.ga K "law")) = true := (at_ g3 12 rfl)
  have p_p1_Program : PySem.W.plainGet K (He.ga K "Program") Str.empty = true := (at_ g3 13 rfl)
  have p_p2_Program : PySem.W.hasDictIn K (He.ga K "Program") = true := (at_ g3 14 rfl)
  have p_p3_Program : PySem.W.plainOver K (He.ga K "Program") = true := (at_ g3 15 rfl)
  have p_p4_Program : PySem.W.findIn K (.ref (He.ga K "Program")) "__setattr__" = some (some (.builtin "object.__setattr__")) := He.eqO_ok (at_ g3 16 rfl)
  have p_na_Program_bodies : PySem.W.findIn K (.ref (He.ga K "Program")) "bodies" = some none := He.eqO_ok (at_ g3 17 rfl)
  have p_na_Program_book : PySem.W.findIn K (.ref (He.ga K "Program")) "book" = some none := He.eqO_ok (at_ g3 18 rfl)
  have p_na_Program_tables : PySem.W.findIn K (.ref (He.ga K "Program")) "tables" = some none := He.eqO_ok (at_ g3 19 rfl)
  obtain ⟨t_v_LARGEST, p_v_LARGEST⟩ := intB_ok (x := "LARGEST") (i := 1000000000000) (at_ g3 20 rfl)
  obtain ⟨t_v_MOST_BLOCKS_DEEP, p_v_MOST_BLOCKS_DEEP⟩ := intB_ok (x := "MOST_BLOCKS_DEEP") (i := 6) (at_ g3 21 rfl)
  obtain ⟨t_v_MOST_BODIES, p_v_MOST_BODIES⟩ := intB_ok (x := "MOST_BODIES") (i := 12) (at_ g3 22 rfl)
  obtain ⟨t_v_MOST_BODY_LETTERS, p_v_MOST_BODY_LETTERS⟩ := intB_ok (x := "MOST_BODY_LETTERS") (i := 4) (at_ g3 23 rfl)
  obtain ⟨t_v_MOST_CHOICES, p_v_MOST_CHOICES⟩ := intB_ok (x := "MOST_CHOICES") (i := 6) (at_ g3 24 rfl)
  obtain ⟨t_v_MOST_CHOICE_LETTERS, p_v_MOST_CHOICE_LETTERS⟩ := intB_ok (x := "MOST_CHOICE_LETTERS") (i := 3) (at_ g3 25 rfl)
  obtain ⟨t_v_MOST_KINDS, p_v_MOST_KINDS⟩ := intB_ok (x := "MOST_KINDS") (i := 40) (at_ g3 26 rfl)
  obtain ⟨t_v_MOST_KINDS_DEEP, p_v_MOST_KINDS_DEEP⟩ := intB_ok (x := "MOST_KINDS_DEEP") (i := 8) (at_ g3 27 rfl)
  obtain ⟨t_v_MOST_KINDS_IN_PLACE, p_v_MOST_KINDS_IN_PLACE⟩ := intB_ok (x := "MOST_KINDS_IN_PLACE") (i := 400) (at_ g3 28 rfl)
  obtain ⟨t_v_MOST_LEFT, p_v_MOST_LEFT⟩ := intB_ok (x := "MOST_LEFT") (i := 3) (at_ g3 29 rfl)
  obtain ⟨t_v_MOST_PARTS, p_v_MOST_PARTS⟩ := intB_ok (x := "MOST_PARTS") (i := 3) (at_ g3 30 rfl)
  obtain ⟨t_v_MOST_PLACES, p_v_MOST_PLACES⟩ := intB_ok (x := "MOST_PLACES") (i := 5) (at_ g3 31 rfl)
  obtain ⟨t_v_MOST_ROW, p_v_MOST_ROW⟩ := intB_ok (x := "MOST_ROW") (i := 4) (at_ g3 32 rfl)
  obtain ⟨t_v_MOST_STEPS, p_v_MOST_STEPS⟩ := intB_ok (x := "MOST_STEPS") (i := 60) (at_ g3 33 rfl)
  obtain ⟨t_v_MOST_WAYS, p_v_MOST_WAYS⟩ := intB_ok (x := "MOST_WAYS") (i := 4) (at_ g3 34 rfl)
  have p_v_NIL : PySem.W.nsIn K mainGlobals "NIL" = some (some (.ref (He.ga K "NIL"))) := He.eqO_ok (at_ g3 35 rfl)
  have p_w_NIL := Hd.is (d := .tup ["nil"]) (u := .ref (He.ga K "NIL")) (at_ g3 36 rfl)
  have p_v_NUM : PySem.W.nsIn K mainGlobals "NUM" = some (some (.ref (He.ga K "NUM"))) := He.eqO_ok (at_ g3 37 rfl)
  have p_w_NUM := Hd.is (d := .tup ["num"]) (u := .ref (He.ga K "NUM")) (at_ g3 38 rfl)
  have p_v_END_FORMS : PySem.W.nsIn K mainGlobals "END_FORMS" = some (some (.ref (He.ga K "END_FORMS"))) := He.eqO_ok (at_ g3 39 rfl)
  have p_w_END_FORMS : TabK K w (He.ga K "END_FORMS") tab_END_FORMS := table_ok (x := "END_FORMS") (at_ g4 0 rfl) (c.tab 0 rfl) rfl
  have p_v_STEP_FORMS : PySem.W.nsIn K mainGlobals "STEP_FORMS" = some (some (.ref (He.ga K "STEP_FORMS"))) := He.eqO_ok (at_ g4 1 rfl)
  have p_w_STEP_FORMS : TabK K w (He.ga K "STEP_FORMS") tab_STEP_FORMS := table_ok (x := "STEP_FORMS") (at_ g4 2 rfl) (c.tab 1 rfl) rfl
  have p_v_STEP_KINDS : PySem.W.nsIn K mainGlobals "STEP_KINDS" = some (some (.ref (He.ga K "STEP_KINDS"))) := He.eqO_ok (at_ g4 3 rfl)
  have p_w_STEP_KINDS : TabK K w (He.ga K "STEP_KINDS") tab_STEP_KINDS := table_ok (x := "STEP_KINDS") (at_ g4 4 rfl) (c.tab 2 rfl) rfl
  have p_z_ValueError : PySem.W.nsIn K mainGlobals "ValueError" = some none := He.eqO_ok (at_ g4 5 rfl)
  have p_z_abs : PySem.W.nsIn K mainGlobals "abs" = some none := He.eqO_ok (at_ g4 6 rfl)
  have p_z_all : PySem.W.nsIn K mainGlobals "all" = some none := He.eqO_ok (at_ g4 7 rfl)
  have p_z_any : PySem.W.nsIn K mainGlobals "any" = some none := He.eqO_ok (at_ g4 8 rfl)
  have p_z_bool : PySem.W.nsIn K mainGlobals "bool" = some none := He.eqO_ok (at_ g4 9 rfl)
  have p_z_enumerate : PySem.W.nsIn K mainGlobals "enumerate" = some none := He.eqO_ok (at_ g4 10 rfl)
  have p_z_int : PySem.W.nsIn K mainGlobals "int" = some none := He.eqO_ok (at_ g4 11 rfl)
  have p_z_isinstance : PySem.W.nsIn K mainGlobals "isinstance" = some none := He.eqO_ok (at_ g4 12 rfl)
  have p_z_len : PySem.W.nsIn K mainGlobals "len" = some none := He.eqO_ok (at_ g4 13 rfl)
  have p_z_list : PySem.W.nsIn K mainGlobals "list" = some none := He.eqO_ok (at_ g4 14 rfl)
  have p_z_max : PySem.W.nsIn K mainGlobals "max" = some none := He.eqO_ok (at_ g4 15 rfl)
  have p_z_range : PySem.W.nsIn K mainGlobals "range" = some none := He.eqO_ok (at_ g4 16 rfl)
  have p_z_reversed : PySem.W.nsIn K mainGlobals "reversed" = some none := He.eqO_ok (at_ g4 17 rfl)
  have p_z_str : PySem.W.nsIn K mainGlobals "str" = some none := He.eqO_ok (at_ g4 18 rfl)
  have p_z_sum : PySem.W.nsIn K mainGlobals "sum" = some none := He.eqO_ok (at_ g4 19 rfl)
  have p_z_tuple : PySem.W.nsIn K mainGlobals "tuple" = some none := He.eqO_ok (at_ g4 20 rfl)
  have p_z_zip : PySem.W.nsIn K mainGlobals "zip" = some none := He.eqO_ok (at_ g4 21 rfl)
  have p_v_W0 : PySem.W.nsIn K mainGlobals "WordsError" = some (some (.ref (He.ga K "WordsError"))) := He.eqO_ok (at_ g4 22 rfl)
  have p_rd_W0 : PySem.W.readsIn K (He.ga K "WordsError") (.type "type") = true := (at_ g4 23 rfl)
  have p_fc_W0 : PySem.W.findCls K (.ref (He.ga K "WordsError")) (.type "type") "__init__" = some (.val (.builtin "ValueError.__init__")) := fcB_ok (at_ g4 24 rfl)
  have p_ty_W0 : PySem.W.typeIn K (.ref (He.ga K "WordsError")) = some (.type "type") := of_decide_eq_true (at_ g4 25 rfl)
  obtain ⟨cdW0, p_cl_W0⟩ := isSome_of (o := PySem.W.clsIn K (He.ga K "WordsError")) (at_ g4 26 rfl)
  have p_sp_c : PySem.W.specialIn K (.builtin "object.__class__") "__get__" = some (some (.builtin "getset_descriptor.__get__")) := He.eqO_ok (at_ g4 27 rfl)
  have p_tk_c : PySem.W.takesIn K (.builtin "object.__class__") = some true := of_decide_eq_true (at_ g4 28 rfl)
  have p_ha_P : PySem.W.findIn K (.ref (He.ga K "Program")) "__class__" = some (some (.builtin "object.__class__")) := He.eqO_ok (at_ g4 29 rfl)
  have p_hm_P : PySem.W.mroIn K (He.ga K "Program") (.type "object") = some true := of_decide_eq_true (at_ g4 30 rfl)
  have p_io_bool : PySem.W.subIn K (.ref (He.ga K "Program")) (.type "bool") = some false := of_decide_eq_true (at_ g4 31 rfl)
  have p_io_list : PySem.W.subIn K (.ref (He.ga K "Program")) (.type "list") = some false := of_decide_eq_true (at_ g4 32 rfl)
  have p_io_tuple : PySem.W.subIn K (.ref (He.ga K "Program")) (.type "tuple") = some false := of_decide_eq_true (at_ g4 33 rfl)
  have p_ef_NoKind : EF K (He.ga K "WordsError") "NoKind" (He.ga K "NoKind") := efB_ok (at_ g4 34 rfl)
  have p_fi_NoKind : PySem.W.findIn K (.ref (He.ga K "NoKind")) "__init__" = some (some (.ref (He.ma K (He.ga K "NoKind") "__init__"))) := He.eqO_ok (at_ g4 35 rfl)
  obtain ⟨oc64, od64, sl64, kV64, dc64, pm64, an64, cd64, ct64, qly_NoKind, rly_NoKind⟩ := c.def_ 64 rfl
  have p_ky_NoKind : PySem.W.keepIn K (.ref (He.ma K (He.ga K "NoKind") "__init__")) = true := (at_ g4 36 rfl)
  have p_ty_NoKind : PySem.W.typeIn K (.ref (He.ma K (He.ga K "NoKind") "__init__")) = some (.type "function") := of_decide_eq_true (at_ g4 37 rfl)
  have p_nx_NoKind_line : PySem.W.findIn K (.ref (He.ga K "NoKind")) "line" = some none := He.eqO_ok (at_ g4 38 rfl)
  have p_nx_NoKind_most : PySem.W.findIn K (.ref (He.ga K "NoKind")) "most" = some none := He.eqO_ok (at_ g4 39 rfl)
  have p_nx_NoKind_name : PySem.W.findIn K (.ref (He.ga K "NoKind")) "name" = some none := He.eqO_ok (at_ g5 0 rfl)
  have p_nx_NoKind_number : PySem.W.findIn K (.ref (He.ga K "NoKind")) "number" = some none := He.eqO_ok (at_ g5 1 rfl)
  have p_nx_NoKind_part : PySem.W.findIn K (.ref (He.ga K "NoKind")) "part" = some none := He.eqO_ok (at_ g5 2 rfl)
  have p_ef_NoKinds : EF K (He.ga K "WordsError") "NoKinds" (He.ga K "NoKinds") := efB_ok (at_ g5 3 rfl)
  have p_fi_NoKinds : PySem.W.findIn K (.ref (He.ga K "NoKinds")) "__init__" = some (some (.ref (He.ma K (He.ga K "NoKinds") "__init__"))) := He.eqO_ok (at_ g5 4 rfl)
  obtain ⟨oc65, od65, sl65, kV65, dc65, pm65, an65, cd65, ct65, qly_NoKinds, rly_NoKinds⟩ := c.def_ 65 rfl
  have p_ky_NoKinds : PySem.W.keepIn K (.ref (He.ma K (He.ga K "NoKinds") "__init__")) = true := (at_ g5 5 rfl)
  have p_ty_NoKinds : PySem.W.typeIn K (.ref (He.ma K (He.ga K "NoKinds") "__init__")) = some (.type "function") := of_decide_eq_true (at_ g5 6 rfl)
  have p_nx_NoKinds_line : PySem.W.findIn K (.ref (He.ga K "NoKinds")) "line" = some none := He.eqO_ok (at_ g5 7 rfl)
  have p_nx_NoKinds_most : PySem.W.findIn K (.ref (He.ga K "NoKinds")) "most" = some none := He.eqO_ok (at_ g5 8 rfl)
  have p_nx_NoKinds_name : PySem.W.findIn K (.ref (He.ga K "NoKinds")) "name" = some none := He.eqO_ok (at_ g5 9 rfl)
  have p_nx_NoKinds_number : PySem.W.findIn K (.ref (He.ga K "NoKinds")) "number" = some none := He.eqO_ok (at_ g5 10 rfl)
  have p_nx_NoKinds_part : PySem.W.findIn K (.ref (He.ga K "NoKinds")) "part" = some none := He.eqO_ok (at_ g5 11 rfl)
  have p_ef_BadProgram : EF K (He.ga K "WordsError") "BadProgram" (He.ga K "BadProgram") := efB_ok (at_ g5 12 rfl)
  have p_fi_BadProgram : PySem.W.findIn K (.ref (He.ga K "BadProgram")) "__init__" = some (some (.ref (He.ma K (He.ga K "BadProgram") "__init__"))) := He.eqO_ok (at_ g5 13 rfl)
  obtain ⟨oc66, od66, sl66, kV66, dc66, pm66, an66, cd66, ct66, qly_BadProgram, rly_BadProgram⟩ := c.def_ 66 rfl
  have p_ky_BadProgram : PySem.W.keepIn K (.ref (He.ma K (He.ga K "BadProgram") "__init__")) = true := (at_ g5 14 rfl)
  have p_ty_BadProgram : PySem.W.typeIn K (.ref (He.ma K (He.ga K "BadProgram") "__init__")) = some (.type "function") := of_decide_eq_true (at_ g5 15 rfl)
  have p_nx_BadProgram_line : PySem.W.findIn K (.ref (He.ga K "BadProgram")) "line" = some none := He.eqO_ok (at_ g5 16 rfl)
  have p_nx_BadProgram_most : PySem.W.findIn K (.ref (He.ga K "BadProgram")) "most" = some none := He.eqO_ok (at_ g5 17 rfl)
  have p_nx_BadProgram_name : PySem.W.findIn K (.ref (He.ga K "BadProgram")) "name" = some none := He.eqO_ok (at_ g5 18 rfl)
  have p_nx_BadProgram_number : PySem.W.findIn K (.ref (He.ga K "BadProgram")) "number" = some none := He.eqO_ok (at_ g5 19 rfl)
  have p_nx_BadProgram_part : PySem.W.findIn K (.ref (He.ga K "BadProgram")) "part" = some none := He.eqO_ok (at_ g5 20 rfl)
  have p_ef_NoBody : EF K (He.ga K "WordsError") "NoBody" (He.ga K "NoBody") := efB_ok (at_ g5 21 rfl)
  have p_fi_NoBody : PySem.W.findIn K (.ref (He.ga K "NoBody")) "__init__" = some (some (.ref (He.ma K (He.ga K "NoBody") "__init__"))) := He.eqO_ok (at_ g5 22 rfl)
  obtain ⟨oc67, od67, sl67, kV67, dc67, pm67, an67, cd67, ct67, qly_NoBody, rly_NoBody⟩ := c.def_ 67 rfl
  have p_ky_NoBody : PySem.W.keepIn K (.ref (He.ma K (He.ga K "NoBody") "__init__")) = true := (at_ g5 23 rfl)
  have p_ty_NoBody : PySem.W.typeIn K (.ref (He.ma K (He.ga K "NoBody") "__init__")) = some (.type "function") := of_decide_eq_true (at_ g5 24 rfl)
  have p_nx_NoBody_line : PySem.W.findIn K (.ref (He.ga K "NoBody")) "line" = some none := He.eqO_ok (at_ g5 25 rfl)
  have p_nx_NoBody_most : PySem.W.findIn K (.ref (He.ga K "NoBody")) "most" = some none := He.eqO_ok (at_ g5 26 rfl)
  have p_nx_NoBody_name : PySem.W.findIn K (.ref (He.ga K "NoBody")) "name" = some none := He.eqO_ok (at_ g5 27 rfl)
  have p_nx_NoBody_number : PySem.W.findIn K (.ref (He.ga K "NoBody")) "number" = some none := He.eqO_ok (at_ g5 28 rfl)
  have p_nx_NoBody_part : PySem.W.findIn K (.ref (He.ga K "NoBody")) "part" = some none := He.eqO_ok (at_ g5 29 rfl)
  have p_ef_NoPoint : EF K (He.ga K "WordsError") "NoPoint" (He.ga K "NoPoint") := efB_ok (at_ g5 30 rfl)
  have p_fi_NoPoint : PySem.W.findIn K (.ref (He.ga K "NoPoint")) "__init__" = some (some (.ref (He.ma K (He.ga K "NoPoint") "__init__"))) := He.eqO_ok (at_ g5 31 rfl)
  obtain ⟨oc68, od68, sl68, kV68, dc68, pm68, an68, cd68, ct68, qly_NoPoint, rly_NoPoint⟩ := c.def_ 68 rfl
  have p_ky_NoPoint : PySem.W.keepIn K (.ref (He.ma K (He.ga K "NoPoint") "__init__")) = true := (at_ g5 32 rfl)
  have p_ty_NoPoint : PySem.W.typeIn K (.ref (He.ma K (He.ga K "NoPoint") "__init__")) = some (.type "function") := of_decide_eq_true (at_ g5 33 rfl)
  have p_nx_NoPoint_line : PySem.W.findIn K (.ref (He.ga K "NoPoint")) "line" = some none := He.eqO_ok (at_ g5 34 rfl)
  have p_nx_NoPoint_most : PySem.W.findIn K (.ref (He.ga K "NoPoint")) "most" = some none := He.eqO_ok (at_ g5 35 rfl)
  have p_nx_NoPoint_name : PySem.W.findIn K (.ref (He.ga K "NoPoint")) "name" = some none := He.eqO_ok (at_ g5 36 rfl)
  have p_nx_NoPoint_number : PySem.W.findIn K (.ref (He.ga K "NoPoint")) "number" = some none := He.eqO_ok (at_ g5 37 rfl)
  have p_nx_NoPoint_part : PySem.W.findIn K (.ref (He.ga K "NoPoint")) "part" = some none := He.eqO_ok (at_ g5 38 rfl)
  have p_ef_NoInputs : EF K (He.ga K "WordsError") "NoInputs" (He.ga K "NoInputs") := efB_ok (at_ g5 39 rfl)
  have p_fi_NoInputs : PySem.W.findIn K (.ref (He.ga K "NoInputs")) "__init__" = some (some (.ref (He.ma K (He.ga K "NoInputs") "__init__"))) := He.eqO_ok (at_ g6 0 rfl)
  obtain ⟨oc69, od69, sl69, kV69, dc69, pm69, an69, cd69, ct69, qly_NoInputs, rly_NoInputs⟩ := c.def_ 69 rfl
  have p_ky_NoInputs : PySem.W.keepIn K (.ref (He.ma K (He.ga K "NoInputs") "__init__")) = true := (at_ g6 1 rfl)
  have p_ty_NoInputs : PySem.W.typeIn K (.ref (He.ma K (He.ga K "NoInputs") "__init__")) = some (.type "function") := of_decide_eq_true (at_ g6 2 rfl)
  have p_nx_NoInputs_line : PySem.W.findIn K (.ref (He.ga K "NoInputs")) "line" = some none := He.eqO_ok (at_ g6 3 rfl)
  have p_nx_NoInputs_most : PySem.W.findIn K (.ref (He.ga K "NoInputs")) "most" = some none := He.eqO_ok (at_ g6 4 rfl)
  have p_nx_NoInputs_name : PySem.W.findIn K (.ref (He.ga K "NoInputs")) "name" = some none := He.eqO_ok (at_ g6 5 rfl)
  have p_nx_NoInputs_number : PySem.W.findIn K (.ref (He.ga K "NoInputs")) "number" = some none := He.eqO_ok (at_ g6 6 rfl)
  have p_nx_NoInputs_part : PySem.W.findIn K (.ref (He.ga K "NoInputs")) "part" = some none := He.eqO_ok (at_ g6 7 rfl)
  have p_ef_NoNumber : EF K (He.ga K "WordsError") "NoNumber" (He.ga K "NoNumber") := efB_ok (at_ g6 8 rfl)
  have p_fi_NoNumber : PySem.W.findIn K (.ref (He.ga K "NoNumber")) "__init__" = some (some (.ref (He.ma K (He.ga K "NoNumber") "__init__"))) := He.eqO_ok (at_ g6 9 rfl)
  obtain ⟨oc70, od70, sl70, kV70, dc70, pm70, an70, cd70, ct70, qly_NoNumber, rly_NoNumber⟩ := c.def_ 70 rfl
  have p_ky_NoNumber : PySem.W.keepIn K (.ref (He.ma K (He.ga K "NoNumber") "__init__")) = true := (at_ g6 10 rfl)
  have p_ty_NoNumber : PySem.W.typeIn K (.ref (He.ma K (He.ga K "NoNumber") "__init__")) = some (.type "function") := of_decide_eq_true (at_ g6 11 rfl)
  have p_nx_NoNumber_line : PySem.W.findIn K (.ref (He.ga K "NoNumber")) "line" = some none := He.eqO_ok (at_ g6 12 rfl)
  have p_nx_NoNumber_most : PySem.W.findIn K (.ref (He.ga K "NoNumber")) "most" = some none := He.eqO_ok (at_ g6 13 rfl)
  have p_nx_NoNumber_name : PySem.W.findIn K (.ref (He.ga K "NoNumber")) "name" = some none := He.eqO_ok (at_ g6 14 rfl)
  have p_nx_NoNumber_number : PySem.W.findIn K (.ref (He.ga K "NoNumber")) "number" = some none := He.eqO_ok (at_ g6 15 rfl)
  have p_nx_NoNumber_part : PySem.W.findIn K (.ref (He.ga K "NoNumber")) "part" = some none := He.eqO_ok (at_ g6 16 rfl)
  have p_ef_IsOver : EF K (He.ga K "WordsError") "IsOver" (He.ga K "IsOver") := efB_ok (at_ g6 17 rfl)
  have p_fi_IsOver : PySem.W.findIn K (.ref (He.ga K "IsOver")) "__init__" = some (some (.ref (He.ma K (He.ga K "IsOver") "__init__"))) := He.eqO_ok (at_ g6 18 rfl)
  obtain ⟨oc71, od71, sl71, kV71, dc71, pm71, an71, cd71, ct71, qly_IsOver, rly_IsOver⟩ := c.def_ 71 rfl
  have p_ky_IsOver : PySem.W.keepIn K (.ref (He.ma K (He.ga K "IsOver") "__init__")) = true := (at_ g6 19 rfl)
  have p_ty_IsOver : PySem.W.typeIn K (.ref (He.ma K (He.ga K "IsOver") "__init__")) = some (.type "function") := of_decide_eq_true (at_ g6 20 rfl)
  have p_nx_IsOver_line : PySem.W.findIn K (.ref (He.ga K "IsOver")) "line" = some none := He.eqO_ok (at_ g6 21 rfl)
  have p_nx_IsOver_most : PySem.W.findIn K (.ref (He.ga K "IsOver")) "most" = some none := He.eqO_ok (at_ g6 22 rfl)
  have p_nx_IsOver_name : PySem.W.findIn K (.ref (He.ga K "IsOver")) "name" = some none := He.eqO_ok (at_ g6 23 rfl)
  have p_nx_IsOver_number : PySem.W.findIn K (.ref (He.ga K "IsOver")) "number" = some none := He.eqO_ok (at_ g6 24 rfl)
  have p_nx_IsOver_part : PySem.W.findIn K (.ref (He.ga K "IsOver")) "part" = some none := He.eqO_ok (at_ g6 25 rfl)
  have p_ef_NoPlace : EF K (He.ga K "WordsError") "NoPlace" (He.ga K "NoPlace") := efB_ok (at_ g6 26 rfl)
  have p_fi_NoPlace : PySem.W.findIn K (.ref (He.ga K "NoPlace")) "__init__" = some (some (.ref (He.ma K (He.ga K "NoPlace") "__init__"))) := He.eqO_ok (at_ g6 27 rfl)
  obtain ⟨oc72, od72, sl72, kV72, dc72, pm72, an72, cd72, ct72, qly_NoPlace, rly_NoPlace⟩ := c.def_ 72 rfl
  have p_ky_NoPlace : PySem.W.keepIn K (.ref (He.ma K (He.ga K "NoPlace") "__init__")) = true := (at_ g6 28 rfl)
  have p_ty_NoPlace : PySem.W.typeIn K (.ref (He.ma K (He.ga K "NoPlace") "__init__")) = some (.type "function") := of_decide_eq_true (at_ g6 29 rfl)
  have p_nx_NoPlace_line : PySem.W.findIn K (.ref (He.ga K "NoPlace")) "line" = some none := He.eqO_ok (at_ g6 30 rfl)
  have p_nx_NoPlace_most : PySem.W.findIn K (.ref (He.ga K "NoPlace")) "most" = some none := He.eqO_ok (at_ g6 31 rfl)
  have p_nx_NoPlace_name : PySem.W.findIn K (.ref (He.ga K "NoPlace")) "name" = some none := He.eqO_ok (at_ g6 32 rfl)
  have p_nx_NoPlace_number : PySem.W.findIn K (.ref (He.ga K "NoPlace")) "number" = some none := He.eqO_ok (at_ g6 33 rfl)
  have p_nx_NoPlace_part : PySem.W.findIn K (.ref (He.ga K "NoPlace")) "part" = some none := He.eqO_ok (at_ g6 34 rfl)
  have p_ef_BadPlacer : EF K (He.ga K "WordsError") "BadPlacer" (He.ga K "BadPlacer") := efB_ok (at_ g6 35 rfl)
  have p_fi_BadPlacer : PySem.W.findIn K (.ref (He.ga K "BadPlacer")) "__init__" = some (some (.ref (He.ma K (He.ga K "BadPlacer") "__init__"))) := He.eqO_ok (at_ g6 36 rfl)
  obtain ⟨oc73, od73, sl73, kV73, dc73, pm73, an73, cd73, ct73, qly_BadPlacer, rly_BadPlacer⟩ := c.def_ 73 rfl
  have p_ky_BadPlacer : PySem.W.keepIn K (.ref (He.ma K (He.ga K "BadPlacer") "__init__")) = true := (at_ g6 37 rfl)
  have p_ty_BadPlacer : PySem.W.typeIn K (.ref (He.ma K (He.ga K "BadPlacer") "__init__")) = some (.type "function") := of_decide_eq_true (at_ g6 38 rfl)
  have p_nx_BadPlacer_line : PySem.W.findIn K (.ref (He.ga K "BadPlacer")) "line" = some none := He.eqO_ok (at_ g6 39 rfl)
  have p_nx_BadPlacer_most : PySem.W.findIn K (.ref (He.ga K "BadPlacer")) "most" = some none := He.eqO_ok (at_ g7 0 rfl)
  have p_nx_BadPlacer_name : PySem.W.findIn K (.ref (He.ga K "BadPlacer")) "name" = some none := He.eqO_ok (at_ g7 1 rfl)
  have p_nx_BadPlacer_number : PySem.W.findIn K (.ref (He.ga K "BadPlacer")) "number" = some none := He.eqO_ok (at_ g7 2 rfl)
  have p_nx_BadPlacer_part : PySem.W.findIn K (.ref (He.ga K "BadPlacer")) "part" = some none := He.eqO_ok (at_ g7 3 rfl)
  have p_ef_TooMany : EF K (He.ga K "WordsError") "TooMany" (He.ga K "TooMany") := efB_ok (at_ g7 4 rfl)
  have p_fi_TooMany : PySem.W.findIn K (.ref (He.ga K "TooMany")) "__init__" = some (some (.ref (He.ma K (He.ga K "TooMany") "__init__"))) := He.eqO_ok (at_ g7 5 rfl)
  obtain ⟨oc74, od74, sl74, kV74, dc74, pm74, an74, cd74, ct74, qly_TooMany, rly_TooMany⟩ := c.def_ 74 rfl
  have p_ky_TooMany : PySem.W.keepIn K (.ref (He.ma K (He.ga K "TooMany") "__init__")) = true := (at_ g7 6 rfl)
  have p_ty_TooMany : PySem.W.typeIn K (.ref (He.ma K (He.ga K "TooMany") "__init__")) = some (.type "function") := of_decide_eq_true (at_ g7 7 rfl)
  have p_nx_TooMany_line : PySem.W.findIn K (.ref (He.ga K "TooMany")) "line" = some none := He.eqO_ok (at_ g7 8 rfl)
  have p_nx_TooMany_most : PySem.W.findIn K (.ref (He.ga K "TooMany")) "most" = some none := He.eqO_ok (at_ g7 9 rfl)
  have p_nx_TooMany_name : PySem.W.findIn K (.ref (He.ga K "TooMany")) "name" = some none := He.eqO_ok (at_ g7 10 rfl)
  have p_nx_TooMany_number : PySem.W.findIn K (.ref (He.ga K "TooMany")) "number" = some none := He.eqO_ok (at_ g7 11 rfl)
  have p_nx_TooMany_part : PySem.W.findIn K (.ref (He.ga K "TooMany")) "part" = some none := He.eqO_ok (at_ g7 12 rfl)
  have p_ef_NoLot : EF K (He.ga K "WordsError") "NoLot" (He.ga K "NoLot") := efB_ok (at_ g7 13 rfl)
  have p_fi_NoLot : PySem.W.findIn K (.ref (He.ga K "NoLot")) "__init__" = some (some (.ref (He.ma K (He.ga K "NoLot") "__init__"))) := He.eqO_ok (at_ g7 14 rfl)
  obtain ⟨oc75, od75, sl75, kV75, dc75, pm75, an75, cd75, ct75, qly_NoLot, rly_NoLot⟩ := c.def_ 75 rfl
  have p_ky_NoLot : PySem.W.keepIn K (.ref (He.ma K (He.ga K "NoLot") "__init__")) = true := (at_ g7 15 rfl)
  have p_ty_NoLot : PySem.W.typeIn K (.ref (He.ma K (He.ga K "NoLot") "__init__")) = some (.type "function") := of_decide_eq_true (at_ g7 16 rfl)
  have p_nx_NoLot_line : PySem.W.findIn K (.ref (He.ga K "NoLot")) "line" = some none := He.eqO_ok (at_ g7 17 rfl)
  have p_nx_NoLot_most : PySem.W.findIn K (.ref (He.ga K "NoLot")) "most" = some none := He.eqO_ok (at_ g7 18 rfl)
  have p_nx_NoLot_name : PySem.W.findIn K (.ref (He.ga K "NoLot")) "name" = some none := He.eqO_ok (at_ g7 19 rfl)
  have p_nx_NoLot_number : PySem.W.findIn K (.ref (He.ga K "NoLot")) "number" = some none := He.eqO_ok (at_ g7 20 rfl)
  have p_nx_NoLot_part : PySem.W.findIn K (.ref (He.ga K "NoLot")) "part" = some none := He.eqO_ok (at_ g7 21 rfl)
  have p_ef_NoSpot : EF K (He.ga K "WordsError") "NoSpot" (He.ga K "NoSpot") := efB_ok (at_ g7 22 rfl)
  have p_fi_NoSpot : PySem.W.findIn K (.ref (He.ga K "NoSpot")) "__init__" = some (some (.ref (He.ma K (He.ga K "NoSpot") "__init__"))) := He.eqO_ok (at_ g7 23 rfl)
  obtain ⟨oc76, od76, sl76, kV76, dc76, pm76, an76, cd76, ct76, qly_NoSpot, rly_NoSpot⟩ := c.def_ 76 rfl
  have p_ky_NoSpot : PySem.W.keepIn K (.ref (He.ma K (He.ga K "NoSpot") "__init__")) = true := (at_ g7 24 rfl)
  have p_ty_NoSpot : PySem.W.typeIn K (.ref (He.ma K (He.ga K "NoSpot") "__init__")) = some (.type "function") := of_decide_eq_true (at_ g7 25 rfl)
  have p_nx_NoSpot_line : PySem.W.findIn K (.ref (He.ga K "NoSpot")) "line" = some none := He.eqO_ok (at_ g7 26 rfl)
  have p_nx_NoSpot_most : PySem.W.findIn K (.ref (He.ga K "NoSpot")) "most" = some none := He.eqO_ok (at_ g7 27 rfl)
  have p_nx_NoSpot_name : PySem.W.findIn K (.ref (He.ga K "NoSpot")) "name" = some none := He.eqO_ok (at_ g7 28 rfl)
  have p_nx_NoSpot_number : PySem.W.findIn K (.ref (He.ga K "NoSpot")) "number" = some none := He.eqO_ok (at_ g7 29 rfl)
  have p_nx_NoSpot_part : PySem.W.findIn K (.ref (He.ga K "NoSpot")) "part" = some none := He.eqO_ok (at_ g7 30 rfl)
  have p_ef_NoSource : EF K (He.ga K "WordsError") "NoSource" (He.ga K "NoSource") := efB_ok (at_ g7 31 rfl)
  have p_fi_NoSource : PySem.W.findIn K (.ref (He.ga K "NoSource")) "__init__" = some (some (.ref (He.ma K (He.ga K "NoSource") "__init__"))) := He.eqO_ok (at_ g7 32 rfl)
  obtain ⟨oc77, od77, sl77, kV77, dc77, pm77, an77, cd77, ct77, qly_NoSource, rly_NoSource⟩ := c.def_ 77 rfl
  have p_ky_NoSource : PySem.W.keepIn K (.ref (He.ma K (He.ga K "NoSource") "__init__")) = true := (at_ g7 33 rfl)
  have p_ty_NoSource : PySem.W.typeIn K (.ref (He.ma K (He.ga K "NoSource") "__init__")) = some (.type "function") := of_decide_eq_true (at_ g7 34 rfl)
  have p_nx_NoSource_line : PySem.W.findIn K (.ref (He.ga K "NoSource")) "line" = some none := He.eqO_ok (at_ g7 35 rfl)
  have p_nx_NoSource_most : PySem.W.findIn K (.ref (He.ga K "NoSource")) "most" = some none := He.eqO_ok (at_ g7 36 rfl)
  have p_nx_NoSource_name : PySem.W.findIn K (.ref (He.ga K "NoSource")) "name" = some none := He.eqO_ok (at_ g7 37 rfl)
  have p_nx_NoSource_number : PySem.W.findIn K (.ref (He.ga K "NoSource")) "number" = some none := He.eqO_ok (at_ g7 38 rfl)
  have p_nx_NoSource_part : PySem.W.findIn K (.ref (He.ga K "NoSource")) "part" = some none := He.eqO_ok (at_ g7 39 rfl)
  have p_ef_NoWords : EF K (He.ga K "WordsError") "NoWords" (He.ga K "NoWords") := efB_ok (at_ g8 0 rfl)
  have p_fi_NoWords : PySem.W.findIn K (.ref (He.ga K "NoWords")) "__init__" = some (some (.ref (He.ma K (He.ga K "NoWords") "__init__"))) := He.eqO_ok (at_ g8 1 rfl)
  obtain ⟨oc78, od78, sl78, kV78, dc78, pm78, an78, cd78, ct78, qly_NoWords, rly_NoWords⟩ := c.def_ 78 rfl
  have p_ky_NoWords : PySem.W.keepIn K (.ref (He.ma K (He.ga K "NoWords") "__init__")) = true := (at_ g8 2 rfl)
  have p_ty_NoWords : PySem.W.typeIn K (.ref (He.ma K (He.ga K "NoWords") "__init__")) = some (.type "function") := of_decide_eq_true (at_ g8 3 rfl)
  have p_nx_NoWords_line : PySem.W.findIn K (.ref (He.ga K "NoWords")) "line" = some none := He.eqO_ok (at_ g8 4 rfl)
  have p_nx_NoWords_most : PySem.W.findIn K (.ref (He.ga K "NoWords")) "most" = some none := He.eqO_ok (at_ g8 5 rfl)
  have p_nx_NoWords_name : PySem.W.findIn K (.ref (He.ga K "NoWords")) "name" = some none := He.eqO_ok (at_ g8 6 rfl)
  have p_nx_NoWords_number : PySem.W.findIn K (.ref (He.ga K "NoWords")) "number" = some none := He.eqO_ok (at_ g8 7 rfl)
  have p_nx_NoWords_part : PySem.W.findIn K (.ref (He.ga K "NoWords")) "part" = some none := He.eqO_ok (at_ g8 8 rfl)
  have p_ef_NoKinding : EF K (He.ga K "WordsError") "NoKinding" (He.ga K "NoKinding") := efB_ok (at_ g8 9 rfl)
  have p_fi_NoKinding : PySem.W.findIn K (.ref (He.ga K "NoKinding")) "__init__" = some (some (.ref (He.ma K (He.ga K "NoKinding") "__init__"))) := He.eqO_ok (at_ g8 10 rfl)
  obtain ⟨oc79, od79, sl79, kV79, dc79, pm79, an79, cd79, ct79, qly_NoKinding, rly_NoKinding⟩ := c.def_ 79 rfl
  have p_ky_NoKinding : PySem.W.keepIn K (.ref (He.ma K (He.ga K "NoKinding") "__init__")) = true := (at_ g8 11 rfl)
  have p_ty_NoKinding : PySem.W.typeIn K (.ref (He.ma K (He.ga K "NoKinding") "__init__")) = some (.type "function") := of_decide_eq_true (at_ g8 12 rfl)
  have p_nx_NoKinding_line : PySem.W.findIn K (.ref (He.ga K "NoKinding")) "line" = some none := He.eqO_ok (at_ g8 13 rfl)
  have p_nx_NoKinding_most : PySem.W.findIn K (.ref (He.ga K "NoKinding")) "most" = some none := He.eqO_ok (at_ g8 14 rfl)
  have p_nx_NoKinding_name : PySem.W.findIn K (.ref (He.ga K "NoKinding")) "name" = some none := He.eqO_ok (at_ g8 15 rfl)
  have p_nx_NoKinding_number : PySem.W.findIn K (.ref (He.ga K "NoKinding")) "number" = some none := He.eqO_ok (at_ g8 16 rfl)
  have p_nx_NoKinding_part : PySem.W.findIn K (.ref (He.ga K "NoKinding")) "part" = some none := He.eqO_ok (at_ g8 17 rfl)
  have p_ef_NoOver : EF K (He.ga K "WordsError") "NoOver" (He.ga K "NoOver") := efB_ok (at_ g8 18 rfl)
  have p_fi_NoOver : PySem.W.findIn K (.ref (He.ga K "NoOver")) "__init__" = some (some (.ref (He.ma K (He.ga K "NoOver") "__init__"))) := He.eqO_ok (at_ g8 19 rfl)
  obtain ⟨oc80, od80, sl80, kV80, dc80, pm80, an80, cd80, ct80, qly_NoOver, rly_NoOver⟩ := c.def_ 80 rfl
  have p_ky_NoOver : PySem.W.keepIn K (.ref (He.ma K (He.ga K "NoOver") "__init__")) = true := (at_ g8 20 rfl)
  have p_ty_NoOver : PySem.W.typeIn K (.ref (He.ma K (He.ga K "NoOver") "__init__")) = some (.type "function") := of_decide_eq_true (at_ g8 21 rfl)
  have p_nx_NoOver_line : PySem.W.findIn K (.ref (He.ga K "NoOver")) "line" = some none := He.eqO_ok (at_ g8 22 rfl)
  have p_nx_NoOver_most : PySem.W.findIn K (.ref (He.ga K "NoOver")) "most" = some none := He.eqO_ok (at_ g8 23 rfl)
  have p_nx_NoOver_name : PySem.W.findIn K (.ref (He.ga K "NoOver")) "name" = some none := He.eqO_ok (at_ g8 24 rfl)
  have p_nx_NoOver_number : PySem.W.findIn K (.ref (He.ga K "NoOver")) "number" = some none := He.eqO_ok (at_ g8 25 rfl)
  have p_nx_NoOver_part : PySem.W.findIn K (.ref (He.ga K "NoOver")) "part" = some none := He.eqO_ok (at_ g8 26 rfl)
  have p_ef_BadImage : EF K (He.ga K "WordsError") "BadImage" (He.ga K "BadImage") := efB_ok (at_ g8 27 rfl)
  have p_fi_BadImage : PySem.W.findIn K (.ref (He.ga K "BadImage")) "__init__" = some (some (.ref (He.ma K (He.ga K "BadImage") "__init__"))) := He.eqO_ok (at_ g8 28 rfl)
  obtain ⟨oc81, od81, sl81, kV81, dc81, pm81, an81, cd81, ct81, qly_BadImage, rly_BadImage⟩ := c.def_ 81 rfl
  have p_ky_BadImage : PySem.W.keepIn K (.ref (He.ma K (He.ga K "BadImage") "__init__")) = true := (at_ g8 29 rfl)
  have p_ty_BadImage : PySem.W.typeIn K (.ref (He.ma K (He.ga K "BadImage") "__init__")) = some (.type "function") := of_decide_eq_true (at_ g8 30 rfl)
  have p_nx_BadImage_line : PySem.W.findIn K (.ref (He.ga K "BadImage")) "line" = some none := He.eqO_ok (at_ g8 31 rfl)
  have p_nx_BadImage_most : PySem.W.findIn K (.ref (He.ga K "BadImage")) "most" = some none := He.eqO_ok (at_ g8 32 rfl)
  have p_nx_BadImage_name : PySem.W.findIn K (.ref (He.ga K "BadImage")) "name" = some none := He.eqO_ok (at_ g8 33 rfl)
  have p_nx_BadImage_number : PySem.W.findIn K (.ref (He.ga K "BadImage")) "number" = some none := He.eqO_ok (at_ g8 34 rfl)
  have p_nx_BadImage_part : PySem.W.findIn K (.ref (He.ga K "BadImage")) "part" = some none := He.eqO_ok (at_ g8 35 rfl)
  have p_ef_NoText : EF K (He.ga K "WordsError") "NoText" (He.ga K "NoText") := efB_ok (at_ g8 36 rfl)
  have p_fi_NoText : PySem.W.findIn K (.ref (He.ga K "NoText")) "__init__" = some (some (.ref (He.ma K (He.ga K "NoText") "__init__"))) := He.eqO_ok (at_ g8 37 rfl)
  obtain ⟨oc82, od82, sl82, kV82, dc82, pm82, an82, cd82, ct82, qly_NoText, rly_NoText⟩ := c.def_ 82 rfl
  have p_ky_NoText : PySem.W.keepIn K (.ref (He.ma K (He.ga K "NoText") "__init__")) = true := (at_ g8 38 rfl)
  have p_ty_NoText : PySem.W.typeIn K (.ref (He.ma K (He.ga K "NoText") "__init__")) = some (.type "function") := of_decide_eq_true (at_ g8 39 rfl)
  have p_nx_NoText_line : PySem.W.findIn K (.ref (He.ga K "NoText")) "line" = some none := He.eqO_ok (at_ g9 0 rfl)
  have p_nx_NoText_most : PySem.W.findIn K (.ref (He.ga K "NoText")) "most" = some none := He.eqO_ok (at_ g9 1 rfl)
  have p_nx_NoText_name : PySem.W.findIn K (.ref (He.ga K "NoText")) "name" = some none := He.eqO_ok (at_ g9 2 rfl)
  have p_nx_NoText_number : PySem.W.findIn K (.ref (He.ga K "NoText")) "number" = some none := He.eqO_ok (at_ g9 3 rfl)
  have p_nx_NoText_part : PySem.W.findIn K (.ref (He.ga K "NoText")) "part" = some none := He.eqO_ok (at_ g9 4 rfl)
  have p_ef_NoRecord : EF K (He.ga K "WordsError") "NoRecord" (He.ga K "NoRecord") := efB_ok (at_ g9 5 rfl)
  have p_fi_NoRecord : PySem.W.findIn K (.ref (He.ga K "NoRecord")) "__init__" = some (some (.ref (He.ma K (He.ga K "NoRecord") "__init__"))) := He.eqO_ok (at_ g9 6 rfl)
  obtain ⟨oc83, od83, sl83, kV83, dc83, pm83, an83, cd83, ct83, qly_NoRecord, rly_NoRecord⟩ := c.def_ 83 rfl
  have p_ky_NoRecord : PySem.W.keepIn K (.ref (He.ma K (He.ga K "NoRecord") "__init__")) = true := (at_ g9 7 rfl)
  have p_ty_NoRecord : PySem.W.typeIn K (.ref (He.ma K (He.ga K "NoRecord") "__init__")) = some (.type "function") := of_decide_eq_true (at_ g9 8 rfl)
  have p_nx_NoRecord_line : PySem.W.findIn K (.ref (He.ga K "NoRecord")) "line" = some none := He.eqO_ok (at_ g9 9 rfl)
  have p_nx_NoRecord_most : PySem.W.findIn K (.ref (He.ga K "NoRecord")) "most" = some none := He.eqO_ok (at_ g9 10 rfl)
  have p_nx_NoRecord_name : PySem.W.findIn K (.ref (He.ga K "NoRecord")) "name" = some none := He.eqO_ok (at_ g9 11 rfl)
  have p_nx_NoRecord_number : PySem.W.findIn K (.ref (He.ga K "NoRecord")) "number" = some none := He.eqO_ok (at_ g9 12 rfl)
  have p_nx_NoRecord_part : PySem.W.findIn K (.ref (He.ga K "NoRecord")) "part" = some none := He.eqO_ok (at_ g9 13 rfl)
  have p_ef_BadText : EF K (He.ga K "WordsError") "BadText" (He.ga K "BadText") := efB_ok (at_ g9 14 rfl)
  have p_fi_BadText : PySem.W.findIn K (.ref (He.ga K "BadText")) "__init__" = some (some (.ref (He.ma K (He.ga K "BadText") "__init__"))) := He.eqO_ok (at_ g9 15 rfl)
  obtain ⟨oc84, od84, sl84, kV84, dc84, pm84, an84, cd84, ct84, qly_BadText, rly_BadText⟩ := c.def_ 84 rfl
  have p_ky_BadText : PySem.W.keepIn K (.ref (He.ma K (He.ga K "BadText") "__init__")) = true := (at_ g9 16 rfl)
  have p_ty_BadText : PySem.W.typeIn K (.ref (He.ma K (He.ga K "BadText") "__init__")) = some (.type "function") := of_decide_eq_true (at_ g9 17 rfl)
  have p_nx_BadText_line : PySem.W.findIn K (.ref (He.ga K "BadText")) "line" = some none := He.eqO_ok (at_ g9 18 rfl)
  have p_nx_BadText_most : PySem.W.findIn K (.ref (He.ga K "BadText")) "most" = some none := He.eqO_ok (at_ g9 19 rfl)
  have p_nx_BadText_name : PySem.W.findIn K (.ref (He.ga K "BadText")) "name" = some none := He.eqO_ok (at_ g9 20 rfl)
  have p_nx_BadText_number : PySem.W.findIn K (.ref (He.ga K "BadText")) "number" = some none := He.eqO_ok (at_ g9 21 rfl)
  have p_nx_BadText_part : PySem.W.findIn K (.ref (He.ga K "BadText")) "part" = some none := He.eqO_ok (at_ g9 22 rfl)
  have p_ef_NothingDone : EF K (He.ga K "WordsError") "NothingDone" (He.ga K "NothingDone") := efB_ok (at_ g9 23 rfl)
  have p_fi_NothingDone : PySem.W.findIn K (.ref (He.ga K "NothingDone")) "__init__" = some (some (.ref (He.ma K (He.ga K "NothingDone") "__init__"))) := He.eqO_ok (at_ g9 24 rfl)
  obtain ⟨oc85, od85, sl85, kV85, dc85, pm85, an85, cd85, ct85, qly_NothingDone, rly_NothingDone⟩ := c.def_ 85 rfl
  have p_ky_NothingDone : PySem.W.keepIn K (.ref (He.ma K (He.ga K "NothingDone") "__init__")) = true := (at_ g9 25 rfl)
  have p_ty_NothingDone : PySem.W.typeIn K (.ref (He.ma K (He.ga K "NothingDone") "__init__")) = some (.type "function") := of_decide_eq_true (at_ g9 26 rfl)
  have p_nx_NothingDone_line : PySem.W.findIn K (.ref (He.ga K "NothingDone")) "line" = some none := He.eqO_ok (at_ g9 27 rfl)
  have p_nx_NothingDone_most : PySem.W.findIn K (.ref (He.ga K "NothingDone")) "most" = some none := He.eqO_ok (at_ g9 28 rfl)
  have p_nx_NothingDone_name : PySem.W.findIn K (.ref (He.ga K "NothingDone")) "name" = some none := He.eqO_ok (at_ g9 29 rfl)
  have p_nx_NothingDone_number : PySem.W.findIn K (.ref (He.ga K "NothingDone")) "number" = some none := He.eqO_ok (at_ g9 30 rfl)
  have p_nx_NothingDone_part : PySem.W.findIn K (.ref (He.ga K "NothingDone")) "part" = some none := He.eqO_ok (at_ g9 31 rfl)
  have p_ef_NoForm : EF K (He.ga K "WordsError") "NoForm" (He.ga K "NoForm") := efB_ok (at_ g9 32 rfl)
  have p_fi_NoForm : PySem.W.findIn K (.ref (He.ga K "NoForm")) "__init__" = some (some (.ref (He.ma K (He.ga K "NoForm") "__init__"))) := He.eqO_ok (at_ g9 33 rfl)
  obtain ⟨oc86, od86, sl86, kV86, dc86, pm86, an86, cd86, ct86, qly_NoForm, rly_NoForm⟩ := c.def_ 86 rfl
  have p_ky_NoForm : PySem.W.keepIn K (.ref (He.ma K (He.ga K "NoForm") "__init__")) = true := (at_ g9 34 rfl)
  have p_ty_NoForm : PySem.W.typeIn K (.ref (He.ma K (He.ga K "NoForm") "__init__")) = some (.type "function") := of_decide_eq_true (at_ g9 35 rfl)
  have p_nx_NoForm_line : PySem.W.findIn K (.ref (He.ga K "NoForm")) "line" = some none := He.eqO_ok (at_ g9 36 rfl)
  have p_nx_NoForm_most : PySem.W.findIn K (.ref (He.ga K "NoForm")) "most" = some none := He.eqO_ok (at_ g9 37 rfl)
  have p_nx_NoForm_name : PySem.W.findIn K (.ref (He.ga K "NoForm")) "name" = some none := He.eqO_ok (at_ g9 38 rfl)
  have p_nx_NoForm_number : PySem.W.findIn K (.ref (He.ga K "NoForm")) "number" = some none := He.eqO_ok (at_ g9 39 rfl)
  have p_nx_NoForm_part : PySem.W.findIn K (.ref (He.ga K "NoForm")) "part" = some none := He.eqO_ok (at_ g10 0 rfl)
  have p_ef_NoName : EF K (He.ga K "WordsError") "NoName" (He.ga K "NoName") := efB_ok (at_ g10 1 rfl)
  have p_fi_NoName : PySem.W.findIn K (.ref (He.ga K "NoName")) "__init__" = some (some (.ref (He.ma K (He.ga K "NoName") "__init__"))) := He.eqO_ok (at_ g10 2 rfl)
  obtain ⟨oc87, od87, sl87, kV87, dc87, pm87, an87, cd87, ct87, qly_NoName, rly_NoName⟩ := c.def_ 87 rfl
  have p_ky_NoName : PySem.W.keepIn K (.ref (He.ma K (He.ga K "NoName") "__init__")) = true := (at_ g10 3 rfl)
  have p_ty_NoName : PySem.W.typeIn K (.ref (He.ma K (He.ga K "NoName") "__init__")) = some (.type "function") := of_decide_eq_true (at_ g10 4 rfl)
  have p_nx_NoName_line : PySem.W.findIn K (.ref (He.ga K "NoName")) "line" = some none := He.eqO_ok (at_ g10 5 rfl)
  have p_nx_NoName_most : PySem.W.findIn K (.ref (He.ga K "NoName")) "most" = some none := He.eqO_ok (at_ g10 6 rfl)
  have p_nx_NoName_name : PySem.W.findIn K (.ref (He.ga K "NoName")) "name" = some none := He.eqO_ok (at_ g10 7 rfl)
  have p_nx_NoName_number : PySem.W.findIn K (.ref (He.ga K "NoName")) "number" = some none := He.eqO_ok (at_ g10 8 rfl)
  have p_nx_NoName_part : PySem.W.findIn K (.ref (He.ga K "NoName")) "part" = some none := He.eqO_ok (at_ g10 9 rfl)
  have p_ef_NothingChosen : EF K (He.ga K "WordsError") "NothingChosen" (He.ga K "NothingChosen") := efB_ok (at_ g10 10 rfl)
  have p_fi_NothingChosen : PySem.W.findIn K (.ref (He.ga K "NothingChosen")) "__init__" = some (some (.ref (He.ma K (He.ga K "NothingChosen") "__init__"))) := He.eqO_ok (at_ g10 11 rfl)
  obtain ⟨oc88, od88, sl88, kV88, dc88, pm88, an88, cd88, ct88, qly_NothingChosen, rly_NothingChosen⟩ := c.def_ 88 rfl
  have p_ky_NothingChosen : PySem.W.keepIn K (.ref (He.ma K (He.ga K "NothingChosen") "__init__")) = true := (at_ g10 12 rfl)
  have p_ty_NothingChosen : PySem.W.typeIn K (.ref (He.ma K (He.ga K "NothingChosen") "__init__")) = some (.type "function") := of_decide_eq_true (at_ g10 13 rfl)
  have p_nx_NothingChosen_line : PySem.W.findIn K (.ref (He.ga K "NothingChosen")) "line" = some none := He.eqO_ok (at_ g10 14 rfl)
  have p_nx_NothingChosen_most : PySem.W.findIn K (.ref (He.ga K "NothingChosen")) "most" = some none := He.eqO_ok (at_ g10 15 rfl)
  have p_nx_NothingChosen_name : PySem.W.findIn K (.ref (He.ga K "NothingChosen")) "name" = some none := He.eqO_ok (at_ g10 16 rfl)
  have p_nx_NothingChosen_number : PySem.W.findIn K (.ref (He.ga K "NothingChosen")) "number" = some none := He.eqO_ok (at_ g10 17 rfl)
  have p_nx_NothingChosen_part : PySem.W.findIn K (.ref (He.ga K "NothingChosen")) "part" = some none := He.eqO_ok (at_ g10 18 rfl)
  have p_ndup : ([(He.ga K "NoKind"), (He.ga K "NoKinds"), (He.ga K "BadProgram"), (He.ga K "NoBody"), (He.ga K "NoPoint"), (He.ga K "NoInputs"), (He.ga K "NoNumber"), (He.ga K "IsOver"), (He.ga K "NoPlace"), (He.ga K "BadPlacer"), (He.ga K "TooMany"), (He.ga K "NoLot"), (He.ga K "NoSpot"), (He.ga K "NoSource"), (He.ga K "NoWords"), (He.ga K "NoKinding"), (He.ga K "NoOver"), (He.ga K "BadImage"), (He.ga K "NoText"), (He.ga K "NoRecord"), (He.ga K "BadText"), (He.ga K "NothingDone"), (He.ga K "NoForm"), (He.ga K "NoName"), (He.ga K "NothingChosen")] : List Addr).Nodup := of_decide_eq_true (at_ g10 19 rfl)
  have p_w0out : (He.ga K "WordsError") ∉ ([(He.ga K "NoKind"), (He.ga K "NoKinds"), (He.ga K "BadProgram"), (He.ga K "NoBody"), (He.ga K "NoPoint"), (He.ga K "NoInputs"), (He.ga K "NoNumber"), (He.ga K "IsOver"), (He.ga K "NoPlace"), (He.ga K "BadPlacer"), (He.ga K "TooMany"), (He.ga K "NoLot"), (He.ga K "NoSpot"), (He.ga K "NoSource"), (He.ga K "NoWords"), (He.ga K "NoKinding"), (He.ga K "NoOver"), (He.ga K "BadImage"), (He.ga K "NoText"), (He.ga K "NoRecord"), (He.ga K "BadText"), (He.ga K "NothingDone"), (He.ga K "NoForm"), (He.ga K "NoName"), (He.ga K "NothingChosen")] : List Addr) := of_decide_eq_true (at_ g10 20 rfl)
  exact all_mk X G hfa p_v_Program p_a0 ql0 rl0 p_k0 p_a1 ql1 rl1 p_k1 p_a2 ql2 rl2 p_k2 p_a3 ql3 rl3 p_k3 p_a4 ql4 rl4 p_k4 p_a5 ql5 rl5 p_k5 p_a6 ql6 rl6 p_k6 p_a7 ql7 rl7 p_k7 p_a8 ql8 rl8 p_k8 p_a9 ql9 rl9 p_k9 p_a10 ql10 rl10 p_k10 p_a11 ql11 rl11 p_k11 p_a12 ql12 rl12 p_k12 p_a13 ql13 rl13 p_k13 p_a14 ql14 rl14 p_k14 p_a15 ql15 rl15 p_k15 p_a16 ql16 rl16 p_k16 p_a17 ql17 rl17 p_k17 p_a18 ql18 rl18 p_k18 p_a19 ql19 rl19 p_k19 p_a20 ql20 rl20 p_k20 p_a21 ql21 rl21 p_k21 p_a22 ql22 rl22 p_k22 p_a23 ql23 rl23 p_k23 p_a24 ql24 rl24 p_k24 p_a25 ql25 rl25 p_k25 p_a26 ql26 rl26 p_k26 p_a27 ql27 rl27 p_k27 p_a28 ql28 rl28 p_k28 p_a29 ql29 rl29 p_k29 p_a30 ql30 rl30 p_k30 p_a31 ql31 rl31 p_k31 p_a32 ql32 rl32 p_k32 p_a33 ql33 rl33 p_k33 p_a34 ql34 rl34 p_k34 p_a35 ql35 rl35 p_k35 p_a36 ql36 rl36 p_k36 p_a37 ql37 rl37 p_k37 p_a38 ql38 rl38 p_k38 p_a39 ql39 rl39 p_k39 p_a40 ql40 rl40 p_k40 p_a41 ql41 rl41 p_k41 p_a42 ql42 rl42 p_k42 p_a43 ql43 rl43 p_k43 p_a44 ql44 rl44 p_k44 p_a45 ql45 rl45 p_k45 p_a46 ql46 rl46 p_k46 p_a47 ql47 rl47 p_k47 p_a48 ql48 rl48 p_k48 p_a49 ql49 rl49 p_k49 p_a50 ql50 rl50 p_k50 p_a51 ql51 rl51 p_k51 p_a52 ql52 rl52 p_k52 p_a53 ql53 rl53 p_k53 p_a54 ql54 rl54 p_k54 p_m1_Program p_m2_Program p_m3_Program p_a55 ql55 rl55 p_k55 p_a56 ql56 rl56 p_k56 p_a57 ql57 rl57 p_k57 p_a58 ql58 rl58 p_k58 p_eqfn p_a59 ql59 rl59 p_k59 p_a60 ql60 rl60 p_k60 p_a61 ql61 rl61 p_k61 p_a62 ql62 rl62 p_k62 p_a63 ql63 rl63 p_k63 p_p1_Program p_p2_Program p_p3_Program p_p4_Program p_na_Program_bodies p_na_Program_book p_na_Program_tables p_v_LARGEST p_v_MOST_BLOCKS_DEEP p_v_MOST_BODIES p_v_MOST_BODY_LETTERS p_v_MOST_CHOICES p_v_MOST_CHOICE_LETTERS p_v_MOST_KINDS p_v_MOST_KINDS_DEEP p_v_MOST_KINDS_IN_PLACE p_v_MOST_LEFT p_v_MOST_PARTS p_v_MOST_PLACES p_v_MOST_ROW p_v_MOST_STEPS p_v_MOST_WAYS p_v_NIL p_w_NIL p_v_NUM p_w_NUM p_v_END_FORMS p_w_END_FORMS p_v_STEP_FORMS p_w_STEP_FORMS p_v_STEP_KINDS p_w_STEP_KINDS p_z_ValueError p_z_abs p_z_all p_z_any p_z_bool p_z_enumerate p_z_int p_z_isinstance p_z_len p_z_list p_z_max p_z_range p_z_reversed p_z_str p_z_sum p_z_tuple p_z_zip p_v_W0 p_rd_W0 p_fc_W0 p_ty_W0 p_cl_W0 p_sp_c p_tk_c p_ha_P p_hm_P p_io_bool p_io_list p_io_tuple p_ef_NoKind p_fi_NoKind qly_NoKind rly_NoKind p_ky_NoKind p_ty_NoKind p_nx_NoKind_line p_nx_NoKind_most p_nx_NoKind_name p_nx_NoKind_number p_nx_NoKind_part p_ef_NoKinds p_fi_NoKinds qly_NoKinds rly_NoKinds p_ky_NoKinds p_ty_NoKinds p_nx_NoKinds_line p_nx_NoKinds_most p_nx_NoKinds_name p_nx_NoKinds_number p_nx_NoKinds_part p_ef_BadProgram p_fi_BadProgram qly_BadProgram rly_BadProgram p_ky_BadProgram p_ty_BadProgram p_nx_BadProgram_line p_nx_BadProgram_most p_nx_BadProgram_name p_nx_BadProgram_number p_nx_BadProgram_part p_ef_NoBody p_fi_NoBody qly_NoBody rly_NoBody p_ky_NoBody p_ty_NoBody p_nx_NoBody_line p_nx_NoBody_most p_nx_NoBody_name p_nx_NoBody_number p_nx_NoBody_part p_ef_NoPoint p_fi_NoPoint qly_NoPoint rly_NoPoint p_ky_NoPoint p_ty_NoPoint p_nx_NoPoint_line p_nx_NoPoint_most p_nx_NoPoint_name p_nx_NoPoint_number p_nx_NoPoint_part p_ef_NoInputs p_fi_NoInputs qly_NoInputs rly_NoInputs p_ky_NoInputs p_ty_NoInputs p_nx_NoInputs_line p_nx_NoInputs_most p_nx_NoInputs_name p_nx_NoInputs_number p_nx_NoInputs_part p_ef_NoNumber p_fi_NoNumber qly_NoNumber rly_NoNumber p_ky_NoNumber p_ty_NoNumber p_nx_NoNumber_line p_nx_NoNumber_most p_nx_NoNumber_name p_nx_NoNumber_number p_nx_NoNumber_part p_ef_IsOver p_fi_IsOver qly_IsOver rly_IsOver p_ky_IsOver p_ty_IsOver p_nx_IsOver_line p_nx_IsOver_most p_nx_IsOver_name p_nx_IsOver_number p_nx_IsOver_part p_ef_NoPlace p_fi_NoPlace qly_NoPlace rly_NoPlace p_ky_NoPlace p_ty_NoPlace p_nx_NoPlace_line p_nx_NoPlace_most p_nx_NoPlace_name p_nx_NoPlace_number p_nx_NoPlace_part p_ef_BadPlacer p_fi_BadPlacer qly_BadPlacer rly_BadPlacer p_ky_BadPlacer p_ty_BadPlacer p_nx_BadPlacer_line p_nx_BadPlacer_most p_nx_BadPlacer_name p_nx_BadPlacer_number p_nx_BadPlacer_part p_ef_TooMany p_fi_TooMany qly_TooMany rly_TooMany p_ky_TooMany p_ty_TooMany p_nx_TooMany_line p_nx_TooMany_most p_nx_TooMany_name p_nx_TooMany_number p_nx_TooMany_part p_ef_NoLot p_fi_NoLot qly_NoLot rly_NoLot p_ky_NoLot p_ty_NoLot p_nx_NoLot_line p_nx_NoLot_most p_nx_NoLot_name p_nx_NoLot_number p_nx_NoLot_part p_ef_NoSpot p_fi_NoSpot qly_NoSpot rly_NoSpot p_ky_NoSpot p_ty_NoSpot p_nx_NoSpot_line p_nx_NoSpot_most p_nx_NoSpot_name p_nx_NoSpot_number p_nx_NoSpot_part p_ef_NoSource p_fi_NoSource qly_NoSource rly_NoSource p_ky_NoSource p_ty_NoSource p_nx_NoSource_line p_nx_NoSource_most p_nx_NoSource_name p_nx_NoSource_number p_nx_NoSource_part p_ef_NoWords p_fi_NoWords qly_NoWords rly_NoWords p_ky_NoWords p_ty_NoWords p_nx_NoWords_line p_nx_NoWords_most p_nx_NoWords_name p_nx_NoWords_number p_nx_NoWords_part p_ef_NoKinding p_fi_NoKinding qly_NoKinding rly_NoKinding p_ky_NoKinding p_ty_NoKinding p_nx_NoKinding_line p_nx_NoKinding_most p_nx_NoKinding_name p_nx_NoKinding_number p_nx_NoKinding_part p_ef_NoOver p_fi_NoOver qly_NoOver rly_NoOver p_ky_NoOver p_ty_NoOver p_nx_NoOver_line p_nx_NoOver_most p_nx_NoOver_name p_nx_NoOver_number p_nx_NoOver_part p_ef_BadImage p_fi_BadImage qly_BadImage rly_BadImage p_ky_BadImage p_ty_BadImage p_nx_BadImage_line p_nx_BadImage_most p_nx_BadImage_name p_nx_BadImage_number p_nx_BadImage_part p_ef_NoText p_fi_NoText qly_NoText rly_NoText p_ky_NoText p_ty_NoText p_nx_NoText_line p_nx_NoText_most p_nx_NoText_name p_nx_NoText_number p_nx_NoText_part p_ef_NoRecord p_fi_NoRecord qly_NoRecord rly_NoRecord p_ky_NoRecord p_ty_NoRecord p_nx_NoRecord_line p_nx_NoRecord_most p_nx_NoRecord_name p_nx_NoRecord_number p_nx_NoRecord_part p_ef_BadText p_fi_BadText qly_BadText rly_BadText p_ky_BadText p_ty_BadText p_nx_BadText_line p_nx_BadText_most p_nx_BadText_name p_nx_BadText_number p_nx_BadText_part p_ef_NothingDone p_fi_NothingDone qly_NothingDone rly_NothingDone p_ky_NothingDone p_ty_NothingDone p_nx_NothingDone_line p_nx_NothingDone_most p_nx_NothingDone_name p_nx_NothingDone_number p_nx_NothingDone_part p_ef_NoForm p_fi_NoForm qly_NoForm rly_NoForm p_ky_NoForm p_ty_NoForm p_nx_NoForm_line p_nx_NoForm_most p_nx_NoForm_name p_nx_NoForm_number p_nx_NoForm_part p_ef_NoName p_fi_NoName qly_NoName rly_NoName p_ky_NoName p_ty_NoName p_nx_NoName_line p_nx_NoName_most p_nx_NoName_name p_nx_NoName_number p_nx_NoName_part p_ef_NothingChosen p_fi_NothingChosen qly_NothingChosen rly_NothingChosen p_ky_NothingChosen p_ty_NothingChosen p_nx_NothingChosen_line p_nx_NothingChosen_most p_nx_NothingChosen_name p_nx_NothingChosen_number p_nx_NothingChosen_part p_ndup p_w0out
end K00

set_option Elab.async false
set_option linter.all false
set_option maxRecDepth 100000
set_option maxHeartbeats 0
open PySem PySem.W PySem.Calls PyProof.Rows
theorem PySem.Challenge.cw_barewords_k00_errors_and_their_fields_holds : PySem.Challenge.rw_barewords_k00_errors_and_their_fields.Holds := by
  w_on; o_law
  refine HandSHeadRun.head_any (r := OpenLaw.row PySem.Challenge.rw_barewords_k00_errors_and_their_fields) (q := view (OpenLaw.row PySem.Challenge.rw_barewords_k00_errors_and_their_fields).prog [115]) (H := B.hookM K00t.bs K00t.fns K00t.tbs) (ob := B.obM K00t.bs K00t.fns K00t.tbs) (M := 9400) (loose := K00t.names) (d := HandSHeadRun.topDef (OpenLaw.row PySem.Challenge.rw_barewords_k00_errors_and_their_fields).prog 115) (kwd := []) (B.obM_eq _ _ _)
    (by kernel_rfl) (fun s => by kernel_rfl) K00t.run (by kernel_rfl) (by kernel_rfl) (by kernel_rfl) (by rfl) (by first | assumption | decide +kernel) (by decide +kernel) ⟨rfl, rfl, rfl, rfl, rfl, by decide +kernel⟩ ?hw ?hc
  case hw => w_witness2
  case hc =>
    refine L2.walk_ofE (l := PySem.Challenge.rw_barewords_k00_errors_and_their_fields) (n := 63) (k := 49) (x := "_law_script") (CX := L2.CX0) rfl (by decide) (by kernel_rfl) ⟨rfl, by decide, by decide⟩ ?F (fun _ _ _ _ z => z)
    intro w mg fa h Y G hmg0
    obtain ⟨K, KX, c⟩ := Y
    have hmg : mg ("law" : PySem.Str) = some (.ref fa) := by
      have e : (HandSHeadRun.topDef (OpenLaw.row PySem.Challenge.rw_barewords_k00_errors_and_their_fields).prog 115).name = ("law" : PySem.Str) := by kernel_rfl
      rw [← e]
      exact hmg0
    obtain ⟨fd, hb, hF⟩ := K00.facts (l := PySem.Challenge.rw_barewords_k00_errors_and_their_fields) (w := w) KX G hmg c
    refine ⟨K, fd, B.spM K 1 K00.F_law, KX, hb, fun H a ns hl ho hS => ?_, hF⟩
    obtain ⟨st, hst⟩ := K00.law_true ns hl
    exact ⟨rfl, [], [], [.fl (ns.map .int)], .bl true, st, .cons (.fl (K00.fix_of ho hS) (B.rws_ints ns)) .nil, ⟨rfl, .nil, fun i o h => by simp at h⟩, hst, fun v H' β' _ _ r => r.bl_inv⟩

