import PyProof.Rows.All
import Wide.All
import OpenK.AllK
import Wide.FinOn
import HandS.ForMost
import HandS.Flow
import HandS.Wide
import HandS.WideBits
import HandS.Gcd
import HandS.IsInst
import HandS.Call
import HandS.SortInts
import HandS.Walk
import HandS.Star
import PyProof.ReprRoads
import HandS.AnyAll
import HandS.ExcIs
import HandS.ExcField
import KE.KExcIs
import HandS.EndBits
import HandS.Exc
import HandS.Text
import KE.GoesEnum
import HandS.RaiseMore
import HandS.Comp
import HandS.Style
import PyProof.P3Eq
import HandS.Deep
import HandS.More
import HandS.TupAny
import HandS.ExcOwn
import HandS.ExcInit
import HandS.WordsExc
import HandS.TryOnly
import HandS.Small
import PyProof.Rows.SeqMore
import HandS.HeadHook4
import HandS.Words
import HandS.DictTup
import KE.SortData
import HandS.SetFor
import HandS.Strs
import PyProof.Rows.SetFrom
import PyProof.StrLawsRepr
import HandS.ListEq
import HandS.Zip
import HandS.TupSets
import HandS.FStr
import HandS.Steps
import PyProof.EqKinds
import PyProof.NeKinds
import HandS.TryMany
import HandS.StrMore
import PyProof.StrOps2
import HandS.Codes
import KE.GoesMore
import KE.GoesZip
import HandS.Iter
import PyProof.Rows.StrOr
import KE.KIntText
import PySem.Challenge.RW_truechain_k38_fractions_written
set_option Elab.async false
set_option linter.all false
set_option maxRecDepth 100000
set_option exponentiation.threshold 100000
namespace Dl
open PySem PySem.Spec PyProof.Rows L2
theorem saysY_of {as : List Addr} {fa : List He.Fa} {fn : List He.DefD} {ts : List He.Tab} {tf : List He.Defn} {ex : PySem.W.Frag → Bool} {w : World} {h : Heap}
    (e : (He.obsT fa fn ts (He.frT h.get? as), ex (He.frT h.get? as) && He.tabsB h.get? tf (He.frT h.get? as)) = He.valX fn ts w) : He.SaysX fa fn ts tf ex w h (He.frT h.get? as) := by
  obtain ⟨e1, e2⟩ := Prod.mk.inj e
  obtain ⟨h1, h2⟩ := Bool.and_eq_true_iff.mp e2
  have one : ∀ p ∈ tf, PySem.W.codeHdIn (He.frT h.get? as) (He.cT (He.frT h.get? as) p).1 (He.cT (He.frT h.get? as) p).2 = true ∧ ∃ o, h.get? (He.cT (He.frT h.get? as) p).2 = some o ∧ He.emptyTab o = true := fun p hp => by
    have q := List.all_eq_true.mp h2 p hp
    obtain ⟨q1, q2⟩ := Bool.and_eq_true_iff.mp q
    refine ⟨q1, ?_⟩
    split at q2
    · next o eo => exact ⟨o, eo, q2⟩
    · cases q2
  refine ⟨e1, h1, fun p hp => (one p hp).1, fun p hp => ?_, fun p hp => ?_⟩
  · obtain ⟨_, o, eo, z⟩ := one p hp
    exact He.frT_none eo z
  · obtain ⟨_, o, eo, z⟩ := one p hp
    rw [eo, He.emptyTab_eq z]
/-- what the names reach in n steps, and the interpreter's own table beside it -/
def hookY (n : Nat) (fa : List He.Fa) (fn : List He.DefD) (ts : List He.Tab) (tf : List He.Defn) (ex : PySem.W.Frag → Bool) : PySem.W.Hook where
  α := He.AlX
  obs := fun s => (He.obsT fa fn ts (He.frT s.heap.get? (He.asD s.heap.get? n ++ [cStatics])), ex (He.frT s.heap.get? (He.asD s.heap.get? n ++ [cStatics])) && He.tabsB s.heap.get? tf (He.frT s.heap.get? (He.asD s.heap.get? n ++ [cStatics])))
  val := fun w => He.valX fn ts w
  says := fun w h => ∃ K : PySem.W.Frag, K.In h ∧ He.SaysX fa fn ts tf ex w h K
  of := fun _ _ e => ⟨_, He.frT_in, saysY_of e⟩
  keeps := fun _ _ _ ⟨K, hK, c⟩ k => ⟨K, PySem.W.Frag.In.keeps hK k, ⟨c.t, c.more, c.hd, c.out, fun p hp => k _ _ (c.empty p hp)⟩⟩
end Dl
namespace Dl
open PySem PySem.Spec PyProof.Rows L2
def oexB (K : PySem.W.Frag) (C : Addr) : Bool := match K.lookup C with
  | some o => (match o.cls, o.data, o.slots.toList with
    | .type c, .cls cd, [_, _, _, _, some (.builtin n), _] => (match cd.mro with
      | .ref b :: bm => decide (c = "type") && (decide (b = C) && (decide (n = "ValueError.__new__") && (!cd.hasDel && (cd.hasDict && PySem.HandSPX.refsVE bm))))
      | _ => false)
    | _, _, _ => false)
  | none => false
end Dl
namespace Lk
open PySem PySem.Spec PyProof.Rows L2 Dl
def inS (s : Stmt) (j : Nat) : Stmt := match s with | .ClassDef _ _ _ b _ _ _ _ _ _ _ => b.getD j (.Pass ⟨0, 0, 0, 0⟩) | _ => s
def topS (i : Nat) : Stmt := PySem.Challenge.pw_truechain_k38_fractions_written.main.body.getD i (.Pass ⟨0, 0, 0, 0⟩)
abbrev s__law_bag : Stmt := topS 12
abbrev s__law_take : Stmt := topS 13
abbrev s__law_great : Stmt := topS 20
abbrev s__law_low : Stmt := topS 16
abbrev s__law_copy : Stmt := topS 15
abbrev s__law_odd : Stmt := topS 18
abbrev s__law_alike : Stmt := topS 14
abbrev s__law_shown : Stmt := topS 19
abbrev s_require : Stmt := topS 4
abbrev s_is_whole : Stmt := topS 6
abbrev s_is_fraction : Stmt := topS 8
abbrev s_show_fraction : Stmt := topS 10
abbrev s__law_told : Stmt := topS 22
abbrev s__law_whole : Stmt := topS 17
abbrev s__law_is_fraction : Stmt := topS 21
abbrev s_law : Stmt := topS 23
abbrev sI_Wrong : Stmt := inS (topS 3) 0
def dI_Wrong : He.DefD := ⟨("Wrong", some "__init__"), "__init__", "Wrong.__init__", defArgs sI_Wrong, defBody sI_Wrong, defScope sI_Wrong, [], []⟩
def d__law_bag : He.DefD := ⟨("_law_bag", none), "_law_bag", "_law_bag", defArgs s__law_bag, defBody s__law_bag, defScope s__law_bag, [], []⟩
def d__law_take : He.DefD := ⟨("_law_take", none), "_law_take", "_law_take", defArgs s__law_take, defBody s__law_take, defScope s__law_take, [], []⟩
def d__law_great : He.DefD := ⟨("_law_great", none), "_law_great", "_law_great", defArgs s__law_great, defBody s__law_great, defScope s__law_great, [], []⟩
def d__law_low : He.DefD := ⟨("_law_low", none), "_law_low", "_law_low", defArgs s__law_low, defBody s__law_low, defScope s__law_low, [], []⟩
def d__law_copy : He.DefD := ⟨("_law_copy", none), "_law_copy", "_law_copy", defArgs s__law_copy, defBody s__law_copy, defScope s__law_copy, [], []⟩
def d__law_odd : He.DefD := ⟨("_law_odd", none), "_law_odd", "_law_odd", defArgs s__law_odd, defBody s__law_odd, defScope s__law_odd, [], []⟩
def d__law_alike : He.DefD := ⟨("_law_alike", none), "_law_alike", "_law_alike", defArgs s__law_alike, defBody s__law_alike, defScope s__law_alike, [], []⟩
def d__law_shown : He.DefD := ⟨("_law_shown", none), "_law_shown", "_law_shown", defArgs s__law_shown, defBody s__law_shown, defScope s__law_shown, [], []⟩
def d_require : He.DefD := ⟨("require", none), "require", "require", defArgs s_require, defBody s_require, defScope s_require, [], []⟩
def d_is_whole : He.DefD := ⟨("is_whole", none), "is_whole", "is_whole", defArgs s_is_whole, defBody s_is_whole, defScope s_is_whole, [], []⟩
def d_is_fraction : He.DefD := ⟨("is_fraction", none), "is_fraction", "is_fraction", defArgs s_is_fraction, defBody s_is_fraction, defScope s_is_fraction, [], []⟩
def d_show_fraction : He.DefD := ⟨("show_fraction", none), "show_fraction", "show_fraction", defArgs s_show_fraction, defBody s_show_fraction, defScope s_show_fraction, [], []⟩
def d__law_told : He.DefD := ⟨("_law_told", none), "_law_told", "_law_told", defArgs s__law_told, defBody s__law_told, defScope s__law_told, [], []⟩
def d__law_whole : He.DefD := ⟨("_law_whole", none), "_law_whole", "_law_whole", defArgs s__law_whole, defBody s__law_whole, defScope s__law_whole, [], []⟩
def d__law_is_fraction : He.DefD := ⟨("_law_is_fraction", none), "_law_is_fraction", "_law_is_fraction", defArgs s__law_is_fraction, defBody s__law_is_fraction, defScope s__law_is_fraction, [], []⟩
def d_law : He.DefD := ⟨("law", none), "law", "law", defArgs s_law, defBody s_law, defScope s_law, [], []⟩
def fa : List He.Fa := [.glo "_law_bag", .glo "_law_take", .glo "_law_great", .glo "_law_low", .glo "_law_copy", .glo "_law_odd", .glo "_law_alike", .glo "_law_shown", .glo "require", .glo "is_whole", .glo "is_fraction", .glo "show_fraction", .glo "_law_told", .glo "_law_whole", .glo "_law_is_fraction", .glo "law", .free "abs", .free "len", .free "int", .free "isinstance", .free "list", .free "tuple", .free "repr", .free "str", .free "enumerate", .glo "Wrong", .free "bool", .exm "Wrong" "Wrong" true, .free "range"]
def fn : List He.DefD := [d__law_bag, d__law_take, d__law_great, d__law_low, d__law_copy, d__law_odd, d__law_alike, d__law_shown, d_require, d_is_whole, d_is_fraction, d_show_fraction, d__law_told, d__law_whole, d__law_is_fraction, d_law, dI_Wrong]
def tb : List He.Tab := []
def tf : List He.Defn := []
def exs : List (PySem.W.Frag → Bool) := [fun K => He.eqO (PySem.W.nsIn K cStatics "sys.int_max_str_digits") (some none),
  fun K => He.eqO (PySem.W.nsIn K mainGlobals "gcd") (some (some (.builtin "math.gcd"))),
  fun K => He.eqO (PySem.W.findIn K (.ref (He.ga K "Wrong")) "__getattribute__") (some (some (.builtin "BaseException.__getattribute__"))),
  fun K => He.eqO (PySem.W.findIn K (.ref (He.ga K "Wrong")) "__getattr__") (some none),
  fun K => decide (PySem.W.subIn K (.ref (He.ga K "Wrong")) (.type "BaseException") = some true),
  fun K => decide (PySem.W.hasDictIn K (He.ga K "Wrong") = true),
  fun K => He.eqO (PySem.W.findIn K (.ref (He.ga K "Wrong")) "__class__") (some (some (.builtin "object.__class__"))),
  fun K => He.eqO (PySem.W.specialIn K (.builtin "object.__class__") "__get__") (some (some (.builtin "getset_descriptor.__get__"))),
  fun K => decide (PySem.W.takesIn K (.builtin "object.__class__") = some true),
  fun K => decide (PySem.W.mroIn K (He.ga K "Wrong") (.type "object") = some true),
  fun K => He.eqO (PySem.W.findIn K (.ref (He.ga K "Wrong")) "at") (some none),
  fun K => oexB K (He.ga K "Wrong"),
  fun K => He.eqO (PySem.W.findIn K (.ref (He.ga K "Wrong")) "__setattr__") (some (some (.builtin "object.__setattr__"))),
  fun K => decide (PySem.W.typeIn K (.ref (He.ga K "Wrong")) = some (.type "type")),
  fun K => PySem.W.keepIn K (.ref (He.ga K "Wrong")),
  fun K => He.eqO (PySem.W.findIn K (.ref (He.ga K "Wrong")) "__init__") (some (some (.ref (He.ma K (He.ga K "Wrong") "__init__")))),
  fun K => decide (PySem.W.typeIn K (.ref (He.ma K (He.ga K "Wrong") "__init__")) = some (.type "function"))]
def ex (K : PySem.W.Frag) : Bool := exs.all fun b => b K
abbrev hk : PySem.W.Hook := Dl.hookY 6 fa fn tb tf ex
section
open PySem PySem.W PyProof.Rows
local macro_rules | `(tactic| k_head) => `(tactic| o_head Lk.hk)
set_option maxHeartbeats 0
open_top hd for PySem.Challenge.rw_truechain_k38_fractions_written
end
end Lk
/-! the data layer: values as trees, heaps out of sight -/
namespace Dl
open PySem PySem.Spec PyProof.Rows L2 GxR
/-- what is asked of a class whose objects are held as data -/
structure ObC (K : PySem.W.Frag) (c : Str) (C : Addr) : Prop where
  name : PySem.W.nsIn K mainGlobals c = some (some (.ref C))
  cls : Cls K C
  ha : PySem.W.findIn K (.ref C) "__class__" = some (some (.builtin "object.__class__"))
  hn : PySem.W.specialIn K (.builtin "object.__class__") "__get__" = some (some (.builtin "getset_descriptor.__get__"))
  ht : PySem.W.takesIn K (.builtin "object.__class__") = some true
  hm : PySem.W.mroIn K C (.type "object") = some true
  kit : ∀ n, (n = "int" ∨ n = "bool" ∨ n = "str" ∨ n = "list" ∨ n = "tuple" ∨ n = "dict") → PySem.W.kitOne K (.ref C) (.type n) = some false
/-- an object of a class of the module as data: its class by its name, its fields -/
def obD (c : Str) (ds : List (Str × PyData)) : PyData := .dict ((.none, .str c) :: ds.map fun p => (.str p.1, p.2))
/-- an exception as data: its class by its name, its fields -/
def exD (c : Str) (ds : List (Str × PyData)) : PyData := .dict ((.bool true, .str c) :: ds.map fun p => (.str p.1, p.2))
/-- an exception that is kept, of the class at C, its dict d, at a -/
def ExK (C : Addr) (d : Option Addr) (a : Addr) : HO := .ext fun h => ∃ (oe : Obj) (vs : Array Value), h.get? a = some oe ∧ Zc (.ref C) d oe ∧ oe.data = .fields vs
/-- what is asked of a class whose exceptions are held as data -/
structure ExB (K : PySem.W.Frag) (c : Str) (C : Addr) : Prop where
  name : PySem.W.nsIn K mainGlobals c = some (some (.ref C))
  T : ExcC K C
  F : XfC K C
  kit : ∀ n, (n = "int" ∨ n = "bool" ∨ n = "str" ∨ n = "list" ∨ n = "tuple" ∨ n = "dict") → PySem.W.kitOne K (.ref C) (.type n) = some false
/-- an exception's dict -/
def XFd (F : Hp) (d : Option Addr) (fs : List (Str × V)) : Prop := (d = none ∧ fs = []) ∨ ∃ dd, d = some dd ∧ F dd = some (.xd fs)
mutual
inductive Rp (K : PySem.W.Frag) (F : Hp) : V → PyData → Prop
  | non : Rp K F .non .none
  | bl (b : Bool) : Rp K F (.bl b) (.bool b)
  | int (i : Int) : Rp K F (.int i) (.int i)
  | str (x : Str) : Rp K F (.str x) (.str x)
  | lst {a : Addr} {vs : List V} {xs : List PyData} (h : F a = some (.lst vs)) (r : RpA K F vs xs) : Rp K F (.ref a) (.list xs)
  | tup {a : Addr} {vs : List V} {xs : List PyData} (h : SqT K F a vs) (r : RpA K F vs xs) : Rp K F (.ref a) (.tuple xs)
  | dct {a : Addr} {kvs : List (Key × V)} {ks xs : List PyData} (h : F a = some (.dK kvs)) (r : RpA K F (kvs.map fun p => kV p.1) ks) (q : RpA K F (kvs.map Prod.snd) xs) : Rp K F (.ref a) (.dict (ks.zip xs))
  | obj {a C dx : Addr} {fs : List (Str × V)} {c : Str} {vs : List V} {ds : List (Str × PyData)} (h : F a = some (.ins C dx fs)) (hc : ObC K c C) (hn : ds.map (fun p => fs.lookup p.1) = vs.map some) (ho : ∀ n, n ∉ ds.map Prod.fst → fs.lookup n = none) (r : RpA K F vs (ds.map Prod.snd)) : Rp K F (.ref a) (obD c ds)
  | exc {a C : Addr} {d : Option Addr} {fs : List (Str × V)} {c : Str} {vs : List V} {ds : List (Str × PyData)} (h : F a = some (ExK C d a)) (hd : XFd F d fs) (hc : ExB K c C) (hn : ds.map (fun p => fs.lookup p.1) = vs.map some) (r : RpA K F vs (ds.map Prod.snd)) : Rp K F (.ref a) (exD c ds)
inductive RpA (K : PySem.W.Frag) (F : Hp) : List V → List PyData → Prop
  | nil : RpA K F [] []
  | cons {v : V} {vs : List V} {x : PyData} {xs : List PyData} (h : Rp K F v x) (t : RpA K F vs xs) : RpA K F (v :: vs) (x :: xs)
end
section
variable {K : PySem.W.Frag} {F F' : Hp}
theorem sqt_up {a : Addr} {vs : List V} (e : Same F F') (h : SqT K F a vs) : SqT K F' a vs := by
  rcases h with (h | ⟨o, h⟩) | h
  · exact .inl (.inl (e _ _ h))
  · exact .inl (.inr ⟨o, e _ _ h⟩)
  · exact .inr h
mutual
theorem Rp.up (e : Same F F') : ∀ {v : V} {x : PyData}, Rp K F v x → Rp K F' v x
  | _, _, .non => .non
  | _, _, .bl b => .bl b
  | _, _, .int b => .int b
  | _, _, .str b => .str b
  | _, _, .lst h r => .lst (e _ _ h) (RpA.up e r)
  | _, _, .tup h r => .tup (sqt_up e h) (RpA.up e r)
  | _, _, .dct h r q => .dct (e _ _ h) (RpA.up e r) (RpA.up e q)
  | _, _, .obj h hc hn ho r => .obj (e _ _ h) hc hn ho (RpA.up e r)
  | _, _, .exc h hd hc hn r => .exc (e _ _ h) (hd.imp id fun ⟨dd, e1, e2⟩ => ⟨dd, e1, e _ _ e2⟩) hc hn (RpA.up e r)
theorem RpA.up (e : Same F F') : ∀ {v : List V} {x : List PyData}, RpA K F v x → RpA K F' v x
  | _, _, .nil => .nil
  | _, _, .cons h t => .cons (Rp.up e h) (RpA.up e t)
end
theorem RpA.len : ∀ {vs : List V} {xs : List PyData}, RpA K F vs xs → vs.length = xs.length
  | _, _, .nil => rfl
  | _, _, .cons _ t => congrArg (· + 1) (RpA.len t)
theorem RpA.app : ∀ {vs ws : List V} {xs ys : List PyData}, RpA K F vs xs → RpA K F ws ys → RpA K F (vs ++ ws) (xs ++ ys)
  | _, _, _, _, .nil, q => q
  | _, _, _, _, .cons h t, q => .cons h (RpA.app t q)
theorem RpA.get : ∀ {vs : List V} {xs : List PyData} {i : Nat} {x : PyData}, RpA K F vs xs → xs[i]? = some x → ∃ v, vs[i]? = some v ∧ Rp K F v x
  | _, _, _, _, .nil, e => by simp at e
  | _, _, 0, _, .cons h _, e => by simp at e; subst e; exact ⟨_, rfl, h⟩
  | _, _, i + 1, x, .cons _ t, e => by
    obtain ⟨v, h1, h2⟩ := RpA.get (i := i) (x := x) t (by simpa using e)
    exact ⟨v, by simpa using h1, h2⟩
theorem RpA.getV : ∀ {vs : List V} {xs : List PyData} {i : Nat} {v : V}, RpA K F vs xs → vs[i]? = some v → ∃ x, xs[i]? = some x ∧ Rp K F v x
  | _, _, _, _, .nil, e => by simp at e
  | _, _, 0, _, .cons h _, e => by simp at e; subst e; exact ⟨_, rfl, h⟩
  | _, _, i + 1, x, .cons _ t, e => by
    obtain ⟨v, h1, h2⟩ := RpA.getV (i := i) (v := x) t (by simpa using e)
    exact ⟨v, by simpa using h1, h2⟩
theorem RpA.set {v : V} {x : PyData} (h : Rp K F v x) : ∀ {vs : List V} {xs : List PyData} (i : Nat), RpA K F vs xs → RpA K F (vs.set i v) (xs.set i x)
  | _, _, _, .nil => .nil
  | _, _, 0, .cons _ t => .cons h t
  | _, _, i + 1, .cons q t => .cons q (RpA.set h i t)
theorem RpA.take : ∀ {vs : List V} {xs : List PyData} (n : Nat), RpA K F vs xs → RpA K F (vs.take n) (xs.take n)
  | _, _, 0, _ => .nil
  | _, _, _ + 1, .nil => .nil
  | _, _, n + 1, .cons h t => .cons h (RpA.take n t)
theorem RpA.drop : ∀ {vs : List V} {xs : List PyData} (n : Nat), RpA K F vs xs → RpA K F (vs.drop n) (xs.drop n)
  | _, _, 0, h => h
  | _, _, _ + 1, .nil => .nil
  | _, _, n + 1, .cons _ t => RpA.drop n t
end
mutual
def noL : PyData → Bool
  | .none => true
  | .bool _ => true
  | .int _ => true
  | .str _ => true
  | .list _ => false
  | .tuple xs => noLs xs
  | .dict _ => false
def noLs : List PyData → Bool
  | [] => true
  | x :: xs => noL x && noLs xs
end
section
variable {K : PySem.W.Frag} {b : Bg} {F H F' H' : Hp}
/-- what may change -/
def isM : HO → Bool
  | .lst _ => true
  | .dK _ => true
  | .ins _ _ _ => true
  | .own _ => true
  | _ => false
mutual
theorem noL_up {F2 : Hp} (h : ∀ a o, isM o = false → F a = some o → F2 a = some o) : ∀ {v : V} {x : PyData}, noL x = true → Rp K F v x → Rp K F2 v x
  | _, _, _, .non => .non
  | _, _, _, .bl b => .bl b
  | _, _, _, .int b => .int b
  | _, _, _, .str b => .str b
  | _, _, n, .lst _ _ => by simp only [noL] at n; cases n
  | _, _, n, .tup e r => by
    refine .tup ?_ (noLs_up h (by simpa only [noL] using n) r)
    rcases e with (e | ⟨o, e⟩) | e
    · exact .inl (.inl (h _ _ rfl e))
    · exact .inl (.inr ⟨o, h _ _ rfl e⟩)
    · exact .inr e
  | _, _, n, .dct _ _ _ => by simp only [noL] at n; cases n
  | _, _, n, .obj _ _ _ _ _ => by simp only [obD, noL] at n; cases n
  | _, _, n, .exc _ _ _ _ _ => by simp only [exD, noL] at n; cases n
theorem noLs_up {F2 : Hp} (h : ∀ a o, isM o = false → F a = some o → F2 a = some o) : ∀ {v : List V} {x : List PyData}, noLs x = true → RpA K F v x → RpA K F2 v x
  | _, _, _, .nil => .nil
  | _, _, n, .cons a t => by
    rw [noLs, Bool.and_eq_true] at n
    exact .cons (noL_up h n.1 a) (noLs_up h n.2 t)
end
end
theorem key_up {K : PySem.W.Frag} {F F2 : Hp} {k : Key} {x : PyData} (h : Rp K F (kV k) x) : Rp K F2 (kV k) x := by
  cases k with
  | inl i => cases h; exact .int i
  | inr z => cases h; exact .str z
theorem noKs_up {K : PySem.W.Frag} {F F2 : Hp} : ∀ {kvs : List (Key × V)} {ks : List PyData}, RpA K F (kvs.map fun p => kV p.1) ks → RpA K F2 (kvs.map fun p => kV p.1) ks
  | [], _, .nil => .nil
  | (_, _) :: _, _, .cons h t => .cons (key_up h) (noKs_up t)
/-! ### trees of objects that are owned: S, the addresses of what may change -/
mutual
inductive Ot (K : PySem.W.Frag) (F H : Hp) (dp : Bool) : List Addr → V → PyData → Prop
  | leaf {v : V} {x : PyData} (r : Rp K F v x) (n : dp = true → noL x = true) : Ot K F H dp [] v x
  | lst {a : Addr} {S : List Addr} {vs : List V} {xs : List PyData} (h : H a = some (.lst vs)) (r : OtA K F H dp S vs xs) : Ot K F H dp (a :: S) (.ref a) (.list xs)
  | tup {a : Addr} {S : List Addr} {vs : List V} {xs : List PyData} (h : SqT K F a vs) (r : OtA K F H dp S vs xs) : Ot K F H dp S (.ref a) (.tuple xs)
  | dct {a : Addr} {S : List Addr} {kvs : List (Key × V)} {ks xs : List PyData} (h : H a = some (.dK kvs)) (r : RpA K F (kvs.map fun p => kV p.1) ks) (q : OtA K F H dp S (kvs.map Prod.snd) xs) : Ot K F H dp (a :: S) (.ref a) (.dict (ks.zip xs))
  | obj {a C dx : Addr} {S : List Addr} {fs : List (Str × V)} {c : Str} {vs : List V} {ds : List (Str × PyData)} (h : H a = some (.ins C dx fs)) (hd : H dx = some (.own a)) (hc : ObC K c C) (hn : ds.map (fun p => fs.lookup p.1) = vs.map some) (ho : ∀ n, n ∉ ds.map Prod.fst → fs.lookup n = none) (hl : fs.length = ds.length) (r : OtA K F H dp S vs (ds.map Prod.snd)) : Ot K F H dp (a :: dx :: S) (.ref a) (obD c ds)
inductive OtA (K : PySem.W.Frag) (F H : Hp) (dp : Bool) : List Addr → List V → List PyData → Prop
  | nil : OtA K F H dp [] [] []
  | cons {S T : List Addr} {v : V} {vs : List V} {x : PyData} {xs : List PyData} (h : Ot K F H dp S v x) (t : OtA K F H dp T vs xs) : OtA K F H dp (S ++ T) (v :: vs) (x :: xs)
end
section
variable {K : PySem.W.Frag} {F F' H H' : Hp} {dp : Bool}
mutual
theorem Ot.up (e : Same F F') : ∀ {S : List Addr} {v : V} {x : PyData}, (∀ a ∈ S, ∀ o, H a = some o → H' a = some o) → Ot K F H dp S v x → Ot K F' H' dp S v x
  | _, _, _, _, .leaf r n => .leaf (r.up e) n
  | _, _, _, k, .lst h r => .lst (k _ (List.mem_cons_self ..) _ h) (OtA.up e (fun a m => k a (List.mem_cons_of_mem _ m)) r)
  | _, _, _, k, .tup h r => .tup (sqt_up e h) (OtA.up e k r)
  | _, _, _, k, .dct h r q => .dct (k _ (List.mem_cons_self ..) _ h) (r.up e) (OtA.up e (fun a m => k a (List.mem_cons_of_mem _ m)) q)
  | _, _, _, k, .obj h hd hc hn ho hl r => .obj (k _ (List.mem_cons_self ..) _ h) (k _ (List.mem_cons_of_mem _ (List.mem_cons_self ..)) _ hd) hc hn ho hl (OtA.up e (fun a m => k a (List.mem_cons_of_mem _ (List.mem_cons_of_mem _ m))) r)
theorem OtA.up (e : Same F F') : ∀ {S : List Addr} {v : List V} {x : List PyData}, (∀ a ∈ S, ∀ o, H a = some o → H' a = some o) → OtA K F H dp S v x → OtA K F' H' dp S v x
  | _, _, _, _, .nil => .nil
  | _, _, _, k, .cons h t => .cons (Ot.up e (fun a m => k a (List.mem_append.mpr (.inl m))) h) (OtA.up e (fun a m => k a (List.mem_append.mpr (.inr m))) t)
end
/-- known too: what S holds -/
def opn (ls : List Addr) (F H : Hp) : Hp := fun a => if a ∈ ls then H a else F a
theorem opn_same {ls : List Addr} (h : ∀ l ∈ ls, F l = none) : Same F (opn ls F H) := fun a o e => by
  unfold opn
  rw [if_neg (fun z => by rw [h a z] at e; cases e)]
  exact e
mutual
theorem Ot.open {Z : List Addr} (e : Same F (opn Z F H)) : ∀ {S : List Addr} {v : V} {x : PyData}, (∀ a ∈ S, a ∈ Z) → Ot K F H dp S v x → Rp K (opn Z F H) v x
  | _, _, _, _, .leaf r _ => r.up e
  | _, _, _, k, .lst h r => .lst (by unfold opn; rw [if_pos (k _ (List.mem_cons_self ..))]; exact h) (OtA.open e (fun a m => k a (List.mem_cons_of_mem _ m)) r)
  | _, _, _, k, .tup h r => .tup (sqt_up e h) (OtA.open e k r)
  | _, _, _, k, .dct h r q => .dct (by unfold opn; rw [if_pos (k _ (List.mem_cons_self ..))]; exact h) (r.up e) (OtA.open e (fun a m => k a (List.mem_cons_of_mem _ m)) q)
  | _, _, _, k, .obj h hd hc hn ho hl r => .obj (by unfold opn; rw [if_pos (k _ (List.mem_cons_self ..))]; exact h) hc hn ho (OtA.open e (fun a m => k a (List.mem_cons_of_mem _ (List.mem_cons_of_mem _ m))) r)
theorem OtA.open {Z : List Addr} (e : Same F (opn Z F H)) : ∀ {S : List Addr} {v : List V} {x : List PyData}, (∀ a ∈ S, a ∈ Z) → OtA K F H dp S v x → RpA K (opn Z F H) v x
  | _, _, _, _, .nil => .nil
  | _, _, _, k, .cons h t => .cons (Ot.open e (fun a m => k a (List.mem_append.mpr (.inl m))) h) (OtA.open e (fun a m => k a (List.mem_append.mpr (.inr m))) t)
end
mutual
/-- what is owned stands there, and may change -/
theorem Ot.there : ∀ {S : List Addr} {v : V} {x : PyData}, Ot K F H dp S v x → ∀ a ∈ S, ∃ o, H a = some o ∧ isM o = true
  | _, _, _, .leaf _ _, _, m => absurd m List.not_mem_nil
  | _, _, _, .lst h r, a, m => by
    rcases List.mem_cons.mp m with rfl | m
    · exact ⟨_, h, rfl⟩
    · exact OtA.there r a m
  | _, _, _, .tup _ r, a, m => OtA.there r a m
  | _, _, _, .dct h _ q, a, m => by
    rcases List.mem_cons.mp m with rfl | m
    · exact ⟨_, h, rfl⟩
    · exact OtA.there q a m
  | _, _, _, .obj h hd _ _ _ _ r, a, m => by
    rcases List.mem_cons.mp m with rfl | m
    · exact ⟨_, h, rfl⟩
    · rcases List.mem_cons.mp m with rfl | m
      · exact ⟨_, hd, rfl⟩
      · exact OtA.there r a m
theorem OtA.there : ∀ {S : List Addr} {v : List V} {x : List PyData}, OtA K F H dp S v x → ∀ a ∈ S, ∃ o, H a = some o ∧ isM o = true
  | _, _, _, .nil, _, m => absurd m List.not_mem_nil
  | _, _, _, .cons h t, a, m => by
    rcases List.mem_append.mp m with m | m
    · exact Ot.there h a m
    · exact OtA.there t a m
end
theorem isM_tbl {o : HO} (h : isM o = true) : ∀ ps, o ≠ .tbl ps := fun ps e => by subst e; cases h
mutual
theorem Ot.shut {F2 : Hp} (h : ∀ a o, isM o = false → F a = some o → F2 a = some o) : ∀ {S : List Addr} {v : V} {x : PyData}, Ot K F H true S v x → Ot K F2 H true S v x
  | _, _, _, .leaf r n => .leaf (noL_up h (n rfl) r) n
  | _, _, _, .lst e r => .lst e (OtA.shut h r)
  | _, _, _, .tup e r => .tup (by
      rcases e with (e | ⟨o, e⟩) | e
      · exact .inl (.inl (h _ _ rfl e))
      · exact .inl (.inr ⟨o, h _ _ rfl e⟩)
      · exact .inr e) (OtA.shut h r)
  | _, _, _, .dct e r q => .dct e (noKs_up r) (OtA.shut h q)
  | _, _, _, .obj e hd hc hn ho hl r => .obj e hd hc hn ho hl (OtA.shut h r)
theorem OtA.shut {F2 : Hp} (h : ∀ a o, isM o = false → F a = some o → F2 a = some o) : ∀ {S : List Addr} {v : List V} {x : List PyData}, OtA K F H true S v x → OtA K F2 H true S v x
  | _, _, _, .nil => .nil
  | _, _, _, .cons q t => .cons (Ot.shut h q) (OtA.shut h t)
end
theorem OtA.len : ∀ {S : List Addr} {vs : List V} {xs : List PyData}, OtA K F H dp S vs xs → vs.length = xs.length
  | _, _, _, .nil => rfl
  | _, _, _, .cons _ t => congrArg (· + 1) (OtA.len t)
theorem OtA.of : ∀ {vs : List V} {xs : List PyData}, RpA K F vs xs → OtA K F H false [] vs xs
  | _, _, .nil => .nil
  | _, _, .cons h t => OtA.cons (S := []) (T := []) (.leaf h fun z => nomatch z) (OtA.of t)
mutual
theorem Ot.any : ∀ {S : List Addr} {v : V} {x : PyData}, Ot K F H dp S v x → Ot K F H false S v x
  | _, _, _, .leaf r _ => .leaf r fun z => nomatch z
  | _, _, _, .lst h r => .lst h (OtA.any r)
  | _, _, _, .tup h r => .tup h (OtA.any r)
  | _, _, _, .dct h r q => .dct h r (OtA.any q)
  | _, _, _, .obj h hd hc hn ho hl r => .obj h hd hc hn ho hl (OtA.any r)
theorem OtA.any : ∀ {S : List Addr} {v : List V} {x : List PyData}, OtA K F H dp S v x → OtA K F H false S v x
  | _, _, _, .nil => .nil
  | _, _, _, .cons h t => .cons (Ot.any h) (OtA.any t)
end
end
/-- what is a list or a dict at its root -/
def mutR : PyData → Bool
  | .list _ => true
  | .dict _ => true
  | _ => false
theorem Ot.root {K : PySem.W.Frag} {F H : Hp} {S : List Addr} {v : V} {x : PyData} (h : Ot K F H true S v x) : mutR x = true → S ≠ [] := by
  cases h with
  | leaf r n =>
    have n := n rfl
    cases x with
    | list xs => simp [noL] at n
    | dict xs => simp [noL] at n
    | _ => exact fun z => nomatch z
  | tup => exact fun z => nomatch z
  | lst => exact fun _ z => nomatch z
  | dct => exact fun _ z => nomatch z
  | obj => exact fun _ z => nomatch z
/-! ### the world of a running def: the bag, what is known F, the heap H -/
/-- where the bag stands, and the cells that it was made of; where the tables of codes stand -/
structure Bg where
  b : Addr
  c : Addr
  ns : List Int
  ts : List Addr
/-- the draws' list: three numbers and the cells -/
def Bag (b : Bg) (F H : Hp) : Prop := (∃ x y z : Int, H b.b = some (.lst [.int x, .int y, .int z, .ref b.c]) ∧ 0 ≤ x ∧ 0 ≤ y ∧ 0 ≤ z) ∧ F b.c = some (.lst (b.ns.map V.int)) ∧ (∀ n ∈ b.ns, 0 ≤ n) ∧ ∀ t ∈ b.ts, F t = none ∧ TabG H t
/-- a step of the world -/
structure Stp (K : PySem.W.Frag) (b : Bg) (F H F' H' : Hp) : Prop where
  keep : ∀ a o, a ≠ b.b → (∀ ps, o ≠ .tbl ps) → H a = some o → H' a = some o
  bag : Bag b F' H'
  ex : Same F F'
  sub : Same F' H'
  fb : F' b.b = none
  new : ∀ a, F a = none → H a ≠ none → F' a = none
  tab : ∀ a ps, a ≠ b.b → H a = some (.tbl ps) → ∃ qs, H' a = some (.tbl qs) ∧ (TriplesOk ps.toList → TriplesOk qs.toList)
/-- a step may begin here -/
structure Wd (K : PySem.W.Frag) (b : Bg) (F H : Hp) : Prop where
  bag : Bag b F H
  sub : Same F H
  fb : F b.b = none
section
variable {K : PySem.W.Frag} {b : Bg} {F H F' H' F2 H2 : Hp}
theorem Wd.refl (w : Wd K b F H) : Stp K b F H F H := ⟨fun _ _ _ _ h => h, w.bag, fun _ _ h => h, w.sub, w.fb, fun _ h _ => h, fun _ ps _ h => ⟨ps, h, fun q => q⟩⟩
theorem Stp.wd (s : Stp K b F H F' H') : Wd K b F' H' := ⟨s.bag, s.sub, s.fb⟩
theorem Stp.there (s : Stp K b F H F' H') {a : Addr} (ne : a ≠ b.b) (h : H a ≠ none) : H' a ≠ none := by
  cases e : H a with
  | none => exact absurd e h
  | some o =>
    by_cases t : ∃ ps, o = .tbl ps
    · obtain ⟨ps, rfl⟩ := t
      obtain ⟨qs, q, _⟩ := s.tab a ps ne e
      rw [q]; exact fun z => nomatch z
    · rw [s.keep a o ne (fun ps z => t ⟨ps, z⟩) e]; exact fun z => nomatch z
theorem Stp.trans (s : Stp K b F H F' H') (t : Stp K b F' H' F2 H2) : Stp K b F H F2 H2 :=
  ⟨fun a o ne nt h => t.keep a o ne nt (s.keep a o ne nt h), t.bag, s.ex.trans t.ex, t.sub, t.fb, fun a hf hh => by
    by_cases e : a = b.b
    · rw [e]; exact t.fb
    · exact t.new a (s.new a hf hh) (s.there e hh), fun a ps ne h => by
    obtain ⟨qs, h1, k1⟩ := s.tab a ps ne h
    obtain ⟨rs, h2, k2⟩ := t.tab a qs ne h1
    exact ⟨rs, h2, fun z => k2 (k1 z)⟩⟩
theorem Bag.up (h : Bag b F H) (e : Same F F') (hb : H' b.b = H b.b) (ht : ∀ t ∈ b.ts, F t = none → TabG H t → F' t = none ∧ TabG H' t) : Bag b F' H' := by
  obtain ⟨⟨x, y, z, eb, r⟩, ec, q, k⟩ := h
  exact ⟨⟨x, y, z, hb.trans eb, r⟩, e _ _ ec, q, fun t m => ht t m (k t m).1 (k t m).2⟩
theorem TabG.ne {t p : Addr} (h : TabG H t) (hp : H p = none) : t ≠ p := fun e => by
  obtain ⟨ps, z, _⟩ := h
  rw [e, hp] at z
  cases z
theorem TabG.up {t p : Addr} {o : HO} (h : TabG H t) (hp : H p = none) : TabG (upd H p o) t := by
  obtain ⟨ps, z, k⟩ := id h
  exact ⟨ps, by rw [upd_ne (TabG.ne h hp)]; exact z, k⟩
theorem Bag.lst (h : Bag b F H) : ∃ vs, H b.b = some (.lst vs) := let ⟨⟨_, _, _, e, _⟩, _⟩ := h; ⟨_, e⟩
theorem same_laid {p : Addr} {o : HO} (hf : F p = none) : Same F (upd F p o) := fun a u h => by
  rw [upd_ne (ne_of_none h hf)]; exact h
/-- a new object is laid, known from now on -/
theorem Wd.laid (w : Wd K b F H) {p : Addr} {o : HO} (hp : H p = none) : Stp K b F H (upd F p o) (upd H p o) := by
  obtain ⟨vs, eb⟩ := w.bag.lst
  have pb : p ≠ b.b := fun e => by rw [e, eb] at hp; cases hp
  have fp : F p = none := by
    cases e : F p with
    | none => rfl
    | some o => rw [w.sub _ _ e] at hp; cases hp
  refine ⟨fun a u ne _ h => ?_, w.bag.up (same_laid fp) (upd_ne (Ne.symm pb)) (fun t _ h1 h2 => ⟨by rw [upd_ne (TabG.ne h2 hp)]; exact h1, TabG.up h2 hp⟩), same_laid fp, fun a u h => ?_, ?_, fun a hf hh => ?_, fun a ps ne h => ⟨ps, by rw [upd_ne (ne_of_none h hp)]; exact h, fun q => q⟩⟩
  · rw [upd_ne (ne_of_none h hp)]; exact h
  · by_cases e : a = p
    · rw [e, upd_same] at h ⊢; exact h
    · rw [upd_ne e] at h ⊢; exact w.sub _ _ h
  · rw [upd_ne (Ne.symm pb)]; exact w.fb
  · by_cases e : a = p
    · rw [e] at hh; exact absurd hp hh
    · rw [upd_ne e]; exact hf
/-- .. not known yet -/
theorem Wd.laidM (w : Wd K b F H) {p : Addr} {o : HO} (hp : H p = none) : Stp K b F H F (upd H p o) := by
  obtain ⟨vs, eb⟩ := w.bag.lst
  have pb : p ≠ b.b := fun e => by rw [e, eb] at hp; cases hp
  refine ⟨fun a u ne _ h => ?_, w.bag.up (fun _ _ h => h) (upd_ne (Ne.symm pb)) (fun t _ h1 h2 => ⟨h1, TabG.up h2 hp⟩), fun a u h => h, fun a u h => ?_, w.fb, fun a hf hh => hf, fun a ps ne h => ⟨ps, by rw [upd_ne (ne_of_none h hp)]; exact h, fun q => q⟩⟩
  · rw [upd_ne (ne_of_none h hp)]; exact h
  · have := w.sub _ _ h
    rw [upd_ne (ne_of_none this hp)]; exact this
end
/-! ### values and slots -/
inductive DV where
  | d (x : PyData)
  | fr (xs : List PyData)
  /-- a new tree -/
  | ft (x : PyData)
  | ow (l : Addr) (xs : List PyData)
  /-- a tree that stands in a slot -/
  | tr (p : Bool) (S : List Addr) (x : PyData)
  | raw (v : V)
  | bag
inductive Sl where
  | un
  | d (x : PyData)
  | ow (l : Addr) (xs : List PyData)
  | tr (p : Bool) (S : List Addr) (x : PyData)
  /-- a tree whose root is known: what a def may change within its argument -/
  | tv (v : V) (S : List Addr) (x : PyData)
  | raw (v : V)
  | bag
/-- a value v stands for dv: H₀ ahead of the evaluation, F H behind it -/
def Res (K : PySem.W.Frag) (b : Bg) (H₀ F H : Hp) : DV → V → Prop
  | .d x, v => Rp K F v x
  | .fr xs, v => ∃ p vs, v = .ref p ∧ H₀ p = none ∧ F p = none ∧ p ≠ b.b ∧ H p = some (.lst vs) ∧ RpA K F vs xs
  | .ow l xs, v => v = .ref l ∧ F l = none ∧ l ≠ b.b ∧ ∃ vs, H l = some (.lst vs) ∧ RpA K F vs xs
  | .ft x, v => ∃ S, S.Nodup ∧ (∀ a ∈ S, H₀ a = none ∧ F a = none ∧ a ≠ b.b) ∧ Ot K F H true S v x
  | .tr p S x, v => (∀ a ∈ S, F a = none ∧ a ≠ b.b) ∧ Ot K F H p S v x
  | .raw u, v => v = u
  | .bag, v => v = .ref b.b
/-- what a slot owns -/
def slA : Sl → List Addr
  | .ow l _ => [l]
  | .tr _ S _ => S
  | .tv _ S _ => S
  | _ => []
def SlOk (K : PySem.W.Frag) (b : Bg) (H₀ F H : Hp) : Sl → Option (Option V) → Prop
  | .un, _ => True
  | .d x, o => ∃ v, o = some (some v) ∧ Rp K F v x
  | .ow l xs, o => o = some (some (.ref l)) ∧ H₀ l = none ∧ F l = none ∧ l ≠ b.b ∧ ∃ vs, H l = some (.lst vs) ∧ RpA K F vs xs
  | .tr p S x, o => ∃ v, o = some (some v) ∧ S.Nodup ∧ (∀ a ∈ S, H₀ a = none ∧ F a = none ∧ a ≠ b.b) ∧ (mutR x = true → S ≠ []) ∧ Ot K F H p S v x
  | .tv v S x, o => o = some (some v) ∧ S.Nodup ∧ (∀ a ∈ S, H₀ a = none ∧ F a = none ∧ a ≠ b.b) ∧ (mutR x = true → S ≠ []) ∧ Ot K F H true S v x
  | .raw v, o => o = some (some v)
  | .bag, o => o = some (some (.ref b.b))
/-- the slots stand for env; since the def's entry (F₀ H₀) -/
structure Rel (K : PySem.W.Frag) (b : Bg) (F₀ H₀ : Hp) (env : List Sl) (σ : L2.St) (F H : Hp) : Prop where
  len : σ.length = env.length
  st : Stp K b F₀ H₀ F H
  at' : ∀ (i : Nat) (s : Sl), env[i]? = some s → SlOk K b H₀ F H s σ[i]?
  own : ∀ (i j : Nat) (s t : Sl) (a : Addr), env[i]? = some s → env[j]? = some t → a ∈ slA s → a ∈ slA t → i = j
section
variable {K : PySem.W.Frag} {b : Bg} {F₀ H₀ F H F' H' : Hp} {env : List Sl} {σ : L2.St}
theorem Rel.wd (r : Rel K b F₀ H₀ env σ F H) : Wd K b F H := r.st.wd
theorem SlOk.step (w : Wd K b F H) (s : Stp K b F H F' H') : ∀ {z : Sl} {o : Option (Option V)}, SlOk K b H₀ F H z o → SlOk K b H₀ F' H' z o
  | .un, _, _ => True.intro
  | .d _, _, ⟨v, e, r⟩ => ⟨v, e, r.up s.ex⟩
  | .ow l xs, _, ⟨e, h0, hf, ne, vs, hl, r⟩ => ⟨e, h0, s.new l hf (by rw [hl]; exact fun z => nomatch z), ne, vs, s.keep _ _ ne (fun _ z => nomatch z) hl, r.up s.ex⟩
  | .tr p S x, _, ⟨v, e, nd, k, mr, q⟩ => ⟨v, e, nd, fun a m => by
      obtain ⟨o, ho, _⟩ := q.there a m
      exact ⟨(k a m).1, s.new a (k a m).2.1 (by rw [ho]; exact fun z => nomatch z), (k a m).2.2⟩, mr, q.up s.ex fun a m o ho => by
      obtain ⟨o', ho', nt⟩ := q.there a m
      rw [ho] at ho'
      cases ho'
      exact s.keep a o (k a m).2.2 (isM_tbl nt) ho⟩
  | .tv v S x, _, ⟨e, nd, k, mr, q⟩ => ⟨e, nd, fun a m => by
      obtain ⟨o, ho, _⟩ := q.there a m
      exact ⟨(k a m).1, s.new a (k a m).2.1 (by rw [ho]; exact fun z => nomatch z), (k a m).2.2⟩, mr, q.up s.ex fun a m o ho => by
      obtain ⟨o', ho', nt⟩ := q.there a m
      rw [ho] at ho'
      cases ho'
      exact s.keep a o (k a m).2.2 (isM_tbl nt) ho⟩
  | .raw _, _, e => e
  | .bag, _, e => e
theorem Rel.step (r : Rel K b F₀ H₀ env σ F H) (s : Stp K b F H F' H') : Rel K b F₀ H₀ env σ F' H' :=
  ⟨r.len, r.st.trans s, fun i z h => (r.at' i z h).step r.wd s, r.own⟩
theorem Res.step (s : Stp K b F H F' H') {Hz : Hp} : ∀ {dv : DV} {v : V}, Res K b Hz F H dv v → Res K b Hz F' H' dv v
  | .d _, _, r => Rp.up s.ex r
  | .fr xs, _, ⟨p, vs, e, h0, hf, ne, hp, r⟩ => ⟨p, vs, e, h0, s.new p hf (by rw [hp]; exact fun z => nomatch z), ne, s.keep _ _ ne (fun _ z => nomatch z) hp, r.up s.ex⟩
  | .ow l xs, _, ⟨e, hf, ne, vs, hp, r⟩ => ⟨e, s.new l hf (by rw [hp]; exact fun z => nomatch z), ne, vs, s.keep _ _ ne (fun _ z => nomatch z) hp, r.up s.ex⟩
  | .ft x, _, ⟨S, nd, k, q⟩ => ⟨S, nd, fun a m => by
      obtain ⟨o, ho, _⟩ := q.there a m
      exact ⟨(k a m).1, s.new a (k a m).2.1 (by rw [ho]; exact fun z => nomatch z), (k a m).2.2⟩, q.up s.ex fun a m o ho => by
      obtain ⟨o', ho', nt⟩ := q.there a m
      rw [ho] at ho'
      cases ho'
      exact s.keep a o (k a m).2.2 (isM_tbl nt) ho⟩
  | .tr p S x, _, ⟨k, q⟩ => ⟨fun a m => by
      obtain ⟨o, ho, _⟩ := q.there a m
      exact ⟨s.new a (k a m).1 (by rw [ho]; exact fun z => nomatch z), (k a m).2⟩, q.up s.ex fun a m o ho => by
      obtain ⟨o', ho', nt⟩ := q.there a m
      rw [ho] at ho'
      cases ho'
      exact s.keep a o (k a m).2 (isM_tbl nt) ho⟩
  | .raw _, _, e => e
  | .bag, _, e => e
theorem Stp.back (s : Stp K b F H F' H') {p : Addr} (ne : p ≠ b.b) (h : H' p = none) : H p = none := by
  cases e : H p with
  | none => rfl
  | some o => exact absurd h (s.there ne (by rw [e]; exact fun z => nomatch z))
theorem Res.early (s : Stp K b F H F' H') {F2 H2 : Hp} : ∀ {dv : DV} {v : V}, Res K b H' F2 H2 dv v → Res K b H F2 H2 dv v
  | .d _, _, r => r
  | .fr xs, _, ⟨p, vs, e, h0, hf, ne, hp, r⟩ => ⟨p, vs, e, s.back ne h0, hf, ne, hp, r⟩
  | .ft x, _, ⟨S, nd, k, q⟩ => ⟨S, nd, fun a m => ⟨s.back (k a m).2.2 (k a m).1, (k a m).2⟩, q⟩
  | .tr p S x, _, r => r
  | .ow l xs, _, r => r
  | .raw _, _, e => e
  | .bag, _, e => e
/-- a fresh list becomes known: seen from Fz Hz, ahead of its making -/
theorem Stp.freeze {Fz Hz : Hp} (s : Stp K b Fz Hz F H) {p : Addr} {vs : List V} (h0 : Hz p = none) (hf : F p = none) (ne : p ≠ b.b) (hp : H p = some (.lst vs)) : Stp K b Fz Hz (upd F p (.lst vs)) H := by
  refine ⟨s.keep, s.bag.up (same_laid hf) rfl (fun t _ h1 h2 => ⟨by rw [upd_ne (fun e => by obtain ⟨ps, z, _⟩ := h2; rw [e, hp] at z; cases z)]; exact h1, h2⟩), fun a o h => ?_, fun a o h => ?_, ?_, fun a h1 h2 => ?_, s.tab⟩
  · have := s.ex a o h
    rw [upd_ne (ne_of_none this hf)]; exact this
  · by_cases e : a = p
    · rw [e, upd_same] at h; rw [e, hp]; exact h
    · rw [upd_ne e] at h; exact s.sub _ _ h
  · rw [upd_ne (Ne.symm ne)]; exact s.fb
  · by_cases e : a = p
    · rw [e] at h2; exact absurd h0 h2
    · rw [upd_ne e]; exact s.new a h1 h2
/-- a tree becomes known: seen from Fz Hz, ahead of its making -/
theorem Stp.freezeT {Fz Hz : Hp} (s : Stp K b Fz Hz F H) {S : List Addr} (k : ∀ a ∈ S, Hz a = none ∧ F a = none ∧ a ≠ b.b) (th : ∀ a ∈ S, ∃ o, H a = some o ∧ isM o = true) : Stp K b Fz Hz (opn S F H) H := by
  have e : Same F (opn S F H) := opn_same fun l m => (k l m).2.1
  refine ⟨s.keep, s.bag.up e rfl (fun t _ h1 h2 => ⟨by
    unfold opn
    rw [if_neg fun m => by
      obtain ⟨ps, z, _⟩ := h2
      obtain ⟨o, ho, nt⟩ := th t m
      rw [ho] at z
      cases z
      cases nt]
    exact h1, h2⟩), s.ex.trans e, fun a o h => ?_, ?_, fun a h1 h2 => ?_, s.tab⟩
  · unfold opn at h
    split at h
    · exact h
    · exact s.sub _ _ h
  · unfold opn
    rw [if_neg fun m => (k _ m).2.2 rfl]
    exact s.fb
  · unfold opn
    rw [if_neg fun m => h2 (k _ m).1]
    exact s.new a h1 h2
end
end Dl
namespace Dl
open PySem PySem.Spec PyProof.Rows L2
theorem pe_weak {X : Cx} {e : Expr} {t u : TE} (h : PE X e t) (i : ∀ σ H Q, u σ H Q → t σ H Q) : PE X e u := ⟨fun p s σ H Q I q => h.run p s σ H Q I (i σ H Q q)⟩
theorem pt_weak {X : Cx} {e : Expr} {t u : TT} (h : PT X e t) (i : ∀ σ H Q, u σ H Q → t σ H Q) : PT X e u := ⟨fun p s σ H Q I q => h.run p s σ H Q I (i σ H Q q)⟩
theorem pw_weak {X : Cx} {e : Expr} {t u : TT} (h : PW X e t) (i : ∀ σ H Q, u σ H Q → t σ H Q) : PW X e u := ⟨fun wh p s σ H Q I q => h.run wh p s σ H Q I (i σ H Q q)⟩
theorem pa_weak {X : Cx} {e : List Expr} {t u : TA} (h : PA X e t) (i : ∀ σ H Q, u σ H Q → t σ H Q) : PA X e u := ⟨fun wh p s σ H Q I q => h.run wh p s σ H Q I (i σ H Q q)⟩
theorem ps_weak {X : Cx} {e : Stmt} {t u : TS} (h : PS X e t) (i : ∀ D σ H, u D σ H → t D σ H) : PS X e u := ⟨fun p s σ H D I q => h.run p s σ H D I (i D σ H q)⟩
theorem pss_weak {X : Cx} {e : List Stmt} {t u : TS} (h : PSs X e t) (i : ∀ D σ H, u D σ H → t D σ H) : PSs X e u := ⟨fun p s σ H D I q => h.run p s σ H D I (i D σ H q)⟩
/-- what stays through a def's run: the bag's place, what was known and what stood at the entry -/
structure Wn where
  b : Bg
  F : Hp
  H : Hp
abbrev RelW (K : PySem.W.Frag) (w : Wn) (env : List Sl) (σ : L2.St) (F H : Hp) : Prop := Rel K w.b w.F w.H env σ F H
abbrev DT := List Sl → (DV → Prop) → Prop
abbrev DTT := List Sl → (Bool → Prop) → Prop
abbrev DA := List Sl → (List DV → Prop) → Prop
structure DK where
  nx : List Sl → Prop
  rt : DV → Prop
  bk : List Sl → Prop := fun _ => False
  ct : List Sl → Prop := fun _ => False
abbrev DS := DK → List Sl → Prop
/-- an argument's value -/
def ArR (K : PySem.W.Frag) (b : Bg) (F H : Hp) : DV → V → Prop
  | .d x, v => Rp K F v x
  | .ow l xs, v => v = .ref l ∧ F l = none ∧ l ≠ b.b ∧ ∃ vs, H l = some (.lst vs) ∧ RpA K F vs xs
  | .raw u, v => v = u
  | .bag, v => v = .ref b.b
  | .tr p S x, v => (∀ a ∈ S, F a = none ∧ a ≠ b.b) ∧ Ot K F H p S v x
  | .fr _, _ => False
  | .ft _, _ => False
def lf (K : PySem.W.Frag) (w : Wn) (t : DT) : TE := fun σ H Q => ∃ env F P, RelW K w env σ F H ∧ t env P ∧ ∀ dv v F' H', Stp K w.b F H F' H' → Res K w.b H F' H' dv v → P dv → Q v H'
def lfT (K : PySem.W.Frag) (w : Wn) (t : DTT) : TT := fun σ H Q => ∃ env F P, RelW K w env σ F H ∧ t env P ∧ ∀ c F' H', Stp K w.b F H F' H' → P c → Q c H'
def lfA (K : PySem.W.Frag) (w : Wn) (t : DA) : TA := fun σ H Q => ∃ env F P, RelW K w env σ F H ∧ t env P ∧ ∀ dvs vs F' H', Stp K w.b F H F' H' → Paired (ArR K w.b F' H') dvs vs → P dvs → Q vs H'
structure Fit (K : PySem.W.Frag) (w : Wn) (F₁ : Hp) (d : DK) (D : Ends) : Prop where
  nx : ∀ env σ F H, RelW K w env σ F H → Same F₁ F → d.nx env → D.nx σ H
  bk : ∀ env σ F H, RelW K w env σ F H → Same F₁ F → d.bk env → D.bk σ H
  ct : ∀ env σ F H, RelW K w env σ F H → Same F₁ F → d.ct env → D.ct σ H
  rt : ∀ dv v F H, Stp K w.b w.F w.H F H → Res K w.b w.H F H dv v → d.rt dv → D.rt v H
theorem Fit.up {K : PySem.W.Frag} {w : Wn} {F₁ F₂ : Hp} {d : DK} {D : Ends} (f : Fit K w F₁ d D) (s : Same F₁ F₂) : Fit K w F₂ d D :=
  ⟨fun env σ F H r z => f.nx env σ F H r (s.trans z), fun env σ F H r z => f.bk env σ F H r (s.trans z), fun env σ F H r z => f.ct env σ F H r (s.trans z), f.rt⟩
theorem sm0 {F : Hp} : Same F F := fun _ _ z => z
def lfS (K : PySem.W.Frag) (w : Wn) (t : DS) : TS := fun D σ H => ∃ env F d, RelW K w env σ F H ∧ t d env ∧ Fit K w F d D
abbrev DPE (X : Cx) (w : Wn) (e : Expr) (t : DT) : Prop := PE X e (lf X.K w t)
abbrev DPT (X : Cx) (w : Wn) (e : Expr) (t : DTT) : Prop := PT X e (lfT X.K w t)
abbrev DPW (X : Cx) (w : Wn) (e : Expr) (t : DTT) : Prop := PW X e (lfT X.K w t)
abbrev DPA (X : Cx) (w : Wn) (e : List Expr) (t : DA) : Prop := PA X e (lfA X.K w t)
abbrev DPS (X : Cx) (w : Wn) (e : Stmt) (t : DS) : Prop := PS X e (lfS X.K w t)
abbrev DPSs (X : Cx) (w : Wn) (e : List Stmt) (t : DS) : Prop := PSs X e (lfS X.K w t)
/-! ### what a value is read as -/
def rd : DV → (PyData → Prop) → Prop
  | .d x, k => k x
  | .fr xs, k => k (.list xs)
  | .ow _ xs, k => k (.list xs)
  | .raw _, _ => False
  | .bag, _ => False
  | .ft _, _ => False
  | .tr _ _ _, _ => False
inductive Rr (K : PySem.W.Frag) (b : Bg) (F H : Hp) : V → PyData → Prop
  | d {v : V} {x : PyData} (h : Rp K F v x) : Rr K b F H v x
  | o {l : Addr} {vs : List V} {xs : List PyData} (hf : F l = none) (ne : l ≠ b.b) (h : H l = some (.lst vs)) (r : RpA K F vs xs) : Rr K b F H (.ref l) (.list xs)
section
variable {K : PySem.W.Frag} {b : Bg} {F H F' H' Hz : Hp} {v : V}
theorem Rr.step (s : Stp K b F H F' H') {x : PyData} : Rr K b F H v x → Rr K b F' H' v x
  | .d h => .d (h.up s.ex)
  | .o hf ne h r => .o (s.new _ hf (by rw [h]; exact fun z => nomatch z)) ne (s.keep _ _ ne (by intro _ z; cases z) h) (r.up s.ex)
theorem rd_ok {dv : DV} {k : PyData → Prop} (r : Res K b Hz F H dv v) (h : rd dv k) : ∃ x, Rr K b F H v x ∧ k x := by
  cases dv with
  | d x => exact ⟨x, .d r, h⟩
  | fr xs =>
    obtain ⟨p, vs, rfl, _, hf, ne, hp, q⟩ := r
    exact ⟨_, .o hf ne hp q, h⟩
  | ow l xs =>
    obtain ⟨rfl, hf, ne, vs, hp, q⟩ := r
    exact ⟨_, .o hf ne hp q, h⟩
  | raw u => exact False.elim h
  | bag => exact False.elim h
  | ft x => exact False.elim h
  | tr p S x => exact False.elim h
theorem Rr.int {i : Int} (h : Rr K b F H v (.int i)) : v = .int i := by cases h with | d h => cases h; rfl
theorem Rr.bl {i : Bool} (h : Rr K b F H v (.bool i)) : v = .bl i := by cases h with | d h => cases h; rfl
theorem Rr.str {i : Str} (h : Rr K b F H v (.str i)) : v = .str i := by cases h with | d h => cases h; rfl
theorem Rr.non (h : Rr K b F H v .none) : v = .non := by cases h with | d h => cases h; rfl
theorem Rr.lst {xs : List PyData} (w : Same F H) (h : Rr K b F H v (.list xs)) : ∃ l vs, v = .ref l ∧ H l = some (.lst vs) ∧ RpA K F vs xs := by
  cases h with
  | d h => cases h with | lst h r => exact ⟨_, _, rfl, w _ _ h, r⟩
  | o _ _ h r => exact ⟨_, _, rfl, h, r⟩
theorem Rr.tup {xs : List PyData} (w : Same F H) (h : Rr K b F H v (.tuple xs)) : ∃ l vs, v = .ref l ∧ SqT K H l vs ∧ RpA K F vs xs := by
  cases h with
  | d h => cases h with | tup h r => exact ⟨_, _, rfl, sqt_up w h, r⟩
theorem Rr.all {x : PyData} (w : Same F H) (h : Rr K b F H v x) : Rp K H v x := by
  cases h with
  | d h => exact h.up w
  | o hf ne h r => exact .lst h (r.up w)
theorem Res.blOf {i : Bool} (r : Res K b Hz F H (.d (.bool i)) v) : v = .bl i := by cases (show Rp K F v (.bool i) from r); rfl
end
/-! ### expressions -/
section
variable {X : Cx} {w : Wn} {a b e c : Expr} {ta tb tc te : DT} {pos : Pos}
def tVarD (i : Nat) : DT := fun env P => match env[i]? with
  | some (.d x) => P (.d x)
  | some (.ow l xs) => P (.ow l xs)
  | some (.tr p S x) => P (.tr p S x)
  | some (.tv _ S x) => P (.tr true S x)
  | some (.raw v) => P (.raw v)
  | some .bag => P .bag
  | _ => False
theorem d_var (i : Nat) {x : Str} (hN : X.N[i]? = some x := by rfl) (hv : Vis X.env.scope x := by first | exact Or.inl rfl | exact Or.inr (Or.inl rfl) | exact Or.inr (Or.inr rfl)) (hd : (x == ("__debug__" : Str)) = false := by decide) (hc : (x == ("__classdict__" : Str)) = false := by decide) :
    DPE X w (.Name x pos) (tVarD i) := pe_weak (pe_var hN hv hd hc) fun σ H Q ⟨env, F, P, r, h, q⟩ => by
  unfold tVarD at h
  split at h
  · next x e =>
    obtain ⟨v, e1, r1⟩ := r.at' i _ e
    exact ⟨v, e1, q (.d x) _ F H r.wd.refl r1 h⟩
  · next l xs e =>
    obtain ⟨e1, h0, hf, ne, vs, hl, r1⟩ := r.at' i _ e
    exact ⟨_, e1, q (.ow l xs) _ F H r.wd.refl ⟨rfl, hf, ne, vs, hl, r1⟩ h⟩
  · next p S x e =>
    obtain ⟨v, e1, _, k, _, q1⟩ := r.at' i _ e
    exact ⟨v, e1, q (.tr p S x) v F H r.wd.refl ⟨fun a m => (k a m).2, q1⟩ h⟩
  · next v S x e =>
    obtain ⟨e1, _, k, _, q1⟩ := r.at' i _ e
    exact ⟨v, e1, q (.tr true S x) v F H r.wd.refl ⟨fun a m => (k a m).2, q1⟩ h⟩
  · next v e => exact ⟨v, r.at' i _ e, q (.raw v) v F H r.wd.refl rfl h⟩
  · next e => exact ⟨_, r.at' i _ e, q .bag _ F H r.wd.refl rfl h⟩
  · exact h.elim
def tCD (x : PyData) : DT := fun _ P => P (.d x)
theorem d_int {i : Int} {j} : DPE X w (.Constant (.int i) j pos) (tCD (.int i)) := pe_weak pe_int fun σ H Q ⟨env, F, P, r, h, q⟩ => q (.d (.int i)) _ F H r.wd.refl (Rp.int i) h
theorem d_bl {i : Bool} {j} : DPE X w (.Constant (.bool i) j pos) (tCD (.bool i)) := pe_weak pe_bl fun σ H Q ⟨env, F, P, r, h, q⟩ => q (.d (.bool i)) _ F H r.wd.refl (Rp.bl i) h
theorem d_str {i : Str} {j} : DPE X w (.Constant (.str i) j pos) (tCD (.str i)) := pe_weak pe_str fun σ H Q ⟨env, F, P, r, h, q⟩ => q (.d (.str i)) _ F H r.wd.refl (Rp.str i) h
theorem d_non {j} : DPE X w (.Constant .none j pos) (tCD .none) := pe_weak pe_non fun σ H Q ⟨env, F, P, r, h, q⟩ => q (.d .none) _ F H r.wd.refl Rp.non h
def tRaw (v : V) : DT := fun _ P => P (.raw v)
/-- a built-in class as a value -/
theorem d_ty {x : Str} {n : String} (hg : Gl X x) (hm : X.mg x = none) (hv : bootBuiltins x = some (.type n)) (hn : x ≠ "__name__" := by decide) (hd : (x == ("__debug__" : Str)) = false := by decide) : DPE X w (.Name x pos) (tRaw (.ty n)) :=
  pe_weak (pe_bltn (v := .ty n) hg hm hv rfl hn hd) fun σ H Q ⟨env, F, P, r, h, q⟩ => q (.raw (.ty n)) _ F H r.wd.refl rfl h
/-! two operands -/
abbrev G2 := PyData → PyData → (DV → Prop) → Prop
def lR (K : PySem.W.Frag) (b : Bg) (g : G2) : R2 := fun x y H Q => ∃ F dx dy P, Wd K b F H ∧ Rr K b F H x dx ∧ Rr K b F H y dy ∧ g dx dy P ∧ ∀ dv v F' H', Stp K b F H F' H' → Res K b H F' H' dv v → P dv → Q v H'
def tBin (g : G2) (ta tb : DT) : DT := fun env P => ta env fun u => rd u fun x => tb env fun z => rd z fun y => g x y P
theorem bin_go {g : G2} {σ : L2.St} {H : Hp} {Q : VK} (h : lf X.K w (tBin g ta tb) σ H Q) : tOp (lR X.K w.b g) (lf X.K w ta) (lf X.K w tb) σ H Q := by
  obtain ⟨env, F, P, r, h, q⟩ := h
  refine ⟨env, F, _, r, h, fun dv v F1 H1 s1 r1 h1 => ?_⟩
  obtain ⟨x, x1, h1⟩ := rd_ok r1 h1
  refine ⟨env, F1, _, r.step s1, h1, fun dv2 v2 F2 H2 s2 r2 h2 => ?_⟩
  obtain ⟨y, y1, h2⟩ := rd_ok r2 h2
  exact ⟨F2, x, y, P, s2.wd, x1.step s2, y1, h2, fun dv3 v3 F3 H3 s3 r3 h3 => q dv3 v3 F3 H3 ((s1.trans s2).trans s3) (r3.early (s1.trans s2)) h3⟩
theorem d_bin {op : Operator} {g : G2} (ho : OpR X (binaryOp op) (lR X.K w.b g)) (ha : DPE X w a ta) (hb : DPE X w b tb) : DPE X w (.BinOp a op b pos) (tBin g ta tb) :=
  pe_weak (pe_op ho ha hb) fun _ _ _ h => bin_go h
theorem d_cmp {op : CmpOp} {g : G2} (ho : OpR X (compareOp op) (lR X.K w.b g)) (ha : DPE X w a ta) (hb : DPE X w b tb) (hm : behindInMarks op b = false := by first | exact nomark _ | rfl) : DPE X w (.Compare a [op] [b] pos) (tBin g ta tb) :=
  pe_weak (pe_cmpR ho ha hb hm) fun _ _ _ h => bin_go h
/-- the Bool that a value of True, False is -/
def isB : DV → (Bool → Prop) → Prop
  | .d (.bool c), k => k c
  | _, _ => False
theorem isB_ok {K : PySem.W.Frag} {b : Bg} {Hz F H : Hp} {v : V} {dv : DV} {k : Bool → Prop} (r : Res K b Hz F H dv v) (h : isB dv k) : ∃ c, v = .bl c ∧ k c := by
  unfold isB at h
  split at h
  · next c => exact ⟨c, r.blOf, h⟩
  · exact h.elim
def tTst (t : DT) : DTT := fun env P => t env fun u => isB u P
theorem dt_cmp {op : CmpOp} {g : G2} (ho : OpR X (compareOp op) (lR X.K w.b g)) (ha : DPE X w a ta) (hb : DPE X w b tb) (hm : behindInMarks op b = false := by first | exact nomark _ | rfl) : DPT X w (.Compare a [op] [b] pos) (tTst (tBin g ta tb)) :=
  pt_weak (pt_cmpR ho ha hb hm) fun σ H Q ⟨env, F, P, r, h, q⟩ => bin_go ⟨env, F, _, r, h, fun dv v F1 H1 s1 r1 h1 => by
    obtain ⟨c, rfl, h1⟩ := isB_ok r1 h1
    exact ⟨c, rfl, q c F1 H1 s1 h1⟩⟩
/-! one operand -/
abbrev G1 := PyData → (DV → Prop) → Prop
def tUnD (g : G1) (ta : DT) : DT := fun env P => ta env fun u => rd u fun x => g x P
def gNeg : G1 := fun x P => match x with
  | .int i => P (.d (.int (-i)))
  | _ => False
theorem d_neg (ha : DPE X w a ta) : DPE X w (.UnaryOp .USub a pos) (tUnD gNeg ta) := pe_weak (pe_un un_neg ha) fun σ H Q ⟨env, F, P, r, h, q⟩ => by
  refine ⟨env, F, _, r, h, fun dv v F1 H1 s1 r1 h1 => ?_⟩
  obtain ⟨x, x1, h1⟩ := rd_ok r1 h1
  unfold gNeg at h1
  split at h1
  · next i => exact ⟨i, x1.int, q (.d (.int (-i))) _ F1 H1 s1 (Rp.int _) h1⟩
  · exact h1.elim
/-! ### tests -/
variable {tA tB tC : DTT} {rest : List Expr}
def tAndD (t u : DTT) : DTT := fun env P => t env fun c => if c = true then u env P else P false
def tOrD (t u : DTT) : DTT := fun env P => t env fun c => if c = true then P true else u env P
def tNotD (t : DTT) : DTT := fun env P => t env fun c => P (!c)
theorem dw_or1 (ha : DPT X w a tA) : DPW X w (.BoolOp .Or [a] pos) tA := pw_or1 ha
theorem dw_or (ha : DPT X w a tA) (hb : DPW X w (.BoolOp .Or (b :: rest) pos) tB) : DPW X w (.BoolOp .Or (a :: b :: rest) pos) (tOrD tA tB) :=
  pw_weak (pw_or ha hb) fun σ H Q ⟨env, F, P, r, h, q⟩ => ⟨env, F, _, r, h, fun c F1 H1 s1 h1 => by
    cases c with
    | false => exact ⟨env, F1, P, r.step s1, h1, fun c F2 H2 s2 h2 => q c F2 H2 (s1.trans s2) h2⟩
    | true => exact q true F1 H1 s1 h1⟩
theorem dt_w (h : DPW X w a tA) : DPT X w a tA := PW.pt h
theorem dt_not (ha : DPT X w a tA) : DPT X w (.UnaryOp .Not a pos) (tNotD tA) :=
  pt_weak (pt_not ha) fun σ H Q ⟨env, F, P, r, h, q⟩ => ⟨env, F, _, r, h, fun c F1 H1 s1 h1 => q _ F1 H1 s1 h1⟩
/-- an expression by its truth -/
def truD : PyData → Bool
  | .none => false
  | .bool c => c
  | .int i => i != 0
  | .str x => x.length != 0
  | .list xs => !xs.isEmpty
  | .tuple xs => !xs.isEmpty
  | .dict kvs => !kvs.isEmpty
def truOk : PyData → Prop
  | .str x => x.length ≤ 100000
  | .dict _ => False
  | _ => True
theorem lim_le {n : Nat} (h : n ≤ 100000) : n ≤ sizeLine := Nat.le_trans h (by decide)
theorem lim_lt {n : Nat} (h : n < 100000) : n < sizeLine := Nat.lt_of_lt_of_le h (by decide)
theorem rpa_empty {K : PySem.W.Frag} {F : Hp} {vs : List V} {xs : List PyData} (r : RpA K F vs xs) : vs.isEmpty = xs.isEmpty := by cases r <;> rfl
theorem tru_of {K : PySem.W.Frag} {b : Bg} {F H : Hp} {v : V} {x : PyData} (s : Same F H) (h : Rr K b F H v x) (ok : truOk x) : TruV K v H (truD x) := by
  cases x with
  | none => cases h.non; rfl
  | bool c => cases h.bl; rfl
  | int i => cases h.int; rfl
  | str x =>
    cases h.str
    refine ⟨lim_le ok, ?_⟩
    show (x.length != 0) = ((x.length : Int) != 0)
    cases hx : x.length with
    | zero => rfl
    | succ n => rw [bne_iff_ne.mpr (show n + 1 ≠ 0 by omega), bne_iff_ne.mpr (show ((n + 1 : Nat) : Int) ≠ 0 by omega)]
  | list xs =>
    obtain ⟨l, vs, rfl, e, r⟩ := h.lst s
    exact .inl ⟨vs, SqL.of e, by rw [rpa_empty r]; rfl⟩
  | tuple xs =>
    obtain ⟨l, vs, rfl, e, r⟩ := h.tup s
    exact .inr (.inl ⟨vs, e, by rw [rpa_empty r]; rfl⟩)
  | dict kvs => exact False.elim ok
def tTru (t : DT) : DTT := fun env P => t env fun u => rd u fun x => truOk x ∧ P (truD x)
theorem dt_e (ha : DPE X w a ta) (he : ∀ whole, isTrue a X.env whole = (do let v ← whole; standAt a.pos; holding [v] (truthy v)) := by intro _; rfl) : DPT X w a (tTru ta) :=
  pt_weak (pt_truth ha he) fun σ H Q ⟨env, F, P, r, h, q⟩ => by
    refine ⟨env, F, _, r, h, fun dv v F1 H1 s1 r1 h1 => ?_⟩
    obtain ⟨x, x1, ok, h1⟩ := rd_ok r1 h1
    exact ⟨truD x, tru_of s1.sub x1 ok, q _ F1 H1 s1 h1⟩
/-- values of and, or, not, if-else -/
theorem lf_early {t : DT} {σ : L2.St} {F H F1 H1 : Hp} {env : List Sl} {P : DV → Prop} {Q : VK} (s1 : Stp X.K w.b F H F1 H1) (r : RelW X.K w env σ F H) (h : t env P)
    (q : ∀ dv v F' H', Stp X.K w.b F H F' H' → Res X.K w.b H F' H' dv v → P dv → Q v H') : lf X.K w t σ H1 Q :=
  ⟨env, F1, P, r.step s1, h, fun dv v F2 H2 s2 r2 h2 => q dv v F2 H2 (s1.trans s2) (r2.early s1) h2⟩
theorem d_one {op} {t : DT} (h : DPE X w a t) : DPE X w (.BoolOp op [a] pos) t := pe_one h
def tIteD (t : DTT) (ta tb : DT) : DT := fun env P => t env fun c => if c = true then ta env P else tb env P
theorem d_ite (hc : DPT X w c tC) (ha : DPE X w a ta) (hb : DPE X w b tb) : DPE X w (.IfExp c a b pos) (tIteD tC ta tb) :=
  pe_weak (pe_ifExp hc ha hb) fun σ H Q ⟨env, F, P, r, h, q⟩ => ⟨env, F, _, r, h, fun c F1 H1 s1 h1 => by
    cases c with
    | true => exact lf_early s1 r h1 q
    | false => exact lf_early s1 r h1 q⟩
end
end Dl
namespace Dl
open PySem PySem.Spec PyProof.Rows L2
/-! ### operators by what they are given -/
def gAdd : G2 := fun x y P => match x, y with
  | .int i, .int j => P (.d (.int (i + j)))
  | .str i, .str j => i.length + j.length ≤ 100000 ∧ P (.d (.str (i ++ j)))
  | .list xs, .list ys => xs.length + ys.length ≤ 100000 ∧ P (.fr (xs ++ ys))
  | .tuple xs, .tuple ys => xs ≠ [] ∧ xs.length + ys.length ≤ 100000 ∧ P (.d (.tuple (xs ++ ys)))
  | _, _ => False
def gMinus : G2 := fun x y P => match x, y with
  | .int i, .int j => P (.d (.int (i - j)))
  | _, _ => False
def gMul : G2 := fun x y P => match x, y with
  | .int i, .int j => i.natAbs.log2 + j.natAbs.log2 < 1000000 ∧ P (.d (.int (i * j)))
  | _, _ => False
def gFdiv : G2 := fun x y P => match x, y with
  | .int i, .int j => j ≠ 0 ∧ j.natAbs.log2 < 9000 ∧ P (.d (.int (i.fdiv j)))
  | _, _ => False
def gMod : G2 := fun x y P => match x, y with
  | .int i, .int j => j ≠ 0 ∧ P (.d (.int (i.fmod j)))
  | _, _ => False
def gPow : G2 := fun x y P => match x, y with
  | .int i, .int j => (0 ≤ j ∧ j ≤ 1000000 ∧ i.natAbs < 2 ^ 64) ∧ P (.d (.int (i ^ j.toNat)))
  | _, _ => False
section
variable {X : Cx} {w : Wn}
theorem res_d {K : PySem.W.Frag} {b : Bg} {Hz F H : Hp} {v : V} {x : PyData} (h : Rp K F v x) : Res K b Hz F H (.d x) v := h
/-- a fresh list is laid -/
theorem res_new {K : PySem.W.Frag} {b : Bg} {F H : Hp} {vs : List V} {xs : List PyData} {P : DV → Prop} {Q : VK} (wd : Wd K b F H) (r : RpA K F vs xs) (q : ∀ dv v F' H', Stp K b F H F' H' → Res K b H F' H' dv v → P dv → Q v H') (h : P (.fr xs)) :
    ∀ p, H p = none → Q (.ref p) (upd H p (.lst vs)) := fun p hp => by
  obtain ⟨us, eb⟩ := wd.bag.lst
  have pb : p ≠ b.b := fun e => by rw [e, eb] at hp; cases hp
  refine q (.fr xs) _ F _ (wd.laidM hp) ⟨p, vs, rfl, hp, ?_, pb, upd_same, r⟩ h
  cases e : F p with
  | none => rfl
  | some o => rw [wd.sub _ _ e] at hp; cases hp
theorem res_newT {K : PySem.W.Frag} {b : Bg} {F H : Hp} {vs : List V} {xs : List PyData} {P : DV → Prop} {Q : VK} (wd : Wd K b F H) (r : RpA K F vs xs) (q : ∀ dv v F' H', Stp K b F H F' H' → Res K b H F' H' dv v → P dv → Q v H') (h : P (.d (.tuple xs))) :
    ∀ p, H p = none → Q (.ref p) (upd H p (.tup vs)) := fun p hp => by
  have st := wd.laid (o := .tup vs) hp
  exact q (.d (.tuple xs)) _ _ _ st (Rp.tup (SqT.of upd_same) (r.up st.ex)) h
theorem nonempty_vs {K : PySem.W.Frag} {F : Hp} {vs : List V} {xs : List PyData} (r : RpA K F vs xs) (h : xs ≠ []) : vs ≠ [] := by
  cases r with
  | nil => exact absurd rfl h
  | cons _ _ => exact fun z => nomatch z
theorem o_add : OpR X (binaryOp .Add) (lR X.K w.b gAdd) := by
  intro pins s σ H x y v u Q I rx ry h
  obtain ⟨F, dx, dy, P, wd, hx, hy, g, q⟩ := h
  unfold gAdd at g
  split at g
  · cases hx.int; cases hy.int
    exact op_add pins s σ H _ _ v u Q I rx ry ⟨_, _, rfl, rfl, q _ _ F H wd.refl (res_d (.int _)) g⟩
  · cases hx.str; cases hy.str
    exact op_add_str pins s σ H _ _ v u Q I rx ry ⟨_, _, rfl, rfl, lim_le g.1, q _ _ F H wd.refl (res_d (.str _)) g.2⟩
  · obtain ⟨l, vs, rfl, e1, r1⟩ := hx.lst wd.sub
    obtain ⟨m, us, rfl, e2, r2⟩ := hy.lst wd.sub
    exact op_cat pins s σ H _ _ v u Q I rx ry ⟨l, m, vs, us, rfl, rfl, e1, e2, by rw [r1.len, r2.len]; exact lim_le g.1, res_new wd (r1.app r2) q g.2⟩
  · next xs ys =>
    obtain ⟨l, vs, rfl, e1, r1⟩ := hx.tup wd.sub
    obtain ⟨m, us, rfl, e2, r2⟩ := hy.tup wd.sub
    have ne := nonempty_vs r1 g.1
    refine op_catT pins s σ H _ _ v u Q I rx ry ⟨l, m, vs, us, rfl, rfl, e1, e2, ne, by rw [r1.len, r2.len]; exact lim_le g.2.1, fun e => ?_, fun _ => res_newT wd (r1.app r2) q g.2.2⟩
    subst e
    cases r2
    rw [List.append_nil] at g
    have hq : Rp X.K F (.ref l) (.tuple xs) := by
      cases hx with
      | d h => exact h
    exact q _ _ F H wd.refl (res_d hq) g.2.2
  · exact g.elim
theorem o_sub : OpR X (binaryOp .Sub) (lR X.K w.b gMinus) := by
  intro pins s σ H x y v u Q I rx ry h
  obtain ⟨F, dx, dy, P, wd, hx, hy, g, q⟩ := h
  unfold gMinus at g
  split at g
  · cases hx.int; cases hy.int
    exact op_sub pins s σ H _ _ v u Q I rx ry ⟨_, _, rfl, rfl, q _ _ F H wd.refl (res_d (.int _)) g⟩
  · exact g.elim
theorem o_mul : OpR X (binaryOp .Mult) (lR X.K w.b gMul) := by
  intro pins s σ H x y v u Q I rx ry h
  obtain ⟨F, dx, dy, P, wd, hx, hy, g, q⟩ := h
  unfold gMul at g
  split at g
  · cases hx.int; cases hy.int
    exact op_mulW pins s σ H _ _ v u Q I rx ry ⟨_, _, rfl, rfl, g.1, q _ _ F H wd.refl (res_d (.int _)) g.2⟩
  · exact g.elim
theorem op_fdivX : OpR X (binaryOp .FloorDiv) (rI (fun _ j => j ≠ 0 ∧ j.natAbs.log2 < 9000) fun i j => .int (i.fdiv j)) :=
  opI fun _ _ _ _ _ _ _ hc q => floordiv_int hc.1 q (.inl (PyProof.noPylong_of_log2 hc.2))
theorem o_mod : OpR X (binaryOp .Mod) (lR X.K w.b gMod) := by
  intro pins s σ H x y v u Q I rx ry h
  obtain ⟨F, dx, dy, P, wd, hx, hy, g, q⟩ := h
  unfold gMod at g
  split at g
  · cases hx.int; cases hy.int
    exact op_modN pins s σ H _ _ v u Q I rx ry ⟨_, _, rfl, rfl, g.1, q _ _ F H wd.refl (res_d (.int _)) g.2⟩
  · exact g.elim
theorem o_pow : OpR X (binaryOp .Pow) (lR X.K w.b gPow) := by
  intro pins s σ H x y v u Q I rx ry h
  obtain ⟨F, dx, dy, P, wd, hx, hy, g, q⟩ := h
  unfold gPow at g
  split at g
  · cases hx.int; cases hy.int
    exact op_pow pins s σ H _ _ v u Q I rx ry ⟨_, _, rfl, rfl, g.1, q _ _ F H wd.refl (res_d (.int _)) g.2⟩
  · exact g.elim
/-! comparisons -/
def gIn (p : Int → Int → Bool) (s : Str → Str → Bool) : G2 := fun x y P => match x, y with
  | .int i, .int j => P (.d (.bool (p i j)))
  | .str i, .str j => P (.d (.bool (s i j)))
  | _, _ => False
abbrev gLt : G2 := gIn (fun i j => decide (i < j)) fun i j => decide (i.cps.toList < j.cps.toList)
theorem o_lt : OpR X (compareOp .Lt) (lR X.K w.b gLt) := by
  intro pins s σ H x y v u Q I rx ry h
  obtain ⟨F, dx, dy, P, wd, hx, hy, g, q⟩ := h
  unfold gLt gIn at g
  split at g
  · cases hx.int; cases hy.int
    exact op_lt pins s σ H _ _ v u Q I rx ry ⟨_, _, rfl, rfl, q _ _ F H wd.refl (res_d (.bl _)) g⟩
  · cases hx.str; cases hy.str
    exact op_lt_str pins s σ H _ _ v u Q I rx ry ⟨_, _, rfl, rfl, q _ _ F H wd.refl (res_d (.bl _)) g⟩
  · exact g.elim
theorem o_le : OpR X (compareOp .LtE) (lR X.K w.b (gIn (fun i j => decide (i ≤ j)) fun i j => !decide (j.cps.toList < i.cps.toList))) := by
  intro pins s σ H x y v u Q I rx ry h
  obtain ⟨F, dx, dy, P, wd, hx, hy, g, q⟩ := h
  unfold gIn at g
  split at g
  · cases hx.int; cases hy.int
    exact op_le pins s σ H _ _ v u Q I rx ry ⟨_, _, rfl, rfl, q _ _ F H wd.refl (res_d (.bl _)) g⟩
  · cases hx.str; cases hy.str
    exact op_le_str pins s σ H _ _ v u Q I rx ry ⟨_, _, rfl, rfl, q _ _ F H wd.refl (res_d (.bl _)) g⟩
  · exact g.elim
theorem o_gt : OpR X (compareOp .Gt) (lR X.K w.b (gIn (fun i j => decide (j < i)) fun i j => decide (j.cps.toList < i.cps.toList))) := by
  intro pins s σ H x y v u Q I rx ry h
  obtain ⟨F, dx, dy, P, wd, hx, hy, g, q⟩ := h
  unfold gIn at g
  split at g
  · cases hx.int; cases hy.int
    exact op_gt pins s σ H _ _ v u Q I rx ry ⟨_, _, rfl, rfl, q _ _ F H wd.refl (res_d (.bl _)) g⟩
  · cases hx.str; cases hy.str
    exact op_gt_str pins s σ H _ _ v u Q I rx ry ⟨_, _, rfl, rfl, q _ _ F H wd.refl (res_d (.bl _)) g⟩
  · exact g.elim
/-! what Rp says to the library's Reads -/
end
section
variable {X : Cx} {pins : List (Addr × Obj)} {σ : L2.St} {H : Hp} {s : Shared}
mutual
def flatD : PyData → Bool
  | .none => true
  | .bool _ => true
  | .int _ => true
  | .str _ => true
  | .list xs => flatA xs
  | .tuple xs => flatA xs
  | .dict _ => false
def flatA : List PyData → Bool
  | [] => true
  | x :: xs => flatD x && flatA xs
end
mutual
theorem rp_reads (I : Inv X pins σ H s) : ∀ (d : PyData) (v : V) (u : Value), flatD d = true → Rp X.K H v d → RelV v u → ∃ as, Reads s.heap u d as
  | .none, _, _, _, h, r => by cases h; cases r; exact ⟨_, Reads.none⟩
  | .bool b, _, _, _, h, r => by cases h; cases r; exact ⟨_, Reads.bool b⟩
  | .int i, _, _, _, h, r => by cases h; obtain ⟨t, rfl⟩ := r; exact ⟨_, Reads.int i t⟩
  | .str i, _, _, _, h, r => by cases h; obtain ⟨t, rfl⟩ := r; exact ⟨_, Reads.str i t⟩
  | .list ds, _, _, f, h, r => by
    cases h with
    | lst hs ha =>
      cases r
      obtain ⟨its, rv, ⟨o, n, ho, hc, _, hd⟩, _⟩ := I.list (SqL.of hs)
      obtain ⟨as, hr⟩ := rpa_reads I ds _ its (by simpa only [flatD] using f) ha rv
      exact ⟨_, Reads.list ho hc hd hr⟩
  | .tuple ds, _, _, f, h, r => by
    cases h with
    | tup hs ha =>
      cases r
      obtain ⟨its, rv, ⟨o, ho, hc, n, hd⟩, _⟩ := I.tuple hs
      obtain ⟨as, hr⟩ := rpa_reads I ds _ its (by simpa only [flatD] using f) ha rv
      exact ⟨_, Reads.tuple ho hc hd hr⟩
  | .dict _, _, _, f, _, _ => by simp only [flatD] at f; cases f
theorem rpa_reads (I : Inv X pins σ H s) : ∀ (ds : List PyData) (vs : List V) (us : List Value), flatA ds = true → RpA X.K H vs ds → Vals vs us → ∃ as, ReadsAll s.heap us ds as
  | [], _, _, _, h, r => by cases h; cases r; exact ⟨_, ReadsAll.nil⟩
  | d :: ds, _, _, f, h, r => by
    cases h with
    | cons h1 h2 =>
      cases r with
      | cons r1 r2 =>
        rw [flatA, Bool.and_eq_true] at f
        obtain ⟨as, q1⟩ := rp_reads I d _ _ f.1 h1 r1
        obtain ⟨bs, q2⟩ := rpa_reads I ds _ _ f.2 h2 r2
        exact ⟨_, ReadsAll.cons q1 q2⟩
end
mutual
theorem flat_of_can : ∀ d : PyData, d.canLay0 = true → flatD d = true
  | .none, _ => by simp only [flatD]
  | .bool _, _ => by simp only [flatD]
  | .int _, _ => by simp only [flatD]
  | .str _, _ => by simp only [flatD]
  | .list xs, h => by simp only [flatD]; exact flatA_of_can xs (by simpa only [PyData.canLay0] using h)
  | .tuple xs, h => by simp only [flatD]; exact flatA_of_can xs (by simpa only [PyData.canLay0] using h)
  | .dict _, h => by simp only [PyData.canLay0] at h; cases h
theorem flatA_of_can : ∀ d : List PyData, PyData.canLayAll0 d = true → flatA d = true
  | [], _ => by simp only [flatA]
  | x :: xs, h => by
    simp only [PyData.canLayAll0, Bool.and_eq_true] at h
    rw [flatA, flat_of_can x h.1, flatA_of_can xs h.2]
    rfl
end
end
/-- two values alike -/
def gEqv (f : Bool → Bool) : G2 := fun x y P => match x, y with
  | .int i, .int j => P (.d (.bool (f (decide (i = j)))))
  | .str i, .str j => P (.d (.bool (f (decide (i = j)))))
  | .bool i, .bool j => P (.d (.bool (f (decide (i = j)))))
  | x, y => SeqAt.shaped x = true ∧ SeqAt.shaped y = true ∧ P (.d (.bool (f (x.eqv y))))
section
variable {X : Cx} {w : Wn}
theorem o_eq (hu : X.A.units + 64 < cLine) : OpR X (compareOp .Eq) (lR X.K w.b (gEqv id)) := by
  intro pins s σ H x y v u Q I rx ry h
  obtain ⟨F, dx, dy, P, wd, hx, hy, g, q⟩ := h
  unfold gEqv at g
  split at g
  · cases hx.int; cases hy.int
    refine op_eq pins s σ H _ _ v u Q I rx ry ⟨rfl, ?_⟩
    rw [dec_int, Bool.beq_eq_decide_eq]
    exact q _ _ F H wd.refl (res_d (.bl _)) g
  · cases hx.str; cases hy.str
    refine op_eq pins s σ H _ _ v u Q I rx ry ⟨rfl, ?_⟩
    rw [dec_str, Bool.beq_eq_decide_eq]
    exact q _ _ F H wd.refl (res_d (.bl _)) g
  · cases hx.bl; cases hy.bl
    refine op_eq pins s σ H _ _ v u Q I rx ry ⟨rfl, ?_⟩
    rw [dec_bl, Bool.beq_eq_decide_eq]
    exact q _ _ F H wd.refl (res_d (.bl _)) g
  · obtain ⟨as, r1⟩ := rp_reads I _ _ _ (flat_of_can _ (SeqAt.canLay_of_shaped g.1)) (hx.all wd.sub) rx
    obtain ⟨bs, r2⟩ := rp_reads I _ _ _ (flat_of_can _ (SeqAt.canLay_of_shaped g.2.1)) (hy.all wd.sub) ry
    exact SeqAt.compareEq_shaped r1 r2 g.1 g.2.1 hu ⟨.bl _, H, I, rfl, q _ _ F H wd.refl (res_d (.bl _)) g.2.2⟩
theorem o_ne (hu : X.A.units + 64 < cLine) : OpR X (compareOp .NotEq) (lR X.K w.b (gEqv not)) := by
  intro pins s σ H x y v u Q I rx ry h
  obtain ⟨F, dx, dy, P, wd, hx, hy, g, q⟩ := h
  unfold gEqv at g
  split at g
  · cases hx.int; cases hy.int
    refine op_ne pins s σ H _ _ v u Q I rx ry ⟨rfl, ?_⟩
    rw [dec_int, Bool.beq_eq_decide_eq]
    exact q _ _ F H wd.refl (res_d (.bl _)) g
  · cases hx.str; cases hy.str
    refine op_ne pins s σ H _ _ v u Q I rx ry ⟨rfl, ?_⟩
    rw [dec_str, Bool.beq_eq_decide_eq]
    exact q _ _ F H wd.refl (res_d (.bl _)) g
  · cases hx.bl; cases hy.bl
    refine op_ne pins s σ H _ _ v u Q I rx ry ⟨rfl, ?_⟩
    rw [dec_bl, Bool.beq_eq_decide_eq]
    exact q _ _ F H wd.refl (res_d (.bl _)) g
  · obtain ⟨as, r1⟩ := rp_reads I _ _ _ (flat_of_can _ (SeqAt.canLay_of_shaped g.1)) (hx.all wd.sub) rx
    obtain ⟨bs, r2⟩ := rp_reads I _ _ _ (flat_of_can _ (SeqAt.canLay_of_shaped g.2.1)) (hy.all wd.sub) ry
    exact SeqAt.compareNe_shaped r1 r2 g.1 g.2.1 hu ⟨.bl _, H, I, rfl, q _ _ F H wd.refl (res_d (.bl _)) g.2.2⟩
/-! ### arguments, displays -/
variable {e : Expr} {es : List Expr} {te : DT} {t tr : DA} {pos : Pos}
def frz : DV → DV
  | .fr xs => .d (.list xs)
  | .ft x => .d x
  | x => x
theorem frz_ok {K : PySem.W.Frag} {b : Bg} {F H F' H' : Hp} {v : V} {dv : DV} (s : Stp K b F H F' H') (r : Res K b H F' H' dv v) : ∃ F2, Stp K b F H F2 H' ∧ ArR K b F2 H' (frz dv) v := by
  cases dv with
  | d x => exact ⟨F', s, r⟩
  | fr xs =>
    obtain ⟨p, vs, rfl, h0, hf, ne, hp, q⟩ := r
    exact ⟨_, s.freeze h0 hf ne hp, Rp.lst upd_same (q.up (same_laid hf))⟩
  | ow l xs => exact ⟨F', s, r⟩
  | raw u => exact ⟨F', s, r⟩
  | bag => exact ⟨F', s, r⟩
  | ft x =>
    obtain ⟨S, nd, k, q⟩ := r
    exact ⟨_, s.freezeT k q.there, q.open (opn_same fun l m => (k l m).2.1) fun _ m => m⟩
  | tr p S x => exact ⟨F', s, r⟩
theorem ArR.step {K : PySem.W.Frag} {b : Bg} {F H F' H' : Hp} (s : Stp K b F H F' H') : ∀ {dv : DV} {v : V}, ArR K b F H dv v → ArR K b F' H' dv v
  | .d _, _, r => Rp.up s.ex r
  | .fr xs, _, r => r.elim
  | .ow l xs, _, ⟨e, hf, ne, vs, hp, r⟩ => ⟨e, s.new l hf (by rw [hp]; exact fun z => nomatch z), ne, vs, s.keep _ _ ne (fun _ z => nomatch z) hp, r.up s.ex⟩
  | .ft x, _, r => r.elim
  | .tr p S x, _, ⟨k, q⟩ => ⟨fun a m => by
      obtain ⟨o, ho, _⟩ := q.there a m
      exact ⟨s.new a (k a m).1 (by rw [ho]; exact fun z => nomatch z), (k a m).2⟩, q.up s.ex fun a m o ho => by
      obtain ⟨o', ho', nt⟩ := q.there a m
      rw [ho] at ho'
      cases ho'
      exact s.keep a o (k a m).2 (isM_tbl nt) ho⟩
  | .raw _, _, e => e
  | .bag, _, e => e
def tNilD : DA := fun _ P => P []
def tConsD (te : DT) (tr : DA) : DA := fun env P => te env fun u => tr env fun us => P (frz u :: us)
theorem da_nil : DPA X w [] tNilD := pa_weak pa_nil fun σ H Q ⟨env, F, P, r, h, q⟩ => q [] [] F H r.wd.refl .nil h
theorem da_cons (ha : DPE X w e te) (hr : DPA X w es tr) (hs : starEach (e :: es) X.env = (false, eval e X.env) :: starEach es X.env := by rfl) : DPA X w (e :: es) (tConsD te tr) :=
  pa_weak (pa_cons ha hr hs) fun σ H Q ⟨env, F, P, r, h, q⟩ => ⟨env, F, _, r, h, fun dv v F1 H1 s1 r1 h1 => by
    obtain ⟨F2, s2, a2⟩ := frz_ok s1 r1
    exact ⟨env, F2, _, r.step s2, h1, fun dvs vs F3 H3 s3 r3 h3 => q (frz dv :: dvs) (v :: vs) F3 H3 (s2.trans s3) (.cons (a2.step s3) r3) h3⟩⟩
/-- all of them data -/
def allD : List DV → (List PyData → Prop) → Prop
  | [], k => k []
  | .d x :: r, k => allD r fun xs => k (x :: xs)
  | _ :: _, _ => False
theorem allD_ok {K : PySem.W.Frag} {b : Bg} {F H : Hp} : ∀ {dvs : List DV} {vs : List V} {k : List PyData → Prop}, Paired (ArR K b F H) dvs vs → allD dvs k → ∃ xs, RpA K F vs xs ∧ k xs
  | _, _, _, .nil, h => ⟨[], .nil, h⟩
  | .d x :: r, _, k, .cons a t, h => by
    obtain ⟨xs, q, hk⟩ := allD_ok t (show allD r (fun xs => k (x :: xs)) from h)
    exact ⟨x :: xs, .cons a q, hk⟩
  | .fr _ :: _, _, _, .cons _ _, h => h.elim
  | .ow _ _ :: _, _, _, .cons _ _, h => h.elim
  | .raw _ :: _, _, _, .cons _ _, h => h.elim
  | .bag :: _, _, _, .cons _ _, h => h.elim
def tLstD (t : DA) : DT := fun env P => t env fun us => allD us fun xs => xs.length ≤ 100000 ∧ P (.fr xs)
def tTupD (t : DA) : DT := fun env P => t env fun us => allD us fun xs => xs.length ≤ 100000 ∧ P (.d (.tuple xs))
theorem d_lst (h : DPA X w es t) : DPE X w (.List es pos) (tLstD t) := pe_weak (pe_lst h) fun σ H Q ⟨env, F, P, r, h, q⟩ => ⟨env, F, _, r, h, fun dvs vs F1 H1 s1 r1 h1 => by
  obtain ⟨xs, q1, hz, hp⟩ := allD_ok r1 h1
  exact ⟨by rw [q1.len]; exact lim_le hz, res_new s1.wd q1 (fun dv v F2 H2 s2 r2 h2 => q dv v F2 H2 (s1.trans s2) (r2.early s1) h2) hp⟩⟩
theorem d_tup {x1} (h : DPA X w es t) : DPE X w (.Tuple es x1 pos) (tTupD t) := pe_weak (pe_tup h) fun σ H Q ⟨env, F, P, r, h, q⟩ => ⟨env, F, _, r, h, fun dvs vs F1 H1 s1 r1 h1 => by
  obtain ⟨xs, q1, hz, hp⟩ := allD_ok r1 h1
  exact ⟨by rw [q1.len]; exact lim_le hz, res_newT s1.wd q1 (fun dv v F2 H2 s2 r2 h2 => q dv v F2 H2 (s1.trans s2) (r2.early s1) h2) hp⟩⟩
/-! ### an item -/
variable {a b : Expr} {ta tb : DT}
def gIx : G2 := fun x y P => match x, y with
  | .list xs, .int i => match atI xs i with
    | some z => P (.d z)
    | none => False
  | .tuple xs, .int i => match atI xs i with
    | some z => P (.d z)
    | none => False
  | .str z, .int i => z.length ≤ 100000 ∧ match atI z.cps.toList i with
    | some c => P (.d (.str ⟨#[c]⟩))
    | none => False
  | _, _ => False
theorem at_rp {K : PySem.W.Frag} {F : Hp} {vs : List V} {xs : List PyData} {i : Int} {z : PyData} (r : RpA K F vs xs) (h : atI xs i = some z) : ∃ v, atI vs i = some v ∧ Rp K F v z := by
  unfold atI at h ⊢
  rw [r.len]
  cases e : ixN xs.length i with
  | none => rw [e] at h; cases h
  | some j =>
    rw [e] at h
    exact r.get h
theorem ix_all : IxR X (lR X.K w.b gIx) := by
  intro value slice pins s σ H x y v u Q I rx ry h hs
  obtain ⟨F, dx, dy, P, wd, hx, hy, g, q⟩ := h
  unfold gIx at g
  split at g
  · obtain ⟨l, vs, rfl, e, r⟩ := hx.lst wd.sub
    cases hy.int
    split at g
    · next z ez =>
      obtain ⟨v1, e1, r1⟩ := at_rp r ez
      exact ix_list value slice pins s σ H _ _ v u Q I rx ry ⟨l, vs, _, v1, rfl, rfl, SqL.of e, e1, q _ _ F H wd.refl (res_d r1) g⟩ hs
    · exact g.elim
  · obtain ⟨l, vs, rfl, e, r⟩ := hx.tup wd.sub
    cases hy.int
    split at g
    · next z ez =>
      obtain ⟨v1, e1, r1⟩ := at_rp r ez
      exact ix_tup value slice pins s σ H _ _ v u Q I rx ry ⟨l, vs, _, v1, rfl, rfl, e, e1, q _ _ F H wd.refl (res_d r1) g⟩ hs
    · exact g.elim
  · cases hx.str
    cases hy.int
    obtain ⟨hz, g⟩ := g
    split at g
    · next z ez => exact ix_str value slice pins s σ H _ _ v u Q I rx ry ⟨_, _, z, rfl, rfl, lim_le hz, ez, q _ _ F H wd.refl (res_d (.str _)) g⟩ hs
    · exact g.elim
  · exact g.elim
theorem d_ix (ha : DPE X w a ta) (hb : DPE X w b tb) (hs : PlainIx b := by exact fun _ _ => rfl) : DPE X w (.Subscript a b pos) (tBin gIx ta tb) := pe_weak (pe_ix ix_all ha hb hs) fun _ _ _ h => bin_go h
end
end Dl
namespace Dl
open PySem PySem.Spec PyProof.Rows L2
/-! ### built-ins by values -/
abbrev GC := List DV → (DV → Prop) → Prop
def lC (K : PySem.W.Frag) (b : Bg) (g : GC) : List V → Hp → VK → Prop := fun vs H Q => ∃ F dvs P, Wd K b F H ∧ Paired (ArR K b F H) dvs vs ∧ g dvs P ∧ ∀ dv v F' H', Stp K b F H F' H' → Res K b H F' H' dv v → P dv → Q v H'
def tCallD (g : GC) (t : DA) : DT := fun env P => t env fun us => g us P
section
variable {K : PySem.W.Frag} {b : Bg} {F H F' H' Hz : Hp}
theorem arr_rr {dv : DV} {v : V} {k : PyData → Prop} (r : ArR K b F H dv v) (h : rd dv k) : ∃ x, Rr K b F H v x ∧ k x := by
  cases dv with
  | d x => exact ⟨x, .d r, h⟩
  | fr xs => exact False.elim r
  | ow l xs =>
    obtain ⟨rfl, hf, ne, vs, hp, q⟩ := r
    exact ⟨_, .o hf ne hp q, h⟩
  | raw u => exact False.elim h
  | bag => exact False.elim h
  | ft x => exact False.elim r
  | tr p S x => exact False.elim h
def one : List DV → (DV → Prop) → Prop
  | [x], k => k x
  | _, _ => False
def two : List DV → (DV → DV → Prop) → Prop
  | [x, y], k => k x y
  | _, _ => False
theorem one_ok {R : DV → V → Prop} {dvs : List DV} {vs : List V} {k : DV → Prop} (r : Paired R dvs vs) (h : one dvs k) : ∃ x v, vs = [v] ∧ R x v ∧ k x := by
  unfold one at h
  split at h
  · cases r with | cons a t => cases t; exact ⟨_, _, rfl, a, h⟩
  · exact h.elim
theorem two_ok {R : DV → V → Prop} {dvs : List DV} {vs : List V} {k : DV → DV → Prop} (r : Paired R dvs vs) (h : two dvs k) : ∃ x y v u, vs = [v, u] ∧ R x v ∧ R y u ∧ k x y := by
  unfold two at h
  split at h
  · cases r with | cons a t => cases t with | cons a2 t => cases t; exact ⟨_, _, _, _, rfl, a, a2, h⟩
  · exact h.elim
end
section
variable {X : Cx} {w : Wn} {e : Expr} {es : List Expr} {t : DA} {x : Str} {p pos : Pos} {id T : String} {g : GC}
theorem callb_go {σ : L2.St} {H : Hp} {Q : VK} (h : lf X.K w (tCallD g t) σ H Q) : tCB (lC X.K w.b g) (lfA X.K w t) σ H Q := by
  obtain ⟨env, F, P, r, h, q⟩ := h
  exact ⟨env, F, _, r, h, fun dvs vs F1 H1 s1 r1 h1 => ⟨F1, dvs, P, s1.wd, r1, h1, fun dv v F2 H2 s2 r2 h2 => q dv v F2 H2 (s1.trans s2) (r2.early s1) h2⟩⟩
theorem d_callB (hc : CallR X (.builtin id) (lC X.K w.b g)) (gl : Gl X x) (gm : X.mg x = none) (gv : bootBuiltins x = some (.builtin id)) (ha : DPA X w (e :: es) t) (hn : x ≠ "__name__" := by decide) (db : (x == ("__debug__" : Str)) = false := by decide)
    (he : starEach (e :: es) X.env = (false, eval e X.env) :: starEach es X.env := by rfl) (hpl : (backTo pos (starEach es X.env)).any (·.1) = false := by rfl) : DPE X w (.Call (.Name x p) (e :: es) [] pos) (tCallD g t) :=
  pe_weak (pe_callB hc gl gm gv ha hn db he hpl) fun _ _ _ h => callb_go h
theorem d_callTy (hc : CallR X (.type T) (lC X.K w.b g)) (gl : Gl X x) (gm : X.mg x = none) (gv : bootBuiltins x = some (.type T)) (ha : DPA X w (e :: es) t) (hn : x ≠ "__name__" := by decide) (db : (x == ("__debug__" : Str)) = false := by decide)
    (he : starEach (e :: es) X.env = (false, eval e X.env) :: starEach es X.env := by rfl) (hpl : (backTo pos (starEach es X.env)).any (·.1) = false := by rfl) : DPE X w (.Call (.Name x p) (e :: es) [] pos) (tCallD g t) :=
  pe_weak (pe_callTy hc gl gm gv ha hn db he hpl) fun _ _ _ h => callb_go h
theorem d_callM (hc : CallR X (.builtin id) (lC X.K w.b g)) (gl : Gl X x) (gm : X.mg x = some (.builtin id)) (ha : DPA X w (e :: es) t) (db : (x == ("__debug__" : Str)) = false := by decide)
    (he : starEach (e :: es) X.env = (false, eval e X.env) :: starEach es X.env := by rfl) (hpl : (backTo pos (starEach es X.env)).any (·.1) = false := by rfl) : DPE X w (.Call (.Name x p) (e :: es) [] pos) (tCallD g t) :=
  pe_weak (pe_callBfun hc gl gm ha db he hpl) fun _ _ _ h => callb_go h
def cLen : GC := fun us P => one us fun u => rd u fun x => match x with
  | .list xs => P (.d (.int xs.length))
  | .tuple xs => P (.d (.int xs.length))
  | .str z => z.length ≤ 100000 ∧ P (.d (.int z.length))
  | _ => False
theorem k_len : CallR X (.builtin "len") (lC X.K w.b cLen) := by
  intro pins s σ H vs us Q I r h
  obtain ⟨F, dvs, P, wd, ar, g, q⟩ := h
  obtain ⟨u, v, rfl, a, g⟩ := one_ok ar g
  obtain ⟨x, hx, g⟩ := arr_rr a g
  split at g
  · obtain ⟨l, vs, rfl, e, r1⟩ := hx.lst wd.sub
    exact call_len_seq pins s σ H _ us Q I r ⟨l, vs, rfl, .inl (SqL.of e), by rw [r1.len]; exact q _ _ F H wd.refl (res_d (.int _)) g⟩
  · obtain ⟨l, vs, rfl, e, r1⟩ := hx.tup wd.sub
    exact call_len_seq pins s σ H _ us Q I r ⟨l, vs, rfl, .inr e, by rw [r1.len]; exact q _ _ F H wd.refl (res_d (.int _)) g⟩
  · cases hx.str
    exact call_len_str pins s σ H _ us Q I r ⟨_, rfl, lim_le g.1, q _ _ F H wd.refl (res_d (.int _)) g.2⟩
  · exact g.elim
def cAbs : GC := fun us P => one us fun u => rd u fun x => match x with
  | .int i => P (.d (.int i.natAbs))
  | _ => False
theorem k_abs : CallR X (.builtin "abs") (lC X.K w.b cAbs) := by
  intro pins s σ H vs us Q I r h
  obtain ⟨F, dvs, P, wd, ar, g, q⟩ := h
  obtain ⟨u, v, rfl, a, g⟩ := one_ok ar g
  obtain ⟨x, hx, g⟩ := arr_rr a g
  split at g
  · next i =>
    cases hx.int
    refine call_abs pins s σ H _ us Q I r ⟨i, rfl, ?_⟩
    have e : (if i < 0 then -i else i) = (i.natAbs : Int) := by split <;> omega
    rw [e]
    exact q _ _ F H wd.refl (res_d (.int _)) g
  · exact g.elim
def cMin (f : Int → Int → Int) : GC := fun us P => two us fun u z => rd u fun x => rd z fun y => match x, y with
  | .int i, .int j => P (.d (.int (f i j)))
  | _, _ => False
def cInt : GC := fun us P => one us fun u => rd u fun x => match x with
  | .int i => P (.d (.int i))
  | .bool c => P (.d (.int (if c then 1 else 0)))
  | _ => False
theorem k_int : CallR X (.type "int") (lC X.K w.b cInt) := by
  intro pins s σ H vs us Q I r h
  obtain ⟨F, dvs, P, wd, ar, g, q⟩ := h
  obtain ⟨u, v, rfl, a, g⟩ := one_ok ar g
  obtain ⟨x, hx, g⟩ := arr_rr a g
  split at g
  · cases hx.int
    exact call_int1 pins s σ H _ us Q I r (.inl ⟨_, rfl, q _ _ F H wd.refl (res_d (.int _)) g⟩)
  · cases hx.bl
    exact call_int1 pins s σ H _ us Q I r (.inr ⟨_, rfl, q _ _ F H wd.refl (res_d (.int _)) g⟩)
  · exact g.elim
def cGcd : GC := fun us P => two us fun u z => rd u fun x => rd z fun y => match x, y with
  | .int i, .int j => P (.d (.int ((Nat.gcd i.natAbs j.natAbs : Nat) : Int)))
  | _, _ => False
theorem k_gcd : CallR X (.builtin "math.gcd") (lC X.K w.b cGcd) := by
  intro pins s σ H vs us Q I r h
  obtain ⟨F, dvs, P, wd, ar, g, q⟩ := h
  obtain ⟨u, z, v1, v2, rfl, a1, a2, g⟩ := two_ok ar g
  obtain ⟨x, hx, g⟩ := arr_rr a1 g
  obtain ⟨y, hy, g⟩ := arr_rr a2 g
  split at g
  · cases hx.int
    cases hy.int
    exact cr_gcd pins s σ H _ us Q I r ⟨_, _, rfl, q _ _ F H wd.refl (res_d (.int _)) g⟩
  · exact g.elim
def cList : GC := fun us P => one us fun u => rd u fun x => match x with
  | .list xs => P (.fr xs)
  | .tuple xs => P (.fr xs)
  | _ => False
/-! isinstance -/
def tyN : PyData → String
  | .none => "NoneType"
  | .bool _ => "bool"
  | .int _ => "int"
  | .str _ => "str"
  | .list _ => "list"
  | .tuple _ => "tuple"
  | .dict _ => "dict"
/-- an object of a class of the module -/
def isOb : PyData → Bool
  | .dict ((.none, _) :: _) => true
  | .dict ((.bool _, _) :: _) => true
  | _ => false
theorem dct_isOb {K : PySem.W.Frag} {F : Hp} {kvs : List (Key × V)} {ks xs : List PyData} (r : RpA K F (kvs.map fun p => kV p.1) ks) : isOb (.dict (ks.zip xs)) = false := by
  match kvs, ks, xs, r with
  | [], _, _, .nil => rfl
  | (k, v) :: _, x :: _, y :: _, .cons a _ =>
    cases x with
    | none => cases k <;> cases a
    | bool => cases k <;> cases a
    | _ => rfl
  | _ :: _, _ :: _, [], _ => rfl
def isA (n : String) : PyData → Bool
  | .none => n == "NoneType"
  | .bool _ => n == "bool" || n == "int"
  | .int _ => n == "int"
  | .str _ => n == "str"
  | .list _ => n == "list"
  | .tuple _ => n == "tuple"
  | .dict kvs => n == "dict" && !isOb (.dict kvs)
def cIsi (n : String) : GC := fun us P => two us fun u z => rd u fun x => match z with
  | .raw (.ty m) => m = n ∧ P (.d (.bool (isA n x)))
  | _ => False
theorem kit_all {n : String} (hn : n = "int" ∨ n = "bool" ∨ n = "str" ∨ n = "list" ∨ n = "tuple" ∨ n = "dict") (x : PyData) (hx : isOb x = false) : kitB (tyN x) n = some (isA n x) := by
  rcases hn with rfl | rfl | rfl | rfl | rfl | rfl <;> cases x <;> (simp only [tyN, isA, hx, Bool.not_false, Bool.and_true]; decide +kernel)
def isEx : PyData → Bool
  | .dict ((.bool _, _) :: _) => true
  | _ => false
theorem ty_isa {K : PySem.W.Frag} {b : Bg} {F H : Hp} {v : V} {x : PyData} {n : String} (hn : n = "int" ∨ n = "bool" ∨ n = "str" ∨ n = "list" ∨ n = "tuple" ∨ n = "dict") (s : Same F H) (h : Rr K b F H v x) (ne : isEx x = false) : ∃ t, TyX K H v t ∧ PySem.W.kitOne K t (.type n) = some (isA n x) := by
  cases x with
  | none => cases h.non; exact ⟨_, .base .non, kit_ty (kit_all hn .none rfl)⟩
  | bool c => cases h.bl; exact ⟨_, .base (.bl _), kit_ty (kit_all hn (.bool c) rfl)⟩
  | int c => cases h.int; exact ⟨_, .base (.int _), kit_ty (kit_all hn (.int c) rfl)⟩
  | str c => cases h.str; exact ⟨_, .base (.str _), kit_ty (kit_all hn (.str c) rfl)⟩
  | list xs => obtain ⟨l, vs, rfl, e, r⟩ := h.lst s; exact ⟨_, .base (.lst e), kit_ty (kit_all hn (.list xs) rfl)⟩
  | tuple xs =>
    obtain ⟨l, vs, rfl, e, r⟩ := h.tup s
    refine ⟨_, ?_, kit_ty (kit_all hn (.tuple xs) rfl)⟩
    rcases e with (e | ⟨o, e⟩) | ⟨o, its, n, e, c, _⟩
    · exact .base (.tup e)
    · exact .fTuple e
    · exact .kTuple e c
  | dict kvs =>
    generalize e : PyData.dict kvs = z at h
    cases h with
    | d h =>
      cases h with
      | dct h r q => exact ⟨_, .base (.dK (s _ _ h)), kit_ty (kit_all hn _ (dct_isOb r))⟩
      | obj h hc _ _ r =>
        refine ⟨_, .base (.ins (s _ _ h) hc.cls hc.ha hc.hn hc.ht hc.hm), ?_⟩
        rw [hc.kit n hn]
        simp only [isA, obD, isOb, Bool.not_true, Bool.and_false]
      | exc => rw [e] at ne; cases ne
      | _ => cases e
    | o => cases e
/-- what an exception is, where it is known -/
theorem ex_of {K : PySem.W.Frag} {F : Hp} {v : V} {x : PyData} (h : Rp K F v x) (hx : isEx x = true) : ∃ a C d fs c vs ds, v = .ref a ∧ x = exD c ds ∧ F a = some (ExK C d a) ∧ XFd F d fs ∧ ExB K c C ∧ ds.map (fun p => fs.lookup p.1) = vs.map some ∧ RpA K F vs (ds.map Prod.snd) := by
  cases h with
  | @dct a kvs ks xs h r q =>
    exfalso
    have z := dct_isOb (xs := xs) r
    cases hz : ks.zip xs with
    | nil => rw [hz] at hx; cases hx
    | cons p l =>
      rw [hz] at z hx
      obtain ⟨p1, p2⟩ := p
      cases p1 with
      | bool => cases z
      | _ => cases hx
  | exc h hd hc hn r => exact ⟨_, _, _, _, _, _, _, rfl, rfl, h, hd, hc, hn, r⟩
  | _ => cases hx
theorem XFd.up {F F' : Hp} {d : Option Addr} {fs : List (Str × V)} (e : Same F F') (h : XFd F d fs) : XFd F' d fs := h.imp id fun ⟨dd, e1, e2⟩ => ⟨dd, e1, e _ _ e2⟩
theorem Rr.rp_ex {K : PySem.W.Frag} {b : Bg} {F H : Hp} {v : V} {x : PyData} (h : Rr K b F H v x) (hx : isEx x = true) : Rp K F v x := by
  cases h with
  | d h => exact h
  | o => cases hx
/-- a kept exception's object in the heap -/
theorem ex_inst {pins : List (Addr × Obj)} {σ : L2.St} {H : Hp} {s : Shared} {a C : Addr} {d : Option Addr} {fs : List (Str × V)} (I : Inv X pins σ H s) (h : H a = some (ExK C d a)) (hd : XFd H d fs) : ∃ oe od, PySem.W.InstAt s.heap a oe C od ∧ Zc (.ref C) d oe ∧ (∃ vs, oe.data = .fields vs) := by
  obtain ⟨⟨oe, vs, e, z, f⟩, _, _⟩ := (show ObjOk X.prog X.w H s.heap a (ExK C d a) from I.hok a _ h)
  rcases hd with ⟨rfl, _⟩ | ⟨dd, rfl, hdd⟩
  · exact ⟨oe, none, ⟨e, z.1, by unfold PySem.W.notCls; rw [f] <;> rfl, by rw [z.2]; exact trivial⟩, z, vs, f⟩
  · obtain ⟨mA, hns, hr⟩ := (show ObjOk X.prog X.w H s.heap dd (.xd fs) from I.hok dd _ hdd)
    obtain ⟨od, ho, hl⟩ := lookIn_ns hns
    exact ⟨oe, some od, ⟨e, z.1, by unfold PySem.W.notCls; rw [f] <;> rfl, by rw [z.2]; exact ho⟩, z, vs, f⟩
/-- isinstance(x, c), x a kept exception -/
theorem ex_isi {pins : List (Addr × Obj)} {σ : L2.St} {H : Hp} {s : Shared} {a C : Addr} {d : Option Addr} {fs : List (Str × V)} {c : Str} {cv : Value} {b : Bool} {Q E : Value → Shared → Prop} (I : Inv X pins σ H s) (h : H a = some (ExK C d a)) (hd : XFd H d fs) (hc : ExB X.K c C) (e : PySem.W.kitOne X.K (.ref C) cv = some b)
    (q : ∀ tk, Q (.bool b) { s with toks := tk }) : wpAny (model X.prog X.w) X.A (call (.builtin "isinstance") [.ref a, cv]) Q E s := by
  obtain ⟨oe, od, J, _⟩ := ex_inst I h hd
  have T := hc.T
  have hcl : (PySem.W.clsIn X.K C).isSome = true := by
    obtain ⟨cd, hc, _⟩ := PySem.W.any_some T.hd
    rw [hc]; rfl
  exact PySem.W.kia_one (PySem.W.kitx_exc hcl T.hg T.hk T.hs T.ha T.hn T.ht T.hm) I.kIn J e (fun z => nomatch z) fun tk => q tk
theorem k_isi {n : String} (hn : n = "int" ∨ n = "bool" ∨ n = "str" ∨ n = "list" ∨ n = "tuple" ∨ n = "dict") : CallR X (.builtin "isinstance") (lC X.K w.b (cIsi n)) := by
  intro pins s σ H vs us Q I r h
  obtain ⟨F, dvs, P, wd, ar, g, q⟩ := h
  obtain ⟨u, z, v1, v2, rfl, a1, a2, g⟩ := two_ok ar g
  obtain ⟨x, hx, g⟩ := arr_rr a1 g
  split at g
  · obtain ⟨e, g⟩ := g
    subst e
    cases (show v2 = V.ty _ from a2)
    cases he : isEx x with
    | true =>
      obtain ⟨a, C, d, fs, c, vs, ds, rfl, rfl, ha, hd, hc, _⟩ := ex_of (Rr.rp_ex hx he) he
      obtain ⟨u1, u2, rfl, r1, r2⟩ := vals2 r
      cases (show u1 = Value.ref a from r1)
      cases (show u2 = Value.type _ from r2)
      exact ex_isi I (wd.sub _ _ ha) (hd.up wd.sub) hc (hc.kit _ hn) fun tk => ⟨.bl false, H, I.tok tk, rfl, q (.d (.bool false)) (.bl false) F H wd.refl (res_d (.bl _)) (by simpa only [isA, exD, isOb, Bool.not_true, Bool.and_false] using g)⟩
    | false =>
    obtain ⟨t, ty, kt⟩ := ty_isa hn wd.sub hx he
    exact call_isi pins s σ H _ us Q I r ⟨v1, .ty _, _, _, _, rfl, .ty _, ty, kt, q _ _ F H wd.refl (res_d (.bl _)) g⟩
  · exact g.elim
end
/-! ### calls of the text's own defs -/
def Fg (P : Program) (w : World) (K : PySem.W.Frag) (mg : Str → Option Value) (base : Heap) (CX : CXT) (k : Nat) (f : Addr) (sp : Sp) : Prop :=
  ∀ (A : Around) (outer : List Env) (s : Shared) (H : Hp) (us : List Value) (vs : List V) (Q : VK) (E : XK), A.guards = some [] → Room k A → Env0 P w K mg base A outer s H → Vals vs us → sp vs H Q E →
    codeAny (model P w) A (.call (.ref f) { pos := us, kw := [] }) (CR CX outer P w H s Q E) s
/-- a promise in the data's words -/
abbrev DSp := List DV → (DV → Prop) → Prop
def AgR (K : PySem.W.Frag) (b : Bg) (F : Hp) : DV → V → Prop
  | .d x, v => Rp K F v x
  | .raw u, v => v = u
  | .bag, v => v = .ref b.b
  | _, _ => False
def Pm (K : PySem.W.Frag) (ts : List Addr) (sp : DSp) : Sp := fun vs H Q _ => ∃ b F dvs P, b.ts = ts ∧ Wd K b F H ∧ Paired (AgR K b F) dvs vs ∧ sp dvs P ∧ ∀ dv v F' H', Stp K b F H F' H' → Res K b H F' H' dv v → P dv → Q v H'
def dat : DV → DV
  | .ow _ xs => .d (.list xs)
  | .tr _ _ x => .d x
  | x => x
def owA : DV → List Addr
  | .ow l _ => [l]
  | .tr _ S _ => S
  | _ => []
def anyOw (us : List DV) : List Addr := us.flatMap owA
def okR (us : List DV) (r : DV) : Prop := anyOw us = [] ∨ match r with
  | .d x => noL x = true
  | .ft _ => True
  | _ => False
def tUse (sp : DSp) (t : DA) : DT := fun env P => t env fun us => sp (us.map dat) fun r => okR us r ∧ P r
section
variable {K : PySem.W.Frag} {b : Bg} {F H F' H' : Hp}
def shut (ls : List Addr) (F : Hp) : Hp := fun a => if a ∈ ls then none else F a
theorem args_open {dvs : List DV} {vs : List V} (r : Paired (ArR K b F H) dvs vs) : ∀ l ∈ anyOw dvs, F l = none ∧ l ≠ b.b ∧ ∃ o, H l = some o ∧ isM o = true := by
  induction r with
  | nil => intro l hl; cases hl
  | @cons dv v dvs vs a t ih =>
    intro l hl
    rcases List.mem_append.mp (show l ∈ owA dv ++ anyOw dvs from hl) with h | h
    · cases dv with
      | ow m xs =>
        obtain rfl : l = m := by simpa [owA] using h
        obtain ⟨_, hf, ne, ws, e, _⟩ := a
        exact ⟨hf, ne, _, e, rfl⟩
      | tr p S x =>
        have h : l ∈ S := h
        exact ⟨(a.1 l h).1, (a.1 l h).2, a.2.there l h⟩
      | ft x => simp [owA] at h
      | d x => simp [owA] at h
      | fr xs => simp [owA] at h
      | raw v => simp [owA] at h
      | bag => simp [owA] at h
    · exact ih l h
theorem args_dat {ls : List Addr} {dvs : List DV} {vs : List V} (r : Paired (ArR K b F H) dvs vs) (hs : Same F (opn ls F H)) (hl : ∀ l ∈ anyOw dvs, l ∈ ls) : Paired (AgR K b (opn ls F H)) (dvs.map dat) vs := by
  induction r with
  | nil => exact .nil
  | @cons dv v dvs vs a t ih =>
    refine .cons ?_ (ih fun l h => hl l (List.mem_append.mpr (.inr h)))
    cases dv with
    | d x => exact Rp.up hs a
    | raw u => exact a
    | bag => exact a
    | fr xs => exact a.elim
    | ow l xs =>
      obtain ⟨rfl, hf, ne, ws, e, q⟩ := a
      have : l ∈ ls := hl l (List.mem_append.mpr (.inl (by simp [owA])))
      refine Rp.lst ?_ (q.up hs)
      unfold opn
      rw [if_pos this]
      exact e
    | ft x => exact a.elim
    | tr p S x => exact a.2.open hs fun l m => hl l (List.mem_append.mpr (.inl m))
end
section
variable {K : PySem.W.Frag} {b : Bg} {F1 H1 F2 H2 : Hp} {ls : List Addr}
/-- behind a call: what was opened for it is shut again -/
theorem shut_ok (wd : Wd K b F1 H1) (op : ∀ l ∈ ls, F1 l = none ∧ l ≠ b.b ∧ ∃ o, H1 l = some o ∧ isM o = true) (s2 : Stp K b (opn ls F1 H1) H1 F2 H2) : Stp K b F1 H1 (shut ls F2) H2 ∧ ∀ a o, isM o = false → F2 a = some o → shut ls F2 a = some o := by
  have hs : Same F1 (opn ls F1 H1) := opn_same fun l hl => (op l hl).1
  refine ⟨⟨s2.keep, ⟨s2.bag.1, ?_, s2.bag.2.2.1, fun t m => ⟨by unfold shut; split; exact rfl; exact (s2.bag.2.2.2 t m).1, (s2.bag.2.2.2 t m).2⟩⟩, fun a o z => ?_, fun a o z => ?_, ?_, fun a z1 z2 => ?_, s2.tab⟩, fun a o hm z => ?_⟩
  · unfold shut
    rw [if_neg fun m => by have := wd.bag.2.1; rw [(op _ m).1] at this; cases this]
    exact s2.bag.2.1
  · unfold shut
    rw [if_neg fun m => by rw [(op a m).1] at z; cases z]
    exact s2.ex a o (hs a o z)
  · unfold shut at z
    split at z
    · cases z
    · exact s2.sub _ _ z
  · unfold shut
    split
    · rfl
    · exact s2.fb
  · unfold shut
    split
    · rfl
    · next m =>
      refine s2.new a ?_ z2
      unfold opn
      rw [if_neg m]
      exact z1
  · unfold shut
    rw [if_neg fun m => ?_]
    · exact z
    · obtain ⟨_, ne, ws, el, mm⟩ := op a m
      have h3 := s2.keep a ws ne (isM_tbl mm) el
      rw [s2.sub _ _ z] at h3
      cases h3
      rw [hm] at mm
      cases mm
theorem opened (wd : Wd K b F1 H1) (op : ∀ l ∈ ls, F1 l = none ∧ l ≠ b.b ∧ ∃ o, H1 l = some o ∧ isM o = true) : Wd K b (opn ls F1 H1) H1 := by
  have hs : Same F1 (opn ls F1 H1) := opn_same fun l hl => (op l hl).1
  refine ⟨wd.bag.up hs rfl (fun t _ h1 h2 => ⟨by
    unfold opn
    rw [if_neg (fun m => by
      obtain ⟨ps, z, _⟩ := h2
      obtain ⟨_, _, o, e, mm⟩ := op t m
      rw [e] at z
      cases z
      cases mm)]
    exact h1, h2⟩), fun a o z => ?_, ?_⟩
  · unfold opn at z
    split at z
    · exact z
    · exact wd.sub _ _ z
  · unfold opn
    rw [if_neg fun z => (op _ z).2.1 rfl]
    exact wd.fb
/-- what a call tells, told where its arguments are shut again -/
theorem okR_shut {us : List DV} {dv : DV} {v : V} (ok : okR us dv) (ne : anyOw us ≠ []) (h : ∀ a o, isM o = false → F2 a = some o → shut ls F2 a = some o) (rs : Res K b H1 F2 H2 dv v) : Res K b H1 (shut ls F2) H2 dv v := by
  rcases ok with ok | ok
  · exact absurd ok ne
  · cases dv with
    | d x => exact noL_up h ok rs
    | ft x =>
      obtain ⟨S, nd, k, q⟩ := rs
      exact ⟨S, nd, fun a m => ⟨(k a m).1, by unfold shut; split; rfl; exact (k a m).2.1, (k a m).2.2⟩, q.shut h⟩
    | fr xs => exact ok.elim
    | ow l xs => exact ok.elim
    | tr p S x => exact ok.elim
    | raw u => exact ok.elim
    | bag => exact ok.elim
theorem opn_nil : opn [] F1 H1 = F1 := by
  funext a
  unfold opn
  rw [if_neg (by simp)]
end
section
variable {X : Cx} {w : Wn} {CX : CXT} {k : Nat} {f : Addr} {sp : Sp} {ds : DSp} {E : XK} {x : Str} {e : Expr} {es : List Expr} {p pos : Pos} {t : DA}
theorem run_g {pins : List (Addr × Obj)} {σ : L2.St} {H : Hp} {s : Shared} {Q : VK} {us : List Value} {vs : List V} (Fk : Fg X.prog X.w X.K X.mg X.base CX k f sp) (ag : X.A.guards = some []) (room : Room k X.A) (ps : Passes CX X E)
    (I : L2.Inv X pins σ H s) (rv : Vals vs us) (want : sp vs H Q E) : wpAny (model X.prog X.w) X.A (call (.ref f) us) (EP X pins σ Q) X.xe s := by
  refine wpAny_call (codeAny_mono (Fk X.A X.stack s H us vs Q E ag room I.env0 rv want) fun res s2 got => ?_)
  match res, got with
  | .error u, got => exact ps pins σ H s u s2 I got
  | .ok (.ret u), got => exact I.after got
theorem d_use {ts : List Addr} (Fk : Fg X.prog X.w X.K X.mg X.base CX k f (Pm X.K ts ds)) (ht : w.b.ts = ts) (ag : X.A.guards = some []) (room : Room k X.A) (ps : Passes CX X E) (gl : Gl X x) (gm : X.mg x = some (.ref f)) (kp : PySem.W.keepIn X.K (.ref f) = true)
    (ha : DPA X w (e :: es) t) (db : (x == ("__debug__" : Str)) = false := by decide) (s1 : starEach (e :: es) X.env = (false, eval e X.env) :: starEach es X.env := by rfl) (s2 : (backTo pos (starEach es X.env)).any (·.1) = false := by rfl) :
    DPE X w (.Call (.Name x p) (e :: es) [] pos) (tUse ds t) := by
  have base : PE X (.Call (.Name x p) (e :: es) [] pos) (fun σ H Q => lfA X.K w t σ H fun vs H1 => Pm X.K ts ds vs H1 Q E) := by
    refine ⟨fun pins s σ H Q I want => wpAny_Call_Name_kw (ld_glob I gl gm ?_ db)⟩
    refine PySem.W.callWith_K (h₀ := X.base) I.ok.mod.kin kp ?_ s1 s2
    exact thn (ha.run pos pins s σ H _ I want) fun us st ⟨vs, H1, I1, rv, q⟩ => ⟨I1.kIn, run_g Fk ag room ps I1 rv q⟩
  refine pe_weak base fun σ H Q ⟨env, F, P, r, h, q⟩ => ⟨env, F, _, r, h, fun dvs vs F1 H1 st ar h1 => ?_⟩
  have op := args_open ar
  have hs : Same F1 (opn (anyOw dvs) F1 H1) := opn_same fun l hl => (op l hl).1
  refine ⟨w.b, opn (anyOw dvs) F1 H1, _, _, ht, opened st.wd op, args_dat ar hs (fun l hl => hl), h1, fun dv v F2 H2 s2 rs ⟨ok, hp⟩ => ?_⟩
  by_cases em : anyOw dvs = []
  · rw [em, opn_nil] at s2
    exact q dv v F2 H2 (st.trans s2) (rs.early st) hp
  · obtain ⟨sh, kp⟩ := shut_ok st.wd op s2
    exact q dv v _ H2 (st.trans sh) ((okR_shut ok em kp rs).early st) hp
end
end Dl
namespace Dl
open PySem PySem.Spec PyProof.Rows L2
section
variable {K : PySem.W.Frag} {b : Bg} {F₀ H₀ F H F' H' : Hp} {env : List Sl} {σ : L2.St}
theorem slA_ok {s : Sl} {o : Option (Option V)} (h : SlOk K b H₀ F H s o) : ∀ a ∈ slA s, H₀ a = none ∧ F a = none ∧ a ≠ b.b ∧ ∃ o, H a = some o ∧ isM o = true := by
  intro a m
  cases s with
  | ow l xs =>
    obtain ⟨_, h0, hf, ne, vs, hl, _⟩ := h
    obtain rfl : a = l := by simpa [slA] using m
    exact ⟨h0, hf, ne, _, hl, rfl⟩
  | tr p S x =>
    obtain ⟨v, _, _, k, _, q⟩ := h
    have m : a ∈ S := m
    exact ⟨(k a m).1, (k a m).2.1, (k a m).2.2, q.there a m⟩
  | tv v S x =>
    obtain ⟨_, _, k, _, q⟩ := h
    have m : a ∈ S := m
    exact ⟨(k a m).1, (k a m).2.1, (k a m).2.2, q.there a m⟩
  | un => simp [slA] at m
  | d x => simp [slA] at m
  | raw x => simp [slA] at m
  | bag => simp [slA] at m
theorem own_set {i : Nat} {z : Sl} (own : ∀ (i j : Nat) (s t : Sl) (a : Addr), env[i]? = some s → env[j]? = some t → a ∈ slA s → a ∈ slA t → i = j) (ow : ∀ a, a ∈ slA z → ∀ j s, j ≠ i → env[j]? = some s → a ∉ slA s) :
    ∀ (j k : Nat) (s t : Sl) (a : Addr), (env.set i z)[j]? = some s → (env.set i z)[k]? = some t → a ∈ slA s → a ∈ slA t → j = k := by
  intro j k s t a h1 h2 m1 m2
  rw [List.getElem?_set] at h1 h2
  by_cases e1 : i = j
  · by_cases e2 : i = k
    · exact e1.symm.trans e2
    · rw [if_pos e1] at h1
      rw [if_neg e2] at h2
      split at h1
      · cases h1
        exact absurd m2 (ow a m1 k t (Ne.symm e2) h2)
      · cases h1
  · rw [if_neg e1] at h1
    by_cases e2 : i = k
    · rw [if_pos e2] at h2
      split at h2
      · cases h2
        exact absurd m1 (ow a m2 j s (Ne.symm e1) h1)
      · cases h2
    · rw [if_neg e2] at h2
      exact own j k s t a h1 h2 m1 m2
theorem Rel.put (r : Rel K b F₀ H₀ env σ F H) (i : Nat) {z : Sl} {v : V} (ok : SlOk K b H₀ F H z (some (some v))) (ow : ∀ a, a ∈ slA z → ∀ j s, j ≠ i → env[j]? = some s → a ∉ slA s) :
    Rel K b F₀ H₀ (env.set i z) (σ.set i (some v)) F H := by
  refine ⟨by rw [List.length_set, List.length_set]; exact r.len, r.st, fun j s e => ?_, own_set r.own ow⟩
  rw [List.getElem?_set] at e ⊢
  by_cases h : i = j
  · subst h
    rw [if_pos rfl] at e ⊢
    by_cases hl : i < env.length
    · rw [if_pos hl] at e
      rw [if_pos (by rw [r.len]; exact hl)]
      cases e
      exact ok
    · rw [if_neg hl] at e
      cases e
  · rw [if_neg h] at e ⊢
    exact r.at' j s e
end
/-! ### statements -/
def stD (i : Nat) : DV → List Sl → (List Sl → Prop) → Prop
  | .d x, env, k => k (env.set i (.d x))
  | .fr xs, env, k => ∀ l, k (env.set i (.ow l xs))
  | .raw v, env, k => k (env.set i (.raw v))
  | .bag, env, k => k (env.set i .bag)
  | .ft x, env, k => ∀ S, k (env.set i (.tr true S x))
  | .ow _ _, _, _ => False
  | .tr _ _ _, _, _ => False
section
variable {X : Cx} {w : Wn} {e : Expr} {te : DT} {pos : Pos} {st : Stmt} {rest : List Stmt} {t u : DS}
theorem st_ok {σ : L2.St} {F H F1 H1 : Hp} {env : List Sl} {i : Nat} {dv : DV} {v : V} {k : List Sl → Prop} (r : RelW X.K w env σ F H) (s : Stp X.K w.b F H F1 H1) (rs : Res X.K w.b H F1 H1 dv v) (h : stD i dv env k) :
    ∃ env', RelW X.K w env' (σ.set i (some v)) F1 H1 ∧ k env' := by
  cases dv with
  | d x => exact ⟨_, (r.step s).put i (z := .d x) ⟨v, rfl, rs⟩ (fun a m => by cases m), h⟩
  | raw u =>
    obtain rfl : v = u := rs
    exact ⟨_, (r.step s).put i (z := .raw v) rfl (fun a m => by cases m), h⟩
  | bag =>
    obtain rfl : v = .ref w.b.b := rs
    exact ⟨_, (r.step s).put i (z := .bag) rfl (fun a m => by cases m), h⟩
  | ow l xs => exact h.elim
  | fr xs =>
    obtain ⟨p, vs, rfl, h0, hf, ne, hp, q⟩ := rs
    refine ⟨_, (r.step s).put i (z := .ow p xs) ⟨rfl, r.st.back ne h0, hf, ne, vs, hp, q⟩ (fun a m j t nj ej m2 => ?_), h p⟩
    obtain rfl : a = p := by simpa [slA] using m
    obtain ⟨_, _, _, o, e5, _⟩ := slA_ok (r.at' j _ ej) a m2
    rw [h0] at e5
    cases e5
  | ft x =>
    obtain ⟨S, nd, k, q⟩ := rs
    refine ⟨_, (r.step s).put i (z := .tr true S x) ⟨v, rfl, nd, fun a m => ⟨r.st.back (k a m).2.2 (k a m).1, (k a m).2⟩, q.root, q⟩ (fun a m j t nj ej m2 => ?_), h S⟩
    obtain ⟨_, _, _, o, e5, _⟩ := slA_ok (r.at' j _ ej) a m2
    rw [(k a m).1] at e5
    cases e5
  | tr p S x => exact h.elim
def tSetD (i : Nat) (te : DT) : DS := fun d env => te env fun dv => stD i dv env d.nx
theorem ds_set {x : Str} {i : Nat} {pos' : Pos} (hN : X.N.Nodup) (hi : X.N[i]? = some x) (hx : Loc X.env.scope x) (he : DPE X w e te) (hs : swapsWith e (some (.Name x pos')) pos.line X.env = pure false := by rfl)
    (hf : X.fn x = true ∨ X.env.scope.names.lookup x = some .local := by first | exact .inl rfl | exact .inr rfl) : DPS X w (.Assign [.Name x pos'] e pos) (tSetD i te) :=
  ps_weak (ps_set hN hi hx he hs hf) fun D σ H ⟨env, F, d, r, h, fit⟩ => ⟨env, F, _, r, h, fun dv v F1 H1 s1 r1 h1 => by
    obtain ⟨env', r2, k⟩ := st_ok r s1 r1 h1
    exact fit.nx env' _ F1 H1 r2 s1.ex k⟩
def tSeqD (t u : DS) : DS := fun d env => t { d with nx := u d } env
theorem dss_nil : DPSs X w [] (fun d env => d.nx env) := pss_weak pss_nil fun D σ H ⟨env, F, d, r, h, fit⟩ => fit.nx env σ F H r sm0 h
theorem dss_one (h : DPS X w st t) : DPSs X w [st] t := pss_one h
theorem dss_cons (h1 : DPS X w st t) (h2 : DPSs X w rest u) : DPSs X w (st :: rest) (tSeqD t u) :=
  pss_weak (pss_cons h1 h2) fun D σ H ⟨env, F, d, r, h, fit⟩ => ⟨env, F, _, r, h, ⟨fun env' σ' F' H' r' sm h' => ⟨env', F', d, r', h', fit.up sm⟩, fit.bk, fit.ct, fit.rt⟩⟩
def tDropD (te : DT) : DS := fun d env => te env fun _ => d.nx env
theorem ds_expr (he : DPE X w e te) (hs : swapsWith e none pos.line X.env = pure false := by rfl) : DPS X w (.Expr e pos) (tDropD te) :=
  ps_weak (ps_expr he hs) fun D σ H ⟨env, F, d, r, h, fit⟩ => ⟨env, F, _, r, h, fun dv v F1 H1 s1 r1 h1 => fit.nx env _ F1 H1 (r.step s1) s1.ex h1⟩
def tRetD (te : DT) : DS := fun d env => te env fun dv => match dv with
  | .ow _ _ => False
  | .tr _ _ _ => False
  | x => d.rt x
theorem Res.since {K : PySem.W.Frag} {b : Bg} {F₀ H₀ F H F2 H2 : Hp} (s : Stp K b F₀ H₀ F H) {dv : DV} {v : V} (r : Res K b H F2 H2 dv v) : Res K b H₀ F2 H2 dv v := r.early s
theorem ds_ret (he : DPE X w e te) : DPS X w (.Return (some e) pos) (tRetD te) :=
  ps_weak (ps_ret he) fun D σ H ⟨env, F, d, r, h, fit⟩ => ⟨env, F, _, r, h, fun dv v F1 H1 s1 r1 h1 => by
    refine fit.rt dv v F1 H1 (r.st.trans s1) (r1.since r.st) ?_
    cases dv with
    | ow l xs => exact h1.elim
    | d x => exact h1
    | fr x => exact h1
    | ft x => exact h1
    | tr p S x => exact h1.elim
    | raw x => exact h1
    | bag => exact h1⟩
def tRetVD (i : Nat) : DS := fun d env => match env[i]? with
  | some (.ow _ xs) => d.rt (.fr xs)
  | some (.d x) => d.rt (.d x)
  | some (.raw v) => d.rt (.raw v)
  | _ => False
theorem ds_retV (i : Nat) {x : Str} {p : Pos} (hN : X.N[i]? = some x := by rfl) (hv : Vis X.env.scope x := by first | exact Or.inl rfl | exact Or.inr (Or.inl rfl) | exact Or.inr (Or.inr rfl)) (hd : (x == ("__debug__" : Str)) = false := by decide) (hc : (x == ("__classdict__" : Str)) = false := by decide) :
    DPS X w (.Return (some (.Name x p)) pos) (tRetVD i) :=
  ps_weak (ps_ret (pe_var hN hv hd hc)) fun D σ H ⟨env, F, d, r, h, fit⟩ => by
    unfold tRetVD at h
    split at h
    · next l xs e =>
      obtain ⟨e1, h0, hf, ne, vs, hl, q⟩ := r.at' i _ e
      exact ⟨_, e1, fit.rt (.fr xs) _ F H r.st ⟨l, vs, rfl, h0, hf, ne, hl, q⟩ h⟩
    · next x e =>
      obtain ⟨v, e1, r1⟩ := r.at' i _ e
      exact ⟨v, e1, fit.rt (.d x) v F H r.st r1 h⟩
    · next v e => exact ⟨v, r.at' i _ e, fit.rt (.raw v) v F H r.st rfl h⟩
    · exact h.elim
variable {c : Expr} {tc : DTT} {as bs : List Stmt}
def tIfD (c : DTT) (t u : DS) : DS := fun d env => c env fun k => if k = true then t d env else u d env
theorem ds_if (hc : DPT X w c tc) (ha : DPSs X w as t) (hb : DPSs X w bs u) : DPS X w (.If c as bs pos) (tIfD tc t u) :=
  ps_weak (ps_if hc ha hb) fun D σ H ⟨env, F, d, r, h, fit⟩ => ⟨env, F, _, r, h, fun k F1 H1 s1 h1 => by
    cases k with
    | true => exact ⟨env, F1, d, r.step s1, h1, fit.up s1.ex⟩
    | false => exact ⟨env, F1, d, r.step s1, h1, fit.up s1.ex⟩⟩
/-- an owned list becomes data for good, ahead of a statement -/
def frzS (i : Nat) (env : List Sl) : List Sl := match env[i]? with
  | some (.ow _ xs) => env.set i (.d (.list xs))
  | some (.tr _ _ x) => env.set i (.d x)
  | _ => env
theorem frz_rel {K : PySem.W.Frag} {w : Wn} {env : List Sl} {σ : L2.St} {F H : Hp} (i : Nat) (r : RelW K w env σ F H) : ∃ F2, RelW K w (frzS i env) σ F2 H ∧ Same F F2 := by
  unfold frzS
  split
  · next l xs e =>
    obtain ⟨e1, h0, hf, ne, vs, hl, q⟩ := r.at' i _ e
    have st := r.st.freeze h0 hf ne hl
    have up : Same F (upd F l (.lst vs)) := same_laid hf
    refine ⟨_, ⟨by rw [List.length_set]; exact r.len, st, fun j s h => ?_, own_set r.own fun a m => by cases m⟩, up⟩
    rw [List.getElem?_set] at h
    by_cases hj : i = j
    · subst hj
      rw [if_pos rfl] at h
      split at h
      · cases h
        exact ⟨_, e1, Rp.lst upd_same (q.up up)⟩
      · cases h
    · rw [if_neg hj] at h
      have old := r.at' j s h
      have apart : l ∉ slA s := fun m => hj (r.own i j _ _ l e h (by simp [slA]) m)
      cases s with
      | un => exact old
      | d x => obtain ⟨v, a1, a2⟩ := old; exact ⟨v, a1, a2.up up⟩
      | raw v => exact old
      | bag => exact old
      | ow m zs =>
        obtain ⟨e1, e2, e3, e4, ws, e5, e6⟩ := old
        have ml : m ≠ l := fun z => apart (by simp [slA, z])
        exact ⟨e1, e2, by rw [upd_ne ml]; exact e3, e4, ws, e5, e6.up up⟩
      | tr p S x =>
        obtain ⟨v, e1, nd, k, mr, q⟩ := old
        refine ⟨v, e1, nd, fun a m => ⟨(k a m).1, ?_, (k a m).2.2⟩, mr, q.up up fun _ _ _ z => z⟩
        rw [upd_ne (fun z => apart (show l ∈ S by rw [← z]; exact m))]
        exact (k a m).2.1
      | tv v S x =>
        obtain ⟨e1, nd, k, mr, q⟩ := old
        refine ⟨e1, nd, fun a m => ⟨(k a m).1, ?_, (k a m).2.2⟩, mr, q.up up fun _ _ _ z => z⟩
        rw [upd_ne (fun z => apart (show l ∈ S by rw [← z]; exact m))]
        exact (k a m).2.1
  · next p S x e =>
    obtain ⟨v, e1, nd, k, mr, q⟩ := r.at' i _ e
    have st := r.st.freezeT k q.there
    have up : Same F (opn S F H) := opn_same fun l m => (k l m).2.1
    refine ⟨_, ⟨by rw [List.length_set]; exact r.len, st, fun j s h => ?_, own_set r.own fun a m => by cases m⟩, up⟩
    rw [List.getElem?_set] at h
    by_cases hj : i = j
    · subst hj
      rw [if_pos rfl] at h
      split at h
      · cases h
        exact ⟨_, e1, q.open up fun _ m => m⟩
      · cases h
    · rw [if_neg hj] at h
      have old := r.at' j s h
      have apart : ∀ a ∈ S, a ∉ slA s := fun a m1 m2 => hj (r.own i j _ _ a e h m1 m2)
      have out : ∀ a ∈ slA s, F a = none → opn S F H a = none := fun a m h0 => by
        unfold opn
        rw [if_neg fun m2 => apart a m2 m]
        exact h0
      cases s with
      | un => exact old
      | d x => obtain ⟨v, a1, a2⟩ := old; exact ⟨v, a1, a2.up up⟩
      | raw v => exact old
      | bag => exact old
      | ow m zs =>
        obtain ⟨e1, e2, e3, e4, ws, e5, e6⟩ := old
        exact ⟨e1, e2, out m (by simp [slA]) e3, e4, ws, e5, e6.up up⟩
      | tr p' T y =>
        obtain ⟨v, e1, nd, k, mr, q⟩ := old
        exact ⟨v, e1, nd, fun a m => ⟨(k a m).1, out a m (k a m).2.1, (k a m).2.2⟩, mr, q.up up fun _ _ _ z => z⟩
      | tv v T y =>
        obtain ⟨e1, nd, k, mr, q⟩ := old
        exact ⟨e1, nd, fun a m => ⟨(k a m).1, out a m (k a m).2.1, (k a m).2.2⟩, mr, q.up up fun _ _ _ z => z⟩
  · exact ⟨F, r, sm0⟩
theorem ds_frz (i : Nat) (h : DPS X w st t) : DPS X w st (fun d env => t d (frzS i env)) := ps_weak h fun D σ H ⟨env, F, d, r, h, fit⟩ => by
  obtain ⟨F2, r2, sm⟩ := frz_rel i r
  exact ⟨_, F2, d, r2, h, fit.up sm⟩
/-- xs.append(e) -/
def tAppD (i : Nat) (te : DT) : DS := fun d env => match env[i]? with
  | some (.ow l xs) => xs.length < 100000 ∧ te env fun dv => match frz dv with
    | .d x => d.nx (env.set i (.ow l (xs ++ [x])))
    | _ => False
  | _ => False
/-- xs[i] = e, xs an owned list -/
def tSetI (i : Nat) (ti te : DT) : DS := fun d env => te env fun dv => match frz dv, env[i]? with
  | .d x, some (.ow l xs) => ti env fun k => rd k fun y => match y with
    | .int j => match ixN xs.length j with
      | some m => d.nx (env.set i (.ow l (xs.set m x)))
      | none => False
    | _ => False
  | _, _ => False
end
/-! ### loops -/
def forD (g : PyData → List Sl → (List Sl → Prop) → Prop) (tb : DS) (d : DK) : List PyData → List Sl → Prop
  | [], env => d.nx env
  | x :: xs, env => g x env fun e2 => tb { d with nx := forD g tb d xs, ct := forD g tb d xs, bk := d.nx } e2
def whD (tc : DTT) (tb : DS) (d : DK) : Nat → List Sl → Prop
  | 0, _ => False
  | n + 1, env => tc env fun k => if k = true then tb { d with nx := whD tc tb d n, ct := whD tc tb d n, bk := d.nx } env else d.nx env
abbrev DG := PyData → List Sl → (List Sl → Prop) → Prop
def lfG (K : PySem.W.Frag) (w : Wn) (g : DG) : TG := fun v σ H Q => ∃ env F x k, RelW K w env σ F H ∧ Rp K F v x ∧ g x env k ∧ ∀ env' σ' F' H', RelW K w env' σ' F' H' → Same F F' → k env' → Q σ' H'
/-- what is walked: J gives xs, one by one -/
structure Wlk (K : PySem.W.Frag) (b : Bg) (F : Hp) (J : It) (xs : List PyData) : Prop where
  ex : ∃ (G : Hp → Prop) (Y : Nat → Hp → V → Hp → Prop), Walk J xs.length G Y ∧ (∀ F' H', Same F F' → Wd K b F' H' → G H') ∧
    ∀ i F' H' v H2, Same F F' → Wd K b F' H' → Y i H' v H2 → ∃ F2 x, Stp K b F' H' F2 H2 ∧ xs[i]? = some x ∧ Rp K F2 v x
abbrev DIt := List Sl → (List PyData → Prop) → Prop
def lfI (K : PySem.W.Frag) (w : Wn) (t : DIt) : TI := fun σ H R => ∃ env F P, RelW K w env σ F H ∧ t env P ∧ ∀ xs J F' H', Stp K w.b F H F' H' → Wlk K w.b F' J xs → P xs → R J H'
section
variable {X : Cx} {w : Wn} {c e : Expr} {tc : DTT} {as : List Stmt} {pos : Pos} {tb : DS}
def tWhD (tc : DTT) (tb : DS) : DS := fun d env => ∃ n, whD tc tb d n env
theorem ds_while (hp : PassesOwn (model X.prog X.w) X.A X.env X.xe) (hc : DPT X w c tc) (hb : DPSs X w as tb) : DPS X w (.While c as [] pos) (tWhD tc tb) :=
  ps_weak (ps_while hp hc hb) fun D σ H ⟨env, F, d, r, ⟨n, h⟩, fit⟩ => by
    refine ⟨fun m σ H => ∃ env F', RelW X.K w env σ F' H ∧ Same F F' ∧ whD tc tb d m env, ⟨n, env, F, r, sm0, h⟩, ?_⟩
    rintro m σ H ⟨env, F2, r, sm, h⟩
    cases m with
    | zero => exact h.elim
    | succ m =>
      refine ⟨env, F2, _, r, h, fun k F1 H1 s1 h1 => ?_⟩
      cases k with
      | false => exact fit.nx env σ F1 H1 (r.step s1) (sm.trans s1.ex) h1
      | true =>
        refine ⟨fun σ' H' => ∃ env F', RelW X.K w env σ' F' H' ∧ Same F F' ∧ whD tc tb d m env, fun σ' H' h' => ⟨m, Nat.lt_succ_self m, h'⟩, env, F1, _, r.step s1, h1, ?_⟩
        have up := (fit.up sm).up s1.ex
        have sb := sm.trans s1.ex
        exact ⟨fun env' σ' F' H' r' sm' h' => ⟨env', F', r', sb.trans sm', h'⟩, up.nx, fun env' σ' F' H' r' sm' h' => ⟨env', F', r', sb.trans sm', h'⟩, fit.rt⟩
def tForD (g : DG) (ti : DIt) (tb : DS) : DS := fun d env => ti env fun xs => forD g tb d xs env
theorem ds_for {tg iter : Expr} {g : DG} {ti : DIt} (hp : PassesOwn (model X.prog X.w) X.A X.env X.xe) (hc : X.calm = true) (hi : PI X tg iter (lfI X.K w ti)) (hg : PG X tg (lfG X.K w g)) (hb : DPSs X w as tb)
    (hs : ∀ x, foldedSetIterable iter X.env x = pure x := by intro _; rfl) : DPS X w (.For tg iter as [] pos) (tForD g ti tb) :=
  ps_weak (ps_for hp hc hi hg hb hs) fun D σ H ⟨env, F, d, r, h, fit⟩ => by
    refine ⟨env, F, _, r, h, fun xs J F1 H1 s1 wl h1 => ?_⟩
    obtain ⟨G, Y, wk, hG, hY⟩ := wl.ex
    refine for_it wk (fun i σ H => ∃ env F, RelW X.K w env σ F H ∧ Same F1 F ∧ forD g tb d (xs.drop i) env) ⟨env, F1, r.step s1, fun _ _ z => z, h1⟩ (fun i σ H _ ⟨env, F, r, sm, _⟩ => hG F H sm r.wd) (fun i v σ H H' hi ⟨env, F, r, sm, hd⟩ y => ?_) fun σ H ⟨env, F, r, sm, hd⟩ => ?_
    · obtain ⟨F2, x, s2, ex, rx⟩ := hY i F H v H' sm r.wd y
      have e1 : xs.drop i = x :: xs.drop (i + 1) := by
        obtain ⟨hl, ex⟩ := List.getElem?_eq_some_iff.mp ex
        rw [List.drop_eq_getElem_cons hl, ex]
      rw [e1] at hd
      refine ⟨env, F2, x, _, r.step s2, rx, hd, fun env' σ' F' H'' r' sm' k' => ⟨env', F', _, r', k', ?_⟩⟩
      have sb : Same F1 F' := (sm.trans s2.ex).trans sm'
      have up := fit.up (s1.ex.trans sb)
      exact ⟨fun env' σ' F'' H' r' sm' h' => ⟨env', F'', r', sb.trans sm', h'⟩, up.nx, fun env' σ' F'' H' r' sm' h' => ⟨env', F'', r', sb.trans sm', h'⟩, fit.rt⟩
    · rw [List.drop_length] at hd
      exact fit.nx env σ F H r (s1.ex.trans sm) hd
end
end Dl
namespace Dl
open PySem PySem.Spec PyProof.Rows L2
/-! ### what is walked -/
section
variable {K : PySem.W.Frag} {b : Bg} {F : Hp}
theorem wlk_list {a : Addr} {vs : List V} {xs : List PyData} (h : F a = some (.lst vs)) (r : RpA K F vs xs) : Wlk K b F (Itl K a) xs :=
  ⟨⟨_, _, r.len ▸ walk_list (K := K) (a := a) (xs := vs), fun F' H' s w => SqL.of (w.sub _ _ (s _ _ h)), fun i F' H' v H2 s w y => by
    obtain ⟨rfl, e⟩ := y
    obtain ⟨x, e1, r1⟩ := r.getV e
    exact ⟨F', x, w.refl, e1, r1.up s⟩⟩⟩
theorem wlk_tup {a : Addr} {vs : List V} {xs : List PyData} (h : SqT K F a vs) (r : RpA K F vs xs) : Wlk K b F (Itt K a) xs :=
  ⟨⟨_, _, r.len ▸ walk_tup (K := K) (a := a) (xs := vs), fun F' H' s w => sqt_up w.sub (sqt_up s h), fun i F' H' v H2 s w y => by
    obtain ⟨rfl, e⟩ := y
    obtain ⟨x, e1, r1⟩ := r.getV e
    exact ⟨F', x, w.refl, e1, r1.up s⟩⟩⟩
def rngD (lo : Int) (n : Nat) : List PyData := (List.range n).map fun i => .int (lo + (i : Nat))
theorem rngD_len (lo : Int) (n : Nat) : (rngD lo n).length = n := by simp [rngD]
theorem wlk_rng {lo : Int} {n : Nat} : Wlk K b F (Itr lo n) (rngD lo n) :=
  ⟨⟨_, fun i H v H' => i < n ∧ H' = H ∧ v = .int (lo + i), ⟨fun i H hi _ => by rw [rngD_len] at hi; exact hi, fun H _ => by rw [rngD_len]; exact Nat.le_refl _, fun i H x H' hi _ y => by rw [rngD_len] at hi; exact ⟨hi, y⟩⟩, fun _ _ _ _ => True.intro, fun i F' H' v H2 s w y => by
    obtain ⟨hi, rfl, rfl⟩ := y
    refine ⟨F', .int (lo + i), w.refl, ?_, .int _⟩
    unfold rngD
    rw [List.getElem?_map, List.getElem?_range hi]
    rfl⟩⟩
def signsD (z : Str) : List PyData := z.cps.toList.map fun c => .str ⟨#[c]⟩
theorem pair_new {F' H' : Hp} (w : Wd K b F' H') {T : Addr} {x y : V} {dx dy : PyData} (hT : H' T = none) (rx : Rp K F' x dx) (ry : Rp K F' y dy) : ∃ F2, Stp K b F' H' F2 (upd H' T (.tup [x, y])) ∧ Rp K F2 (.ref T) (.tuple [dx, dy]) := by
  have st := w.laid (o := .tup [x, y]) hT
  exact ⟨_, st, Rp.tup (SqT.of upd_same) (.cons (rx.up st.ex) (.cons (ry.up st.ex) .nil))⟩
def enumD (xs : List PyData) : List PyData := xs.zipIdx.map fun p => .tuple [.int (p.2 : Nat), p.1]
theorem enumD_len (xs : List PyData) : (enumD xs).length = xs.length := by simp [enumD]
def zipD (xs ys : List PyData) : List PyData := (xs.zip ys).map fun p => .tuple [p.1, p.2]
end
section
variable {X : Cx} {w : Wn} {tg e : Expr} {te : DT} {ta : DA} {pos p : Pos}
theorem pi_weak {iter : Expr} {t u : TI} (h : PI X tg iter t) (i : ∀ σ H R, u σ H R → t σ H R) : PI X tg iter u := ⟨fun p s σ H R I q => h.run p s σ H R I (i σ H R q)⟩
def itLst (te : DT) : DIt := fun env P => te env fun dv => match frz dv with
  | .d (.list xs) => P xs
  | _ => False
def itTup (te : DT) : DIt := fun env P => te env fun dv => match frz dv with
  | .d (.tuple xs) => P xs
  | _ => False
def itStr (te : DT) : DIt := fun env P => te env fun dv => match frz dv with
  | .d (.str z) => P (signsD z)
  | _ => False
theorem di_list (he : DPE X w e te) : PI X tg e (lfI X.K w (itLst te)) := pi_weak (pi_list he) fun σ H R ⟨env, F, P, r, h, q⟩ => ⟨env, F, _, r, h, fun dv v F1 H1 s1 r1 h1 => by
  obtain ⟨F2, s2, a2⟩ := frz_ok s1 r1
  split at h1
  · next xs ex =>
    rw [ex] at a2
    cases (show Rp X.K F2 v (.list xs) from a2) with
    | lst e1 r2 => exact ⟨_, rfl, ⟨_, SqL.of (s2.sub _ _ e1)⟩, q xs _ F2 H1 s2 (wlk_list e1 r2) h1⟩
  · exact h1.elim⟩
theorem di_tup (he : DPE X w e te) : PI X tg e (lfI X.K w (itTup te)) := pi_weak (pi_tup he) fun σ H R ⟨env, F, P, r, h, q⟩ => ⟨env, F, _, r, h, fun dv v F1 H1 s1 r1 h1 => by
  obtain ⟨F2, s2, a2⟩ := frz_ok s1 r1
  split at h1
  · next xs ex =>
    rw [ex] at a2
    cases (show Rp X.K F2 v (.tuple xs) from a2) with
    | tup e1 r2 => exact ⟨_, rfl, ⟨_, sqt_up s2.sub e1⟩, q xs _ F2 H1 s2 (wlk_tup e1 r2) h1⟩
  · exact h1.elim⟩
def itR1 (ta : DA) : DIt := fun env P => ta env fun us => allD us fun xs => match xs with
  | [.int j] => (-1000000000 < j ∧ j < 1000000000) ∧ P (rngD 0 j.toNat)
  | _ => False
def itR2 (ta : DA) : DIt := fun env P => ta env fun us => allD us fun xs => match xs with
  | [.int i, .int j] => (-1000000000 < i ∧ i < 1000000000 ∧ -1000000000 < j ∧ j < 1000000000) ∧ P (rngD i (j - i).toNat)
  | _ => False
theorem di_r1 {a : Expr} (gl : Gl X "range") (gm : X.mg "range" = none) (ha : DPA X w [a] ta) (hs : starEach [a] X.env = [(false, eval a X.env)] := by rfl) : PI X tg (.Call (.Name "range" p) [a] [] pos) (lfI X.K w (itR1 ta)) :=
  pi_weak (pi_range1 gl gm ha hs) fun σ H R ⟨env, F, P, r, h, q⟩ => ⟨env, F, _, r, h, fun dvs vs F1 H1 s1 r1 h1 => by
    obtain ⟨xs, ra, h1⟩ := allD_ok r1 h1
    split at h1
    · next j =>
      cases ra with
      | cons a1 t =>
        cases t
        cases a1
        exact ⟨j, rfl, by omega, by omega, q _ _ F1 H1 s1 wlk_rng h1.2⟩
    · exact h1.elim⟩
def itEnum (ta : DA) : DIt := fun env P => ta env fun us => allD us fun xs => match xs with
  | [.list ys] => P (enumD ys)
  | _ => False
def itZip (ta : DA) : DIt := fun env P => ta env fun us => allD us fun xs => match xs with
  | [.list ys, .list zs] => P (zipD ys zs)
  | _ => False
end
/-! ### targets -/
section
variable {X : Cx} {w : Wn} {e : Expr} {te : DT} {pos : Pos}
theorem pg_weak {tg : Expr} {t u : TG} (h : PG X tg t) (i : ∀ v σ H Q, u v σ H Q → t v σ H Q) : PG X tg u := by
  obtain ⟨h1⟩ := h
  constructor
  intros
  first | exact h1 _ _ _ _ _ _ _ ‹_› ‹_› (i _ _ _ _ ‹_›) | exact h1 _ _ _ _ _ _ _ _ ‹_› ‹_› (i _ _ _ _ ‹_›)
def gnD (i : Nat) : DG := fun x env k => k (env.set i (.d x))
theorem dg_name {i : Nat} {x : Str} (hN : X.N.Nodup) (hi : X.N[i]? = some x) (hx : Loc X.env.scope x) (hf : X.fn x = true ∨ X.env.scope.names.lookup x = some .local := by first | exact .inl rfl | exact .inr rfl) : PG X (.Name x pos) (lfG X.K w (gnD i)) :=
  pg_weak (pg_name hN hi hx hf) fun v σ H Q ⟨env, F, x, k, r, rx, h, q⟩ => q _ _ F H (r.put i (z := .d x) ⟨v, rfl, rx⟩ (fun a m => by cases m)) sm0 h
abbrev DGs := List PyData → List Sl → (List Sl → Prop) → Prop
def gnilD : DGs := fun xs env k => xs = [] ∧ k env
def gconsD (g : DG) (gs : DGs) : DGs := fun xs env k => match xs with
  | x :: r => g x env fun e2 => gs r e2 k
  | [] => False
def lfGs (K : PySem.W.Frag) (w : Wn) (g : DGs) : TGs := fun vs σ H Q => ∃ env F xs k, RelW K w env σ F H ∧ RpA K F vs xs ∧ g xs env k ∧ ∀ env' σ' F' H', RelW K w env' σ' F' H' → Same F F' → k env' → Q σ' H'
theorem pgs_weak {tg : List Expr} {t u : TGs} (h : PGs X tg t) (i : ∀ v σ H Q, u v σ H Q → t v σ H Q) : PGs X tg u := by
  obtain ⟨h1⟩ := h
  constructor
  intros
  first | exact h1 _ _ _ _ _ _ _ ‹_› ‹_› (i _ _ _ _ ‹_›) | exact h1 _ _ _ _ _ _ _ _ ‹_› ‹_› (i _ _ _ _ ‹_›)
theorem dgs_nil : PGs X [] (lfGs X.K w gnilD) := pgs_weak pgs_nil fun v σ H Q ⟨env, F, xs, k, r, rx, h, q⟩ => by
  obtain ⟨rfl, h⟩ := h
  cases rx
  exact ⟨rfl, q _ _ F H r sm0 h⟩
theorem dgs_cons {a : Expr} {as : List Expr} {g : DG} {gs : DGs} (h1 : PG X a (lfG X.K w g)) (h2 : PGs X as (lfGs X.K w gs)) (hs : (assignEach (a :: as) X.env).map (fun x => x.snd) = assign a X.env :: (assignEach as X.env).map (fun x => x.snd) := by rfl) : PGs X (a :: as) (lfGs X.K w (gconsD g gs)) :=
  pgs_weak (pgs_cons h1 h2 hs) fun v σ H Q ⟨env, F, xs, k, r, rx, h, q⟩ => by
    cases rx with
    | nil => exact h.elim
    | cons a1 t => exact ⟨_, _, rfl, env, F, _, _, r, a1, h, fun e2 σ2 F2 H2 r2 s2 h2 => ⟨e2, F2, _, k, r2, t.up s2, h2, fun e3 σ3 F3 H3 r3 s3 h3 => q e3 σ3 F3 H3 r3 (s2.trans s3) h3⟩⟩
def gtD (n : Nat) (gs : DGs) : DG := fun x env k => match x with
  | .tuple xs => xs.length = n ∧ gs xs env k
  | _ => False
theorem dg_tup {es : List Expr} {k n : Nat} {gs : DGs} (hc : X.calm = true) (h : PGs X es (lfGs X.K w gs)) (hn : (assignEach es X.env).length = n := by rfl) (hst : (assignEach es X.env).findIdx? (fun x => x.fst) = none := by rfl) : PG X (.Tuple es k pos) (lfG X.K w (gtD n gs)) := by
  refine pg_weak (pg_tup hc h hn hst) fun v σ H Q ⟨env, F, x, k, r, rx, h, q⟩ => ?_
  cases x with
  | tuple xs =>
    cases rx with
    | tup e1 r1 => exact ⟨_, _, rfl, sqt_up r.st.sub e1, by rw [r1.len]; exact h.1, env, F, xs, k, r, r1, h.2, q⟩
  | _ => exact h.elim
/-- target = e -/
def tAsgD (te : DT) (g : DG) : DS := fun d env => te env fun dv => match frz dv with
  | .d x => g x env d.nx
  | _ => False
theorem ds_asg {tg : Expr} {g : DG} (he : DPE X w e te) (hg : PG X tg (lfG X.K w g)) (hs : swapsWithSole [tg] e pos.line X.env = pure false := by rfl) (hw : swappedStores [tg] e X.env = pure none := by rfl) (h1 : (assignEach [tg] X.env).map (fun x => x.snd) = [assign tg X.env] := by rfl) : DPS X w (.Assign [tg] e pos) (tAsgD te g) :=
  ps_weak (ps_asg he hg hs hw h1) fun D σ H ⟨env, F, d, r, h, fit⟩ => ⟨env, F, _, r, h, fun dv v F1 H1 s1 r1 h1 => by
    obtain ⟨F2, s2, a2⟩ := frz_ok s1 r1
    split at h1
    · next x ex =>
      rw [ex] at a2
      exact ⟨env, F2, x, _, r.step s2, a2, h1, fun e3 σ3 F3 H3 r3 s3 h3 => fit.nx e3 σ3 F3 H3 r3 (s2.ex.trans s3) h3⟩
    · exact h1.elim⟩
def tParD (i j : Nat) (ta : DA) : DS := fun d env => ta env fun us => allD us fun xs => match xs with
  | [x, y] => d.nx ((env.set i (.d x)).set j (.d y))
  | _ => False
theorem ds_par {i j : Nat} {x y : Str} {a c : Expr} {ta : DA} {px py pt : Pos} {kt k2 pt2} (hc : X.calm = true) (hN : X.N.Nodup) (hi : X.N[i]? = some x) (hj : X.N[j]? = some y) (hij : i ≠ j)
    (hx : X.env.scope.names.lookup x = some .local) (hy : X.env.scope.names.lookup y = some .local) (ha : DPA X w [a, c] ta)
    (base : PS X (.Assign [.Tuple [.Name x px, .Name y py] kt pt] (.Tuple [a, c] k2 pt2) pos) (tPar i j (lfA X.K w ta))) :
    DPS X w (.Assign [.Tuple [.Name x px, .Name y py] kt pt] (.Tuple [a, c] k2 pt2) pos) (tParD i j ta) :=
  ps_weak base fun D σ H ⟨env, F, d, r, h, fit⟩ => ⟨env, F, _, r, h, fun dvs vs F1 H1 s1 r1 h1 => by
    obtain ⟨xs, ra, h1⟩ := allD_ok r1 h1
    split at h1
    · next x y =>
      cases ra with
      | cons a1 t =>
        cases t with
        | cons a2 t =>
          cases t
          refine ⟨_, _, rfl, fit.nx _ _ F1 H1 ((((r.step s1).put i (z := .d x) ⟨_, rfl, a1⟩ ?_).put j (z := .d y) ⟨_, rfl, a2⟩ ?_)) s1.ex h1⟩
          · intro a m; cases m
          · intro a m; cases m
    · exact h1.elim⟩
def tAugI (i : Nat) (f : Int → Int → Int) (te : DT) : DS := fun d env => match env[i]? with
  | some (.d (.int x)) => te env fun dv => match dv with
    | .d (.int y) => d.nx (env.set i (.d (.int (f x y))))
    | _ => False
  | _ => False
end
/-! ### defs -/
def toSl : DV → Sl
  | .d x => .d x
  | .raw v => .raw v
  | .bag => .bag
  | _ => .un
def startD (N : List Str) (dvs : List DV) : List Sl := dvs.map toSl ++ List.replicate (N.length - dvs.length) .un
section
variable {K : PySem.W.Frag} {b : Bg} {F H : Hp}
theorem agr_get {i : Nat} {x : DV} : ∀ {dvs : List DV} {vs : List V} {i : Nat} {x : DV}, Paired (AgR K b F) dvs vs → dvs[i]? = some x → ∃ v, vs[i]? = some v ∧ AgR K b F x v
  | _, _, _, _, .nil, e => by simp at e
  | _, _, 0, _, .cons h _, e => by simp at e; subst e; exact ⟨_, rfl, h⟩
  | _, _, i + 1, x, .cons _ t, e => by
    obtain ⟨v, h1, h2⟩ := agr_get (i := i) (x := x) t (by simpa using e)
    exact ⟨v, by simpa using h1, h2⟩
theorem rel_start {N : List Str} {dvs : List DV} {vs : List V} (w : Wd K b F H) (r : Paired (AgR K b F) dvs vs) : Rel K b F H (startD N dvs) (start N vs) F H := by
  have hl : dvs.length = vs.length := Paired.length r
  refine ⟨by simp [L2.start, startD, hl], w.refl, fun i s e => ?_, fun i j s t a e1 _ m _ => ?_⟩
  · unfold startD at e
    unfold L2.start
    by_cases hi : i < dvs.length
    · rw [List.getElem?_append_left (by simpa using hi), List.getElem?_map] at e
      rw [List.getElem?_append_left (by simpa [← hl] using hi), List.getElem?_map]
      cases ed : dvs[i]? with
      | none => rw [ed] at e; cases e
      | some x =>
        rw [ed] at e
        obtain ⟨v, ev, a⟩ := agr_get (i := i) (x := x) r ed
        rw [ev]
        cases e
        cases x with
        | d x => exact ⟨v, rfl, a⟩
        | raw u => exact congrArg (fun z => some (some z)) a
        | bag => exact congrArg (fun z => some (some z)) a
        | fr xs => exact True.intro
        | ow l xs => exact True.intro
        | ft x => exact True.intro
        | tr p S x => exact True.intro
    · rw [List.getElem?_append_right (by simpa using hi), List.getElem?_replicate] at e
      split at e
      · cases e; exact True.intro
      · cases e
  · exfalso
    unfold startD at e1
    by_cases hi : i < dvs.length
    · rw [List.getElem?_append_left (by simpa using hi), List.getElem?_map] at e1
      cases ed : dvs[i]? with
      | none => rw [ed] at e1; cases e1
      | some x => rw [ed] at e1; cases x <;> cases e1 <;> cases m
    · rw [List.getElem?_append_right (by simpa using hi), List.getElem?_replicate] at e1
      split at e1 <;> cases e1
      cases m
end
section
variable {P : Program} {w : World} {K : PySem.W.Frag} {mg : Str → Option Value} {base : Heap} {CX : CXT} {k : Nat} {f : Addr} {fd : FuncData}
theorem guards_in {A : Around} (h : A.guards = some []) (env : Env) : (A.deeper env).guards = some [] := by
  first | exact h | (simp [Around.deeper, h]) | (unfold Around.deeper; exact h)
/-- THE RULE: a def's body, its reading, its promise -/
theorem d_def {ts : List Addr} {x qual : Str} {st : Stmt} {N ps : List Str} (Fn : L2.Fun K x qual st f fd) (S : FnScope N ps (defScope st))
    (hb : ∀ (kV doc pm : Value) (an : Option Addr) (cdv ct : Value) (us : List Value), us.length = ps.length → bindArgs (PySem.W.fnOf x qual (defArgs st) (defBody st) (defScope st) .none kV doc pm an cdv ct) { pos := us, kw := [] } = pure (ps.zip us))
    (sp : DSp) (t : DS)
    (hd : ∀ (cdv : Value) (A : Around) (outer : List Env) (s : Shared) (H : Hp) (E : XK) (wn : Wn), fd.code = cdv → wn.b.ts = ts → (A.deeper (envOfC qual (defScope st) s.heap.objs.size f cdv)).guards = some [] → Room k (A.deeper (envOfC qual (defScope st) s.heap.objs.size f cdv)) →
      DPSs (cxOf CX P w K mg base N qual (defScope st) f cdv A outer s H E).nox wn (defBody st) t)
    (hv : ∀ dvs Q, sp dvs Q → dvs.length = ps.length ∧ t { nx := fun _ => Q (.d .none), rt := Q } (startD N dvs)) : Fg P w K mg base CX (k + 1) f (Pm K ts sp) := by
  intro A outer s H us vs Q E ag room e0 rv want
  obtain ⟨b, F, dvs, R, ht, wd, ar, hsp, q⟩ := want
  obtain ⟨hlen, hread⟩ := hv dvs R hsp
  obtain ⟨oc, od, kV, doc, pm, an, cdv, ct, osl, rfl, lk, hcd⟩ := Fn.ex
  have hvl : vs.length = ps.length := (Paired.length ar).symm.trans hlen
  have hul : us.length = ps.length := rv.length.symm.trans hvl
  refine StX.run_bnd (N := N) (ps := ps) lk hcd S room e0 (G := fun xs H2 => xs = vs ∧ H2 = H) (fun A' Ex Q' h => ?_) fun s2 H2 xs g room2 => ?_
  · rw [hb kV doc pm an cdv ct us hul]
    exact wpAny_pure (h s H vs us e0 Un.refl rfl (fun _ _ z => z) rv hvl ⟨rfl, rfl⟩)
  · obtain ⟨rfl, rfl⟩ := g
    refine ⟨_, PSs.nox (hd cdv A outer s2 _ E ⟨b, F, _⟩ rfl ht (guards_in ag _) room2), startD N dvs, F, _, rel_start wd ar, hread, ?_⟩
    refine ⟨fun env σ F' H' r _ z => ?_, fun env σ F' H' r _ z => z, fun env σ F' H' r _ z => z, fun dv v F' H' st rs z => q dv v F' H' st rs z⟩
    exact q (.d .none) .non F' H' r.st Rp.non z
end
end Dl
namespace Dl
open PySem PySem.Spec PyProof.Rows L2
/-! ### list comprehensions -/
def lcD (g : PyData → List Sl → (List Sl → Prop) → Prop) (tt : DTT) (te : DT) (env : List Sl) : List PyData → List PyData → (DV → Prop) → Prop
  | [], acc, P => P (.fr acc)
  | x :: xs, acc, P => g x env fun e2 => tt e2 fun c => if c = true then te e2 fun dv => match frz dv with
      | .d y => acc.length < 100000 ∧ lcD g tt te env xs (acc ++ [y]) P
      | _ => False
    else lcD g tt te env xs acc P
/-- the target's names, as slots -/
def unS (env : List Sl) : List Nat → List Sl
  | [] => env
  | v :: vs => (unS env vs).set v .un
def tLcD (ti : DIt) (g : PyData → List Sl → (List Sl → Prop) → Prop) (tt : DTT) (te : DT) (vs : List Nat) : DT := fun env P => ti env fun xs => lcD g tt te (unS env vs) xs [] P
section
variable {K : PySem.W.Frag} {b : Bg} {F₀ H₀ F H F' H' : Hp} {env : List Sl} {σ : L2.St}
theorem Rel.forget (r : Rel K b F₀ H₀ env σ F H) (i : Nat) : Rel K b F₀ H₀ (env.set i .un) (σ.set i none) F H := by
  refine ⟨by rw [List.length_set, List.length_set]; exact r.len, r.st, fun j s e => ?_, own_set r.own fun a m => by cases m⟩
  rw [List.getElem?_set] at e ⊢
  by_cases h : i = j
  · rw [if_pos h] at e
    split at e
    · cases e; exact True.intro
    · cases e
  · rw [if_neg h] at e ⊢
    exact r.at' j s e
theorem Rel.forgets : ∀ (vs : List Nat) {env : List Sl} {σ : L2.St}, Rel K b F₀ H₀ env σ F H → Rel K b F₀ H₀ (unS env vs) (wipe σ vs) F H
  | [], _, _, r => r
  | v :: vs, _, _, r => (Rel.forgets vs r).forget v
end
/-- what the target does, and that it touches its own names alone -/
structure Tgt (K : PySem.W.Frag) (vs : List Nat) (g : PyData → List Sl → (List Sl → Prop) → Prop) (t : TG) : Prop where
  run : ∀ (b : Bg) (F₀ H₀ : Hp) (env : List Sl) (σ : L2.St) (F H : Hp) (v : V) (x : PyData) (k : List Sl → Prop) (Q : L2.St → Hp → Prop), Rel K b F₀ H₀ (unS env vs) (wipe σ vs) F H → Rp K F v x → g x (unS env vs) k →
    (∀ env' σ', Rel K b F₀ H₀ env' σ' F H → wipe σ' vs = wipe σ vs → k env' → Q σ' H) → t v (wipe σ vs) H Q
theorem tgt1 {K : PySem.W.Frag} (i : Nat) : Tgt K [i] (gnD i) (gName i) :=
  ⟨fun b F₀ H₀ env σ F H v x k Q r rx h q => q _ _ (r.put i (z := .d x) ⟨v, rfl, rx⟩ (fun a m => by cases m)) (by show ((σ.set i none).set i (some v)).set i none = σ.set i none; rw [List.set_set, List.set_set]) h⟩
section
variable {X : Cx} {w : Wn}
theorem pts_nilD : PTs X [] (lfT X.K w fun _ P => P true) := ⟨fun pins s σ H Q I ⟨env, F, P, r, h, q⟩ => pts_nil.run pins s σ H Q I (q true F H r.wd.refl h)⟩
theorem lc_go {ti : DIt} {g : PyData → List Sl → (List Sl → Prop) → Prop} {t : TG} {tt : DTT} {te : DT} {vs : List Nat} (tg' : Tgt X.K vs g t) {σ : L2.St} {H : Hp} {Q : VK} (h : lf X.K w (tLcD ti g tt te vs) σ H Q) : tLc (lfI X.K w ti) t (lfT X.K w tt) (lf X.K w te) vs σ H Q := by
  obtain ⟨env, F, P, r, h, q⟩ := h
  exact ⟨env, F, _, r, h, fun xs J F1 H1 s1 wl h1 D hD => by
    obtain ⟨G, Y, wk, hG, hY⟩ := wl.ex
    obtain ⟨us, eb⟩ := s1.bag.lst
    have Db : D ≠ w.b.b := fun e => by rw [e, eb] at hD; cases hD
    have F1D : F1 D = none := by
      cases e : F1 D with
      | none => rfl
      | some o => rw [s1.sub _ _ e] at hD; cases hD
    have r1 := (r.step s1).forgets vs
    refine lc_it wk (fun i H2 => ∃ F2 acc us, Stp X.K w.b F1 H1 F2 H2 ∧ H2 D = some (.lst us) ∧ RpA X.K F2 us acc ∧ F2 D = none ∧ lcD g tt te (unS env vs) (xs.drop i) acc P) ⟨F1, [], [], s1.wd.laidM hD, upd_same, .nil, F1D, h1⟩ (fun i H2 _ ⟨F2, acc, us, st, _⟩ => hG F2 H2 st.ex st.wd) (fun i v H2 H3 hi ⟨F2, acc, us, st, eD, ra, fD, hl⟩ y => ?_) fun H2 ⟨F2, acc, us, st, eD, ra, fD, hl⟩ => ?_
    · obtain ⟨F3, x, s3, ex, rx⟩ := hY i F2 H2 v H3 st.ex st.wd y
      have e1 : xs.drop i = x :: xs.drop (i + 1) := by
        obtain ⟨hl, ex⟩ := List.getElem?_eq_some_iff.mp ex
        rw [List.drop_eq_getElem_cons hl, ex]
      rw [e1] at hl
      have st3 := st.trans s3
      have eD3 := s3.keep D (.lst us) Db (by intro _ z; cases z) eD
      have fD3 : F3 D = none := s3.new D fD (by rw [eD]; exact fun z => nomatch z)
      refine tg'.run w.b w.F w.H env σ F3 H3 v x _ _ (r1.step st3) rx hl fun env' σ' r' wi hl => ⟨wi, env', F3, _, r', hl, fun c F4 H4 s4 h4 => ?_⟩
      have eD4 := s4.keep D (.lst us) Db (by intro _ z; cases z) eD3
      have fD4 : F4 D = none := s4.new D fD3 (by rw [eD3]; exact fun z => nomatch z)
      cases c with
      | false => exact ⟨F4, acc, us, st3.trans s4, eD4, (ra.up s3.ex).up s4.ex, fD4, h4⟩
      | true =>
        refine ⟨env', F4, _, r'.step s4, h4, fun dv v5 F5 H5 s5 r5 h5 => ?_⟩
        obtain ⟨F6, s6, a6⟩ := frz_ok s5 r5
        split at h5
        · next y ey =>
          rw [ey] at a6
          have eD6 := s6.keep D (.lst us) Db (by intro _ z; cases z) eD4
          have fD6 : F6 D = none := s6.new D fD4 (by rw [eD4]; exact fun z => nomatch z)
          have ra6 := ((ra.up s3.ex).up s4.ex).up s6.ex
          have st6 := (st3.trans s4).trans s6
          refine ⟨us, eD6, by rw [ra6.len]; exact lim_lt h5.1, F6, acc ++ [y], us ++ [v5], ⟨fun a o ne nt ha => ?_, st6.bag.up (fun _ _ h => h) (upd_ne (Ne.symm Db)) (fun t _ h1 h2 => ⟨h1, by obtain ⟨ps, z, k⟩ := h2; exact ⟨ps, by rw [upd_ne (fun e => by rw [e, eD6] at z; cases z)]; exact z, k⟩⟩), st6.ex, fun a o ha => ?_, st6.fb, st6.new, fun a ps ne ha => by
            obtain ⟨qs, h1, k⟩ := st6.tab a ps ne ha
            exact ⟨qs, by rw [upd_ne (ne_of_none ha hD)]; exact h1, k⟩⟩, upd_same, ra6.app (.cons a6 .nil), fD6, h5.2⟩
          · rw [upd_ne (ne_of_none ha hD)]
            exact st6.keep a o ne nt ha
          · rw [upd_ne (ne_of_none ha fD6)]
            exact st6.sub a o ha
        · exact h5.elim
    · rw [List.drop_length] at hl
      exact q (.fr acc) _ F2 H2 (s1.trans st) ⟨D, us, rfl, s1.back Db hD, fD, Db, eD, ra⟩ hl⟩
theorem d_lc {elt tg iter : Expr} {ifs : List Expr} {scope : Scope} {own : List (Str × Nat)} {pos : Pos} {ti : DIt} {g : PyData → List Sl → (List Sl → Prop) → Prop} {t : TG} {tt : DTT} {te : DT} (hc : X.calm = true) (hN : X.N.Nodup) (hi : PI X tg iter (lfI X.K w ti)) (ok : BlkOk X.N X.env.scope scope own)
    (tg' : Tgt X.K (own.map (·.2)) g t)
    (hg : ∀ (s : Shared) (H : Hp) (C : Addr) (cl : List (Str × Addr)) (fp : List Addr), PG (X.blk s H scope (compEnvC scope cl C X.env) fp) tg t) (ht : ∀ (s : Shared) (H : Hp) (C : Addr) (cl : List (Str × Addr)) (fp : List Addr), PTs (X.blk s H scope (compEnvC scope cl C X.env) fp) ifs (lfT X.K w tt))
    (he : ∀ (s : Shared) (H : Hp) (C : Addr) (cl : List (Str × Addr)) (fp : List Addr), PE (X.blk s H scope (compEnvC scope cl C X.env) fp) elt (lf X.K w te)) (hs : ∀ x, foldedSetIterable iter X.env x = pure x := by intro _; rfl) :
    DPE X w (.ListComp elt [⟨tg, iter, ifs, 0⟩] scope pos) (tLcD ti g tt te (own.map (·.2))) :=
  pe_weak (pe_lc hc hN hi ok hg ht he hs) fun _ _ _ h => lc_go tg' h
end
end Dl
namespace Dl
open PySem PySem.Spec PyProof.Rows L2
/-! ### a law's end: from the promise of its def -/
/-- cs: the codes of some defs, each with its table, still empty at the entry and no part of K -/
structure Tabs (K : PySem.W.Frag) (h : Heap) (cs : List (Addr × Addr)) : Prop where
  emp : ∀ p ∈ cs, h.get? p.2 = some (PySem.W.tabObj #[])
  head : ∀ p ∈ cs, PySem.W.CodeHd h p.1 p.2
  out : ∀ p ∈ cs, K.lookup p.2 = none
theorem tbl_ne_dict {es : Array DictEntry} {ep : Nat} {o : Obj} (h : o.data = .dict es ep) : o ≠ PySem.W.tabObj #[] := fun z => by rw [z] at h; cases h
theorem opening {P : Program} {w : World} {K : PySem.W.Frag} {mg mb : Str → Option Value} {a : Addr} {st : Shared} {vs : List Value} {ns : List Int} {cs : List (Addr × Addr)}
    (kin : K.In st.heap) (n1 : st.heap.Ns mainGlobals mg) (n2 : st.heap.Ns builtinsNs mb) (n3 : ∀ y : Str, y ≠ "__name__" → mb y = bootBuiltins y) (n4 : st.heap.NoLimit) (n5 : st.gens = #[])
    (hs : st.heap.get? a = some { cls := .type "list", data := .seq vs.toArray }) (iv : IntsAre vs ns) (sz : ns.length ≤ sizeLine)
    (T : Tabs K st.heap cs) (hbm : ∃ (bm : Addr) (ob : Obj), mg "__builtins__" = some (.ref bm) ∧ bm ≠ builtinsNs ∧ st.heap.get? bm = some ob ∧ ob.cls = .type "module" ∧ ob.dict = some builtinsNs ∧ ob.data = .plain) :
    ∃ (H : Hp) (base : Heap), SqL K H a (ns.map V.int) ∧ (∀ p ∈ cs, H p.2 = some (.tbl #[])) ∧ Env0 P w K mg base callerA [] st H ∧ K.In base ∧ base.Ns mainGlobals mg ∧ (∀ p ∈ cs, GxR.TabB base mg p.1 p.2) ∧
      ∀ (H' : Hp) (g : Heap), Un (frs []) [] H H' st.heap g → HOk P w H' g → OldK st.heap g := by
  have rel := vals_ints iv
  have cnt := iv.length
  -- tables aside, the script alone is tracked, if it is no object of the module
  have main : ∀ H : Hp, (∀ p ∈ cs, H p.2 = some (.tbl #[])) → SqL K H a (ns.map V.int) → HOk P w H st.heap → (∀ c u, H c = some u → (c = a ∧ K.lookup a = none ∧ ∃ ob xs, u = .frz ob (.lst xs)) ∨ (u = .tbl #[] ∧ ∃ p ∈ cs, p.2 = c)) →
      ∃ (H : Hp) (base : Heap), SqL K H a (ns.map V.int) ∧ (∀ p ∈ cs, H p.2 = some (.tbl #[])) ∧ Env0 P w K mg base callerA [] st H ∧ K.In base ∧ base.Ns mainGlobals mg ∧ (∀ p ∈ cs, GxR.TabB base mg p.1 p.2) ∧
      ∀ (H' : Hp) (g : Heap), Un (frs []) [] H H' st.heap g → HOk P w H' g → OldK st.heap g := by
    intro H tabs seq ok kind
    -- what is neither a list nor a table stays in the base
    have stay : ∀ {c : Addr} {o : Obj}, st.heap.get? c = some o → o.data ≠ .seq vs.toArray → o ≠ PySem.W.tabObj #[] → (hidT st.heap H).get? c = some o := fun {c o} e d1 d2 => hidT_get e (by
      cases q : H c with
      | none => rfl
      | some u =>
        rcases kind c u q with ⟨rfl, _⟩ | ⟨_, p, hp, rfl⟩
        · rw [hs] at e
          cases e
          exact (d1 rfl).elim
        · rw [T.emp p hp] at e
          cases e
          exact (d2 rfl).elim)
    have out : ∀ {c : Addr} {m : Str → Option Value}, st.heap.Ns c m → (hidT st.heap H).Ns c m := by
      rintro c m ⟨o, es, ep, e, d, rest⟩
      exact ⟨o, es, ep, stay e (fun z => by rw [d] at z; cases z) (tbl_ne_dict d), d, rest⟩
    have kb : K.In (hidT st.heap H) := by
      intro c o e
      refine hidT_get (kin c o e) ?_
      cases q : H c with
      | none => rfl
      | some u =>
        rcases kind c u q with ⟨rfl, no, _⟩ | ⟨_, p, hp, rfl⟩
        · rw [no] at e
          cases e
        · rw [T.out p hp] at e
          cases e
    obtain ⟨mc, c1, c2⟩ := n4
    have md : Mod K mg (hidT st.heap H) := ⟨kb, out n1, ⟨mb, out n2, n3⟩, ⟨mc, out c1, c2⟩⟩
    have isMain : ∀ {b : Addr} {o : Obj}, st.heap.get? b = some o → (∀ es ep, o.data ≠ .dict es ep) → b ≠ mainGlobals := fun {b o} e d z => by
      obtain ⟨o2, es, ep, e2, d2, _⟩ := n1
      rw [z, e2] at e
      cases e
      exact d es ep d2
    have tb : ∀ p ∈ cs, GxR.TabB (hidT st.heap H) mg p.1 p.2 := by
      intro p hp
      obtain ⟨o, us, file, tf, flags, tg, inF, text, tt, e1, e2, e3, rest⟩ := T.head p hp
      obtain ⟨bm, ob, b1, b2, b3, b4, b5, b6⟩ := hbm
      refine ⟨⟨o, us, file, tf, flags, tg, inF, text, tt, stay e1 (fun z => by rw [e3] at z; cases z) (fun z => by rw [z] at e2; cases e2), e2, e3, rest⟩, ⟨bm, ob, b1, b2, isMain b3 (fun es ep z => by rw [b6] at z; cases z), fun z => ?_, stay b3 (fun z => by rw [b6] at z; cases z) (fun z => by rw [z] at b4; cases b4), b4, b5, b6⟩, Ne.symm (isMain (T.emp p hp) fun es ep z => by cases z)⟩
      rw [z, T.emp p hp] at b3
      cases b3
      cases b4
    refine ⟨H, hidT st.heap H, seq, tabs, ⟨rfl, md, fun c o e => of_hidT e, Nat.le_of_eq (hidT_size _ _), True.intro, (fun c hc => by cases hc), ok, .of_eq n5⟩, kb, out n1, tb, fun H' g un ok' => ?_⟩
    have where' : ∀ c o, st.heap.get? c = some o → g.get? c = some o ∨ ∃ p ∈ cs, p.2 = c ∧ ∃ more : Array Value, g.get? c = some (PySem.W.tabObj more) := fun c o e => by
      cases q : H c with
      | none => exact .inl (un.keep c o e q (by intro z; cases z) (by intro z; cases z))
      | some u =>
        rcases kind c u q with ⟨rfl, _, ob, xs, rfl⟩ | ⟨rfl, p, hp, rfl⟩
        · obtain ⟨e1, _⟩ := ok _ _ q
          obtain ⟨e2, _⟩ := ok' _ _ (un.frzs _ ob _ q)
          rw [e] at e1
          cases e1
          exact .inl e2
        · obtain ⟨more, z⟩ := un.tbls p.2 #[] q
          exact .inr ⟨p, hp, rfl, _, ok' _ _ z⟩
    constructor
    · intro c o e
      rcases where' c o e with z | ⟨p, hp, rfl, more, z⟩
      · exact .inl z
      · rw [T.emp p hp] at e
        cases e
        exact .inr (.inl ⟨((T.head p hp).tab (T.emp p hp)).isCodeTable, rfl, #[], more, rfl, by rw [Array.empty_append]; exact z⟩)
    · intro c o e
      rcases where' c o e with z | ⟨_, _, _, _, z⟩
      · exact ⟨_, z⟩
      · exact ⟨_, z⟩
  have noA : ∀ p ∈ cs, p.2 ≠ a := fun p hp e => by
    have z := T.emp p hp
    rw [e, hs] at z
    have z2 : Data.seq vs.toArray _ = Data.fields #[] := congrArg Obj.data (Option.some.inj z)
    cases z2
  let H0 : Hp := fun c => if c ∈ cs.map Prod.snd then some (.tbl #[]) else none
  have h0 : ∀ p ∈ cs, H0 p.2 = some (.tbl #[]) := fun p hp => if_pos (List.mem_map_of_mem hp)
  have h1 : ∀ c u, H0 c = some u → u = .tbl #[] ∧ ∃ p ∈ cs, p.2 = c := fun c u z => by
    by_cases m : c ∈ cs.map Prod.snd
    · have e : H0 c = some (.tbl #[]) := if_pos m
      rw [e] at z
      exact ⟨(Option.some.inj z).symm, List.mem_map.mp m⟩
    · have e : H0 c = none := if_neg m
      rw [e] at z
      cases z
  have ok0 : ∀ c u, H0 c = some u → ObjOk P w H0 st.heap c u := fun c u z => by
    obtain ⟨rfl, p, hp, rfl⟩ := h1 c u z
    exact T.emp p hp
  cases look : K.lookup a with
  | some o =>
    have e := kin a o look
    rw [hs] at e
    cases e
    refine main H0 h0 (.inr ⟨_, vs.toArray, _, look, rfl, rfl, rfl, ?_, ?_⟩) ok0 fun c u z => .inr (h1 c u z)
    · rw [List.size_toArray, cnt]; exact sz
    · simpa using rel
  | none =>
    have at_a : upd H0 a (.frz { cls := .type "list", data := .seq vs.toArray } (.lst (ns.map V.int))) a = some (.frz { cls := .type "list", data := .seq vs.toArray } (.lst (ns.map V.int))) := upd_same
    refine main (upd H0 a (.frz { cls := .type "list", data := .seq vs.toArray } (.lst (ns.map V.int)))) (fun p hp => by rw [upd_ne (noA p hp)]; exact h0 p hp) (.inl (.inr ⟨_, at_a⟩)) (fun c u z => ?_) fun c u z => ?_
    · by_cases hc : c = a
      · rw [hc, upd_same] at z
        rw [hc]
        cases z
        exact ⟨hs, by rw [List.length_map]; exact sz, vs, _, rel, hs⟩
      · rw [upd_ne hc] at z
        obtain ⟨rfl, p, hp, rfl⟩ := h1 c u z
        exact T.emp p hp
    · by_cases hc : c = a
      · rw [hc, upd_same] at z
        cases z
        exact .inl ⟨hc, look, _, _, rfl⟩
      · rw [upd_ne hc] at z
        exact .inr (h1 c u z)
end Dl
namespace Dl
open PySem PySem.Spec PyProof.Rows L2
/-! ### and, or, not as values; is None; chains; slices; constants that are tuples -/
section
variable {X : Cx} {w : Wn} {a b c e : Expr} {ta tb tc te : DT} {pos : Pos} {rest : List Expr}
theorem passZ {P : Program} {wd : World} : Passes (L2.CX P wd) X E0 := fun _ _ _ _ _ _ _ h => by
  obtain ⟨_, _, _, _, _, _, _, _, _, _, _, _, z⟩ := h
  exact z.elim
def tAnV (ta tb : DT) : DT := fun env P => ta env fun u => rd u fun x => truOk x ∧ if truD x = true then tb env P else P u
def tOrV' (ta tb : DT) : DT := fun env P => ta env fun u => rd u fun x => truOk x ∧ if truD x = true then P u else tb env P
theorem d_and (ha : DPE X w a ta) (hb : DPE X w (.BoolOp .And (b :: rest) pos) tb) : DPE X w (.BoolOp .And (a :: b :: rest) pos) (tAnV ta tb) :=
  pe_weak (pe_andT ha hb) fun σ H Q ⟨env, F, P, r, h, q⟩ => ⟨env, F, _, r, h, fun dv v F1 H1 s1 r1 h1 => by
    obtain ⟨x, x1, ok, h1⟩ := rd_ok r1 h1
    refine ⟨truD x, tru_of s1.sub x1 ok, ?_⟩
    cases hx : truD x with
    | true =>
      rw [hx] at h1
      exact lf_early s1 r h1 q
    | false =>
      rw [hx] at h1
      exact q dv v F1 H1 s1 r1 h1⟩
def tNoV (ta : DT) : DT := fun env P => ta env fun u => rd u fun x => truOk x ∧ P (.d (.bool (!truD x)))
theorem d_not (ha : DPE X w a ta) : DPE X w (.UnaryOp .Not a pos) (tNoV ta) :=
  pe_weak (pe_notT ha) fun σ H Q ⟨env, F, P, r, h, q⟩ => ⟨env, F, _, r, h, fun dv v F1 H1 s1 r1 h1 => by
    obtain ⟨x, x1, ok, h1⟩ := rd_ok r1 h1
    exact ⟨truD x, tru_of s1.sub x1 ok, q (.d (.bool _)) _ F1 H1 s1 (.bl _) h1⟩⟩
/-! is None -/
def nonB : DV → (Bool → Prop) → Prop
  | .d .none, k => k true
  | .d _, k => k false
  | .fr _, k => k false
  | .ow _ _, k => k false
  | .raw _, _ => False
  | .ft _, _ => False
  | .tr _ _ _, _ => False
  | .bag, k => k false
def tIsNV (f : Bool → Bool) (ta : DT) : DT := fun env P => ta env fun u => nonB u fun c => P (.d (.bool (f c)))
/-! chains -/
def tChD (g g' : G2) (ta tb tc : DT) : DT := fun env P => ta env fun u => rd u fun x => tb env fun z => rd z fun y => g x y fun c => isB c fun k => if k = true then tc env fun t => rd t fun y2 => g' y y2 P else P (.d (.bool false))
theorem chain_go {g g' : G2} {σ : L2.St} {H : Hp} {Q : VK} (h : lf X.K w (tChD g g' ta tb tc) σ H Q) : tChain (lR X.K w.b g) (lR X.K w.b g') (lf X.K w ta) (lf X.K w tb) (lf X.K w tc) σ H Q := by
  obtain ⟨env, F, P, r, h, q⟩ := h
  refine ⟨env, F, _, r, h, fun dv v F1 H1 s1 r1 h1 => ?_⟩
  obtain ⟨x, x1, h1⟩ := rd_ok r1 h1
  refine ⟨env, F1, _, r.step s1, h1, fun dv2 v2 F2 H2 s2 r2 h2 => ?_⟩
  obtain ⟨y, y1, h2⟩ := rd_ok r2 h2
  refine ⟨F2, x, y, _, s2.wd, x1.step s2, y1, h2, fun dv3 v3 F3 H3 s3 r3 h3 => ?_⟩
  obtain ⟨k, rfl, h3⟩ := isB_ok r3 h3
  refine ⟨k, rfl, ?_⟩
  have s13 := (s1.trans s2).trans s3
  cases k with
  | false => exact q _ _ F3 H3 s13 (res_d (.bl false)) h3
  | true =>
    refine ⟨env, F3, _, ((r.step s1).step s2).step s3, h3, fun dv4 v4 F4 H4 s4 r4 h4 => ?_⟩
    obtain ⟨y2, y3, h4⟩ := rd_ok r4 h4
    exact ⟨F4, y, y2, P, s4.wd, (y1.step s3).step s4, y3, h4, fun dv5 v5 F5 H5 s5 r5 h5 => q dv5 v5 F5 H5 ((s13.trans s4).trans s5) (r5.early (s13.trans s4)) h5⟩
theorem d_chain {op op' : CmpOp} {g g' : G2} (ho : OpR X (compareOp op) (lR X.K w.b g)) (ho' : OpR X (compareOp op') (lR X.K w.b g')) (ha : DPE X w a ta) (hb : DPE X w b tb) (hc : DPE X w c tc)
    (hm : lastMarks [op, op'] [b, c] = false := by with_unfolding_all rfl) : DPE X w (.Compare a [op, op'] [b, c] pos) (tChD g g' ta tb tc) :=
  pe_weak (pe_chain ho ho' ha hb hc hm) fun _ _ _ h => chain_go h
/-! slices -/
abbrev DO := List Sl → (Option Int → Prop) → Prop
def oNone : DO := fun _ P => P none
def oSome (te : DT) : DO := fun env P => te env fun u => match u with
  | .d (.int i) => P (some i)
  | _ => False
def cutD (xs : List PyData) (lo hi : Option Int) : List PyData := (xs.drop (HT.sIx xs.length 0 lo)).take (HT.sIx xs.length xs.length hi - HT.sIx xs.length 0 lo)
def tSlL (te : DT) (lo hi : DO) : DT := fun env P => te env fun u => rd u fun x => lo env fun l => hi env fun h => match x with
  | .list xs => P (.fr (cutD xs l h))
  | _ => False
end
/-! ### enumerate of a tuple -/
section
set_option maxHeartbeats 1000000 in
theorem enum_made {v : Value} {o : Obj} {Hd : Heap → Prop} (B : PySem.Begins v o Hd) :
    Meets (Builtin.«enumerate.__new__» { pos := [.type "enumerate", v], kw := [] }) (fun _ R st => Hd st.heap ∧
      R (.ok (.ret (.ref (st.heap.push o).objs.size))) { st with heap := (st.heap.push o).push { cls := .type "enumerate", data := .fields #[.none, .bool false, .ref st.heap.objs.size, rawInt 0, .none, .none] } }) :=
  .of_wp fun prog w A R st want => by
    obtain ⟨hp, gs, dr, tk, os⟩ := st
    obtain ⟨h1, want⟩ := want
    have sub := sub_enumerate
    have it : ∀ {A' : Around} {E Q : Value → Shared → Prop}, Q (.ref hp.objs.size) ⟨hp.push o, gs, dr, tk, os⟩ → wpAny (model prog w) A' (pyIter v) Q E ⟨hp, gs, dr, tk, os⟩ :=
      fun q => B.iter prog w _ _ ⟨hp, gs, dr, tk, os⟩ _ h1 q
    wp_walk using it
    refine wpAny_stack_any fun sk => wpAny_pure ?_
    split
    · rename_i c _ _ _ _ _
      cases (c == Value.type "enumerate") <;> (wp_walk using it; exact ⟨_, rfl, want⟩)
    · wp_walk using it
      exact ⟨_, rfl, want⟩
variable {prog : Program} {w : World} {A : Around} {E : Value → Shared → Prop} {s : Shared}
theorem enum_call {v : Value} {o : Obj} {Hd : Heap → Prop} {Q : Value → Shared → Prop} (B : PySem.Begins v o Hd) (h1 : Hd s.heap)
    (want : ∀ h', IsEnum h' (s.heap.objs.size + 1) s.heap.objs.size 0 .none → h'.get? s.heap.objs.size = some o → (∀ c u, s.heap.get? c = some u → h'.get? c = some u) → Q (.ref (s.heap.objs.size + 1)) { s with heap := h' }) :
    wpAny (model prog w) A (call (.type "enumerate") [v]) Q E s := by
  refine callType_new F.called_enumerate (by decide) (F.typeCall_enumerate_1 _) (F.newCall_enumerate_1 _) (fun obj => F.args_object_init_2 obj _) F.entry_enumerate_new (enum_made B) ⟨h1, ?_⟩
  have hz : (s.heap.push o).objs.size = s.heap.objs.size + 1 := Heap.size_push ..
  show _ ∧ _
  rw [hz]
  have he : IsEnum ((s.heap.push o).push { cls := .type "enumerate", data := .fields #[.none, .bool false, .ref s.heap.objs.size, rawInt 0, .none, .none] }) (s.heap.objs.size + 1) s.heap.objs.size 0 .none := by
    have z := Heap.get?_push_size (s.heap.push o) (o := { cls := .type "enumerate", data := .fields #[.none, .bool false, .ref s.heap.objs.size, rawInt 0, .none, .none] }) rfl
    rw [hz] at z
    exact z
  exact ⟨⟨_, he, rfl⟩, want _ he (Heap.get?_push_of_some _ (Heap.get?_push_size _ B.free)) fun c u x => Heap.get?_push_of_some _ (Heap.get?_push_of_some _ x)⟩
end
/-- the tuple at a, each item in a new pair -/
def IteT (K : PySem.W.Frag) (a : Addr) : It :=
  { go := fun i H => ∃ (xs : List V) (x : V), SqT K H a xs ∧ xs[i]? = some x
    yld := fun i H v H' => ∃ T x, v = .ref T ∧ H T = none ∧ H' = upd H T (.tup [.int (i : Nat), x]) ∧ ∀ xs, SqT K H a xs → xs[i]? = some x
    stop := fun i H => ∃ xs : List V, SqT K H a xs ∧ xs.length = i }
theorem enumT_turn {P : Program} {w : World} {K : PySem.W.Frag} {elts : List Expr} {kk : Nat} {tpos : Pos} (a e it : Addr) :
    Turn P w K (.Tuple elts kk tpos) (IteT K a) [e, it] e (fun i h => (∃ old, IsEnum h e it ((i : Nat) : Int) old) ∧ h.IsTupleIter it a i ∧ e ≠ it ∧ a ≠ it ∧ a ≠ e) where
  mem := by simp
  obj := fun i h st c hc => by
    obtain ⟨⟨old, he⟩, ⟨o, ho, _, hd⟩, _⟩ := st
    rcases (show c = e ∨ c = it by simpa using hc) with rfl | rfl
    · exact ⟨_, he, fun v q => nomatch q⟩
    · exact ⟨o, ho, fun v q => by rw [hd] at q; cases q⟩
  keep := fun i h h' st k => by
    obtain ⟨⟨old, he⟩, hi, r⟩ := st
    exact ⟨⟨old, k e (by simp) _ he⟩, hi.at fun o q => k it (by simp) o q, r⟩
  item := by
    intro X hP hw hK hc i pins s σ H E I hf st hg
    subst hP hw hK
    obtain ⟨⟨old, he⟩, hit, hne, nai, nae⟩ := st
    obtain ⟨xs, x, hq, hx⟩ := hg
    obtain ⟨its, rv, tp, hz⟩ := I.tuple hq
    obtain ⟨u, hu, ru⟩ := rv.get hx
    have hel : e < s.heap.objs.size := Heap.lt_size he
    have hil : it < s.heap.objs.size := by obtain ⟨_, q, _⟩ := hit; exact Heap.lt_size q
    have D := Draws.tuple (prog := X.prog) (w := X.w) (A := X.A.in1) (I.ok.hd hc) it a nai its.toArray
    have hlt : i < its.toArray.size := by
      obtain ⟨hl, _⟩ := List.getElem?_eq_some_iff.mp hu
      simpa using hl
    refine wpAny_pyNext_enum_itemD D he ⟨hit, tp⟩ hlt hne (by simpa [hne] using nae.symm) fun z h' tk hz2 ho hst hT hsz hk => ?_
    have ez : z = u := by
      have q : its.toArray[i]? = some z := hz2
      rw [List.getElem?_toArray, hu] at q
      exact (Option.some.inj q).symm
    subst ez
    refine ⟨_, rfl, wpAny_letOwnedTupleGo_enum (s := { s with heap := h', toks := tk + 1 }) ho fun h2 he2 sb => ?_⟩
    have hT2 : h2.get? s.heap.objs.size = some { cls := .type "tuple", data := .seq #[.int i tk, z] } := (sb.2 _ (Nat.ne_of_gt hel)).trans hT
    have new : ObjOk X.prog X.w (upd H s.heap.objs.size (.tup [.int (i : Nat), x])) h2 s.heap.objs.size (.tup [.int (i : Nat), x]) :=
      ⟨by show 2 ≤ sizeLine; decide, [.int i tk, z], .cons ⟨_, rfl⟩ (.cons ru .nil), ⟨_, hT2, rfl, _, rfl⟩⟩
    have J : L2.Inv X pins σ (upd H s.heap.objs.size (.tup [.int (i : Nat), x])) { s with heap := h2, toks := tk + 1 } :=
      I.turnedNew (ch := [e, it]) (fun c ob hc2 q => (sb.2 c (fun z => hc2 (by simp [z]))).trans (hk c ob (fun z => hc2 (by simp [z])) (fun z => hc2 (by simp [z])) q)) hf (Nat.le_refl _) new
    refine ⟨.ref s.heap.objs.size, _, J, rfl, ⟨_, x, rfl, I.hok.fresh (Nat.le_refl _), rfl, fun ys hy => by rw [I.tuple_inj hy hq]; exact hx⟩, ⟨⟨z, ?_⟩, hst.1.at fun o q => (sb.2 it (Ne.symm hne)).trans q, hne, nai, nae⟩, fun c hc2 => ?_⟩
    · rw [show ((i + 1 : Nat) : Int) = (i : Int) + 1 by omega]
      exact he2
    · have lt : c < s.heap.objs.size := by
        rcases (show c = e ∨ c = it by simpa using hc2) with rfl | rfl
        · exact hel
        · exact hil
      rw [upd_ne (Nat.ne_of_lt lt)]
      exact (hf c hc2).1
  done := by
    intro X hP hw hK hc i pins s σ H E I hf st hg
    subst hP hw hK
    obtain ⟨⟨old, he⟩, hit, hne, nai, nae⟩ := st
    obtain ⟨xs, hq, hx⟩ := hg
    obtain ⟨its, rv, tp, hz⟩ := I.tuple hq
    obtain ⟨f0, f1, f2, f3, f4, f5⟩ := hf it (by simp)
    have hl := rv.length
    have D := Draws.tuple (prog := X.prog) (w := X.w) (A := X.A.in1) (I.ok.hd hc) it a nai its.toArray
    have hi : i = its.toArray.size := by rw [List.size_toArray, ← hl]; exact hx.symm
    subst hi
    exact wpAny_pyNext_enum_endD D he ⟨hit, tp⟩ fun h' eb => ⟨rfl, I.turned (t' := s.toks) (fun c o hc2 q => eb c o hc2 q) f0 f1 f3 f4 f5⟩
  self := fun A i s Q E st h => by
    obtain ⟨⟨_, he⟩, _⟩ := st
    exact wpAny_pyIter_enum he h
end Dl
namespace Dl
open PySem PySem.Spec PyProof.Rows L2
def iEnumT (K : PySem.W.Frag) (ta : TA) : TI := fun σ H R => ta σ H fun vs H1 => ∃ a xs, vs = [.ref a] ∧ SqT K H1 a xs ∧ R (IteT K a) H1
theorem pi_enumT {X : Cx} {e : Expr} {ta : TA} {p pos tpos : Pos} {elts : List Expr} {kk : Nat} (gl : Gl X "enumerate") (gm : X.mg "enumerate" = none) (ha : PA X [e] ta) (hs : starEach [e] X.env = [(false, eval e X.env)] := by rfl) :
    PI X (.Tuple elts kk tpos) (.Call (.Name "enumerate" p) [e] [] pos) (iEnumT X.K ta) := by
  refine ⟨fun pins s σ H R I want => ?_⟩
  have w2 : ta σ H fun vs H1 => ∃ a xs, vs = [.ref a] ∧ SqT X.K H1 a xs ∧ R (IteT X.K a) H1 := want
  have run := ha.run pos pins s σ H _ I w2
  refine Call_ (ld_blt I gl gm boot_enumerate (PyProof.Rows.callWith_type1 (thn run ?_) hs rfl))
  intro us st got
  obtain ⟨vs, H1, J, rv, q⟩ := got
  obtain ⟨a, xs, rfl, hq, q⟩ := q
  match us, rv with
  | [_], .cons r .nil =>
    cases r
    obtain ⟨its, rv, tp, hz⟩ := J.tuple hq
    have la : a < st.heap.objs.size := tp.lt
    refine enum_call (begins_tuple a its.toArray) tp fun h' he hit hk => wpAny_pyIter_enum he ?_
    have J2 : L2.Inv X pins σ H1 { st with heap := h' } := J.kept (t' := st.toks) hk
    refine ⟨st.heap.objs.size + 1, [st.heap.objs.size + 1, st.heap.objs.size], _, _, H1, rfl, J2, enumT_turn a (st.heap.objs.size + 1) st.heap.objs.size, ⟨⟨.none, he⟩, ⟨_, hit, rfl, rfl⟩, Nat.succ_ne_self _, Nat.ne_of_lt la, Nat.ne_of_lt (Nat.lt_succ_of_lt la)⟩, fun c hc => ?_, q⟩
    have le : st.heap.objs.size ≤ c := by
      rcases (show c = st.heap.objs.size + 1 ∨ c = st.heap.objs.size by simpa using hc) with z | z
      · rw [z]; exact Nat.le_succ _
      · rw [z]; exact Nat.le_refl _
    exact J.fpOk le (J.hok.fresh le)
theorem wlk_enumT {K : PySem.W.Frag} {b : Bg} {F : Hp} {a : Addr} {vs : List V} {xs : List PyData} (h : SqT K F a vs) (r : RpA K F vs xs) : Wlk K b F (IteT K a) (enumD xs) :=
  ⟨⟨fun H => SqT K H a vs, YPair (fun i => some (.int (i : Nat))) (fun i => vs[i]?), ⟨fun i H hi q => by
      have hl : i < vs.length := by rw [r.len]; simpa [enumD] using hi
      exact ⟨vs, vs[i], q, List.getElem?_eq_getElem hl⟩, fun H q => ⟨vs, q, by rw [enumD_len, r.len]⟩, fun i H v H2 hi q y => by
      obtain ⟨T, x, e1, hT, e2, hx⟩ := y
      exact ⟨T, .int (i : Nat), x, e1, hT, e2, rfl, hx vs q⟩⟩, fun F' H' s w => sqt_up w.sub (sqt_up s h), fun i F' H' v H2 s w y => by
    obtain ⟨T, x, y, rfl, hT, rfl, e1, e2⟩ := y
    cases e1
    obtain ⟨z, e3, r1⟩ := r.getV e2
    obtain ⟨F2, st, rp⟩ := pair_new w hT (Rp.int (i : Nat)) (r1.up s)
    refine ⟨F2, _, st, ?_, rp⟩
    unfold enumD
    rw [List.getElem?_map, List.getElem?_zipIdx, e3]
    simp⟩⟩
def itEnumT (ta : DA) : DIt := fun env P => ta env fun us => allD us fun xs => match xs with
  | [.tuple ys] => P (enumD ys)
  | _ => False
theorem di_enumT {X : Cx} {w : Wn} {ta : DA} {p pos tpos : Pos} {a : Expr} {elts : List Expr} {kk : Nat} (gl : Gl X "enumerate") (gm : X.mg "enumerate" = none) (ha : DPA X w [a] ta) (hs : starEach [a] X.env = [(false, eval a X.env)] := by rfl) : PI X (.Tuple elts kk tpos) (.Call (.Name "enumerate" p) [a] [] pos) (lfI X.K w (itEnumT ta)) :=
  pi_weak (pi_enumT gl gm ha hs) fun σ H R ⟨env, F, P, r, h, q⟩ => ⟨env, F, _, r, h, fun dvs vs F1 H1 s1 r1 h1 => by
    obtain ⟨xs, ra, h1⟩ := allD_ok r1 h1
    split at h1
    · next ys =>
      cases ra with
      | cons a1 t =>
        cases t
        cases a1 with
        | tup e1 r2 => exact ⟨_, _, rfl, sqt_up s1.sub e1, q _ _ F1 H1 s1 (wlk_enumT e1 r2) h1⟩
    · exact h1.elim⟩
/-! ### a def that takes any number of arguments -/
end Dl
namespace Dl
open PySem PySem.Spec PyProof.Rows L2
/-! ### xs[i] as the first half of xs[i] += e -/
def rGetL : V → V → Hp → VK → Prop := fun o i H Q => ∃ l xs k v, o = .ref l ∧ i = .int (k : Nat) ∧ H l = some (.lst xs) ∧ xs[k]? = some v ∧ Q v H
theorem get_lst {X : Cx} : PGet X rGetL := by
  intro pins s σ H o i ov iv Q I ro ri want
  obtain ⟨l, xs, k, v, rfl, rfl, e, ev, q⟩ := want
  cases ro
  obtain ⟨t, rfl⟩ := ri
  obtain ⟨its, r, pl, hz⟩ := I.list (SqL.of e)
  obtain ⟨u, hu, ru⟩ := r.get ev
  obtain ⟨hl, _⟩ := List.getElem?_eq_some_iff.mp ev
  have hb := line63
  exact wpAny_getItem_list pl.isList (by omega) (by omega) (by simpa using hu) ⟨v, H, I, ru, q⟩
/-! ### defs by a reading over the heap -/
theorem r_def {P : Program} {w : World} {K : PySem.W.Frag} {mg : Str → Option Value} {base : Heap} {CX : CXT} {k : Nat} {f : Addr} {fd : FuncData} {x qual : Str} {st : Stmt} {N ps : List Str} (Fn : L2.Fun K x qual st f fd) (S : FnScope N ps (defScope st))
    (hb : ∀ (kV doc pm : Value) (an : Option Addr) (cdv ct : Value) (us : List Value), us.length = ps.length → bindArgs (PySem.W.fnOf x qual (defArgs st) (defBody st) (defScope st) .none kV doc pm an cdv ct) { pos := us, kw := [] } = pure (ps.zip us))
    (sp : Sp)
    (hd : ∀ (cdv : Value) (A : Around) (outer : List Env) (s : Shared) (H : Hp) (vs : List V) (Q : VK) (E : XK), (A.deeper (envOfC qual (defScope st) s.heap.objs.size f cdv)).guards = some [] → Room k (A.deeper (envOfC qual (defScope st) s.heap.objs.size f cdv)) → sp vs H Q E →
      vs.length = ps.length ∧ ∃ t, PSs (cxOf CX P w K mg base N qual (defScope st) f cdv A outer s H E).nox (defBody st) t ∧ t { nx := fun _ H' => Q .non H', rt := Q } (L2.start N vs) H) : Fg P w K mg base CX (k + 1) f sp := by
  intro A outer s H us vs Q E ag room e0 rv want
  obtain ⟨oc, od, kV, doc, pm, an, cdv, ct, osl, rfl, lk, hcd⟩ := Fn.ex
  have hvl : vs.length = ps.length := (hd cdv A outer s H vs Q E (guards_in ag _) (room.deeper _) want).1
  have hul : us.length = ps.length := rv.length.symm.trans hvl
  refine StX.run_bnd (N := N) (ps := ps) lk hcd S room e0 (G := fun xs H2 => xs = vs ∧ H2 = H) (fun A' Ex Q' h => ?_) fun s2 H2 xs g room2 => ?_
  · rw [hb kV doc pm an cdv ct us hul]
    exact wpAny_pure (h s H vs us e0 Un.refl rfl (fun _ _ z => z) rv hvl ⟨rfl, rfl⟩)
  · obtain ⟨rfl, rfl⟩ := g
    obtain ⟨_, t, ht, q⟩ := hd cdv A outer s2 _ _ Q E (guards_in ag _) room2 want
    exact ⟨t, PSs.nox ht, q⟩
/-! ### a draw -/
def spTake : DSp := fun us P => ∃ m : Int, us = [.bag, .d (.int m)] ∧ 0 < m ∧ m.natAbs.log2 < 9000 ∧ ∀ r : Int, 0 ≤ r → r < m → P (.d (.int r))
abbrev bIx (K : PySem.W.Frag) (k : Int) : TE := tOp (rIxL K) (tVar 0) (tC (.int k))
abbrev bLen (K : PySem.W.Frag) : List V → Hp → VK → Prop := fun xs H Q => ∃ p ys, xs = [.ref p] ∧ (SqL K H p ys ∨ SqT K H p ys) ∧ Q (.int ys.length) H
abbrev bMul : R2 := rI CMul fun i j => .int (i * j)
abbrev bMod : R2 := rI (fun _ j => 0 < j) fun i j => .int (i % j)
abbrev bAdd : R2 := rI0 fun i j => .int (i + j)
/-- the reading of _law_take's body; its slots: the bag, many, cell, value, first, second -/
def tkT (K : PySem.W.Frag) : TS :=
  tSeq (tIfS (tTest (tOp rEq (bIx K 0) (tC (.int 0))))
      (tSeq (tAsg (tC (.int 0)) (gName 2))
      (tSeq (tIfS (tTest (tOp (rI0 fun i j => .bl (decide (i < j))) (bIx K 2) (tCB (bLen K) (tCons (bIx K 3) tNil)))) (tAsg (tOp (rIxL K) (bIx K 3) (bIx K 2)) (gName 2)) tNext)
      (tSeq (tAugS (tVar 0) (tC (.int 2)) (tC (.int 1)) rGetL (ipI fun i j => i + j) rSetL)
      (tSeq (tIfS (tTest (tOp (rI0 fun i j => .bl (decide (j ≤ i))) (tVar 2) (tC (.int 1000000000000000000)))) (tAsg (tVar 2) (gSub (tVar 0) (tC (.int 0)) rSetL)) tNext)
        (tAsg (tOp bMod (tOp bAdd (tOp bAdd (tOp bMul (bIx K 1) (tC (.int 48271))) (tOp bMod (tVar 2) (tC (.int 2147483647)))) (tOp bMul (tC (.int 7919)) (bIx K 2))) (tC (.int 2147483647))) (gSub (tVar 0) (tC (.int 1)) rSetL))))))
      tNext)
  (tSeq (tIfS (tTest (tOp (rI0 fun i j => .bl (decide (j < i))) (bIx K 0) (tC (.int 0))))
      (tSeq (tAsg (tOp bMod (bIx K 0) (tVar 1)) (gName 3))
      (tSeq (tAsg (tOp (rI (fun _ j => j ≠ 0 ∧ j.natAbs.log2 < 9000) fun i j => .int (i.fdiv j)) (bIx K 0) (tVar 1)) (gSub (tVar 0) (tC (.int 0)) rSetL))
        (tRet (tVar 3))))
      tNext)
  (tSeq (tAsg (tOp bMod (tOp bMul (tOp bAdd (bIx K 1) (tC (.int 1))) (tC (.int 39373))) (tC (.int 1000000007))) (gName 4))
  (tSeq (tAsg (tOp bMod (tOp bMul (tOp bMod (tOp bMul (tVar 4) (tVar 4)) (tC (.int 998244353))) (tC (.int 30011))) (tC (.int 998244353))) (gName 5))
  (tSeq (tIfS (tTest (tOp (rI0 fun i j => .bl (decide (j < i))) (tVar 1) (tC (.int 1000000)))) (tRet (tOp bMod (tOp bAdd (tOp bMul (tVar 5) (tC (.int 1000000007))) (tVar 4)) (tVar 1))) tNext)
    (tRet (tOp bMod (tOp (rI CDiv fun i j => .int (i / j)) (tVar 5) (tC (.int 7))) (tVar 1)))))))
section
variable {K : PySem.W.Frag} {b : Bg} {F H : Hp}
/-- the bag holds x y z now -/
structure Bn (b : Bg) (F H H' : Hp) (x y z : Int) : Prop where
  at' : H' b.b = some (.lst [.int x, .int y, .int z, .ref b.c])
  else' : ∀ a, a ≠ b.b → H' a = H a
  x0 : 0 ≤ x
  y0 : 0 ≤ y
  z0 : 0 ≤ z
theorem Bn.put {H' : Hp} {x y z x2 y2 z2 : Int} (n : Bn b F H H' x y z) (h1 : 0 ≤ x2) (h2 : 0 ≤ y2) (h3 : 0 ≤ z2) : Bn b F H (upd H' b.b (.lst [.int x2, .int y2, .int z2, .ref b.c])) x2 y2 z2 :=
  ⟨upd_same, fun a ne => by rw [upd_ne ne]; exact n.else' a ne, h1, h2, h3⟩
theorem Bn.stp {H' : Hp} {x y z : Int} (w : Wd K b F H) (n : Bn b F H H' x y z) : Stp K b F H F H' :=
  ⟨fun a o ne _ h => by rw [n.else' a ne]; exact h, ⟨⟨x, y, z, n.at', n.x0, n.y0, n.z0⟩, w.bag.2.1, w.bag.2.2.1, fun t m => ⟨(w.bag.2.2.2 t m).1, by obtain ⟨ps, q, k⟩ := (w.bag.2.2.2 t m).2; exact ⟨ps, by rw [n.else' t (fun e => by obtain ⟨_, eb⟩ := w.bag.lst; rw [e, eb] at q; cases q)]; exact q, k⟩⟩⟩, fun _ _ h => h, fun a o h => by
    have ne : a ≠ b.b := fun q => by rw [q, w.fb] at h; cases h
    rw [n.else' a ne]; exact w.sub _ _ h, w.fb, fun _ h _ => h, fun a ps ne h => ⟨ps, by rw [n.else' a ne]; exact h, fun q => q⟩⟩
theorem bix0 {σ : L2.St} {H' : Hp} {x y z : Int} {Q : VK} (n : Bn b F H H' x y z) (h0 : σ[0]? = some (some (.ref b.b))) (q : Q (.int x) H') : bIx K 0 σ H' Q :=
  ⟨_, h0, _, _, _, _, rfl, rfl, SqL.of n.at', rfl, q⟩
theorem bix1 {σ : L2.St} {H' : Hp} {x y z : Int} {Q : VK} (n : Bn b F H H' x y z) (h0 : σ[0]? = some (some (.ref b.b))) (q : Q (.int y) H') : bIx K 1 σ H' Q :=
  ⟨_, h0, _, _, _, _, rfl, rfl, SqL.of n.at', rfl, q⟩
theorem bix2 {σ : L2.St} {H' : Hp} {x y z : Int} {Q : VK} (n : Bn b F H H' x y z) (h0 : σ[0]? = some (some (.ref b.b))) (q : Q (.int z) H') : bIx K 2 σ H' Q :=
  ⟨_, h0, _, _, _, _, rfl, rfl, SqL.of n.at', rfl, q⟩
theorem bix3 {σ : L2.St} {H' : Hp} {x y z : Int} {Q : VK} (n : Bn b F H H' x y z) (h0 : σ[0]? = some (some (.ref b.b))) (q : Q (.ref b.c) H') : bIx K 3 σ H' Q :=
  ⟨_, h0, _, _, _, _, rfl, rfl, SqL.of n.at', rfl, q⟩
theorem tk_tail {H' : Hp} {m y : Int} {x z : Int} {D : Ends} {s2 s3 s4 s5 : Option V} (w : Wd K b F H) (n : Bn b F H H' x y z) (hm : 0 < m) (hq : ∀ r : Int, 0 ≤ r → r < m → ∀ H2, Stp K b F H F H2 → D.rt (.int r) H2) :
    (tSeq (tAsg (tOp bMod (tOp bMul (tOp bAdd (bIx K 1) (tC (.int 1))) (tC (.int 39373))) (tC (.int 1000000007))) (gName 4))
  (tSeq (tAsg (tOp bMod (tOp bMul (tOp bMod (tOp bMul (tVar 4) (tVar 4)) (tC (.int 998244353))) (tC (.int 30011))) (tC (.int 998244353))) (gName 5))
  (tSeq (tIfS (tTest (tOp (rI0 fun i j => .bl (decide (j < i))) (tVar 1) (tC (.int 1000000)))) (tRet (tOp bMod (tOp bAdd (tOp bMul (tVar 5) (tC (.int 1000000007))) (tVar 4)) (tVar 1))) tNext)
    (tRet (tOp bMod (tOp (rI CDiv fun i j => .int (i / j)) (tVar 5) (tC (.int 7))) (tVar 1)))))) D [some (.ref b.b), some (.int m), s2, s3, s4, s5] H' := by
  refine bix1 n rfl ⟨_, _, rfl, rfl, _, _, rfl, rfl, .inr ⟨by decide, by decide⟩, _, _, rfl, rfl, (by show (0 : Int) < _; decide), ?_⟩
  have a0 : 0 ≤ (y + 1) * 39373 % 1000000007 := Int.emod_nonneg _ (by decide)
  have a1 : (y + 1) * 39373 % 1000000007 < 1000000007 := Int.emod_lt_of_pos _ (by decide)
  generalize (y + 1) * 39373 % 1000000007 = first at a0 a1
  refine ⟨_, rfl, _, rfl, _, _, rfl, rfl, .inl ⟨by omega, by omega⟩, _, _, rfl, rfl, (by show (0 : Int) < _; decide), ?_⟩
  have c0 : 0 ≤ first * first % 998244353 := Int.emod_nonneg _ (by decide)
  have c1 : first * first % 998244353 < 998244353 := Int.emod_lt_of_pos _ (by decide)
  generalize first * first % 998244353 = sq at c0 c1
  refine ⟨_, _, rfl, rfl, .inl ⟨by omega, by omega⟩, _, _, rfl, rfl, (by show (0 : Int) < _; decide), ?_⟩
  have d0 : 0 ≤ sq * 30011 % 998244353 := Int.emod_nonneg _ (by decide)
  have d1 : sq * 30011 % 998244353 < 998244353 := Int.emod_lt_of_pos _ (by decide)
  generalize sq * 30011 % 998244353 = second at d0 d1
  refine ⟨_, rfl, _, _, rfl, rfl, _, rfl, ite2 (fun _ => ?_) fun _ => ?_⟩
  · refine ⟨_, rfl, _, _, rfl, rfl, .inl ⟨by omega, by omega⟩, _, rfl, _, _, rfl, rfl, _, rfl, _, _, rfl, rfl, hm, ?_⟩
    exact hq _ (Int.emod_nonneg _ (by omega)) (Int.emod_lt_of_pos _ hm) H' (n.stp w)
  · refine ⟨_, rfl, _, _, rfl, rfl, ⟨by decide, by decide⟩, _, rfl, _, _, rfl, rfl, hm, ?_⟩
    exact hq _ (Int.emod_nonneg _ (by omega)) (Int.emod_lt_of_pos _ hm) H' (n.stp w)
theorem tk_mid {H' : Hp} {m y : Int} {x z : Int} {D : Ends} {s2 s3 s4 s5 : Option V} (w : Wd K b F H) (n : Bn b F H H' x y z) (hm : 0 < m) (hs : m.natAbs.log2 < 9000) (hq : ∀ r : Int, 0 ≤ r → r < m → ∀ H2, Stp K b F H F H2 → D.rt (.int r) H2) :
  (tSeq (tIfS (tTest (tOp (rI0 fun i j => .bl (decide (j < i))) (bIx K 0) (tC (.int 0))))
      (tSeq (tAsg (tOp bMod (bIx K 0) (tVar 1)) (gName 3))
      (tSeq (tAsg (tOp (rI (fun _ j => j ≠ 0 ∧ j.natAbs.log2 < 9000) fun i j => .int (i.fdiv j)) (bIx K 0) (tVar 1)) (gSub (tVar 0) (tC (.int 0)) rSetL))
        (tRet (tVar 3))))
      tNext)
  (tSeq (tAsg (tOp bMod (tOp bMul (tOp bAdd (bIx K 1) (tC (.int 1))) (tC (.int 39373))) (tC (.int 1000000007))) (gName 4))
  (tSeq (tAsg (tOp bMod (tOp bMul (tOp bMod (tOp bMul (tVar 4) (tVar 4)) (tC (.int 998244353))) (tC (.int 30011))) (tC (.int 998244353))) (gName 5))
  (tSeq (tIfS (tTest (tOp (rI0 fun i j => .bl (decide (j < i))) (tVar 1) (tC (.int 1000000)))) (tRet (tOp bMod (tOp bAdd (tOp bMul (tVar 5) (tC (.int 1000000007))) (tVar 4)) (tVar 1))) tNext)
    (tRet (tOp bMod (tOp (rI CDiv fun i j => .int (i / j)) (tVar 5) (tC (.int 7))) (tVar 1))))))) D [some (.ref b.b), some (.int m), s2, s3, s4, s5] H' := by
  refine bix0 n rfl ⟨_, _, rfl, rfl, _, rfl, ite2 (fun hx => ?_) fun _ => tk_tail w n hm hq⟩
  refine bix0 n rfl ⟨_, rfl, _, _, rfl, rfl, hm, ?_⟩
  refine bix0 n rfl ⟨_, rfl, _, _, rfl, rfl, ⟨by omega, hs⟩, ?_⟩
  have e : x.fdiv m = x / m := Int.fdiv_eq_ediv_of_nonneg x (by omega)
  refine ⟨_, rfl, b.b, _, 0, 0, rfl, rfl, n.at', rfl, ?_⟩
  refine ⟨_, rfl, hq _ (Int.emod_nonneg _ (by omega)) (Int.emod_lt_of_pos _ hm) _ (Bn.stp w (n.put ?_ n.y0 n.z0))⟩
  rw [e]
  exact Int.ediv_nonneg n.x0 (by omega)
theorem tk_go {m : Int} {D : Ends} {s2 s3 s4 s5 : Option V} (w : Wd K b F H) (hm : 0 < m) (hs : m.natAbs.log2 < 9000) (hq : ∀ r : Int, 0 ≤ r → r < m → ∀ H2, Stp K b F H F H2 → D.rt (.int r) H2) :
    tkT K D [some (.ref b.b), some (.int m), s2, s3, s4, s5] H := by
  obtain ⟨⟨x, y, z, eb, x0, y0, z0⟩, ec, ens, _⟩ := id w.bag
  have n : Bn b F H H x y z := ⟨eb, fun _ _ => rfl, x0, y0, z0⟩
  refine bix0 n rfl ⟨rfl, _, rfl, ite2 (fun hx => ?_) fun _ => tk_mid w n hm hs hq⟩
  -- the cell
  have fin : ∀ cell : Int, 0 ≤ cell → (tSeq (tAugS (tVar 0) (tC (.int 2)) (tC (.int 1)) rGetL (ipI fun i j => i + j) rSetL)
      (tSeq (tIfS (tTest (tOp (rI0 fun i j => .bl (decide (j ≤ i))) (tVar 2) (tC (.int 1000000000000000000)))) (tAsg (tVar 2) (gSub (tVar 0) (tC (.int 0)) rSetL)) tNext)
        (tAsg (tOp bMod (tOp bAdd (tOp bAdd (tOp bMul (bIx K 1) (tC (.int 48271))) (tOp bMod (tVar 2) (tC (.int 2147483647)))) (tOp bMul (tC (.int 7919)) (bIx K 2))) (tC (.int 2147483647))) (gSub (tVar 0) (tC (.int 1)) rSetL))))
      { D with nx := fun σ H => (tSeq (tIfS (tTest (tOp (rI0 fun i j => .bl (decide (j < i))) (bIx K 0) (tC (.int 0))))
      (tSeq (tAsg (tOp bMod (bIx K 0) (tVar 1)) (gName 3))
      (tSeq (tAsg (tOp (rI (fun _ j => j ≠ 0 ∧ j.natAbs.log2 < 9000) fun i j => .int (i.fdiv j)) (bIx K 0) (tVar 1)) (gSub (tVar 0) (tC (.int 0)) rSetL))
        (tRet (tVar 3))))
      tNext)
  (tSeq (tAsg (tOp bMod (tOp bMul (tOp bAdd (bIx K 1) (tC (.int 1))) (tC (.int 39373))) (tC (.int 1000000007))) (gName 4))
  (tSeq (tAsg (tOp bMod (tOp bMul (tOp bMod (tOp bMul (tVar 4) (tVar 4)) (tC (.int 998244353))) (tC (.int 30011))) (tC (.int 998244353))) (gName 5))
  (tSeq (tIfS (tTest (tOp (rI0 fun i j => .bl (decide (j < i))) (tVar 1) (tC (.int 1000000)))) (tRet (tOp bMod (tOp bAdd (tOp bMul (tVar 5) (tC (.int 1000000007))) (tVar 4)) (tVar 1))) tNext)
    (tRet (tOp bMod (tOp (rI CDiv fun i j => .int (i / j)) (tVar 5) (tC (.int 7))) (tVar 1))))))) D σ H } [some (.ref b.b), some (.int m), some (.int cell), s3, s4, s5] H := by
    intro cell c0
    refine ⟨_, rfl, b.b, _, 2, _, rfl, rfl, eb, rfl, _, _, rfl, rfl, b.b, _, 2, 2, rfl, rfl, eb, rfl, ?_⟩
    have n2 : Bn b F H (upd H b.b (.lst [.int x, .int y, .int (z + 1), .ref b.c])) x y (z + 1) := n.put x0 y0 (by omega)
    have last : ∀ (H3 : Hp) (x3 : Int), Bn b F H H3 x3 y (z + 1) → (tAsg (tOp bMod (tOp bAdd (tOp bAdd (tOp bMul (bIx K 1) (tC (.int 48271))) (tOp bMod (tVar 2) (tC (.int 2147483647)))) (tOp bMul (tC (.int 7919)) (bIx K 2))) (tC (.int 2147483647))) (gSub (tVar 0) (tC (.int 1)) rSetL))
      { D with nx := fun σ H => (tSeq (tIfS (tTest (tOp (rI0 fun i j => .bl (decide (j < i))) (bIx K 0) (tC (.int 0))))
      (tSeq (tAsg (tOp bMod (bIx K 0) (tVar 1)) (gName 3))
      (tSeq (tAsg (tOp (rI (fun _ j => j ≠ 0 ∧ j.natAbs.log2 < 9000) fun i j => .int (i.fdiv j)) (bIx K 0) (tVar 1)) (gSub (tVar 0) (tC (.int 0)) rSetL))
        (tRet (tVar 3))))
      tNext)
  (tSeq (tAsg (tOp bMod (tOp bMul (tOp bAdd (bIx K 1) (tC (.int 1))) (tC (.int 39373))) (tC (.int 1000000007))) (gName 4))
  (tSeq (tAsg (tOp bMod (tOp bMul (tOp bMod (tOp bMul (tVar 4) (tVar 4)) (tC (.int 998244353))) (tC (.int 30011))) (tC (.int 998244353))) (gName 5))
  (tSeq (tIfS (tTest (tOp (rI0 fun i j => .bl (decide (j < i))) (tVar 1) (tC (.int 1000000)))) (tRet (tOp bMod (tOp bAdd (tOp bMul (tVar 5) (tC (.int 1000000007))) (tVar 4)) (tVar 1))) tNext)
    (tRet (tOp bMod (tOp (rI CDiv fun i j => .int (i / j)) (tVar 5) (tC (.int 7))) (tVar 1))))))) D σ H } [some (.ref b.b), some (.int m), some (.int cell), s3, s4, s5] H3 := by
      intro H3 x3 n3
      refine bix1 n3 rfl ⟨_, _, rfl, rfl, .inr ⟨by decide, by decide⟩, _, rfl, _, _, rfl, rfl, (by show (0 : Int) < _; decide), _, _, rfl, rfl, ?_⟩
      refine bix2 n3 rfl ⟨_, _, rfl, rfl, .inl ⟨by decide, by decide⟩, _, _, rfl, rfl, _, _, rfl, rfl, (by show (0 : Int) < _; decide), ?_⟩
      refine ⟨_, rfl, b.b, _, 1, 1, rfl, rfl, n3.at', rfl, ?_⟩
      exact tk_mid w (n3.put n3.x0 (Int.emod_nonneg _ (by decide)) n3.z0) hm hs hq
    refine ⟨_, rfl, _, _, rfl, rfl, _, rfl, ite2 (fun _ => ?_) fun _ => last _ x n2⟩
    refine ⟨_, rfl, _, rfl, b.b, _, 0, 0, rfl, rfl, n2.at', rfl, ?_⟩
    exact last _ cell (n2.put c0 y0 (by omega))
  have hc : H b.c = some (.lst (b.ns.map V.int)) := w.sub _ _ ec
  refine bix2 n rfl (bix3 n rfl ⟨b.c, _, rfl, .inl (SqL.of hc), _, _, rfl, rfl, _, rfl, ite2 (fun hz => ?_) fun _ => fin 0 (Int.le_refl _)⟩)
  have hl : z < (b.ns.length : Int) := by
    have := of_decide_eq_true hz
    rwa [List.length_map] at this
  have hz2 : z.toNat < b.ns.length := by omega
  refine bix3 n rfl (bix2 n rfl ⟨b.c, _, z, .int b.ns[z.toNat], rfl, rfl, SqL.of hc, ?_, fin _ (ens _ (List.getElem_mem hz2))⟩)
  refine at_of (j := z.toNat) (by omega) ?_
  rw [List.getElem?_map, List.getElem?_eq_getElem hz2]
  rfl
end
end Dl
namespace Dl
open PySem PySem.Spec PyProof.Rows L2
/-! ### the bag is made -/
abbrev bAbs : List V → Hp → VK → Prop := fun xs H Q => ∃ i : Int, xs = [.int i] ∧ Q (.int (if i < 0 then -i else i)) H
def bgT (K : PySem.W.Frag) : TS := tRet (tLst (tCons (tC (.int 0)) (tCons (tC (.int 1234567891)) (tCons (tC (.int 0)) (tCons
  (tLc (iList K (tSl (rSlL K) (tVar 0) tNoPart (tPart (tC (.int 63))))) (gName 1) tYes (tCB bAbs (tCons (tVar 1) tNil)) [1]) tNil)))))
def spBag (K : PySem.W.Frag) : Sp := fun vs H Q _ => ∃ (a : Addr) (ns : List Int), vs = [.ref a] ∧ SqL K H a (ns.map V.int) ∧ ns.length ≤ 63 ∧
  ∀ (p c : Addr) (H' : Hp), H' p = some (.lst [.int 0, .int 1234567891, .int 0, .ref c]) → H' c = some (.lst ((ns.map fun n => (n.natAbs : Int)).map V.int)) → c ≠ p → (∀ t, GxR.TabG H t → GxR.TabG H' t) → Q (.ref p) H'
theorem cut63 (ns : List Int) (h : ns.length ≤ 63) : cutV (ns.map V.int) none (some 63) = ns.map V.int := by
  unfold cutV
  rw [HT.sIx_none, List.drop_zero, show HT.sIx (ns.map V.int).length (ns.map V.int).length (some 63) = min 63 (ns.map V.int).length from HT.sIx_nat _ _ 63]
  refine List.take_of_length_le ?_
  rw [List.length_map]
  omega
theorem bg_go {K : PySem.W.Frag} {D : Ends} {H : Hp} {a : Addr} {ns : List Int} {s1 : Option V} (seq : SqL K H a (ns.map V.int)) (hl : ns.length ≤ 63)
    (q : ∀ (p c : Addr) (H' : Hp), H' p = some (.lst [.int 0, .int 1234567891, .int 0, .ref c]) → H' c = some (.lst ((ns.map fun n => (n.natAbs : Int)).map V.int)) → c ≠ p → (∀ t, GxR.TabG H t → GxR.TabG H' t) → D.rt (.ref p) H') : bgT K D [some (.ref a), s1] H := by
  refine ⟨_, rfl, 63, rfl, a, _, rfl, seq, fun s hs => ?_⟩
  rw [cut63 ns hl]
  refine ⟨s, rfl, ⟨_, SqL.of upd_same⟩, fun C hC => ?_⟩
  have sC : s ≠ C := ne_of_none upd_same hC
  refine lc_list (K := K) (xs := ns.map V.int) (fun i H' => H' s = some (.lst (ns.map V.int)) ∧ H' C = some (.lst (((ns.take i).map fun n => (n.natAbs : Int)).map V.int)) ∧ ∀ t, GxR.TabG H t → GxR.TabG H' t) ⟨by rw [upd_ne sC, upd_same], by rw [upd_same]; rfl, fun t z => TabG.up (TabG.up z hs) hC⟩ (fun i H' _ h => SqL.of h.1) (fun i x H' hx h => ?_) fun H' h => ?_
  · have hi : i < ns.length := by
      have := (List.getElem?_eq_some_iff.mp hx).1
      rwa [List.length_map] at this
    rw [List.getElem?_map, List.getElem?_eq_getElem hi] at hx
    cases hx
    refine ⟨rfl, _, rfl, _, rfl, _, h.2.1, ?_, ?_, ?_, fun t z => ?_⟩
    · refine lim_lt ?_
      rw [List.length_map, List.length_map, List.length_take]
      omega
    · rw [upd_ne sC]; exact h.1
    · rw [upd_same, List.take_add_one, List.getElem?_eq_getElem hi, List.map_append, List.map_append]
      have e : (if ns[i] < 0 then -ns[i] else ns[i]) = (ns[i].natAbs : Int) := by split <;> omega
      rw [e]
      rfl
    · obtain ⟨ps, z1, z2⟩ := h.2.2 t z
      exact ⟨ps, by rw [upd_ne (fun e => by rw [e, h.2.1] at z1; cases z1)]; exact z1, z2⟩
  · rw [List.length_map, List.take_length] at h
    refine ⟨by show 4 ≤ sizeLine; decide, fun p hp => q p C _ upd_same ?_ (ne_of_none h.2.1 hp) fun t z => TabG.up (h.2.2 t z) hp⟩
    rw [upd_ne (ne_of_none h.2.1 hp)]
    exact h.2.1
/-! ### the law's own def -/
def lfE (K : PySem.W.Frag) (ts : List Addr) (t : DS) : TS := fun D σ H => ∃ w : Wn, w.b.ts = ts ∧ lfS K w t D σ H
theorem pss_any {X : Cx} {ts : List Addr} {sts : List Stmt} {t : DS} (h : ∀ w : Wn, w.b.ts = ts → DPSs X w sts t) : PSs X sts (lfE X.K ts t) := ⟨fun p s σ H D I ⟨w, e, q⟩ => (h w e).run p s σ H D I q⟩
/-- f(e, ..) over the heap -/
theorem g_call {X : Cx} {CX : CXT} {k : Nat} {f : Addr} {sp : Sp} {E : XK} {x : Str} {e : Expr} {es : List Expr} {p pos : Pos} {t : TA} (Fk : Fg X.prog X.w X.K X.mg X.base CX k f sp) (ag : X.A.guards = some []) (room : Room k X.A) (ps : Passes CX X E) (gl : Gl X x) (gm : X.mg x = some (.ref f)) (kp : PySem.W.keepIn X.K (.ref f) = true)
    (ha : PA X (e :: es) t) (db : (x == ("__debug__" : Str)) = false := by decide) (s1 : starEach (e :: es) X.env = (false, eval e X.env) :: starEach es X.env := by rfl) (s2 : (backTo pos (starEach es X.env)).any (·.1) = false := by rfl) :
    PE X (.Call (.Name x p) (e :: es) [] pos) (fun σ H Q => t σ H fun vs H1 => sp vs H1 Q E) := by
  refine ⟨fun pins s σ H Q I want => wpAny_Call_Name_kw (ld_glob I gl gm ?_ db)⟩
  refine PySem.W.callWith_K (h₀ := X.base) I.ok.mod.kin kp ?_ s1 s2
  exact thn (ha.run pos pins s σ H _ I want) fun us st ⟨vs, H1, I1, rv, q⟩ => ⟨I1.kIn, run_g Fk ag room ps I1 rv q⟩
abbrev lawT (K : PySem.W.Frag) (ts : List Addr) (t : DS) : TS := tSeq (tAsg (fun σ H Q => tCons (tVar 0) tNil σ H fun vs H1 => spBag K vs H1 Q E0) (gName 1)) (lfE K ts t)
def spLaw (K : PySem.W.Frag) (ts : List Addr) : Sp := fun vs H Q _ => (∀ t ∈ ts, GxR.TabG H t) ∧ ∃ (a : Addr) (ns : List Int), vs = [.ref a] ∧ SqL K H a (ns.map V.int) ∧ ns.length ≤ 63 ∧ ∀ H', Q (.bl true) H'
theorem law_ok {ts : List Addr} {P : Program} {w : World} {K : PySem.W.Frag} {mg : Str → Option Value} {base : Heap} {k : Nat} {f : Addr} {fd : FuncData} {x qual : Str} {st : Stmt} {N : List Str} {z0 z1 : Str} {n : Nat} (Fn : L2.Fun K x qual st f fd) (S : FnScope N [z0] (defScope st)) (hN : N.length = n + 2)
    (hb : ∀ (kV doc pm : Value) (an : Option Addr) (cdv ct : Value) (us : List Value), us.length = [z0].length → bindArgs (PySem.W.fnOf x qual (defArgs st) (defBody st) (defScope st) .none kV doc pm an cdv ct) { pos := us, kw := [] } = pure ([z0].zip us))
    (t : DS)
    (hd : ∀ (cdv : Value) (A : Around) (outer : List Env) (s : Shared) (H : Hp) (E : XK), (A.deeper (envOfC qual (defScope st) s.heap.objs.size f cdv)).guards = some [] → Room k (A.deeper (envOfC qual (defScope st) s.heap.objs.size f cdv)) →
      PSs (cxOf (L2.CX P w) P w K mg base N qual (defScope st) f cdv A outer s H E).nox (defBody st) (lawT K ts t))
    (hv : t { nx := fun _ => False, rt := fun dv => dv = .d (.bool true) } (.un :: .bag :: List.replicate n .un)) : Fg P w K mg base (L2.CX P w) (k + 1) f (spLaw K ts) := by
  refine r_def Fn S hb (spLaw K ts) fun cdv A outer s H vs Q E ag room want => ?_
  obtain ⟨htab, a, ns, rfl, seq, hl, q⟩ := want
  refine ⟨rfl, _, hd cdv A outer s H E ag room, ?_⟩
  have e0 : L2.start N [V.ref a] = some (V.ref a) :: none :: List.replicate n none := by
    unfold L2.start
    rw [hN]
    rfl
  rw [e0]
  refine ⟨_, rfl, a, ns, rfl, seq, hl, fun p c H' hp hc ne keep => ?_⟩
  have wd : Wd K ⟨p, c, ns.map fun n => (n.natAbs : Int), ts⟩ (upd (fun _ => none) c (.lst ((ns.map fun n => (n.natAbs : Int)).map V.int))) H' := by
    refine ⟨⟨⟨0, 1234567891, 0, hp, by decide, by decide, by decide⟩, upd_same, fun m hm => ?_, fun t m => ⟨?_, keep t (htab t m)⟩⟩, fun b o h => ?_, upd_ne (Ne.symm ne)⟩
    · obtain ⟨j, _, rfl⟩ := List.mem_map.mp hm
      exact Int.natCast_nonneg _
    · refine upd_ne fun e => ?_
      obtain ⟨ps, z, _⟩ := keep t (htab t m)
      rw [e, hc] at z
      cases z
    · by_cases hb : b = c
      · rw [hb, upd_same] at h; rw [hb, hc]; exact h
      · rw [upd_ne hb] at h; cases h
  refine ⟨⟨_, _, H'⟩, rfl, .un :: .bag :: List.replicate n .un, _, _, ⟨by simp, wd.refl, fun i z e => ?_, fun i j s t a h1 _ m _ => ?_⟩, hv, ⟨fun env σ F H _ _ z => z.elim, fun env σ F H _ _ z => z.elim, fun env σ F H _ _ z => z.elim, fun dv v F H2 _ rs z => ?_⟩⟩
  · match i, e with
    | 0, e => cases e; exact True.intro
    | 1, e => cases e; rfl
    | i + 2, e =>
      have e : (List.replicate n Sl.un)[i]? = some z := e
      rw [List.getElem?_replicate] at e
      split at e
      · cases e; exact True.intro
      · cases e
  · exfalso
    match i, h1 with
    | 0, h1 => cases h1; cases m
    | 1, h1 => cases h1; cases m
    | i + 2, h1 =>
      have h1 : (List.replicate n Sl.un)[i]? = some _ := h1
      rw [List.getElem?_replicate] at h1
      split at h1 <;> cases h1
      cases m
  · subst z
    obtain rfl := rs.blOf
    exact q H2
abbrev sp__law_take : DSp := spTake
end Dl
namespace Dl
open PySem PySem.Spec PyProof.Rows L2
/-! ### loops by what holds of what is left -/
theorem forD_ind {g : DG} {tb : DS} {d : DK} (I : List PyData → List Sl → Prop) (hn : ∀ env, I [] env → d.nx env)
    (hc : ∀ (x : PyData) (xs : List PyData) (env : List Sl) (R : List Sl → Prop), I (x :: xs) env → (∀ e, I xs e → R e) → g x env fun e2 => tb { nx := R, rt := d.rt, bk := d.nx, ct := R } e2) :
    ∀ (xs : List PyData) (env : List Sl), I xs env → forD g tb d xs env
  | [], env, h => hn env h
  | x :: xs, env, h => hc x xs env (forD g tb d xs) h fun e h' => forD_ind I hn hc xs e h'
theorem whD_ind {tc : DTT} {tb : DS} {d : DK} (I : List Sl → Prop) (μ : List Sl → Nat)
    (hs : ∀ (env : List Sl) (R : List Sl → Prop), I env → (∀ e, I e → μ e < μ env → R e) → tc env fun k => if k = true then tb { nx := R, rt := d.rt, bk := d.nx, ct := R } env else d.nx env) {env : List Sl} (h : I env) : tWhD tc tb d env := by
  have main : ∀ (n : Nat) (env : List Sl), μ env < n → I env → whD tc tb d n env := by
    intro n
    induction n with
    | zero => intro env h; omega
    | succ n ih => intro env hm hi; exact hs env (whD tc tb d n) hi fun e he hl => ih e (by omega) he
  exact ⟨μ env + 1, main _ env (Nat.lt_succ_self _) h⟩
theorem lcD_ind {g : DG} {tt : DTT} {te : DT} {env : List Sl} {P : DV → Prop} (I : List PyData → List PyData → Prop) (hn : ∀ acc, I [] acc → P (.fr acc))
    (hc : ∀ (x : PyData) (xs acc : List PyData) (R : List PyData → Prop), I (x :: xs) acc → (∀ a, I xs a → R a) → g x env fun e2 => tt e2 fun c => if c = true then te e2 fun dv => match frz dv with
      | .d y => acc.length < 100000 ∧ R (acc ++ [y])
      | _ => False
    else R acc) : ∀ (xs acc : List PyData), I xs acc → lcD g tt te env xs acc P
  | [], acc, h => hn acc h
  | x :: xs, acc, h => by
    have q := hc x xs acc (fun a => lcD g tt te env xs a P) h fun a h' => lcD_ind I hn hc xs a h'
    exact q
theorem atD {α : Type} {xs : List α} {z : Int} {j : Nat} {v : α} (e : z = (j : Int)) (h : xs[j]? = some v) : atI xs z = some v := by
  subst e
  exact atI_nat h
theorem pick {xs : List PyData} {r : Int} {P : DV → Prop} (h0 : 0 ≤ r) (h1 : r < xs.length) (h : ∀ z, z ∈ xs → P (.d z)) : gIx (.list xs) (.int r) P := by
  have hr : r.toNat < xs.length := by omega
  have ez : r = ((r.toNat : Nat) : Int) := by omega
  have e : atI xs r = some xs[r.toNat] := atD ez (List.getElem?_eq_getElem hr)
  show (match atI xs r with
    | some z => P (.d z)
    | none => False)
  rw [e]
  exact h _ (List.getElem_mem hr)
theorem at0 {α : Type} (x : α) (xs : List α) : atI (x :: xs) 0 = some x := atI_nat (j := 0) rfl
theorem at1 {α : Type} (x y : α) (xs : List α) : atI (x :: y :: xs) 1 = some y := atI_nat (j := 1) rfl
theorem at2 {α : Type} (x y z : α) (xs : List α) : atI (x :: y :: z :: xs) 2 = some z := atI_nat (j := 2) rfl
def isWh : PyData → Bool
  | .int _ => true
  | _ => false
end Dl
namespace Dl
open PySem PySem.Spec PyProof.Rows L2
/-! ### whole numbers and fractions -/
theorem gcd_turn (a b : Int) (ha : 0 ≤ a) (hb : 0 < b) : Int.gcd b (a.fmod b) = Int.gcd a b ∧ 0 ≤ a.fmod b ∧ a.fmod b < b := by
  rw [Int.fmod_eq_emod_of_nonneg a (Int.le_of_lt hb)]
  refine ⟨?_, Int.emod_nonneg _ (by omega), Int.emod_lt_of_pos _ hb⟩
  obtain ⟨m, rfl⟩ := Int.eq_ofNat_of_zero_le ha
  obtain ⟨n, rfl⟩ := Int.eq_ofNat_of_zero_le (Int.le_of_lt hb)
  show Nat.gcd n (m % n) = Nat.gcd m n
  rw [Nat.gcd_comm, ← Nat.gcd_rec, Nat.gcd_comm]
theorem log_lt {n k : Nat} (hk : 0 < k) (h : n < 2 ^ k) : n.log2 < k := by
  rcases Nat.eq_zero_or_pos n with z | z
  · subst z; simpa using hk
  · exact (Nat.log2_lt (by omega)).mpr h
theorem two_le {n k m : Nat} (h : n < 2 ^ k) (hk : k ≤ m) : n < 2 ^ m := Nat.lt_of_lt_of_le h (Nat.pow_le_pow_right (by decide) hk)
theorem gcd_pos {t b : Int} (hb : b ≠ 0) : 0 < Int.gcd t b := Int.gcd_pos_of_ne_zero_right _ hb
theorem natAbs_mul_lt {a b : Int} {m n : Nat} (ha : a.natAbs < 2 ^ m) (hb : b.natAbs < 2 ^ n) : (a * b).natAbs < 2 ^ (m + n) := by
  rw [Int.natAbs_mul, Nat.pow_add]
  exact Nat.mul_lt_mul'' ha hb
theorem sgn {z : PyData} (h : z ∈ [PyData.int 1, PyData.int (-1)]) : ∃ s : Int, z = .int s ∧ s.natAbs = 1 := by
  simp only [List.mem_cons, List.not_mem_nil, or_false] at h
  rcases h with rfl | rfl
  · exact ⟨1, rfl, rfl⟩
  · exact ⟨-1, rfl, rfl⟩
theorem eqv2 (a b c d : Int) : (PyData.tuple [.int a, .int b]).eqv (.tuple [.int c, .int d]) = (decide (a = c) && decide (b = d)) := by
  simp [PyData.eqv, PyData.eqvAll, Bool.beq_eq_decide_eq]
/-- p / q in lowest terms -/
structure Frac (p q : Int) : Prop where
  pos : 0 < q
  low : Int.gcd p q = 1
/-- only one fraction in lowest terms is as much -/
theorem Frac.one {p q u v : Int} (f : Frac p q) (g : Frac u v) (h : p * v = u * q) : p = u ∧ q = v := by
  have hq := f.pos
  have hv := g.pos
  have n1 : p.natAbs * v.natAbs = u.natAbs * q.natAbs := by rw [← Int.natAbs_mul, ← Int.natAbs_mul, h]
  have d1 : q.natAbs ∣ v.natAbs := by
    have z : q.natAbs ∣ p.natAbs * v.natAbs := ⟨u.natAbs, by rw [n1, Nat.mul_comm]⟩
    exact Nat.Coprime.dvd_of_dvd_mul_left (by rw [Nat.Coprime, Nat.gcd_comm]; exact f.low) z
  have d2 : v.natAbs ∣ q.natAbs := by
    have z : v.natAbs ∣ u.natAbs * q.natAbs := ⟨p.natAbs, by rw [← n1, Nat.mul_comm]⟩
    exact Nat.Coprime.dvd_of_dvd_mul_left (by rw [Nat.Coprime, Nat.gcd_comm]; exact g.low) z
  have e : q.natAbs = v.natAbs := Nat.dvd_antisymm d1 d2
  have e2 : q = v := by omega
  subst e2
  exact ⟨Int.eq_of_mul_eq_mul_right (by omega) h, rfl⟩
/-- what a top parted by a bottom is, in lowest terms -/
def loT (t b : Int) : Int := if b < 0 then -(t / Int.gcd t b) else t / Int.gcd t b
def loB (t b : Int) : Int := if b < 0 then -(b / Int.gcd t b) else b / Int.gcd t b
theorem lo_ok {t b : Int} (hb : b ≠ 0) : Frac (loT t b) (loB t b) ∧ t * loB t b = b * loT t b := by
  have hp : 0 < Int.gcd t b := gcd_pos hb
  obtain ⟨u, hu⟩ : ((Int.gcd t b : Nat) : Int) ∣ t := Int.gcd_dvd_left _ _
  obtain ⟨v, hv⟩ : ((Int.gcd t b : Nat) : Int) ∣ b := Int.gcd_dvd_right _ _
  have hp' : (0 : Int) < (Int.gcd t b : Nat) := by omega
  have e1 : t / (Int.gcd t b : Nat) = u := Int.ediv_eq_of_eq_mul_right (by omega) hu
  have e2 : b / (Int.gcd t b : Nat) = v := Int.ediv_eq_of_eq_mul_right (by omega) hv
  have co : Int.gcd u v = 1 := by
    have h1 := Nat.coprime_div_gcd_div_gcd (m := t.natAbs) (n := b.natAbs) hp
    have h2 : u.natAbs = t.natAbs / Int.gcd t b := by
      rw [← e1, Int.natAbs_ediv_of_dvd ⟨u, hu⟩, Int.natAbs_natCast]
    have h3 : v.natAbs = b.natAbs / Int.gcd t b := by
      rw [← e2, Int.natAbs_ediv_of_dvd ⟨v, hv⟩, Int.natAbs_natCast]
    show Nat.gcd u.natAbs v.natAbs = 1
    rw [h2, h3]
    exact h1
  have xy : t * v = b * u := by
    conv => lhs; rw [hu]
    conv => rhs; rw [hv]
    rw [Int.mul_assoc, Int.mul_assoc, Int.mul_comm u v]
  unfold loT loB
  rw [e1, e2]
  by_cases hn : b < 0
  · rw [if_pos hn, if_pos hn]
    refine ⟨⟨?_, by rw [Int.neg_gcd, Int.gcd_neg]; exact co⟩, by rw [Int.mul_neg, Int.mul_neg, xy]⟩
    have z : ¬ 0 ≤ v := fun h => by
      have := Int.mul_nonneg (Int.le_of_lt hp') h
      omega
    omega
  · rw [if_neg hn, if_neg hn]
    refine ⟨⟨?_, co⟩, xy⟩
    have z : ¬ v ≤ 0 := fun h => by
      have h2 := Int.mul_nonneg (Int.le_of_lt hp') (show 0 ≤ -v by omega)
      rw [Int.mul_neg] at h2
      omega
    omega
/-- a fraction, among any data -/
def isFr : PyData → Bool
  | .tuple [.int p, .int q] => decide (0 < q) && decide (Int.gcd p q = 1)
  | _ => false
theorem isFr_of {p q : Int} (f : Frac p q) : isFr (.tuple [.int p, .int q]) = true := by
  simp [isFr, f.pos, f.low]
theorem of_isFr {x : PyData} (h : isFr x = true) : ∃ p q, x = .tuple [.int p, .int q] ∧ Frac p q := by
  unfold isFr at h
  split at h
  · next p q =>
    rw [Bool.and_eq_true, decide_eq_true_eq, decide_eq_true_eq] at h
    exact ⟨p, q, rfl, h.1, h.2⟩
  · cases h
end Dl
namespace Dl
open PySem PySem.Spec PyProof.Rows L2
/-! ### n.bit_length() -/
def tBitLen (te : DT) : DT := fun env P => te env fun u => rd u fun x => match x with
  | .int i => P (.d (.int (Builtin.Int.intBits i : Nat)))
  | _ => False
/-! ### an index that stands in the text -/
theorem gi0 (x : PyData) (xs : List PyData) (P : DV → Prop) : gIx (.tuple (x :: xs)) (.int 0) P = P (.d x) := by simp only [gIx, at0]
theorem gi1 (x y : PyData) (xs : List PyData) (P : DV → Prop) : gIx (.tuple (x :: y :: xs)) (.int 1) P = P (.d y) := by simp only [gIx, at1]
theorem gi2 (x y z : PyData) (xs : List PyData) (P : DV → Prop) : gIx (.tuple (x :: y :: z :: xs)) (.int 2) P = P (.d z) := by simp only [gIx, at2]
theorem li0 (x : PyData) (xs : List PyData) (P : DV → Prop) : gIx (.list (x :: xs)) (.int 0) P = P (.d x) := by simp only [gIx, at0]
theorem li1 (x y : PyData) (xs : List PyData) (P : DV → Prop) : gIx (.list (x :: y :: xs)) (.int 1) P = P (.d y) := by simp only [gIx, at1]
theorem li2 (x y z : PyData) (xs : List PyData) (P : DV → Prop) : gIx (.list (x :: y :: z :: xs)) (.int 2) P = P (.d z) := by simp only [gIx, at2]
/-- one statement, then the rest: not by reduction, for the kernel's sake -/
theorem sqD (t u : DS) (d : DK) (env : List Sl) : tSeqD t u d env = t { d with nx := u d } env := propext ⟨fun h => h, fun h => h⟩
section
variable (i : Nat) (g1 : G1) (g : G2) (gc : GC) (ta tb te : DT) (t u : DTT) (da : DA) (p q : DS) (d : DK) (env : List Sl) (P : DV → Prop) (B : Bool → Prop)
theorem stE : tSetD i te d env = te env fun dv => stD i dv env d.nx := propext ⟨fun h => h, fun h => h⟩
theorem biE : tBin g ta tb env P = ta env fun u => rd u fun x => tb env fun z => rd z fun y => g x y P := propext ⟨fun h => h, fun h => h⟩
theorem unE : tUnD g1 ta env P = ta env fun u => rd u fun x => g1 x P := propext ⟨fun h => h, fun h => h⟩
theorem caE : tCallD gc da env P = da env fun us => gc us P := propext ⟨fun h => h, fun h => h⟩
theorem tuE : tTupD da env P = da env fun us => allD us fun xs => xs.length ≤ 100000 ∧ P (.d (.tuple xs)) := propext ⟨fun h => h, fun h => h⟩
theorem liE : tLstD da env P = da env fun us => allD us fun xs => xs.length ≤ 100000 ∧ P (.fr xs) := propext ⟨fun h => h, fun h => h⟩
theorem ifE : tIfD t p q d env = t env fun k => if k = true then p d env else q d env := propext ⟨fun h => h, fun h => h⟩
theorem orE : tOrD t u env B = t env fun c => if c = true then B true else u env B := propext ⟨fun h => h, fun h => h⟩
theorem anE : tAndD t u env B = t env fun c => if c = true then u env B else B false := propext ⟨fun h => h, fun h => h⟩
theorem noE : tNotD t env B = t env fun c => B (!c) := propext ⟨fun h => h, fun h => h⟩
theorem tsE : tTst te env B = te env fun u => isB u B := propext ⟨fun h => h, fun h => h⟩
theorem trE : tTru te env B = te env fun u => rd u fun x => truOk x ∧ B (truD x) := propext ⟨fun h => h, fun h => h⟩
theorem itE : tIteD t ta tb env P = t env fun c => if c = true then ta env P else tb env P := propext ⟨fun h => h, fun h => h⟩
theorem cdE (x : PyData) : tCD x env P = P (.d x) := propext ⟨fun h => h, fun h => h⟩
theorem nlE (R : List DV → Prop) : tNilD env R = R [] := propext ⟨fun h => h, fun h => h⟩
theorem coE (tr : DA) (R : List DV → Prop) : tConsD te tr env R = te env fun u => tr env fun us => R (frz u :: us) := propext ⟨fun h => h, fun h => h⟩
theorem usE (sp : DSp) : tUse sp da env P = da env fun us => sp (us.map dat) fun r => okR us r ∧ P r := propext ⟨fun h => h, fun h => h⟩
theorem foE (gg : DG) (ti : DIt) : tForD gg ti p d env = ti env fun xs => forD gg p d xs env := propext ⟨fun h => h, fun h => h⟩
theorem rdE (x : PyData) (R : PyData → Prop) : rd (.d x) R = R x := propext ⟨fun h => h, fun h => h⟩
theorem sdE (x : PyData) (k : List Sl → Prop) : stD i (.d x) env k = k (env.set i (.d x)) := propext ⟨fun h => h, fun h => h⟩
end
theorem reE (te : DT) (d : DK) (env : List Sl) : tRetD te d env = te env fun dv => match dv with
  | .ow _ _ => False
  | .tr _ _ _ => False
  | x => d.rt x := propext ⟨fun h => h, fun h => h⟩
theorem vaE (i : Nat) (env : List Sl) (P : DV → Prop) : tVarD i env P = match env[i]? with
  | some (.d x) => P (.d x)
  | some (.ow l xs) => P (.ow l xs)
  | some (.tr p S x) => P (.tr p S x)
  | some (.tv _ S x) => P (.tr true S x)
  | some (.raw v) => P (.raw v)
  | some .bag => P .bag
  | _ => False := propext ⟨fun h => h, fun h => h⟩
end Dl
namespace Dl
open PySem PySem.Spec PyProof.Rows L2
/-! ### an empty dict, repr, str -/
section
variable {X : Cx} {w : Wn} {pos : Pos}
def tEmp : DT := fun _ P => P (.d (.dict []))
theorem d_emp : DPE X w (.Dict [] [] pos) tEmp := pe_weak pe_dnewK fun σ H Q ⟨env, F, P, r, h, q⟩ => fun p hp =>
  q (.d (.dict [])) _ _ _ (r.wd.laid hp) (res_d (Rp.dct (kvs := []) upd_same .nil .nil)) h
end
mutual
/-- data without objects of classes -/
def realD : PyData → Bool
  | .none => true
  | .bool _ => true
  | .int _ => true
  | .str _ => true
  | .list xs => realA xs
  | .tuple xs => realA xs
  | .dict kvs => realK kvs
def realA : List PyData → Bool
  | [] => true
  | x :: xs => realD x && realA xs
def realK : List (PyData × PyData) → Bool
  | [] => true
  | (k, x) :: r => (match k with | .int _ => true | .str _ => true | _ => false) && realD x && realK r
end
section
variable {X : Cx} {pins : List (Addr × Obj)} {σ : L2.St} {H : Hp} {s : Shared}
theorem keys_read {h : Heap} {P : Program} {w : World} {K : PySem.W.Frag} {F : Hp} {kvs : List (Key × V)} {vs : List (Key × Value)} (t : KV kvs vs) : ∀ {es : List DictEntry} {ks : List PyData}, Pairs (mixKind P w) es vs → RpA K F (kvs.map fun p => kV p.1) ks → ReadsAll h (es.map (·.key)) ks [] ∧ Vals (kvs.map Prod.snd) (es.map (·.val)) ∧
    ∀ (P : Program) (w : World), PyData.showableAll ks = true → (∀ t ∈ PyData.shownAll ks, t.length ≤ sizeLine) → ∃ bs, ReadAtMost h (PyData.depthAll ks) bs ∧ ReprAllK P w bs h (PyData.depthAll ks) (es.map (·.key)) (PyData.shownAll ks) := by
  induction t with
  | nil =>
    intro es ks p a
    cases p
    cases a
    refine ⟨.nil, .nil, fun P w _ _ => ⟨[], (fun _ m => nomatch m), ?_⟩⟩
    simp only [PyData.shownAll]
    exact .nil
  | @cons x y kvs vs c t ih =>
    intro es ks p a
    obtain ⟨k, v⟩ := x
    obtain ⟨ck, cv⟩ := c
    cases es with
    | nil => cases p
    | cons en es =>
      cases p with
      | cons p1 p2 p3 =>
        cases a with
        | cons a r =>
          obtain ⟨q1, q2, q3⟩ := ih p3 r
          rw [← ck] at p1
          rw [List.map_cons]
          have a : Rp K F (kV k) _ := a
          rcases keyIs_shape p1 with ⟨i, tk, e1, e2⟩ | ⟨z, tk, e1, e2⟩
          · have e1 : k = .inl i := e1
            subst e1
            cases a
            rw [e2]
            refine ⟨.cons (as := []) (Reads.int i tk) q1, .cons (show RelV v en.val by rw [p2]; exact cv) q2, fun P w c z => ?_⟩
            simp only [PyData.showableAll, Bool.and_eq_true] at c
            obtain ⟨bs, b1, b2⟩ := q3 P w c.2 (fun t ht => z t (by simp only [PyData.shownAll]; exact List.mem_cons_of_mem _ ht))
            refine ⟨bs, b1.mono (by simp only [PyData.depthAll]; omega), ?_⟩
            simp only [PyData.depthAll, PyData.shownAll]
            refine .cons ?_ (b2.more_le (fun _ m => m) (Nat.le_max_right _ _))
            simp only [PyData.shown]
            exact .of_is (ReprIs.int tk (by simpa [PyData.showable] using c.1)) _ _ _
          · have e1 : k = .inr z := e1
            subst e1
            cases a
            rw [e2]
            refine ⟨.cons (as := []) (Reads.str z tk) q1, .cons (show RelV v en.val by rw [p2]; exact cv) q2, fun P w c l => ?_⟩
            simp only [PyData.showableAll, Bool.and_eq_true] at c
            obtain ⟨bs, b1, b2⟩ := q3 P w c.2 (fun t ht => l t (by simp only [PyData.shownAll]; exact List.mem_cons_of_mem _ ht))
            refine ⟨bs, b1.mono (by simp only [PyData.depthAll]; omega), ?_⟩
            simp only [PyData.depthAll, PyData.shownAll]
            refine .cons ?_ (b2.more_le (fun _ m => m) (Nat.le_max_right _ _))
            have l0 := l _ (by simp only [PyData.shownAll]; exact List.mem_cons_self ..)
            simp only [PyData.shown] at l0 ⊢
            exact .of_is (ReprIs.str z tk l0) _ _ _
theorem zip_keys {α β : Type} : ∀ {ks : List α} {xs : List β}, ks.length = xs.length → (ks.zip xs).map (·.1) = ks ∧ (ks.zip xs).map (·.2) = xs
  | [], [], _ => ⟨rfl, rfl⟩
  | k :: ks, x :: xs, h => by
    obtain ⟨a, b⟩ := zip_keys (ks := ks) (xs := xs) (by simpa using h)
    exact ⟨by rw [List.zip_cons_cons, List.map_cons, a], by rw [List.zip_cons_cons, List.map_cons, b]⟩
theorem real_zip {ks : List PyData} : ∀ {xs : List PyData}, ks.length = xs.length → realK (ks.zip xs) = true → realA xs = true := by
  induction ks with
  | nil => intro xs h _; cases xs with | nil => rfl | cons => simp at h
  | cons k ks ih =>
    intro xs h e
    cases xs with
    | nil => simp at h
    | cons x xs =>
      simp only [List.zip_cons_cons, realK, Bool.and_eq_true] at e
      simp only [realA, Bool.and_eq_true]
      exact ⟨e.1.2, ih (by simpa using h) e.2⟩
/-! the text of data, from what is tracked -/
mutual
theorem rk_of (I : Inv X pins σ H s) : ∀ {v : V} {d : PyData} {u : Value}, Rp X.K H v d → realD d = true → RelV v u → d.showable = true → d.shown.length ≤ sizeLine →
    ∃ as bs, Reads s.heap u d as ∧ ReadAtMost s.heap d.depth bs ∧ ReprK X.prog X.w bs s.heap d.depth u d.shown
  | _, _, _, .non, _, r, _, _ => by
    cases r
    refine ⟨_, [], .none, (fun _ m => nomatch m), ?_⟩
    simp only [PyData.shown]
    exact .of_is ReprIs.none _ _ _
  | _, _, _, .bl b, _, r, _, _ => by
    cases r
    refine ⟨_, [], .bool b, (fun _ m => nomatch m), ?_⟩
    simp only [PyData.shown]
    exact .of_is (ReprIs.bool b) _ _ _
  | _, _, _, .int i, _, r, c, _ => by
    obtain ⟨t, rfl⟩ := r
    refine ⟨_, [], .int i t, (fun _ m => nomatch m), ?_⟩
    simp only [PyData.shown]
    exact .of_is (ReprIs.int t (by simpa [PyData.showable] using c)) _ _ _
  | _, _, _, .str i, _, r, _, z => by
    obtain ⟨t, rfl⟩ := r
    refine ⟨_, [], .str i t, (fun _ m => nomatch m), ?_⟩
    simp only [PyData.shown] at z ⊢
    exact .of_is (ReprIs.str i t z) _ _ _
  | _, _, _, .lst (a := a) (xs := xs) hs ha, f, r, c, z => by
    cases r
    obtain ⟨its, rv, ⟨o, n, ho, hc, _, hd⟩, _⟩ := I.list (SqL.of hs)
    simp only [PyData.shown] at z
    obtain ⟨as, bs, q1, q2, q3⟩ := rka_of I ha (by simpa only [realD] using f) rv (by simpa [PyData.showable] using c) (fun t ht => Nat.le_trans (listText_mem_le ht) z)
    have rd : Reads s.heap (.ref a) (.list xs) _ := .list ho hc hd q1
    have na : a ∉ bs := not_mem_of_deeper rd (by simp only [PyData.depth]; omega) q2
    refine ⟨_, a :: bs, rd, ReadAtMost.cons rd (by simp only [PyData.depth]; omega) q2, ?_⟩
    simp only [PyData.depth, PyData.shown]
    cases its with
    | nil =>
      cases q1
      simp only [PyData.shownAll, listText_nil]
      exact ReprK.listEmpty ho hc hd
    | cons x l => exact ReprK.list ho hc hd na (by simpa using q3.length_eq) fun i y e => q3.item i y (by simpa using e)
  | _, _, _, .tup (a := a) (xs := xs) hs ha, f, r, c, z => by
    cases r
    obtain ⟨its, rv, ⟨o, ho, hc, n, hd⟩, _⟩ := I.tuple hs
    simp only [PyData.shown] at z
    obtain ⟨as, bs, q1, q2, q3⟩ := rka_of I ha (by simpa only [realD] using f) rv (by simpa [PyData.showable] using c) (fun t ht => Nat.le_trans (tupleText_mem_le ht) z)
    have rd : Reads s.heap (.ref a) (.tuple xs) _ := .tuple ho hc hd q1
    have na : a ∉ bs := not_mem_of_deeper rd (by simp only [PyData.depth]; omega) q2
    refine ⟨_, a :: bs, rd, ReadAtMost.cons rd (by simp only [PyData.depth]; omega) q2, ?_⟩
    simp only [PyData.depth, PyData.shown]
    exact ReprK.tuple ho hc hd na q3
  | _, _, _, .dct (a := a) (kvs := kvs) (ks := ks) (xs := xs) h r1 q1, f, r, c, z => by
    obtain ⟨_, hs, vs, kv, o, es, ep, ho, hc, hd, _, hp, _⟩ := dk_of I.hok h
    cases r
    obtain ⟨k1, k2, k3⟩ := keys_read (h := s.heap) kv hp r1
    have le : ks.length = xs.length := by rw [← r1.len, ← q1.len, List.length_map, List.length_map]
    obtain ⟨z1, z2⟩ := zip_keys le
    simp only [PyData.shown] at z
    obtain ⟨c1, c2⟩ := PyData.showableKv_split (ks.zip xs) (by simpa [PyData.showable] using c)
    obtain ⟨as, b2, m1, m2, m3⟩ := rka_of I q1 (real_zip le (by simpa only [realD] using f)) k2 (by rw [z2] at c2; exact c2) (fun t ht => by
      obtain ⟨p, hp, hl⟩ := PyData.shownKv_val_le (ks.zip xs) t (by rw [z2]; exact ht)
      exact Nat.le_trans hl (Nat.le_trans (dictText_mem_le hp) z))
    obtain ⟨b1, n2, n3⟩ := k3 X.prog X.w (by rw [z1] at c1; exact c1) (fun t ht => by
      obtain ⟨p, hp, hl⟩ := PyData.shownKv_key_le (ks.zip xs) t (by rw [z1]; exact ht)
      exact Nat.le_trans hl (Nat.le_trans (dictText_mem_le hp) z))
    have rd : Reads s.heap (.ref a) (.dict (ks.zip xs)) _ := .dict ho hc.1 hd (by rw [z1]; exact k1) (by rw [z2]; exact m1)
    have e1 : PyData.depthAll ks ≤ PyData.depthKv (ks.zip xs) := by have := PyData.depthAll_keys_le (ks.zip xs); rw [z1] at this; exact this
    have e2 : PyData.depthAll xs ≤ PyData.depthKv (ks.zip xs) := by have := PyData.depthAll_vals_le (ks.zip xs); rw [z2] at this; exact this
    have hb : ReadAtMost s.heap (PyData.depthKv (ks.zip xs)) (b1 ++ b2) := (n2.mono e1).append (m2.mono e2)
    have na : a ∉ b1 ++ b2 := not_mem_of_deeper rd (by simp only [PyData.depth]; omega) hb
    refine ⟨_, a :: (b1 ++ b2), rd, ReadAtMost.cons rd (by simp only [PyData.depth]; omega) hb, ?_⟩
    simp only [PyData.depth, PyData.shown, PyData.shownKv_eq]
    rw [z1, z2]
    exact ReprK.dict ho hc.1 hd hs na (ReprEntriesK.of_two es.toList _ _ (n3.more_le (fun _ m => List.mem_append.mpr (.inl m)) e1) (m3.more_le (fun _ m => List.mem_append.mpr (.inr m)) e2))
  | _, _, _, .obj _ _ _ _ _, f, _, _, _ => by simp [obD, realD, realK] at f
  | _, _, _, .exc _ _ _ _ _, f, _, _, _ => by simp [exD, realD, realK] at f
theorem rka_of (I : Inv X pins σ H s) : ∀ {vs : List V} {ds : List PyData} {us : List Value}, RpA X.K H vs ds → realA ds = true → Vals vs us → PyData.showableAll ds = true → (∀ t ∈ PyData.shownAll ds, t.length ≤ sizeLine) →
    ∃ as bs, ReadsAll s.heap us ds as ∧ ReadAtMost s.heap (PyData.depthAll ds) bs ∧ ReprAllK X.prog X.w bs s.heap (PyData.depthAll ds) us (PyData.shownAll ds)
  | _, _, _, .nil, _, r, _, _ => by
    cases r
    refine ⟨_, [], .nil, (fun _ m => nomatch m), ?_⟩
    simp only [PyData.shownAll]
    exact .nil
  | _, _, _, .cons (x := d) (xs := ds) h t, f, r, c, z => by
    cases r with
    | cons r1 r2 =>
      rw [realA, Bool.and_eq_true] at f
      have c' : d.showable = true ∧ PyData.showableAll ds = true := by simpa [PyData.showableAll] using c
      obtain ⟨a1, b1, q1, q2, q3⟩ := rk_of I h f.1 r1 c'.1 (z _ (by simp only [PyData.shownAll]; exact List.mem_cons_self ..))
      obtain ⟨a2, b2, p1, p2, p3⟩ := rka_of I t f.2 r2 c'.2 (fun t ht => z t (by simp only [PyData.shownAll]; exact List.mem_cons_of_mem _ ht))
      refine ⟨_, b1 ++ b2, .cons q1 p1, ?_, ?_⟩
      · simp only [PyData.depthAll]
        exact (q2.mono (Nat.le_max_left _ _)).append (p2.mono (Nat.le_max_right _ _))
      · simp only [PyData.depthAll, PyData.shownAll]
        exact .cons ((q3.more fun _ m => List.mem_append.mpr (.inl m)).level_le (Nat.le_max_left _ _)) (p3.more_le (fun _ m => List.mem_append.mpr (.inr m)) (Nat.le_max_right _ _))
end
end
section
variable {X : Cx} {w : Wn} {pos : Pos}
/-- data whose text may be asked for -/
structure Sh (x : PyData) : Prop where
  real : realD x = true
  show_ : x.showable = true
  deep : x.depth ≤ 63
  len : x.shown.length ≤ 100000
def cRepr : GC := fun us P => one us fun u => rd u fun x => Sh x ∧ P (.d (.str x.shown))
theorem k_repr (ag : X.A.guards = some []) (hu : X.A.units + 64 < cLine) : CallR X (.builtin "repr") (lC X.K w.b cRepr) := by
  intro pins s σ H vs us Q I r h
  obtain ⟨F, dvs, P, wd, ar, g, q⟩ := h
  obtain ⟨u, v, rfl, a, g⟩ := one_ok ar g
  obtain ⟨x, hx, sh, g⟩ := arr_rr a g
  obtain ⟨t, rfl, hr⟩ := vals1 r
  have done : ∀ h' (tk tt : Tok), (∀ b o, s.heap.get? b = some o → h'.get? b = some o) → EP X pins σ Q (.str x.shown tt) { s with heap := h', toks := tk } := fun h' tk tt hk =>
    ⟨.str _, H, I.kept hk, ⟨_, rfl⟩, q _ _ F H wd.refl (res_d (.str _)) g⟩
  have hall := hx.all wd.sub
  have z := lim_le sh.len
  have dp := sh.deep
  have real := sh.real
  have show_ := sh.show_
  clear sh g q hx
  cases hall with
  | non => cases hr; exact PySem.P.repr_of_none (done s.heap _ _ fun _ _ e => e)
  | bl b => cases hr; exact PySem.P.repr_of_bool (done s.heap _ _ fun _ _ e => e)
  | int i => obtain ⟨tk, rfl⟩ := hr; exact PySem.P.repr_of_int (by simpa [PyData.showable] using show_) (done s.heap _ _ fun _ _ e => e)
  | str y => obtain ⟨tk, rfl⟩ := hr; exact PySem.P.repr_of_str (done s.heap _ _ fun _ _ e => e) z
  | @lst p vs xs hs ha =>
    cases hr
    obtain ⟨its, rv, ⟨o, n, ho, hc, _, hd⟩, _⟩ := I.list (SqL.of hs)
    simp only [PyData.shown] at z done
    simp only [PyData.depth] at dp
    obtain ⟨as, bs, q1, q2, q3⟩ := rka_of I ha (by simpa only [realD] using real) rv (by simpa [PyData.showable] using show_) (fun t ht => Nat.le_trans (listText_mem_le ht) z)
    have na : p ∉ bs := not_mem_of_deeper (.list ho hc hd q1) (by simp only [PyData.depth]; omega) q2
    refine call_repr_slot (by omega) ⟨o, ho, hc⟩ PySem.F.slot_list_repr.toG ?_
    cases its with
    | nil =>
      cases q1
      simp only [PyData.shownAll, listText_nil] at done
      exact call_list_repr_empty ⟨o, ho, hc⟩ ho hd ⟨_, _, rfl, done s.heap _ _ fun _ _ e => e⟩
    | cons y l =>
      exact call_list_reprK ho hc hd na (by simpa using q3.length_eq) (fun i y e => q3.item i y (by simpa using e)) ag (fun b _ => Clear.nil b) (by show X.A.units + 1 + _ < cLine; omega) (fun _ _ e => e) (fun h' u tk hk => ⟨_, _, rfl, done h' tk u hk⟩) z
  | @tup p vs xs hs ha =>
    cases hr
    obtain ⟨its, rv, ⟨o, ho, hc, n, hd⟩, _⟩ := I.tuple hs
    simp only [PyData.shown] at z done
    simp only [PyData.depth] at dp
    obtain ⟨as, bs, q1, q2, q3⟩ := rka_of I ha (by simpa only [realD] using real) rv (by simpa [PyData.showable] using show_) (fun t ht => Nat.le_trans (tupleText_mem_le ht) z)
    have na : p ∉ bs := not_mem_of_deeper (.tuple ho hc hd q1) (by simp only [PyData.depth]; omega) q2
    refine call_repr_slot (by omega) ⟨o, ho, hc⟩ PySem.F.slot_tuple_repr ?_
    exact call_tuple_reprK ho hc hd na q3 ag (fun b _ => Clear.nil b) (by show X.A.units + 1 + _ < cLine; omega) (fun _ _ e => e) (fun h' u tk hk => ⟨_, _, rfl, done h' tk u hk⟩) z
  | @dct p kvs ks xs h r1 q1 =>
    cases hr
    obtain ⟨_, hs, vs, kv, o, es, ep, ho, hc, hd, _, hp, _⟩ := dk_of I.hok h
    obtain ⟨k1, k2, k3⟩ := keys_read (h := s.heap) kv hp r1
    have le : ks.length = xs.length := by rw [← r1.len, ← q1.len, List.length_map, List.length_map]
    obtain ⟨z1, z2⟩ := zip_keys le
    simp only [PyData.shown] at z done
    simp only [PyData.depth] at dp
    obtain ⟨c1, c2⟩ := PyData.showableKv_split (ks.zip xs) (by simpa [PyData.showable] using show_)
    obtain ⟨as, b2, m1, m2, m3⟩ := rka_of I q1 (real_zip le (by simpa only [realD] using real)) k2 (by rw [z2] at c2; exact c2) (fun t ht => by
      obtain ⟨p, hp, hl⟩ := PyData.shownKv_val_le (ks.zip xs) t (by rw [z2]; exact ht)
      exact Nat.le_trans hl (Nat.le_trans (dictText_mem_le hp) z))
    obtain ⟨b1, n2, n3⟩ := k3 X.prog X.w (by rw [z1] at c1; exact c1) (fun t ht => by
      obtain ⟨p, hp, hl⟩ := PyData.shownKv_key_le (ks.zip xs) t (by rw [z1]; exact ht)
      exact Nat.le_trans hl (Nat.le_trans (dictText_mem_le hp) z))
    have rd : Reads s.heap (.ref p) (.dict (ks.zip xs)) _ := .dict ho hc.1 hd (by rw [z1]; exact k1) (by rw [z2]; exact m1)
    have e1 : PyData.depthAll ks ≤ PyData.depthKv (ks.zip xs) := by have := PyData.depthAll_keys_le (ks.zip xs); rw [z1] at this; exact this
    have e2 : PyData.depthAll xs ≤ PyData.depthKv (ks.zip xs) := by have := PyData.depthAll_vals_le (ks.zip xs); rw [z2] at this; exact this
    have hb : ReadAtMost s.heap (PyData.depthKv (ks.zip xs)) (b1 ++ b2) := (n2.mono e1).append (m2.mono e2)
    have na : p ∉ b1 ++ b2 := not_mem_of_deeper rd (by simp only [PyData.depth]; omega) hb
    simp only [PyData.shownKv_eq] at z done
    rw [z1, z2] at z done
    refine call_repr_slot (by omega) ⟨o, ho, hc.1⟩ PySem.F.slot_dict_repr ?_
    exact call_dict_reprK ho hc.1 hd hs na (ReprEntriesK.of_two es.toList _ _ (n3.more_le (fun _ m => List.mem_append.mpr (.inl m)) e1) (m3.more_le (fun _ m => List.mem_append.mpr (.inr m)) e2)) ag (fun b _ => Clear.nil b) (by show X.A.units + 1 + _ < cLine; omega) (fun _ _ e => e) (fun h' u tk hk => ⟨_, _, rfl, done h' tk u hk⟩) z
  | obj => simp [obD, realD, realK] at real
  | exc => simp [exD, realD, realK] at real
def cStr : GC := fun us P => one us fun u => rd u fun x => match x with
  | .int i => i.natAbs.log2 < 1920 ∧ P (.d (.str (toString i)))
  | .str z => P (.d (.str z))
  | _ => False
end
/-! ### data whose text is short -/
structure Sn (n k : Nat) (x : PyData) : Prop where
  real : realD x = true
  show_ : x.showable = true
  deep : x.depth ≤ n
  len : x.shown.length ≤ k
theorem Sn.sh {n k : Nat} {x : PyData} (h : Sn n k x) (hn : n ≤ 63 := by decide) (hk : k ≤ 100000 := by decide) : Sh x := ⟨h.real, h.show_, Nat.le_trans h.deep hn, Nat.le_trans h.len hk⟩
theorem Sn.up {n k m l : Nat} {x : PyData} (h : Sn n k x) (hn : n ≤ m := by decide) (hk : k ≤ l := by decide) : Sn m l x := ⟨h.real, h.show_, Nat.le_trans h.deep hn, Nat.le_trans h.len hk⟩
theorem sn_int {i : Int} {j : Nat} (h : i.natAbs < 2 ^ j) (hj : 0 < j := by decide) (hk : j < 1920 := by decide) : Sn 0 (j + 1) (.int i) := by
  have l := log_lt hj h
  refine ⟨by simp only [realD], by simp only [PyData.showable, decide_eq_true_eq]; omega, by simp [PyData.depth], ?_⟩
  show (Str.ofString (toString i)).length ≤ j + 1
  rw [PySem.ofString_length]; exact PySem.int_text_length_le hj l
theorem sn_all {n k : Nat} : ∀ {xs : List PyData}, (∀ x ∈ xs, Sn n k x) → realA xs = true ∧ PyData.showableAll xs = true ∧ PyData.depthAll xs ≤ n ∧ ((PyData.shownAll xs).map (·.length)).sum ≤ xs.length * k ∧ (PyData.shownAll xs).length = xs.length
  | [], _ => by simp [realA, PyData.showableAll, PyData.depthAll, PyData.shownAll]
  | x :: xs, h => by
    obtain ⟨a, b, c, d, e⟩ := sn_all (xs := xs) fun y hy => h y (List.mem_cons_of_mem _ hy)
    have z := h x (List.mem_cons_self ..)
    refine ⟨by rw [realA, z.real, a]; rfl, by rw [PyData.showableAll, z.show_, b]; rfl, ?_, ?_, ?_⟩
    · have := z.deep
      simp only [PyData.depthAll]; omega
    · have := z.len
      simp only [PyData.shownAll, List.map_cons, List.sum_cons, List.length_cons, Nat.add_mul]; omega
    · simp only [PyData.shownAll, List.length_cons, e]
theorem sn_tup {n k m : Nat} {xs : List PyData} (h : ∀ x ∈ xs, Sn n k x) (hm : xs.length ≤ m := by simp) : Sn (n + 1) (m * (k + 2) + 3) (.tuple xs) := by
  obtain ⟨a, b, c, d, e⟩ := sn_all h
  refine ⟨by rw [realD, a], by rw [PyData.showable, b], by simp only [PyData.depth]; omega, ?_⟩
  have q := tupleText_len_le (PyData.shownAll xs)
  have r : xs.length * (k + 2) ≤ m * (k + 2) := Nat.mul_le_mul_right _ hm
  rw [Nat.mul_add] at r
  show (tupleText (PyData.shownAll xs)).length ≤ _
  omega
theorem sn_bool (b : Bool) : Sn 0 5 (.bool b) := by cases b <;> exact ⟨by simp only [realD], by simp only [PyData.showable], by simp [PyData.depth], by decide⟩
theorem sn_none : Sn 0 4 .none := ⟨by simp only [realD], by simp only [PyData.showable], by simp [PyData.depth], by decide⟩
theorem sn_str {x : Str} {k : Nat} (h : (reprText x).length ≤ k) : Sn 0 k (.str x) := ⟨by simp only [realD], by simp only [PyData.showable], by simp [PyData.depth], h⟩
end Dl
namespace Dl
open PySem PySem.Spec PyProof.Rows L2
/-! ### what no run takes back: a relation of states that every single step keeps -/
end Dl
namespace Dl
open PySem PySem.Spec PyProof.Rows L2
/-! ### a generator expression whose element may call, walked by all() -/
end Dl
namespace Dl
open PySem PySem.Spec PyProof.Rows L2
/-! ### the frame of a generator expression -/
end Dl
namespace Dl
open PySem PySem.Spec PyProof.Rows L2
/-! ### a generator expression's loop, by the words of its frame -/
end Dl
namespace Dl
open PySem PySem.Spec PyProof.Rows L2
/-! ### all(element for target in source), the element may call -/
end Dl
namespace Dl
open PySem PySem.Spec PyProof.Rows L2 GxR
end Dl
namespace Dl
open PySem PySem.Spec PyProof.Rows L2
/-! ### fractions with bounds -/
/-- a fraction in lowest terms whose parts are below 2 ^ k -/
structure Fk (k : Nat) (p q : Int) : Prop where
  f : Frac p q
  t : p.natAbs < 2 ^ k
  b : q.natAbs < 2 ^ k
theorem Fk.up {k m : Nat} {p q : Int} (h : Fk k p q) (hk : k ≤ m := by decide) : Fk m p q := ⟨h.f, two_le h.t hk, two_le h.b hk⟩
theorem Fk.pos {k : Nat} {p q : Int} (h : Fk k p q) : 0 < q := h.f.pos
/-- data that is itself when asked by == -/
def selfEq : PyData → Prop
  | .int _ => True
  | .str _ => True
  | .bool _ => True
  | x => SeqAt.shaped x = true ∧ x.eqv x = true
theorem gEqv_self {x : PyData} {P : DV → Prop} (h : selfEq x) (q : P (.d (.bool true))) : gEqv id x x P := by
  cases x with
  | int i => simpa [gEqv] using q
  | str i => simpa [gEqv] using q
  | bool i => simpa [gEqv] using q
  | none => obtain ⟨a, b⟩ := h; exact ⟨a, a, by rw [b]; exact q⟩
  | list xs => obtain ⟨a, b⟩ := h; exact ⟨a, a, by rw [b]; exact q⟩
  | tuple xs => obtain ⟨a, b⟩ := h; exact ⟨a, a, by rw [b]; exact q⟩
  | dict xs => obtain ⟨a, b⟩ := h; exact ⟨a, a, by rw [b]; exact q⟩
/-! ### xs[::-1] of a list -/
section
variable {X : Cx} {w : Wn} {e : Expr} {te : DT}
def tRevD (te : DT) : DT := fun env P => te env fun u => rd u fun x => match x with
  | .list xs => P (.fr xs.reverse)
  | _ => False
theorem rvE (te : DT) (env : List Sl) (P : DV → Prop) : tRevD te env P = te env fun u => rd u fun x => match x with
  | .list xs => P (.fr xs.reverse)
  | _ => False := propext ⟨fun h => h, fun h => h⟩
end
end Dl
namespace Dl
open PySem PySem.Spec PyProof.Rows L2 GxR
/-! ### all(element for x in source) as a reading -/
def capSl : Option Sl → Sl
  | some (.d x) => .d x
  | some (.raw v) => .raw v
  | some .bag => .bag
  | _ => .un
def capD (env : List Sl) (caps : List Nat) : List Sl := caps.map fun j => capSl env[j]?
def tAll1 (it : DIt) (te : DT) (caps : List Nat) : DT := fun env P => it env fun xs => ∃ f : PyData → Bool, (∀ x ∈ xs, te (.d x :: capD env caps) fun dv => dv = .d (.bool (f x))) ∧ P (.d (.bool (xs.all f)))
theorem alE {it : DIt} {te : DT} {caps : List Nat} {env : List Sl} {P : DV → Prop} : tAll1 it te caps env P = it env fun xs => ∃ f : PyData → Bool, (∀ x ∈ xs, te (.d x :: capD env caps) fun dv => dv = .d (.bool (f x))) ∧ P (.d (.bool (xs.all f))) := propext ⟨fun h => h, fun h => h⟩
/-! ### the top's tables -/
end Dl
namespace Dl
open PySem PySem.Spec PyProof.Rows L2 GxR
/-! ### one statement by itself: what is behind it stays a name -/
theorem seqG {t u : DS} {d : DK} {env : List Sl} (h : ∀ R : List Sl → Prop, (∀ e, u d e → R e) → t { d with nx := R } env) : tSeqD t u d env := h (u d) fun _ z => z
/-! ### data that may be asked by == -/
structure Ly (n : Nat) (x : PyData) : Prop where
  lay : x.canLay0 = true
  deep : x.depth ≤ n
theorem Ly.up {n m : Nat} {x : PyData} (h : Ly n x) (hn : n ≤ m := by decide) : Ly m x := ⟨h.lay, Nat.le_trans h.deep hn⟩
theorem ly_int (i : Int) : Ly 0 (.int i) := ⟨by simp only [PyData.canLay0], by simp [PyData.depth]⟩
theorem ly_all {n : Nat} : ∀ {xs : List PyData}, (∀ x ∈ xs, Ly n x) → PyData.canLayAll0 xs = true ∧ PyData.depthAll xs ≤ n
  | [], _ => by simp [PyData.canLayAll0, PyData.depthAll]
  | x :: xs, h => by
    obtain ⟨a, b⟩ := ly_all (xs := xs) fun y hy => h y (List.mem_cons_of_mem _ hy)
    have z := h x (List.mem_cons_self ..)
    refine ⟨by rw [PyData.canLayAll0, z.lay, a]; rfl, ?_⟩
    have := z.deep
    simp only [PyData.depthAll]; omega
theorem ly_tup {n : Nat} {xs : List PyData} (h : ∀ x ∈ xs, Ly n x) : Ly (n + 1) (.tuple xs) := by
  obtain ⟨a, b⟩ := ly_all h
  exact ⟨by rw [PyData.canLay0, a], by simp only [PyData.depth]; omega⟩
theorem Ly.shaped {n : Nat} {x : PyData} (h : Ly n x) (hn : n ≤ 64 := by decide) : SeqAt.shaped x = true := by
  have := h.deep
  simp only [SeqAt.shaped, h.lay, Bool.true_and, decide_eq_true_eq]; omega
theorem Ly.self {n : Nat} {x : PyData} (h : Ly n x) : x.eqv x = true := SeqAt.eqv_refl x h.lay
theorem Ly.selfEq {n : Nat} {x : PyData} (h : Ly n x) (hn : n ≤ 64 := by decide) : selfEq x := by
  cases x <;> first | exact True.intro | exact ⟨h.shaped hn, h.self⟩
/-! ### x in ys, of flat things -/
section
variable {X : Cx} {w : Wn}
/-! ### tuple(xs) -/
def cTuple : GC := fun us P => one us fun u => rd u fun x => match x with
  | .list xs => P (.d (.tuple xs))
  | .tuple xs => P (.d (.tuple xs))
  | _ => False
theorem k_tuple : CallR X (.type "tuple") (lC X.K w.b cTuple) := by
  intro pins s σ H vs us Q I r h
  obtain ⟨F, dvs, P, wd, ar, g, q⟩ := h
  obtain ⟨u, v, rfl, a, g⟩ := one_ok ar g
  obtain ⟨x, hx, g⟩ := arr_rr a g
  split at g
  · obtain ⟨l, vs, rfl, e, r1⟩ := hx.lst wd.sub
    exact call_tuple_of pins s σ H _ us Q I r ⟨l, vs, rfl, .inl ⟨SqL.of e, res_newT wd r1 q g⟩⟩
  · obtain ⟨l, vs, rfl, e, r1⟩ := hx.tup wd.sub
    refine call_tuple_of pins s σ H _ us Q I r ⟨l, vs, rfl, .inr ⟨e, ?_⟩⟩
    cases hx with
    | d h => exact q _ _ F H wd.refl (res_d h) g
  · exact g.elim
end
/-! ### xs[i], i from either end -/
/-! ### slices -/
end Dl
namespace Dl
open PySem PySem.Spec PyProof.Rows L2
/-! ### fractions over one bottom -/
/-- p / q, in lowest terms, is n / D -/
structure Nu (D n p q : Int) : Prop where
  f : Frac p q
  e : n * q = D * p
theorem Nu.one {D n p q u v : Int} (hD : D ≠ 0) (a : Nu D n p q) (b : Nu D n u v) : p = u ∧ q = v := by
  refine a.f.one b.f (Int.eq_of_mul_eq_mul_left hD ?_)
  rw [← Int.mul_assoc, ← a.e, ← Int.mul_assoc, ← b.e, Int.mul_right_comm]
theorem Nu.of {D p q : Int} (f : Frac p q) (h : q ∣ D) : Nu D (p * (D / q)) p q := by
  refine ⟨f, ?_⟩
  obtain ⟨c, rfl⟩ := h
  rw [Int.mul_ediv_cancel_left _ (Int.ne_of_gt f.pos), Int.mul_right_comm, Int.mul_comm p q, Int.mul_right_comm]
/-- fractions, as data, by what they are over one bottom -/
inductive NuL (D : Int) : List Int → List PyData → Prop
  | nil : NuL D [] []
  | cons {n p q : Int} {ns : List Int} {xs : List PyData} (a : Nu D n p q) (t : NuL D ns xs) : NuL D (n :: ns) (.tuple [.int p, .int q] :: xs)
namespace NuL
variable {D : Int}
theorem len : ∀ {ns : List Int} {xs : List PyData}, NuL D ns xs → ns.length = xs.length
  | _, _, .nil => rfl
  | _, _, .cons _ t => congrArg (· + 1) (len t)
theorem take : ∀ (k : Nat) {ns : List Int} {xs : List PyData}, NuL D ns xs → NuL D (ns.take k) (xs.take k)
  | 0, _, _, _ => .nil
  | _ + 1, _, _, .nil => .nil
  | k + 1, _, _, .cons a t => .cons a (take k t)
theorem drop : ∀ (k : Nat) {ns : List Int} {xs : List PyData}, NuL D ns xs → NuL D (ns.drop k) (xs.drop k)
  | 0, _, _, h => h
  | _ + 1, _, _, .nil => .nil
  | k + 1, _, _, .cons _ t => drop k t
theorem app : ∀ {ns ms : List Int} {xs ys : List PyData}, NuL D ns xs → NuL D ms ys → NuL D (ns ++ ms) (xs ++ ys)
  | _, _, _, _, .nil, h => h
  | _, _, _, _, .cons a t, h => .cons a (app t h)
theorem fr : ∀ {ns : List Int} {xs : List PyData}, NuL D ns xs → ∀ x ∈ xs, isFr x = true
  | _, _, .nil, _, h => absurd h List.not_mem_nil
  | _, _, .cons a t, x, h => by
    rcases List.mem_cons.mp h with rfl | h
    · exact isFr_of a.f
    · exact fr t x h
end NuL
/-! ### what a fraction is over D, as data -/
def numD (D : Int) : PyData → Int
  | .tuple [.int p, .int q] => p * (D / q)
  | _ => 0
/-- a fraction whose bottom divides D, its top not too far -/
def FrD (k : Nat) (D : Int) (x : PyData) : Prop := ∃ p q : Int, x = .tuple [.int p, .int q] ∧ Frac p q ∧ q ∣ D ∧ p.natAbs < 2 ^ k
theorem FrD.num {k m : Nat} {D : Int} {x : PyData} (h : FrD k D x) (hD : D.natAbs < 2 ^ m) : (numD D x).natAbs < 2 ^ (k + m) := by
  obtain ⟨p, q, rfl, f, d, hp⟩ := h
  have hq := f.pos
  refine natAbs_mul_lt hp (Nat.lt_of_le_of_lt ?_ hD)
  obtain ⟨c, rfl⟩ := d
  rw [Int.mul_ediv_cancel_left _ (Int.ne_of_gt hq), Int.natAbs_mul]
  exact Nat.le_mul_of_pos_left _ (by omega)
theorem FrD.up {k m : Nat} {D E : Int} {x : PyData} (h : FrD k D x) (hk : k ≤ m) (hD : D ∣ E) : FrD m E x := by
  obtain ⟨p, q, e, f, d, hp⟩ := h
  exact ⟨p, q, e, f, Int.dvd_trans d hD, two_le hp hk⟩
end Dl
namespace Dl
open PySem PySem.Spec PyProof.Rows L2
/-! ### a constant of the module that is data -/
/-! ### an if by itself: what is in its branches stays a name -/
theorem ifG {t : DTT} {p q : DS} {d : DK} {env : List Sl} (h : ∀ A B : Prop, (p d env → A) → (q d env → B) → t env fun k => if k = true then A else B) : tIfD t p q d env := h _ _ (fun z => z) fun z => z
end Dl
namespace Dl
open PySem PySem.Spec PyProof.Rows L2
/-! ### more of fractions over one bottom -/
/-- a fraction, bounds of its top and its bottom -/
structure Fb (k m : Nat) (p q : Int) : Prop where
  f : Frac p q
  t : p.natAbs < 2 ^ k
  b : q.natAbs < 2 ^ m
theorem Fb.up {k m j i : Nat} {p q : Int} (h : Fb k m p q) (h1 : k ≤ j := by decide) (h2 : m ≤ i := by decide) : Fb j i p q := ⟨h.f, two_le h.t h1, two_le h.b h2⟩
end Dl
namespace Dl
open PySem PySem.Spec PyProof.Rows L2
/-! ### a, b, c = x, y, z -/
section
variable {X : Cx} {w : Wn} {pos : Pos}
def tPar3D (i j l : Nat) (ta : DA) : DS := fun d env => ta env fun us => allD us fun xs => match xs with
  | [x, y, z] => d.nx (((env.set i (.d x)).set j (.d y)).set l (.d z))
  | _ => False
/-! ### xs.index(y) -/
def tIdxD (te : DT) (ta : DA) : DT := fun env P => te env fun u => rd u fun x => match x with
  | .list xs => ta env fun us => one us fun z => rd z fun y => SeqAt.shaped (.list xs) = true ∧ SeqAt.shaped y = true ∧ ∃ (j : Nat) (z : PyData), xs[j]? = some z ∧ z.eqv y = true ∧ (∀ m z', m < j → xs[m]? = some z' → z'.eqv y = false) ∧ P (.d (.int (j : Nat)))
  | _ => False
/-! ### xs.insert(i, y) -/
def tInsD (i : Nat) (ta tb : DT) : DS := fun d env => match env[i]? with
  | some (.ow l xs) => xs.length < 100000 ∧ ta env fun u => match u with
    | .d (.int k) => (0 ≤ k ∧ k < 100000) ∧ tb env fun dv => match frz dv with
      | .d x => d.nx (env.set i (.ow l (xs.take k.toNat ++ [x] ++ xs.drop k.toNat)))
      | _ => False
    | _ => False
  | _ => False
theorem ixE (te : DT) (ta : DA) (env : List Sl) (P : DV → Prop) : tIdxD te ta env P = te env fun u => rd u fun x => match x with
  | .list xs => ta env fun us => one us fun z => rd z fun y => SeqAt.shaped (.list xs) = true ∧ SeqAt.shaped y = true ∧ ∃ (j : Nat) (z : PyData), xs[j]? = some z ∧ z.eqv y = true ∧ (∀ m z', m < j → xs[m]? = some z' → z'.eqv y = false) ∧ P (.d (.int (j : Nat)))
  | _ => False := propext ⟨fun h => h, fun h => h⟩
end
end Dl
namespace Dl
open PySem PySem.Spec PyProof.Rows L2
/-! ### a generator expression's captured names -/
section
variable {X : Cx} {w : Wn} {e : Expr} {te : DT} {pos : Pos}
/-! ### slices of tuples and of texts -/
def tSlT (te : DT) (lo hi : DO) : DT := fun env P => te env fun u => rd u fun x => lo env fun l => hi env fun h => match x with
  | .tuple xs => P (.d (.tuple (cutD xs l h)))
  | _ => False
def tSlS (te : DT) (lo hi : DO) : DT := fun env P => te env fun u => rd u fun x => lo env fun l => hi env fun h => match x with
  | .str z => z.length ≤ 100000 ∧ P (.d (.str (cutS z l h)))
  | _ => False
/-! ### sorted of numbers -/
def cSorted : GC := fun us P => one us fun u => rd u fun x => match x with
  | .list xs => ∃ ns : List Int, xs = ns.map PyData.int ∧ ∀ ms : List Int, ms.Perm ns → ms.Pairwise (· ≤ ·) → P (.fr (ms.map PyData.int))
  | _ => False
/-! ### tuples of numbers by < -/
def gLtT : G2 := fun x y P => match x, y with
  | .tuple xs, .tuple ys => ∃ ns ms : List Int, xs = ns.map PyData.int ∧ ys = ms.map PyData.int ∧ P (.d (.bool (HT.lexLt ns ms)))
  | _, _ => False
/-! ### x in ys, of nested data -/
end
end Dl
namespace Dl
open PySem PySem.Spec PyProof.Rows L2
section
variable {X : Cx} {w : Wn} {pos : Pos}
/-! ### {'a': 1} -/
def tDict1 (s : Str) (i : Int) : DT := fun _ P => P (.d (.dict [(.str s, .int i)]))
/-! ### sep.join(xs) -/
def tJoin (to te : DT) : DT := fun env P => to env fun u => rd u fun x => match x with
  | .str a => te env fun v => rd v fun y => match y with
    | .list zs => ∃ ys : List Str, zs = ys.map PyData.str ∧ (ys.map (·.length)).sum + ys.length * a.length ≤ 100000 ∧ P (.d (.str (Txt.join a ys)))
    | _ => False
  | _ => False
end
end Dl
namespace Dl
open PySem PySem.Spec PyProof.Rows L2
/-! ### refusals: a promise with two ends -/
/-- what is wished of an exception: its class by its name in the module, its one field's name and datum -/
abbrev XD := Str → Str → PyData → Prop
abbrev DSpX := List DV → (DV → Prop) → XD → Prop
/-- what leaves a def by an exception, in the data's words; one without a field is told by no name and None -/
structure XEnd (mg : Str → Option Value) (K : PySem.W.Frag) (b : Bg) (F H : Hp) (E : XK) (R : XD) : Prop where
  fl : ∀ c C n x v d F' H', mg c = some (.ref C) → Stp K b F H F' H' → H' d = some (.xd [(n, v)]) → Rp K F' v x → R c n x → E (.ref C) (some d) H'
  no : ∀ c C F' H', mg c = some (.ref C) → Stp K b F H F' H' → R c "" .none → E (.ref C) none H'
theorem XEnd.later {mg : Str → Option Value} {K : PySem.W.Frag} {b : Bg} {F H F1 H1 : Hp} {E : XK} {R : XD} (h : XEnd mg K b F H E R) (st : Stp K b F H F1 H1) : XEnd mg K b F1 H1 E R :=
  ⟨fun c C n x v d F' H' hc s hd rp hr => h.fl c C n x v d F' H' hc (st.trans s) hd rp hr, fun c C F' H' hc s hr => h.no c C F' H' hc (st.trans s) hr⟩
theorem XEnd.none {mg : Str → Option Value} {K : PySem.W.Frag} {b : Bg} {F H : Hp} {E : XK} : XEnd mg K b F H E fun _ _ _ => False := ⟨fun _ _ _ _ _ _ _ _ _ _ _ _ h => h.elim, fun _ _ _ _ _ _ h => h.elim⟩
/-- the same at the caller's slots -/
def XEnS (mg : Str → Option Value) (K : PySem.W.Frag) (w : Wn) (E : L2.St → XK) (R : List Sl → XD) : Prop := ∀ env σ F H, RelW K w env σ F H → XEnd mg K w.b F H (E σ) (R env)
theorem XEnd.at {mg : Str → Option Value} {K : PySem.W.Frag} {w : Wn} {E : XK} {R : XD} (h : XEnd mg K w.b w.F w.H E R) : XEnS mg K w (fun _ => E) fun _ => R := fun env σ F H r => h.later r.st
def PmX (mg : Str → Option Value) (K : PySem.W.Frag) (ts : List Addr) (sp : DSpX) : Sp := fun vs H Q E => ∃ b F dvs P R, b.ts = ts ∧ Wd K b F H ∧ Paired (AgR K b F) dvs vs ∧ sp dvs P R ∧ (∀ dv v F' H', Stp K b F H F' H' → Res K b H F' H' dv v → P dv → Q v H') ∧ XEnd mg K b F H E R
def tUseX (sp : DSpX) (R : List Sl → XD) (t : DA) : DT := fun env P => t env fun us => anyOw us = [] ∧ sp (us.map dat) P (R env)
section
variable {X : Cx} {w : Wn} {CX : CXT} {k : Nat} {f : Addr} {E : L2.St → XK} {R : List Sl → XD} {ds : DSpX} {x : Str} {p pos : Pos} {e : Expr} {es : List Expr} {t : DA}
theorem d_useX {ts : List Addr} (Fk : Fg X.prog X.w X.K X.mg X.base (L2.CX X.prog X.w) k f (PmX X.mg X.K ts ds)) (ht : w.b.ts = ts) (ag : X.A.guards = some []) (room : Room k X.A) (ps : ∀ σ, PassesAt (L2.CX X.prog X.w) X σ (E σ)) (hE : XEnS X.mg X.K w E R) (gl : Gl X x) (gm : X.mg x = some (.ref f)) (kp : PySem.W.keepIn X.K (.ref f) = true)
    (ha : DPA X w (e :: es) t) (db : (x == ("__debug__" : Str)) = false := by decide) (s1 : starEach (e :: es) X.env = (false, eval e X.env) :: starEach es X.env := by rfl) (s2 : (backTo pos (starEach es X.env)).any (·.1) = false := by rfl) :
    DPE X w (.Call (.Name x p) (e :: es) [] pos) (tUseX ds R t) := by
  have base : PE X (.Call (.Name x p) (e :: es) [] pos) (fun σ H Q => lfA X.K w t σ H fun vs H1 => PmX X.mg X.K ts ds vs H1 Q (E σ)) := by
    refine ⟨fun pins s σ H Q I want => wpAny_Call_Name_kw (ld_glob I gl gm ?_ db)⟩
    refine PySem.W.callWith_K (h₀ := X.base) I.ok.mod.kin kp ?_ s1 s2
    exact thn (ha.run pos pins s σ H _ I want) fun us st ⟨vs, H1, I1, rv, q⟩ => ⟨I1.kIn, wpAny_call (codeAny_mono (Fk X.A X.stack st H1 us vs Q (E σ) ag room I1.env0 rv q) fun res s2 got => by
      match res, got with
      | .error u, got => exact ps σ pins H1 st u s2 I1 got
      | .ok (.ret u), got => exact I1.after got)⟩
  refine pe_weak base fun σ H Q ⟨env, F, P, r, h, q⟩ => ⟨env, F, _, r, h, fun dvs vs F1 H1 st ar h1 => ?_⟩
  obtain ⟨em, h1⟩ := h1
  have e1 : opn (anyOw dvs) F1 H1 = F1 := by
    funext a
    unfold opn
    rw [em, if_neg (by simp)]
  have hs : Same F1 (opn (anyOw dvs) F1 H1) := by rw [e1]; exact fun _ _ z => z
  have ad := args_dat ar hs (fun l hl => hl)
  rw [e1] at ad
  exact ⟨w.b, F1, _, _, _, ht, st.wd, ad, h1, fun dv v F2 H2 s2 rs hp => q dv v F2 H2 (st.trans s2) (rs.early st) hp, (hE env σ F H r).later st⟩
/-- raise C(e), C the class of name c in the module, of one field n -/
def tRaiseX (R : List Sl → XD) (c n : Str) (te : DT) : DS := fun _ env => te env fun u => match u with
  | .d x => R env c n x
  | _ => False
end
/-! ### a def that may refuse -/
section
variable {P : Program} {w : World} {K : PySem.W.Frag} {mg : Str → Option Value} {base : Heap} {k : Nat} {f : Addr} {fd : FuncData}
theorem d_defX {ts : List Addr} {x qual : Str} {st : Stmt} {N ps : List Str} (Fn : L2.Fun K x qual st f fd) (S : FnScope N ps (defScope st))
    (hb : ∀ (kV doc pm : Value) (an : Option Addr) (cdv ct : Value) (us : List Value), us.length = ps.length → bindArgs (PySem.W.fnOf x qual (defArgs st) (defBody st) (defScope st) .none kV doc pm an cdv ct) { pos := us, kw := [] } = pure (ps.zip us))
    (sp : DSpX) (t : XD → DS)
    (hd : ∀ (cdv : Value) (A : Around) (outer : List Env) (s : Shared) (H : Hp) (E : XK) (R : XD) (wn : Wn), fd.code = cdv → wn.b.ts = ts → XEnd mg K wn.b wn.F wn.H E R → (A.deeper (envOfC qual (defScope st) s.heap.objs.size f cdv)).guards = some [] → Room k (A.deeper (envOfC qual (defScope st) s.heap.objs.size f cdv)) →
      Takes (cxOf (L2.CX P w) P w K mg base N qual (defScope st) f cdv A outer s H E) (fun cls d _ H => E cls d H) → DPSs (cxOf (L2.CX P w) P w K mg base N qual (defScope st) f cdv A outer s H E) wn (defBody st) (t R))
    (hv : ∀ dvs Q R, sp dvs Q R → dvs.length = ps.length ∧ t R { nx := fun _ => Q (.d .none), rt := Q } (startD N dvs)) : Fg P w K mg base (L2.CX P w) (k + 1) f (PmX mg K ts sp) := by
  intro A outer s H us vs Q E ag room e0 rv want
  obtain ⟨b, F, dvs, R0, R, ht, wd, ar, hsp, q, hE⟩ := want
  obtain ⟨hlen, hread⟩ := hv dvs R0 R hsp
  obtain ⟨oc, od, kV, doc, pm, an, cdv, ct, osl, rfl, lk, hcd⟩ := Fn.ex
  have hvl : vs.length = ps.length := (Paired.length ar).symm.trans hlen
  have hul : us.length = ps.length := rv.length.symm.trans hvl
  refine StX.run_bnd (N := N) (ps := ps) lk hcd S room e0 (G := fun xs H2 => xs = vs ∧ H2 = H) (fun A' Ex Q' h => ?_) fun s2 H2 xs g room2 => ?_
  · rw [hb kV doc pm an cdv ct us hul]
    exact wpAny_pure (h s H vs us e0 Un.refl rfl (fun _ _ z => z) rv hvl ⟨rfl, rfl⟩)
  · obtain ⟨rfl, rfl⟩ := g
    refine ⟨_, hd cdv A outer s2 _ E R ⟨b, F, _⟩ rfl ht hE (guards_in ag _) room2 (takes_of rfl rfl rfl rfl), startD N dvs, F, _, rel_start wd ar, hread, ?_⟩
    refine ⟨fun env σ F' H' r _ z => ?_, fun env σ F' H' r _ z => z, fun env σ F' H' r _ z => z, fun dv v F' H' st rs z => q dv v F' H' st rs z⟩
    exact q (.d .none) .non F' H' r.st Rp.non z
end
end Dl
namespace Dl
open PySem PySem.Spec PyProof.Rows L2
/-! ### a refusal of one field made, and raised -/
def spIni (C : Addr) (n : Str) : Sp := fun vs H Q _ => ∃ a y, vs = [.ref a, y] ∧ H a = some (exo a C none) ∧ ∀ dx, H dx = none → dx ≠ a → Q .non (upd (upd H dx (exd dx [(n, y)])) a (exo a C (some dx)))
section
variable {P : Program} {w : World} {K : PySem.W.Frag} {mg : Str → Option Value} {base : Heap} {f C : Addr} {fd : FuncData}
theorem ini_ok {n qual : Str} {st : Stmt} {p1 p2 p3 p4 : Pos} (Fn : L2.Fun K "__init__" qual st f fd) (S : FnScope ["self", n] ["self", n] (defScope st)) (T : OexC K C) (hno : PySem.W.findIn K (.ref C) n = some none) (hne : n ≠ "self") (hn2 : (n == ("__debug__" : Str)) = false) (hn3 : (n == ("__classdict__" : Str)) = false)
    (hv0 : Vis (defScope st) ("self" : Str)) (hv1 : Vis (defScope st) n) (hb : defBody st = [.Assign [.Attribute (.Name "self" p1) n p2] (.Name n p3) p4]) :
    FnOk P w K mg base (L2.CX P w) 1 f fd ["self", n] (spIni C n) := by
  refine Fn.okX S (fun vs H Q E ⟨a, y, e, _⟩ => by rw [e]; rfl) fun cdv A outer s H vs Q E hr hsp => ?_
  obtain ⟨a, y, rfl, ha, q⟩ := hsp
  rw [hb]
  refine ⟨_, pss_one (ps_ost (pv 0 (hv := hv0)) (pv 1 (hv := hv1) (hd := hn2) (hcd := hn3))), ?_⟩
  exact ⟨y, rfl, .ref a, rfl, a, C, rfl, T, hno, .inl ⟨ha, q⟩⟩
end
section
variable {X : Cx} {w : Wn} {E : L2.St → XK} {R : List Sl → XD} {C fI : Addr} {fd : FuncData} {n x : Str} {a : Expr} {te : DT} {p pos pos2 : Pos} {k : Nat}
/-- raise C(e) -/
theorem ds_raise1 (hc : X.calm = true) (tk : Takes X (fun cls d σ H => E σ cls d H)) (T : OexC X.K C) (iC : PySem.W.findIn X.K (.ref C) "__init__" = some (some (.ref fI))) (tI : PySem.W.typeIn X.K (.ref fI) = some (.type "function"))
    (F1 : FnOk X.prog X.w X.K X.mg X.base (L2.CX X.prog X.w) k fI fd ["self", n] (spIni C n)) (hr : Room (k + 1) X.A) (hb : Binds X.K fd ["self", n] []) (hg : Gl X x) (hm : X.mg x = some (.ref C)) (he : DPE X w a te) (hE : XEnS X.mg X.K w E R)
    (hps : Passes (L2.CX X.prog X.w) X (fun _ _ _ => False)) (hdb : (x == ("__debug__" : Str)) = false := by decide) (hs : starEach [a] X.env = [(false, eval a X.env)] := by rfl) (hpl : (backTo pos (starEach [] X.env)).any (·.1) = false := by rfl) :
    DPS X w (.Raise (some (.Call (.Name x p) [a] [] pos)) none pos2) (tRaiseX R x n te) :=
  ps_weak (L2.ps_raise hc tk (pmk_oex T iC tI F1 hr hb .nil hps hg hm (pa_cons he pa_nil hs) hdb hs hpl)) fun D σ H ⟨env, F, d, r, h, fit⟩ => ⟨env, F, _, r, h, fun dv v F1 H1 s1 r1 h1 => by
    split at h1
    · next y =>
      refine ⟨by simp, fun a ha => ⟨a, v, rfl, upd_same, fun dx hd ne => ⟨rfl, dx, [(n, v)], upd_same, ?_, ?_, ?_⟩⟩⟩
      · rw [upd_ne ne]; exact upd_same
      · rw [upd_ne ne] at hd; exact hd
      · have hd1 : H1 dx = none := by rw [upd_ne ne] at hd; exact hd
        have e : upd (del (upd (upd (upd H1 a (exo a C none)) dx (exd dx [(n, v)])) a (exo a C (some dx))) a) dx (.xd [(n, v)]) = upd H1 dx (.xd [(n, v)]) := by
          funext z
          by_cases z1 : z = dx
          · rw [z1, upd_same, upd_same]
          · rw [upd_ne z1, upd_ne z1]
            by_cases z2 : z = a
            · rw [z2, del_same, ha]
            · rw [del_ne z2, upd_ne z2, upd_ne z1, upd_ne z2]
        rw [e]
        exact (hE env σ F H r).fl x C n y v dx F1 _ hm (s1.trans (s1.wd.laidM (o := .xd [(n, v)]) hd1)) upd_same r1 h1
    · exact h1.elim⟩
end
end Dl
namespace Dl
open PySem PySem.Spec PyProof.Rows L2
/-! ### a def that takes any number of arguments and may refuse -/
theorem d_starX {ts : List Addr} {P : Program} {w : World} {K : PySem.W.Frag} {mg : Str → Option Value} {base : Heap} {k : Nat} {f : Addr} {fd : FuncData} {x qual pv : Str} {st : Stmt} {N : List Str} (Fn : L2.Fun K x qual st f fd) (S : FnScope N [pv] (defScope st))
    (hb : ∀ (kV doc pm : Value) (an : Option Addr) (cdv ct : Value) (us : List Value), bindArgs (PySem.W.fnOf x qual (defArgs st) (defBody st) (defScope st) .none kV doc pm an cdv ct) { pos := us, kw := [] } = (newTuple us >>= fun t => pure [(pv, t)]))
    (sp : DSpX) (t : XD → DS)
    (hd : ∀ (cdv : Value) (A : Around) (outer : List Env) (s : Shared) (H : Hp) (E : XK) (R : XD) (wn : Wn), fd.code = cdv → wn.b.ts = ts → XEnd mg K wn.b wn.F wn.H E R → (A.deeper (envOfC qual (defScope st) s.heap.objs.size f cdv)).guards = some [] → Room k (A.deeper (envOfC qual (defScope st) s.heap.objs.size f cdv)) →
      Takes (cxOf (L2.CX P w) P w K mg base N qual (defScope st) f cdv A outer s H E) (fun cls d _ H => E cls d H) → DPSs (cxOf (L2.CX P w) P w K mg base N qual (defScope st) f cdv A outer s H E) wn (defBody st) (t R))
    (hv : ∀ dvs Q R, sp dvs Q R → allD dvs fun xs => xs.length ≤ 100000 ∧ t R { nx := fun _ => Q (.d .none), rt := Q } (startD N [.d (.tuple xs)])) : Fg P w K mg base (L2.CX P w) (k + 1) f (PmX mg K ts sp) := by
  intro A outer s H us vs Q E ag room e0 rv want
  obtain ⟨b, F, dvs, R0, R, ht, wd, ar, hsp, q, hE⟩ := want
  have ar2 : Paired (ArR K b F H) dvs vs := by
    clear rv hsp q hE
    induction ar with
    | nil => exact .nil
    | @cons dv v _ _ a t ih =>
      refine .cons ?_ ih
      cases dv with
      | d x => exact a
      | raw u => exact a
      | bag => exact a
      | fr x => exact a.elim
      | ow l x => exact a.elim
      | ft x => exact a.elim
      | tr p S x => exact a.elim
  obtain ⟨xs, rx, hz, hread⟩ := allD_ok ar2 (hv dvs R0 R hsp)
  obtain ⟨oc, od, kV, doc, pm, an, cdv, ct, osl, rfl, lk, hcd⟩ := Fn.ex
  have hn : H s.heap.objs.size = none := e0.hok.fresh (Nat.le_refl _)
  have hvl : vs.length ≤ sizeLine := by rw [rx.len]; exact lim_le hz
  have hul : us.length ≤ sizeLine := by rw [← rv.length]; exact hvl
  refine StX.run_bnd (N := N) (ps := [pv]) lk hcd S room e0 (G := fun ys H2 => ∃ p, H p = none ∧ ys = [V.ref p] ∧ H2 = upd H p (.tup vs)) (fun A' Ex Q' h => ?_) fun s2 H2 ys g room2 => ?_
  · rw [hb kV doc pm an cdv ct us]
    refine wpAny_bind (wpAny_newTuple (wpAny_pure ?_) hul)
    have new : ObjOk P w (upd H s.heap.objs.size (.tup vs)) (s.heap.push ({ cls := .type "tuple", data := .seq us.toArray } : Obj)) s.heap.objs.size (.tup vs) := ⟨hvl, us, rv, ⟨_, Heap.get?_push_size _ rfl, rfl, _, rfl⟩⟩
    have un := StX.un_laid (fs := frs outer) (s := s) (o := ({ cls := .type "tuple", data := .seq us.toArray } : Obj)) (u := .tup vs) hn
    exact h _ _ [V.ref s.heap.objs.size] [Value.ref s.heap.objs.size] (StX.env0_laid e0 new) un rfl (fun e s' => StX.cxUp outer s H _ _ E e s' un (fun c o q => Heap.get?_push_of_some _ q) rfl) (.cons rfl .nil) rfl ⟨_, hn, rfl, rfl⟩
  · obtain ⟨p, hp, rfl, rfl⟩ := g
    have stp := wd.laid (o := .tup vs) hp
    have ra : Rp K (upd F p (.tup vs)) (.ref p) (.tuple xs) := Rp.tup (SqT.of upd_same) (rx.up stp.ex)
    refine ⟨_, hd cdv A outer s2 _ E R ⟨b, upd F p (.tup vs), upd H p (.tup vs)⟩ rfl ht (hE.later stp) (guards_in ag _) room2 (takes_of rfl rfl rfl rfl), startD N [.d (.tuple xs)], upd F p (.tup vs), _, rel_start stp.wd (.cons ra .nil), hread, ?_⟩
    refine ⟨fun env σ F' H' r _ z => ?_, fun env σ F' H' r _ z => z, fun env σ F' H' r _ z => z, fun dv v F' H' st' rs z => q dv v F' H' (stp.trans st') (rs.early stp) z⟩
    exact q (.d .none) .non F' H' (stp.trans r.st) Rp.non z
end Dl
namespace Dl
open PySem PySem.Spec PyProof.Rows L2
/-! ### try .. except C as n -/
def noOw (env : List Sl) : Prop := ∀ (i : Nat) (s : Sl), env[i]? = some s → slA s = []
section
variable {K : PySem.W.Frag} {b : Bg} {F₀ H₀ F₁ H₁ F H : Hp} {env : List Sl} {σ : L2.St}
theorem Rel.reroot (r : Rel K b F₀ H₀ env σ F H) (no : noOw env) : Rel K b F H env σ F H := by
  refine ⟨r.len, r.st.wd.refl, fun i s h => ?_, fun i j s t a h1 _ m _ => by rw [no i s h1] at m; cases m⟩
  have q := r.at' i s h
  cases s with
  | ow l xs => exact absurd (no i _ h) (by simp [slA])
  | tr p S x =>
    obtain ⟨v, e, nd, k, mr, q⟩ := q
    have e0 : S = [] := no i _ h
    subst e0
    exact ⟨v, e, nd, (fun a m => by cases m), mr, q⟩
  | tv v S x =>
    obtain ⟨e, nd, k, mr, q⟩ := q
    have e0 : S = [] := no i _ h
    subst e0
    exact ⟨e, nd, (fun a m => by cases m), mr, q⟩
  | _ => exact q
theorem Rel.unroot (s : Stp K b F₀ H₀ F₁ H₁) (r : Rel K b F₁ H₁ env σ F H) : Rel K b F₀ H₀ env σ F H := by
  refine ⟨r.len, s.trans r.st, fun i z h => ?_, r.own⟩
  have q := r.at' i z h
  cases z with
  | ow l xs =>
    obtain ⟨q1, q2, q3, q4, q5⟩ := q
    exact ⟨q1, s.back q4 q2, q3, q4, q5⟩
  | tr p S x =>
    obtain ⟨v, e, nd, k, mr, q⟩ := q
    exact ⟨v, e, nd, fun a m => ⟨s.back (k a m).2.2 (k a m).1, (k a m).2⟩, mr, q⟩
  | tv v S x =>
    obtain ⟨e, nd, k, mr, q⟩ := q
    exact ⟨e, nd, fun a m => ⟨s.back (k a m).2.2 (k a m).1, (k a m).2⟩, mr, q⟩
  | _ => exact q
end
theorem Fit.root {K : PySem.W.Frag} {w : Wn} {F₁ H₁ : Hp} {d : DK} {D : Ends} (st : Stp K w.b w.F w.H F₁ H₁) (f : Fit K w F₁ d D) : Fit K ⟨w.b, F₁, H₁⟩ F₁ d D :=
  ⟨fun env σ F H r z => f.nx env σ F H (Rel.unroot st r) z, fun env σ F H r z => f.bk env σ F H (Rel.unroot st r) z, fun env σ F H r z => f.ct env σ F H (Rel.unroot st r) z, fun dv v F H s r z => f.rt dv v F H (st.trans s) (Res.early st r) z⟩
/-- the ends behind a suite: the exception's name is forgotten -/
def forgotD (i : Nat) (d : DK) : DK := { nx := fun e => d.nx (e.set i .un), rt := d.rt, bk := fun e => d.bk (e.set i .un), ct := fun e => d.ct (e.set i .un) }
def forgotE (i : Nat) (D : Ends) : Ends := { nx := fun σ' H' => D.nx (σ'.set i none) H', rt := D.rt, bk := fun σ' H' => D.bk (σ'.set i none) H', ct := fun σ' H' => D.ct (σ'.set i none) H' }
theorem Fit.forget {K : PySem.W.Frag} {w : Wn} {F₁ : Hp} {d : DK} {D : Ends} (i : Nat) (f : Fit K w F₁ d D) : Fit K w F₁ (forgotD i d) (forgotE i D) :=
  ⟨fun env σ F H r z h => f.nx _ _ F H (r.forget i) z h, fun env σ F H r z h => f.bk _ _ F H (r.forget i) z h, fun env σ F H r z h => f.ct _ _ F H (r.forget i) z h, f.rt⟩
abbrev DSuite := Addr → Str → Str → PyData → DS
/-- what the body's exceptions are wished -/
def rIn (i : Nat) (cs : List (Str × Str)) (exm : Str → Bool) (tS : DSuite) (R : List Sl → XD) (d : DK) : List Sl → XD := fun env c n x => (c, n) ∈ cs ∧ (exm c = true → noOw env ∧ ∀ a, tS a c n x (forgotD i d) (env.set i (.raw (.ref a)))) ∧ (exm c = false → R env c n x)
def tTryAs (i : Nat) (cs : List (Str × Str)) (exm : Str → Bool) (tS : DSuite) (R : List Sl → XD) (tB : (List Sl → XD) → DS) : DS := fun d env => noOw env ∧ tB (rIn i cs exm tS R d) d env
section
variable {X : Cx} {w : Wn} {E : L2.St → XK} {R : List Sl → XD} {x n : Str} {cv : Value} {i : Nat} {body suite : List Stmt} {b₀ : Stmt} {np pos pos' : Pos}
def sufT (X : Cx) (w : Wn) (cs : List (Str × Str)) (tS : DSuite) : Addr → Value → Option Addr → TS := fun a cls d D σ H => ∃ c C nf y v dd F, Wd X.K w.b F H ∧ (c, nf) ∈ cs ∧ cls = .ref C ∧ X.mg c = some (.ref C) ∧ d = some dd ∧ H dd = some (.xd [(nf, v)]) ∧ Rp X.K F v y ∧ lfS X.K ⟨w.b, F, H⟩ (tS a c nf y) D σ H
theorem ds_tryAs {cs : List (Str × Str)} {exm : Str → Bool} {tS : DSuite} {tB : (List Sl → XD) → DS}
    (hs : X.stack = X.env :: X.outer) (hf : X.env.frame = some X.env.locals) (hN : X.N.Nodup) (hi : X.N[i]? = some n) (hln : X.env.kindOf n = some .local) (hc : Names X x cv) (tk : Takes X (fun cls d σ H => E σ cls d H)) (hE : XEnS X.mg X.K w E R)
    (hnm : ∀ q ∈ cs, q.2 ≠ "")
    (hexm : ∀ q ∈ cs, ∀ C, X.mg q.1 = some (.ref C) → PySem.W.exmOne X.K (.ref C) cv = some (exm q.1))
    (hb : ∀ (pn : List (Addr × Obj)) (xe : Value → Shared → Prop) (E' : L2.St → XK) (Rin : List Sl → XD) (w' : Wn), w'.b = w.b → Takes (X.tr pn xe) (fun cls d σ H => E' σ cls d H) → XEnS X.mg X.K w' E' Rin → DPSs (X.tr pn xe) w' body (tB Rin))
    (hsu : ∀ (a : Addr) (oe : Obj) (pn : List (Addr × Obj)) (c : Str) (C : Addr) (nf : Str) (y : PyData) (v : V) (dd : Addr) (w' : Wn), w'.b = w.b → (c, nf) ∈ cs → X.mg c = some (.ref C) → Wd X.K w'.b w'.F w'.H → w'.H dd = some (.xd [(nf, v)]) → Rp X.K w'.F v y → Zc (.ref C) (some dd) oe → (∃ vs, oe.data = .fields vs) → DPSs (X.suite a ((a, oe) :: pn)) w' (b₀ :: suite) (tS a c nf y)) :
    DPS X w (.Try body [.ExceptHandler (some (.Name x np)) (some n) (b₀ :: suite) pos'] [] [] pos) (tTryAs i cs exm tS R tB) := by
  refine ps_weak (L2.ps_try_as (tb := fun W D σ H => ∃ w' Rin, w'.b = w.b ∧ XEnS X.mg X.K w' (fun σ cls d H => W cls d σ H) Rin ∧ lfS X.K w' (tB Rin) D σ H) (ts := sufT X w cs tS) hs hf hN hi hln hc tk (fun W pn xe tkW _ => ⟨fun p s σ H D I ⟨w', Rin, e, hx, q⟩ => (hb pn xe _ Rin w' e tkW hx).run p s σ H D I q⟩)
    (fun a oe cls d pn hz hfl => ⟨fun p s σ H D I ⟨c, C, nf, y, v, dd, F, ew, e0, e1, e2, e3, e4, e5, q⟩ => by
      subst e1 e3
      exact (hsu a oe pn c C nf y v dd ⟨w.b, F, H⟩ rfl e0 e2 ew e4 e5 hz hfl).run p s σ H D I q⟩)) fun D σ H ⟨env, F, d, r, ⟨no, h⟩, fit⟩ => ?_
  refine ⟨⟨w.b, F, H⟩, rIn i cs exm tS R d, rfl, fun env2 σ2 F2 H2 r2 => ⟨fun c C nf y v dd F3 H3 hc3 s3 h3 rp ⟨hcs, q1, q2⟩ => ?_, fun c C F3 H3 hc3 s3 ⟨hcs, _⟩ => absurd rfl (hnm _ hcs)⟩, env, F, d, r.reroot no, h, fit.root r.st⟩
  refine ⟨exm c, hexm (c, nf) hcs C hc3, fun hb1 a ha => ?_, fun hb1 => ?_⟩
  · obtain ⟨no2, q⟩ := q1 hb1
    refine ⟨c, C, nf, y, v, dd, F3, s3.wd, hcs, rfl, hc3, rfl, h3, rp, env2.set i (.raw (.ref a)), F3, forgotD i d, ?_, q a, ?_⟩
    · have z := (r2.step s3).reroot no2
      exact z.put i (z := .raw (.ref a)) (v := .ref a) rfl (fun a m => by cases m)
    · have st2 : Stp X.K w.b w.F w.H F3 H3 := (r.st.trans r2.st).trans s3
      exact ((fit.up (r2.st.trans s3).ex).root st2).forget i
  · exact (hE env2 σ2 F2 H2 (Rel.unroot r.st r2)).fl c C nf y v dd F3 H3 hc3 s3 h3 rp (q2 hb1)
/-! try .. except C: -/
end
end Dl
namespace Dl
open PySem PySem.Spec PyProof.Rows L2
/-! ### in an except suite: e.f and isinstance(e, C) -/
section
variable {X : Cx} {w : Wn} {a C dd : Addr} {oe : Obj} {pn : List (Addr × Obj)} {n x : Str} {i : Nat} {y : PyData} {v : V} {p pos p2 : Pos} {e2 : Expr}
theorem xd_stays {K : PySem.W.Frag} {b : Bg} {F₀ H₀ F H : Hp} {fs : List (Str × V)} (st : Stp K b F₀ H₀ F H) (wd : Wd K b F₀ H₀) (h : H₀ dd = some (.xd fs)) : H dd = some (.xd fs) := by
  refine st.keep dd _ (fun e => ?_) (fun ps e => by cases e) h
  obtain ⟨vs, eb⟩ := wd.bag.lst
  rw [e, eb] at h; cases h
def tAtX (i : Nat) (a : Addr) (y : PyData) : DT := fun env P => env[i]? = some (.raw (.ref a)) ∧ P (.d y)
theorem d_atX (T : XfC X.K C) (hno : PySem.W.findIn X.K (.ref C) n = some none) (hz : Zc (.ref C) (some dd) oe) (hf : ∃ vs, oe.data = .fields vs) (wd : Wd X.K w.b w.F w.H) (hd : w.H dd = some (.xd [(n, v)])) (rp : Rp X.K w.F v y)
    (he : PE (X.suite a ((a, oe) :: pn)) e2 (tVar i)) (hb : attributeBase e2 n X.env (eval e2 X.env) = eval e2 X.env := by rfl) : DPE (X.suite a ((a, oe) :: pn)) w (.Attribute e2 n pos) (tAtX i a y) :=
  pe_weak (pe_xf T hno hz hf he hb) fun σ H Q ⟨env, F, P, r, ⟨e, h⟩, q⟩ => ⟨.ref a, r.at' i _ e, rfl, rfl, dd, [(n, v)], v, rfl, xd_stays r.st wd hd, by simp [List.lookup], q (.d y) v F H r.wd.refl (rp.up r.st.ex) h⟩
def tIsX (i : Nat) (a : Addr) (b : Bool) : DT := fun env P => env[i]? = some (.raw (.ref a)) ∧ P (.d (.bool b))
end
end Dl
namespace Dl
open PySem PySem.Spec PyProof.Rows L2
/-! ### readings of what may refuse, for the walk -/
section
variable {sp : DSpX} {R : List Sl → XD} {t : DA} {env : List Sl} {P : DV → Prop} {c n : Str} {te : DT} {d : DK}
theorem uxE : tUseX sp R t env P = t env fun us => anyOw us = [] ∧ sp (us.map dat) P (R env) := propext ⟨fun h => h, fun h => h⟩
def isDt : DV → (PyData → Prop) → Prop
  | .d x, k => k x
  | .fr _, _ => False
  | .ow _ _, _ => False
  | .raw _, _ => False
  | .bag, _ => False
  | .ft _, _ => False
  | .tr _ _ _, _ => False
theorem raE : tRaiseX R c n te d env = te env fun u => isDt u (R env c n) := by
  unfold tRaiseX
  congr 1
  funext u
  cases u <;> rfl
theorem isE (i : Nat) (a : Addr) (b : Bool) : tIsX i a b env P = (env[i]? = some (.raw (.ref a)) ∧ P (.d (.bool b))) := propext ⟨fun h => h, fun h => h⟩
theorem axE (i : Nat) (a : Addr) (y : PyData) : tAtX i a y env P = (env[i]? = some (.raw (.ref a)) ∧ P (.d y)) := propext ⟨fun h => h, fun h => h⟩
end
theorem noOw_ok (env : List Sl) (h : env.all (fun s => match s with | .ow _ _ => false | .tr _ _ _ => false | .tv _ _ _ => false | _ => true) = true) : noOw env := fun i s e => by
  have := List.all_eq_true.mp h _ (List.mem_of_getElem? e)
  cases s <;> first | rfl | cases this
/-- a list taken apart into names -/
def gtLD (n : Nat) (gs : DGs) : DG := fun x env k => match x with
  | .list xs => xs.length = n ∧ gs xs env k
  | _ => False
/-- enumerate of truths, from k on -/
def enumF (k : Nat) : List Bool → List PyData
  | [] => []
  | b :: bs => .tuple [.int (k : Nat), .bool b] :: enumF (k + 1) bs
/-- the first that is False -/
def fstF (k : Nat) : List Bool → Option Nat
  | [] => none
  | b :: bs => if b then fstF (k + 1) bs else some k
theorem enumF_from : ∀ (k : Nat) (bs : List Bool), ((bs.map PyData.bool).zipIdx k).map (fun p => PyData.tuple [.int (p.2 : Nat), p.1]) = enumF k bs
  | _, [] => rfl
  | k, b :: bs => by
    rw [List.map_cons, List.zipIdx_cons, List.map_cons, enumF_from (k + 1) bs]
    rfl
theorem enumF_eq (bs : List Bool) : enumD (bs.map PyData.bool) = enumF 0 bs := enumF_from 0 bs
theorem allD_bools (bs : List Bool) {k : List PyData → Prop} (h : k (bs.map .bool)) : allD (bs.map fun b => DV.d (.bool b)) k := by
  induction bs generalizing k with
  | nil => exact h
  | cons b bs ih =>
    rw [List.map_cons]
    unfold allD
    refine ih (k := fun xs => k (.bool b :: xs)) ?_
    exact h
end Dl
namespace Dl
open PySem PySem.Spec PyProof.Rows L2
/-! ### raise C() -/
section
variable {X : Cx} {w : Wn} {E : L2.St → XK} {R : List Sl → XD} {C : Addr} {bmB : List Value} {B newId initId : String} {x : Str} {p pos pos2 : Pos}
def tRaise0 (R : List Sl → XD) (c : Str) : DS := fun _ env => R env c "" .none
end
/-! ### objects of classes of the module -/
section
variable {X : Cx} {w : Wn} {e : Expr} {te : DT} {f : Str} {pos : Pos}
/-- e.f, e an object of one of the classes cs -/
def tFldD (cs : List Str) (f : Str) (te : DT) : DT := fun env P => te env fun u => ∃ c ds y, u = .d (obD c ds) ∧ c ∈ cs ∧ ds.lookup f = some y ∧ P (.d y)
/-- self.f = e in an __init__: f is new -/
def tOstD (cs : List Str) (i : Nat) (f : Str) (te : DT) : DS := fun d env => te env fun dv => match frz dv, env[i]? with
  | .d x, some (.tr false S y) => ∃ c ds, y = obD c ds ∧ c ∈ cs ∧ f ∉ ds.map Prod.fst ∧ ds.length < 900 ∧ d.nx (env.set i (.tr false S (obD c (ds ++ [(f, x)]))))
  | _, _ => False
theorem OtA.snoc {K : PySem.W.Frag} {F H : Hp} {v : V} {x : PyData} (h : Rp K F v x) : ∀ {T : List Addr} {vs : List V} {xs : List PyData}, OtA K F H false T vs xs → OtA K F H false T (vs ++ [v]) (xs ++ [x])
  | _, _, _, .nil => .cons (S := []) (T := []) (.leaf h fun z => nomatch z) .nil
  | _, _, _, .cons (S := S) (T := T) a t => .cons a (OtA.snoc h t)
end
/-! a def __init__, and C(..) -/
abbrev DSpI := List DV → (List (Str × PyData) → Prop) → XD → Prop
end Dl
namespace Dl
open PySem PySem.Spec PyProof.Rows L2
section
variable {X : Cx} {w : Wn} {k : Nat} {f C : Addr} {E : L2.St → XK} {R : List Sl → XD} {x m : Str} {p pos apos : Pos} {e o : Expr} {es : List Expr} {t : DA} {te : DT}
/-- C(..), C the class of name c in the module, with an __init__ of its own -/
def tMakeD (sp : DSpI) (c : Str) (R : List Sl → XD) (t : DA) : DT := fun env P => t env fun us => anyOw us = [] ∧ sp (us.map dat) (fun ds => P (.d (obD c ds))) (R env)
/-- o.m(..), o an object of the class of name c -/
def tMethX (c m : Str) (sp : DSpX) (R : List Sl → XD) (te : DT) (t : DA) : DT := fun env P => te env fun u => ∃ ds, u = .d (obD c ds) ∧ m ∉ ds.map Prod.fst ∧ t env fun us => anyOw us = [] ∧ sp (.d (obD c ds) :: us.map dat) P (R env)
/-- a promise without refusals, as one with them -/
def xOf (sp : DSp) : DSpX := fun us P _ => sp us P
/-- one of two classes -/
def tEith (t u : DT) : DT := fun env P => t env P ∨ u env P
/-- isinstance(o, D), o an object of one of the classes cs -/
def tIsC (cs : List Str) (d : Str) (te : DT) : DT := fun env P => te env fun u => ∃ c ds, u = .d (obD c ds) ∧ c ∈ cs ∧ P (.d (.bool (c == d)))
/-! constant dicts of the module, keys texts -/
/-- e in D -/
def tInK (ks : List (Str × PyData)) (te : DT) : DT := fun env P => te env fun u => ∃ z, u = .d (.str z) ∧ P (.d (.bool (ks.lookup z).isSome))
/-- D[e] -/
def tItK (ks : List (Str × PyData)) (te : DT) : DT := fun env P => te env fun u => ∃ z y, u = .d (.str z) ∧ ks.lookup z = some y ∧ P (.d y)
end
end Dl
namespace Dl
open PySem PySem.Spec PyProof.Rows L2
/-! ### xs.count(k), whole numbers -/
section
variable {X : Cx} {w : Wn}
def tCntD (te : DT) (ta : DA) : DT := fun env P => te env fun u => rd u fun x => match x with
  | .list xs => ta env fun us => one us fun z => rd z fun y => ∃ (ns : List Int) (k : Int), xs = ns.map .int ∧ y = .int k ∧ P (.d (.int (ns.count k : Nat)))
  | _ => False
/-! ### a list times a number -/
def gMulL : G2 := fun x y P => match x, y with
  | .list xs, .int k => 0 ≤ k ∧ k < 1000 ∧ xs.length * k.toNat ≤ 100000 ∧ P (.fr (List.replicate k.toNat xs).flatten)
  | _, _ => False
end
end Dl
namespace Dl
open PySem PySem.Spec PyProof.Rows L2
/-! ### a law's end, the facts of the module told by names -/
theorem law_endX {l : PySem.W.OpenLaw} {k : Nat} {q : Program} {loose : List Str} {XP : (Str → Option Value) → Heap → Prop} {YP : World → Heap → Prop} {d : DefRec} {sp : PySem.W.Frag → List Addr → Sp}
    (hn : l.most = some 63) (hdf : d.params.defaults = []) (room : Room k callerA) (ag : callerA.guards = some [])
    (F : ∀ (w : World) (mg mb : Str → Option Value) (lo : List Str) (mean : ExcName → Option Value) (fa : Addr) (h : Heap), YP w h → PyProof.Rows.Top q lo mean mg mb h → mg d.name = some (.ref fa) →
      ∃ (K : PySem.W.Frag) (cs : List (Addr × Addr)), K.In h ∧ Tabs K h cs ∧ ∀ base : Heap, K.In base → base.Ns mainGlobals mg → (∀ p ∈ cs, GxR.TabB base mg p.1 p.2) → Fg l.prog w K mg base (L2.CX l.prog w) k fa (sp K (cs.map Prod.snd)))
    (hsp : ∀ (K : PySem.W.Frag) (H : Hp) (a : Addr) (ns : List Int) (ts : List Addr), ns.length ≤ 63 → (∀ t ∈ ts, GxR.TabG H t) → SqL K H a (ns.map V.int) → sp K ts [.ref a] H (fun v _ => v = .bl true) E0) :
    PySem.W.WalkO q loose XP YP l.row.toRowW d [] (fun f vs => PySem.call f vs) := by
  refine Att.attach_callB hn hdf fun w s0 st mg mb fa o pm cd doc a vs ns G Y ho hd hcd hmg hobj hints hlen hbits hg => ?_
  obtain ⟨K, cs, kin, T, fg⟩ := F w mg mb _ _ fa _ Y G.T hmg
  obtain ⟨H, base, seq, tabs, e0, kb, nb, tb, old⟩ := opening (P := l.prog) (w := w) kin G.T.g G.T.b G.T.builtins G.T.nolimit hg hobj hints (Nat.le_trans hlen (by decide)) T G.T.bmain
  have tg : ∀ t ∈ cs.map Prod.snd, GxR.TabG H t := fun t ht => by
    obtain ⟨p, hp, rfl⟩ := List.mem_map.mp ht
    exact ⟨#[], tabs p hp, by simp [TriplesOk]⟩
  refine codeAny_mono (fg base kb nb tb callerA [] st H [.ref a] [.ref a] _ _ ag room e0 (.cons rfl .nil) (hsp _ H a ns _ hlen tg seq)) fun r s2 got => ?_
  match r, got with
  | .error e, got =>
    obtain ⟨_, _, _, _, _, _, _, _, _, _, _, _, z⟩ := got
    exact z.elim
  | .ok (.ret u), got =>
    obtain ⟨v, H', os, bare, un, ok', rv, e⟩ := got
    subst e
    obtain rfl : u = Value.bool true := rv
    exact ⟨rfl, old H' _ un ok', os, bare⟩
section
variable {fa : List He.Fa} {fn : List He.DefD} {ts : List He.Tab} {tf : List He.Defn} {ex : PySem.W.Frag → Bool} {w : World} {h : Heap} {K : PySem.W.Frag}
theorem tabsX (X : K.In h) (c : He.SaysX fa fn ts tf ex w h K) : Tabs K h (tf.map (He.cT K)) := by
  refine ⟨fun p hp => ?_, fun p hp => ?_, fun p hp => ?_⟩ <;> obtain ⟨d, hd, rfl⟩ := List.mem_map.mp hp
  · exact c.empty d hd
  · exact PySem.W.codeHd_of_K X (c.hd d hd)
  · exact c.out d hd
theorem fun_ofD {x qual : Str} {st : Stmt} {f : Addr} {fd : FuncData} (F : FunD K x qual (defArgs st) (defBody st) (defScope st) [] [] f fd) : L2.Fun K x qual st f fd := by
  obtain ⟨oc, od, dV, kV, doc, pm, an, cdv, ct, osl, e, lk, cd, dv, _⟩ := F.ex
  rcases dv with ⟨_, rfl⟩ | ⟨z, _⟩
  · exact ⟨⟨oc, od, kV, doc, pm, an, cdv, ct, osl, e, lk, cd⟩, F.kp⟩
  · exact absurd rfl z
end
/-! ### a constant dict of the module, told by its keys and its values -/
inductive DatE (K : PySem.W.Frag) : List (Str × He.Dv) → List (Str × PyData) → Prop
  | nil : DatE K [] []
  | cons {x : Str} {v : He.Dv} {y : PyData} {kvs : List (Str × He.Dv)} {ds : List (Str × PyData)} (h : ∀ F, Rp K F (v.v K) y) (r : DatE K kvs ds) : DatE K ((x, v) :: kvs) ((x, y) :: ds)
section
variable {K : PySem.W.Frag} {w : World} {d : Addr}
theorem DatE.get {z : Str} : ∀ {kvs : List (Str × He.Dv)} {ds : List (Str × PyData)}, DatE K kvs ds → (match ds.lookup z with
    | some y => ∃ v, (z, v) ∈ kvs ∧ ∀ F, Rp K F (v.v K) y
    | none => z ∉ kvs.map Prod.fst)
  | _, _, .nil => by simp
  | (x, v) :: kvs, (_, y) :: ds, .cons h r => by
    have ih := DatE.get (z := z) r
    rw [List.lookup_cons]
    by_cases e : z = x
    · subst e
      simp only [beq_self_eq_true]
      exact ⟨v, List.mem_cons_self .., h⟩
    · have e1 : (z == x) = false := by simpa using e
      rw [e1]
      cases q : ds.lookup z with
      | some y' =>
        rw [q] at ih
        obtain ⟨v', m, r'⟩ := ih
        exact ⟨v', List.mem_cons_of_mem _ m, r'⟩
      | none =>
        rw [q] at ih
        simp only [List.map_cons, List.mem_cons, not_or]
        exact ⟨e, ih⟩
end
/-! ### a class of refusals -/
section
variable {K : PySem.W.Frag} {C : Addr}
theorem oexB_ok (h : oexB K C = true) (sa : PySem.W.findIn K (.ref C) "__setattr__" = some (some (.builtin "object.__setattr__"))) (eC : PySem.W.subIn K (.ref C) (.type "BaseException") = some true) (tC : PySem.W.typeIn K (.ref C) = some (.type "type")) (kC : PySem.W.keepIn K (.ref C) = true) : OexC K C := by
  refine ⟨?_, sa, eC, tC, kC⟩
  unfold oexB at h
  split at h
  · next o ho =>
    split at h
    · next c cd n a1 a2 a3 a4 a6 e1 e2 e3 =>
      split at h
      · next b bm em =>
        simp only [Bool.and_eq_true, decide_eq_true_eq, Bool.not_eq_true'] at h
        obtain ⟨rfl, rfl, rfl, z1, z2, z3⟩ := h
        obtain ⟨oc, od, dt, ⟨sl⟩⟩ := o
        obtain ⟨nm, bs, mro, ns, qn, hd, sn, sub, ab, col, del⟩ := cd
        dsimp only at e1 e2 e3 em z1 z2
        subst e1 e2 e3 em z1 z2
        exact ⟨nm, qn, ns, bs, bm, sn, sub, ab, col, od, _, _, _, _, _, ho, z3⟩
      · cases h
    · cases h
  · cases h
end
/-! ### the one class of a name -/
/-! ### a constant tuple of the module, told by its values -/
theorem exsAt {bs : List (PySem.W.Frag → Bool)} {K : PySem.W.Frag} (h : (bs.all fun b => b K) = true) (i : Nat) {b : PySem.W.Frag → Bool} (e : bs[i]? = some b := by rfl) : b K = true := List.all_eq_true.mp h b (List.mem_of_getElem? e)
/-! ### the readings unfolded -/
section
variable {te : DT} {da : DA} {env : List Sl} {P : DV → Prop} {d : DK} {c m f x : Str} {cs : List Str} {R : List Sl → XD}
theorem mkE (sp : DSpI) : tMakeD sp c R da env P = da env fun us => anyOw us = [] ∧ sp (us.map dat) (fun ds => P (.d (obD c ds))) (R env) := propext ⟨fun h => h, fun h => h⟩
theorem meE (sp : DSpX) : tMethX c m sp R te da env P = te env fun u => ∃ ds, u = .d (obD c ds) ∧ m ∉ ds.map Prod.fst ∧ da env fun us => anyOw us = [] ∧ sp (.d (obD c ds) :: us.map dat) P (R env) := propext ⟨fun h => h, fun h => h⟩
theorem flE : tFldD cs f te env P = te env fun u => ∃ c ds y, u = .d (obD c ds) ∧ c ∈ cs ∧ ds.lookup f = some y ∧ P (.d y) := propext ⟨fun h => h, fun h => h⟩
theorem icE : tIsC cs x te env P = te env fun u => ∃ c ds, u = .d (obD c ds) ∧ c ∈ cs ∧ P (.d (.bool (c == x))) := propext ⟨fun h => h, fun h => h⟩
theorem inE (ks : List (Str × PyData)) : tInK ks te env P = te env fun u => ∃ z, u = .d (.str z) ∧ P (.d (.bool (ks.lookup z).isSome)) := propext ⟨fun h => h, fun h => h⟩
theorem ikE (ks : List (Str × PyData)) : tItK ks te env P = te env fun u => ∃ z y, u = .d (.str z) ∧ ks.lookup z = some y ∧ P (.d y) := propext ⟨fun h => h, fun h => h⟩
theorem xoE (sp : DSp) (us : List DV) (R : XD) : xOf sp us P R = sp us P := propext ⟨fun h => h, fun h => h⟩
theorem r0E : tRaise0 R c d env = R env c "" .none := propext ⟨fun h => h, fun h => h⟩
theorem osE (i : Nat) : tOstD cs i f te d env = te env fun dv => match frz dv, env[i]? with
  | .d x, some (.tr false S y) => ∃ c ds, y = obD c ds ∧ c ∈ cs ∧ f ∉ ds.map Prod.fst ∧ ds.length < 900 ∧ d.nx (env.set i (.tr false S (obD c (ds ++ [(f, x)]))))
  | _, _ => False := propext ⟨fun h => h, fun h => h⟩
theorem cnE : tCntD te da env P = te env fun u => rd u fun x => match x with
  | .list xs => da env fun us => one us fun z => rd z fun y => ∃ (ns : List Int) (k : Int), xs = ns.map .int ∧ y = .int k ∧ P (.d (.int (ns.count k : Nat)))
  | _ => False := propext ⟨fun h => h, fun h => h⟩
theorem mulLE (xs : List PyData) (k : Int) : gMulL (.list xs) (.int k) P = (0 ≤ k ∧ k < 1000 ∧ xs.length * k.toNat ≤ 100000 ∧ P (.fr (List.replicate k.toNat xs).flatten)) := propext ⟨fun h => h, fun h => h⟩
end
end Dl
namespace Dl
open PySem PySem.Spec PyProof.Rows L2
/-! ### lists of whole numbers -/
abbrev IL (ns : List Int) : List PyData := ns.map PyData.int
/-! comprehensions that keep some -/
end Dl
/-! ### sorted of any data that can be compared; the least and the greatest of a list; dicts that a slot owns -/
namespace Dl
open PySem PySem.Spec PyProof.Rows L2 PySem.W
/-! sorted(xs) -/
def cSortG : GC := fun us P => one us fun u => rd u fun x => match x with
  | .list xs => flatA xs = true ∧ AllAlike xs ∧ Sortable xs ∧ xs.length ≤ 100000 ∧ (∀ x ∈ xs, x.depth ≤ 50) ∧ ∀ ys : List PyData, ys.Perm xs → ys.Pairwise (fun a b => dataLt b a = false) → P (.fr ys)
  | _ => False
/-! min(xs), max(xs) -/
def cMinL (le : Int → Int → Prop) : GC := fun us P => one us fun u => rd u fun x => match x with
  | .list xs => ∃ ns : List Int, xs = ns.map PyData.int ∧ 0 < ns.length ∧ ∀ m, m ∈ ns → (∀ y, y ∈ ns → le m y) → P (.d (.int m))
  | _ => False
/-! ### a dict that a slot owns: its keys numbers and texts, what it holds never changes itself -/
def kD : Key → PyData
  | .inl i => .int i
  | .inr z => .str z
abbrev dK (kvs : List (Key × PyData)) : PyData := .dict (kvs.map fun p => (kD p.1, p.2))
def lkD (kvs : List (Key × PyData)) (k : Key) : Option PyData := (kvs.find? fun p => decide (p.1 = k)).map (·.2)
def ptD (kvs : List (Key × PyData)) (k : Key) (x : PyData) : List (Key × PyData) :=
  if (kvs.any fun p => decide (p.1 = k)) = true then kvs.map (fun p => if p.1 = k then (p.1, x) else p) else kvs ++ [(k, x)]
def allN (kvs : List (Key × PyData)) : Bool := kvs.all fun p => noL p.2
/-- the same keys, and what they hold -/
def KVp (K : PySem.W.Frag) (F : Hp) : List (Key × V) → List (Key × PyData) → Prop := Paired fun p q => p.1 = q.1 ∧ Rp K F p.2 q.2
theorem KVp.get {K : PySem.W.Frag} {F : Hp} {us : List (Key × V)} {kvs : List (Key × PyData)} (h : KVp K F us kvs) (k : Key) : match lkD kvs k with
    | some x => ∃ v, valV us k = some v ∧ Rp K F v x
    | none => valV us k = none := by
  unfold KVp at h
  induction h with
  | nil => exact valV_nil
  | @cons p q ps qs h t ih =>
    obtain ⟨h1, h2⟩ := h
    unfold lkD
    rw [List.find?_cons]
    by_cases e : p.1 = k
    · rw [decide_eq_true (h1.symm.trans e)]
      exact ⟨p.2, valV_pos e, h2⟩
    · rw [decide_eq_false (fun z => e (h1.trans z)), valV_neg e]
      exact ih
theorem KVp.some {K : PySem.W.Frag} {F : Hp} {us : List (Key × V)} {kvs : List (Key × PyData)} (h : KVp K F us kvs) {k : Key} {x : PyData} (e : lkD kvs k = some x) : ∃ v, valV us k = some v ∧ Rp K F v x := by
  have q := h.get k
  rw [e] at q
  exact q
theorem KVp.is {K : PySem.W.Frag} {F : Hp} {us : List (Key × V)} {kvs : List (Key × PyData)} (h : KVp K F us kvs) (k : Key) : (valV us k).isSome = (lkD kvs k).isSome := by
  have q := h.get k
  split at q
  · next x e =>
    obtain ⟨v, e2, _⟩ := q
    rw [e, e2]
    rfl
  · next e =>
    rw [e, q]
    rfl
theorem KVp.put {K : PySem.W.Frag} {F : Hp} {us : List (Key × V)} {kvs : List (Key × PyData)} (h : KVp K F us kvs) (k : Key) {v : V} {x : PyData} (r : Rp K F v x) : KVp K F (putK us k v) (ptD kvs k x) := by
  have ea : (us.any fun p => decide (p.1 = k)) = (kvs.any fun p => decide (p.1 = k)) := by
    unfold KVp at h
    induction h with
    | nil => rfl
    | cons h t ih => rw [List.any_cons, List.any_cons, ih, h.1]
  unfold putK ptD
  rw [ea]
  by_cases e : (kvs.any fun p => decide (p.1 = k)) = true
  · rw [if_pos e, if_pos e]
    clear e ea
    unfold KVp at h ⊢
    induction h with
    | nil => exact .nil
    | @cons p q ps qs h t ih =>
      obtain ⟨h1, h2⟩ := h
      rw [List.map_cons, List.map_cons]
      refine .cons ?_ ih
      by_cases e : p.1 = k
      · rw [if_pos e, if_pos (h1.symm.trans e)]
        exact ⟨h1, r⟩
      · rw [if_neg e, if_neg (fun z => e (h1.trans z))]
        exact ⟨h1, h2⟩
  · rw [if_neg e, if_neg e]
    unfold KVp at h ⊢
    exact Paired.snoc h ⟨rfl, r⟩
theorem KVp.up {K : PySem.W.Frag} {F F' : Hp} (e : Same F F') {us : List (Key × V)} {kvs : List (Key × PyData)} (h : KVp K F us kvs) : KVp K F' us kvs := Paired.mapP h fun _ _ z => ⟨z.1, z.2.up e⟩
section
variable {X : Cx} {w : Wn} {pos : Pos} {o e ei ev : Expr} {te tv : DT} {i : Nat}
/-- {}, to be owned by a slot -/
def tEmpT : DT := fun _ P => P (.ft (dK []))
def keyD : DV → Option Key
  | .d (.int i) => some (.inl i)
  | .d (.str z) => some (.inr z)
  | .d .none => none
  | .d (.bool _) => none
  | .d (.list _) => none
  | .d (.tuple _) => none
  | .d (.dict _) => none
  | .fr _ => none
  | .ft _ => none
  | .ow _ _ => none
  | .tr _ _ _ => none
  | .raw _ => none
  | .bag => none
/-- the dict in a slot -/
def slD (env : List Sl) (i : Nat) (kvs : List (Key × PyData)) : Prop := ∃ S, env[i]? = some (.tr true S (dK kvs)) ∧ allN kvs = true
/-- e in d -/
def tInT (i : Nat) (te : DT) : DT := fun env P => te env fun u => ∃ k kvs, keyD u = some k ∧ slD env i kvs ∧ P (.d (.bool (lkD kvs k).isSome))
/-- d[e] -/
def tGetT (i : Nat) (te : DT) : DT := fun env P => ∃ kvs, slD env i kvs ∧ te env fun u => ∃ k x, keyD u = some k ∧ lkD kvs k = some x ∧ P (.d x)
/-- d[k] = e -/
def tPutT (i : Nat) (tk tv : DT) : DS := fun d env => ∃ kvs, slD env i kvs ∧ kvs.length < 100000 ∧ tv env fun u => tk env fun z => ∃ k, keyD z = some k ∧ match frz u with
  | .d x => noL x = true ∧ ∀ S, d.nx (env.set i (.tr true S (dK (ptD kvs k x))))
  | _ => False
end
/-! sorted(d.items()) -/
def prD (p : Key × PyData) : PyData := .tuple [kD p.1, p.2]
/-- sorted(d.items()), d a dict in a slot -/
def tSortIt (i : Nat) : DT := fun env P => ∃ kvs, slD env i kvs ∧ flatA (kvs.map prD) = true ∧ AllAlike (kvs.map prD) ∧ kvs.length ≤ 100000 ∧ (∀ x ∈ kvs.map prD, x.depth ≤ 50) ∧ ∀ ys : List PyData, ys.Perm (kvs.map prD) → ys.Pairwise (fun a b => dataLt b a = false) → P (.fr ys)
end Dl
/-! ### what points count at the marks of a scale, in parts of one bottom -/
namespace Dl
open PySem PySem.Spec PyProof.Rows L2 PySem.W
/-- what each number from 1 to n divides -/
def lcmTo : Nat → Nat
  | 0 => 1
  | n + 1 => Nat.lcm (lcmTo n) (n + 1)
def DD : Int := (lcmTo 1000 : Nat)
/-- the fraction of n parts -/
def frT (n : Int) : Int := loT n DD
def frB (n : Int) : Int := loB n DD
def frP (n : Int) : PyData := .tuple [.int (frT n), .int (frB n)]
/-- a rising list of points -/
abbrev Rise (ms : List Int) : Prop := ms.Pairwise (· < ·)
/-- what a point counts, mark by mark -/
def sh : List Int → Int → List (Int × Int)
  | [], _ => []
  | a :: t, p => if p = a then [(a, DD)] else match t with
    | [] => []
    | b :: _ => if a < p ∧ p < b then [(a, DD / (b - a) * (b - p)), (b, DD / (b - a) * (p - a))] else sh t p
/-! sums over the marks -/
/-! the mix of a spot, as it is told -/
/-! the dict of what was counted so far -/
structure Cnt (ms : List Int) (w : Int → Int) (kvs : List (Key × PyData)) : Prop where
  keys : ∀ p ∈ kvs, ∃ m n, p = (.inl m, frP n) ∧ m ∈ ms
  nd : (kvs.map Prod.fst).Nodup
  at' : ∀ m, lkD kvs (.inl m) = if w m = 0 then none else some (frP (w m))
theorem lk_put {kvs : List (Key × PyData)} {k j : Key} {x : PyData} : lkD (ptD kvs k x) j = if j = k then some x else lkD kvs j := by
  have any : ∀ l : List (Key × PyData), (l.any fun p => decide (p.1 = k)) = (lkD l k).isSome := by
    intro l
    induction l with
    | nil => rfl
    | cons p l ih =>
      rw [List.any_cons]
      unfold lkD
      rw [List.find?_cons]
      by_cases e : p.1 = k
      · rw [decide_eq_true e]; rfl
      · rw [decide_eq_false e, Bool.false_or]; exact ih
  have cons : ∀ (p : Key × PyData) (l : List (Key × PyData)) (j : Key), lkD (p :: l) j = if p.1 = j then some p.2 else lkD l j := by
    intro p l j
    unfold lkD
    rw [List.find?_cons]
    by_cases e : p.1 = j
    · rw [decide_eq_true e, if_pos e]; rfl
    · rw [decide_eq_false e, if_neg e]
  unfold ptD
  split
  · next a =>
    rw [any] at a
    have mp : ∀ l : List (Key × PyData), lkD (l.map fun p => if p.1 = k then (p.1, x) else p) j = (lkD l j).map fun y => if j = k then x else y := by
      intro l
      induction l with
      | nil => rfl
      | cons p l ih =>
        rw [List.map_cons, cons, cons]
        by_cases h : p.1 = k
        · rw [if_pos h]
          by_cases e : p.1 = j
          · rw [if_pos e, if_pos e, Option.map_some, if_pos (e.symm.trans h)]
          · rw [if_neg e, if_neg e, ih]
        · rw [if_neg h]
          by_cases e : p.1 = j
          · rw [if_pos e, if_pos e, Option.map_some, if_neg (fun z => h (e.trans z))]
          · rw [if_neg e, if_neg e, ih]
    rw [mp]
    by_cases e : j = k
    · rw [if_pos e]
      subst e
      obtain ⟨y, hy⟩ := Option.isSome_iff_exists.mp a
      rw [hy, Option.map_some, if_pos rfl]
    · rw [if_neg e]
      cases lkD kvs j with
      | none => rfl
      | some y => rw [Option.map_some, if_neg e]
  · next a =>
    rw [any] at a
    have ap : ∀ l : List (Key × PyData), lkD l k = none → lkD (l ++ [(k, x)]) j = if j = k then some x else lkD l j := by
      intro l
      induction l with
      | nil =>
        intro _
        rw [List.nil_append, cons]
        by_cases e : k = j
        · rw [if_pos e, if_pos e.symm]
        · rw [if_neg e, if_neg (fun z => e z.symm)]
      | cons p l ih =>
        intro hn
        rw [cons] at hn
        rw [List.cons_append, cons, cons]
        by_cases h : p.1 = k
        · rw [if_pos h] at hn; cases hn
        · rw [if_neg h] at hn
          by_cases e : p.1 = j
          · rw [if_pos e, if_pos e, if_neg (fun z => h (e.trans z))]
          · rw [if_neg e, if_neg e, ih hn]
    refine ap kvs ?_
    cases q : lkD kvs k with
    | none => rfl
    | some y => rw [q] at a; exact (a rfl).elim
theorem put_keys {kvs : List (Key × PyData)} {k : Key} {x : PyData} (nd : (kvs.map Prod.fst).Nodup) : ((ptD kvs k x).map Prod.fst).Nodup := by
  unfold ptD
  split
  · have e : (kvs.map fun p => if p.1 = k then (p.1, x) else p).map Prod.fst = kvs.map Prod.fst := by
      rw [List.map_map]
      refine List.map_congr_left fun p _ => ?_
      show (if p.1 = k then (p.1, x) else p).1 = p.1
      split <;> rfl
    rw [e]
    exact nd
  · next a =>
    rw [List.map_append]
    refine List.nodup_append.mpr ⟨nd, List.nodup_cons.mpr ⟨List.not_mem_nil, .nil⟩, fun y hy z hz => ?_⟩
    obtain ⟨p, hp, rfl⟩ := List.mem_map.mp hy
    have hz : z = k := by simpa using hz
    intro e
    exact a (List.any_eq_true.mpr ⟨p, hp, decide_eq_true (by rw [e, hz])⟩)
theorem put_mem {kvs : List (Key × PyData)} {k : Key} {x : PyData} {p : Key × PyData} (h : p ∈ ptD kvs k x) : p ∈ kvs ∨ p = (k, x) := by
  unfold ptD at h
  split at h
  · obtain ⟨q, hq, rfl⟩ := List.mem_map.mp h
    split
    · next e => exact .inr (by rw [e])
    · exact .inl hq
  · rcases List.mem_append.mp h with m | m
    · exact .inl m
    · exact .inr (List.mem_singleton.mp m)
theorem Cnt.put {ms : List Int} {w w' : Int → Int} {kvs : List (Key × PyData)} {k : Int} (h : Cnt ms w kvs) (hk : k ∈ ms) (e : ∀ m, m ≠ k → w' m = w m) (p : w' k ≠ 0) : Cnt ms w' (ptD kvs (.inl k) (frP (w' k))) := by
  refine ⟨fun q hq => ?_, put_keys h.nd, fun m => ?_⟩
  · rcases put_mem hq with z | z
    · exact h.keys q z
    · exact ⟨k, _, z, hk⟩
  · rw [lk_put]
    by_cases c : m = k
    · rw [if_pos (by rw [c]), c, if_neg p]
    · rw [if_neg (fun z => c (by injection z)), h.at', e m c]
theorem nodup_len {α : Type} [DecidableEq α] : ∀ {l m : List α}, l.Nodup → (∀ x ∈ l, x ∈ m) → l.length ≤ m.length
  | [], _, _, _ => Nat.zero_le _
  | a :: l, m, nd, h => by
    obtain ⟨n1, n2⟩ := List.nodup_cons.mp nd
    have ha := h a (List.mem_cons_self ..)
    have := nodup_len (m := m.erase a) n2 fun x hx => (List.mem_erase_of_ne (fun z => n1 (by rw [← z]; exact hx))).mpr (h x (List.mem_cons_of_mem _ hx))
    rw [List.length_erase_of_mem ha] at this
    have := List.length_pos_of_mem ha
    rw [List.length_cons]
    omega
theorem Cnt.len {ms : List Int} {w : Int → Int} {kvs : List (Key × PyData)} (h : Cnt ms w kvs) : kvs.length ≤ ms.length := by
  have nd := h.nd
  have sub : ∀ k ∈ kvs.map Prod.fst, k ∈ ms.map fun m => (Sum.inl m : Key) := fun k hk => by
    obtain ⟨p, hp, rfl⟩ := List.mem_map.mp hk
    obtain ⟨m, n, rfl, hm⟩ := h.keys p hp
    exact List.mem_map.mpr ⟨m, hm, rfl⟩
  have := nodup_len nd sub
  simpa using this
end Dl
/-! ### sorted(set(xs)) of a list of whole numbers -/
namespace Dl
open PySem PySem.Calls PySem.Spec PyProof.Rows L2
section
variable {X : Cx} {w : Wn} {pos p p2 cp : Pos} {e : Expr} {te : DT}
/-- sorted(set(e)), e a list of whole numbers -/
def tSortSet (te : DT) : DT := fun env P => te env fun u => rd u fun x => match x with
  | .list xs => ∃ ns : List Int, xs = IL ns ∧ ns.length < 64 ∧ ∀ ms : List Int, Rise ms → (∀ k, k ∈ ms ↔ k ∈ ns) → P (.fr (IL ms))
  | _ => False
end
end Dl
/-! ### constant dicts of the module: list(D), values that are tuples -/
namespace Dl
open PySem PySem.Spec PyProof.Rows L2 PySem.W
section
variable {X : Cx} {w : Wn} {pos p p2 : Pos} {x2 : Str}
/-- list(D) -/
def tListK (ks : List Str) : DT := fun _ P => P (.fr (ks.map PyData.str))
end
end Dl
/-! ### data that is good for ==, repr and copying; names, small fractions, papers -/
namespace Dl
open PySem PySem.Spec PyProof.Rows L2 PySem.W
mutual
/-- data whose lists are not too long -/
def okC : PyData → Bool
  | .list xs => decide (xs.length ≤ 5000) && okCs xs
  | .tuple xs => decide (xs.length ≤ 5000) && okCs xs
  | _ => true
def okCs : List PyData → Bool
  | [] => true
  | x :: xs => okC x && okCs xs
end
/-- good data: not deeper than n, its text not longer than k -/
structure Gd (n k : Nat) (x : PyData) : Prop where
  ly : Ly n x
  sn : Sn n k x
  cp : okC x = true
structure GdL (n k : Nat) (xs : List PyData) : Prop where
  ly : PyData.canLayAll0 xs = true
  real : realA xs = true
  show_ : PyData.showableAll xs = true
  deep : PyData.depthAll xs ≤ n
  len : ((PyData.shownAll xs).map (·.length)).sum + 2 * xs.length ≤ k
  num : (PyData.shownAll xs).length = xs.length
  cp : okCs xs = true
theorem Gd.up {n k m l : Nat} {x : PyData} (h : Gd n k x) (hn : n ≤ m := by decide) (hk : k ≤ l := by decide) : Gd m l x := ⟨h.ly.up hn, h.sn.up hn hk, h.cp⟩
theorem gdl_nil {n : Nat} : GdL n 0 [] := ⟨by simp [PyData.canLayAll0], by simp [realA], by simp [PyData.showableAll], by simp [PyData.depthAll], by simp [PyData.shownAll], by simp [PyData.shownAll], by simp [okCs]⟩
theorem gdl_cons {n k l : Nat} {x : PyData} {xs : List PyData} (h : Gd n k x) (t : GdL n l xs) : GdL n (k + 2 + l) (x :: xs) := by
  have d1 := h.ly.deep
  have d2 := t.deep
  have l1 := h.sn.len
  have l2 := t.len
  refine ⟨by rw [PyData.canLayAll0, h.ly.lay, t.ly]; rfl, by rw [realA, h.sn.real, t.real]; rfl, by rw [PyData.showableAll, h.sn.show_, t.show_]; rfl, by simp only [PyData.depthAll]; omega, ?_, ?_, by rw [okCs, h.cp, t.cp]; rfl⟩
  · simp only [PyData.shownAll, List.map_cons, List.sum_cons, List.length_cons]
    omega
  · simp only [PyData.shownAll, List.length_cons, t.num]
theorem gd_tupL {n k : Nat} {xs : List PyData} (h : GdL n k xs) (hl : xs.length ≤ 5000) : Gd (n + 1) (k + 3) (.tuple xs) := by
  have d := h.deep
  have q := tupleText_len_le (PyData.shownAll xs)
  have l := h.len
  have nm := h.num
  refine ⟨⟨by rw [PyData.canLay0, h.ly], by simp only [PyData.depth]; omega⟩, ⟨by rw [realD, h.real], by rw [PyData.showable, h.show_], by simp only [PyData.depth]; omega, ?_⟩, by rw [okC, h.cp, decide_eq_true hl]; rfl⟩
  show (tupleText (PyData.shownAll xs)).length ≤ _
  omega
theorem GdL.up {n k m l : Nat} {xs : List PyData} (h : GdL n k xs) (hn : n ≤ m := by decide) (hk : k ≤ l := by decide) : GdL m l xs := ⟨h.ly, h.real, h.show_, Nat.le_trans h.deep hn, Nat.le_trans h.len hk, h.num, h.cp⟩
theorem gd_int {i : Int} {j : Nat} (h : i.natAbs < 2 ^ j) (hj : 0 < j := by decide) (hk : j < 1920 := by decide) : Gd 0 (j + 1) (.int i) := ⟨ly_int i, sn_int h hj hk, by simp [okC]⟩
theorem gd_str {z : Str} {l : Nat} (h : ∀ c ∈ z.cps.toList, c < 0x110000) (hl : z.length ≤ l) : Gd 0 (10 * l + 2) (.str z) := by
  have h' : (z.cps.all fun c => decide (c < 0x110000)) = true := by
    rw [← Array.all_toList, List.all_eq_true]
    exact fun c hc => decide_eq_true (h c hc)
  refine ⟨⟨by first | exact h' | (simp only [PyData.canLay0]; done) | (simp only [PyData.canLay0]; exact h') | (unfold PyData.canLay0; exact h'), by simp [PyData.depth]⟩, sn_str (Nat.le_trans (StrLaws.reprText_len z fun c hc => Nat.lt_of_lt_of_le (h c hc) (by decide)) (by omega)), by simp [okC]⟩
theorem Gd.sh {n k : Nat} {x : PyData} (h : Gd n k x) (hn : n ≤ 60 := by decide) (hk : k ≤ 100000 := by decide) : Sh x := h.sn.sh (Nat.le_trans hn (by decide)) hk
theorem Gd.eq {n k : Nat} {x : PyData} (h : Gd n k x) (hn : n ≤ 60 := by decide) : selfEq x := h.ly.selfEq (Nat.le_trans hn (by decide))
theorem gd_lit {z : Str} (h : (z.cps.all fun c => decide (c < 0x110000)) = true) (hl : z.length ≤ 8) : Gd 0 82 (.str z) := gd_str (l := 8) (fun c hc => by
  rw [← Array.all_toList, List.all_eq_true] at h
  exact of_decide_eq_true (h c hc)) hl
end Dl
/-! ### an expression over which an owned list stays as it is -/
namespace Dl
open PySem PySem.Spec PyProof.Rows L2 PySem.W
/-- what may be told of it afterwards -/
def okT : DV → Prop
  | .d x => noL x = true
  | .fr xs => noLs xs = true
  | .ft _ => False
  | .ow _ _ => False
  | .tr _ _ _ => False
  | .raw _ => False
  | .bag => False
def tTmp (i : Nat) (t : DT) : DT := fun env P => match env[i]? with
  | some (.ow _ xs) => t (env.set i (.d (.list xs))) fun r => okT r ∧ P r
  | _ => False
end Dl
namespace Dl
open PySem PySem.Spec PyProof.Rows L2
/-! ### trees made by comprehensions, and changed within -/
section
variable {K : PySem.W.Frag} {F H : Hp} {dp : Bool}
theorem OtA.app {T : List Addr} {ws : List V} {ys : List PyData} (q : OtA K F H dp T ws ys) : ∀ {S : List Addr} {vs : List V} {xs : List PyData}, OtA K F H dp S vs xs → OtA K F H dp (S ++ T) (vs ++ ws) (xs ++ ys)
  | _, _, _, .nil => q
  | _, _, _, .cons h t => by
    rw [List.append_assoc]
    exact .cons h (OtA.app q t)
end
/-! ### tuple(e), e a new tree -/
def tTupT (te : DT) : DT := fun env P => te env fun u => match u with
  | .ft (.list xs) => P (.ft (.tuple xs))
  | _ => False
section
variable {X : Cx} {w : Wn} {pos p : Pos} {e : Expr} {te : DT}
theorem ot_lst {K : PySem.W.Frag} {F H : Hp} {S : List Addr} {v : V} {xs : List PyData} (h : Ot K F H true S v (.list xs)) : ∃ a T vs, S = a :: T ∧ v = .ref a ∧ H a = some (.lst vs) ∧ OtA K F H true T vs xs := by
  cases h with
  | leaf r n => have n := n rfl; simp [noL] at n
  | lst h r => exact ⟨_, _, _, rfl, rfl, h, r⟩
end
/-! ### x[k].clear(), x[k].extend(e), x a tuple's tree -/
theorem OtA.item {K : PySem.W.Frag} {F H : Hp} {ys : List PyData} : ∀ {S : List Addr} {vs : List V} {xs : List PyData} {m : Nat}, OtA K F H true S vs xs → xs[m]? = some (.list ys) →
    ∃ (A : List Addr) (a : Addr) (T B : List Addr) (us : List V), S = A ++ (a :: T) ++ B ∧ vs[m]? = some (.ref a) ∧ H a = some (.lst us) ∧ OtA K F H true T us ys ∧
      ∀ (F2 H2 : Hp) (T2 : List Addr) (us2 : List V) (ys2 : List PyData), Same F F2 → H2 a = some (.lst us2) → OtA K F2 H2 true T2 us2 ys2 → (∀ b, b ∈ A ∨ b ∈ B → ∀ o, H b = some o → H2 b = some o) → OtA K F2 H2 true (A ++ (a :: T2) ++ B) vs (xs.set m (.list ys2))
  | _, _, _, _, .nil, e => by simp at e
  | _, _, _, 0, .cons (S := S) (T := T) h t, e => by
    simp at e
    subst e
    obtain ⟨a, T1, us, rfl, rfl, ea, oa⟩ := ot_lst h
    exact ⟨[], a, T1, T, us, rfl, rfl, ea, oa, fun F2 H2 T2 us2 ys2 sm e2 o2 kp => .cons (.lst e2 o2) (OtA.up sm (fun b m => kp b (.inr m)) t)⟩
  | _, _, _, m + 1, .cons (S := S) (T := T) h t, e => by
    obtain ⟨A, a, T1, B, us, rfl, e1, ea, oa, put⟩ := OtA.item (m := m) t (by simpa using e)
    refine ⟨S ++ A, a, T1, B, us, by simp [List.append_assoc], by simpa using e1, ea, oa, fun F2 H2 T2 us2 ys2 sm e2 o2 kp => ?_⟩
    have z := OtA.cons (Ot.up sm (fun b m => kp b (.inl (List.mem_append.mpr (.inl m)))) h) (put F2 H2 T2 us2 ys2 sm e2 o2 fun b hb => kp b (hb.imp (fun m => List.mem_append.mpr (.inr m)) id))
    simpa [List.append_assoc] using z
/-- x[k].clear(), x a tuple's tree -/
def tClrD (i : Nat) (ti : DT) : DS := fun d env => match env[i]? with
  | some (.tr true S (.tuple xs)) => ti env fun u => rd u fun y => match y with
    | .int k => ∃ m ys, ixN xs.length k = some m ∧ xs[m]? = some (.list ys) ∧ ∀ S2, d.nx (env.set i (.tr true S2 (.tuple (xs.set m (.list [])))))
    | _ => False
  | _ => False
/-- x[k].extend(e), x a tuple's tree, e a new tree -/
def tExtD (i : Nat) (ti te : DT) : DS := fun d env => match env[i]? with
  | some (.tr true S (.tuple xs)) => ti env fun u => rd u fun y => match y with
    | .int k => ∃ m ys, ixN xs.length k = some m ∧ xs[m]? = some (.list ys) ∧ te env fun dv => match dv with
      | .ft (.list zs) => ys.length + zs.length ≤ 100000 ∧ ∀ S2, d.nx (env.set i (.tr true S2 (.tuple (xs.set m (.list (ys ++ zs))))))
      | _ => False
    | _ => False
  | _ => False
end Dl
namespace Dl
open PySem PySem.Spec PyProof.Rows L2
/-! ### {i: a, j: b} as data -/
def tDict2 (i j : Int) (ta tb : DT) : DT := fun env P => ta env fun u => tb env fun v => match frz u, frz v with
  | .d x, .d y => P (.d (.dict [(.int i, x), (.int j, y)]))
  | _, _ => False
end Dl
namespace PySem.SeqAt
open PySem PySem.Calls
end PySem.SeqAt
namespace Dl
open PySem PySem.Spec PyProof.Rows L2
/-! ### xs == [] -/
def gEqN : G2 := fun x y P => match x, y with
  | .list xs, .list [] => P (.d (.bool xs.isEmpty))
  | _, _ => False
end Dl
namespace Dl
open PySem PySem.Spec PyProof.Rows L2
/-! ### all(xs), xs a list of truth values -/
def cAll : GC := fun us P => one us fun u => rd u fun x => match x with
  | .list xs => ∃ bs : List Bool, xs = bs.map PyData.bool ∧ P (.d (.bool (bs.all id)))
  | _ => False
/-! a target of three names in a comprehension -/
end Dl
namespace Dl
open PySem PySem.Spec PyProof.Rows L2
/-! ### d[k], d a dict that is data -/
def tGetD (td te : DT) : DT := fun env P => td env fun u => te env fun z => ∃ kvs k x, u = .d (dK kvs) ∧ keyD z = some k ∧ lkD kvs k = some x ∧ P (.d x)
/-! ### {'a': x, 'b': y} as data -/
def tDict2S (i j : Str) (ta tb : DT) : DT := fun env P => ta env fun u => tb env fun v => match frz u, frz v with
  | .d x, .d y => P (.d (dK [(Sum.inr i, x), (Sum.inr j, y)]))
  | _, _ => False
end Dl
namespace Dl
open PySem PySem.Spec PyProof.Rows L2
/-! ### zip(a, b) of two tuples -/
def itZipT (ta : DA) : DIt := fun env P => ta env fun us => allD us fun xs => match xs with
  | [.tuple ys, .tuple zs] => P (zipD ys zs)
  | _ => False
end Dl
/-! sets of tuples whose items are keys of any one kind: how many stand in one -/
namespace Dl
open PySem PySem.Spec PyProof.Rows L2
section
variable {P : Program} {w : World} {κ : Type} [DecidableEq κ] (kd : KeyKind P w κ)
def ent (p : List κ × Addr) : Int × Value := (tupleKeyHash kd p.1, .ref p.2)
variable {kd}
variable {A : Around} {E : Value → Shared → Prop} {s : Shared}
/-! ### such a set -/
variable (kd) in
structure KSet (h : Heap) (a : Addr) (L : List (List κ × Addr)) (es : Array (Int × Value)) (ep : Nat) (t : SetTable) : Prop where
  here : ∃ o, h.get? a = some o ∧ o.ExactSet ∧ o.data = .set es ep t
  ents : es.toList = L.map (ent kd)
  tabk : TabOk t (L.map fun p => tupleKeyHash kd p.1)
  dist : (L.map Prod.fst).Nodup
  isk : ∀ p ∈ L, IsTupleKey kd h p.1 p.2
  follow : w.params.followText "set-order" = true ∨ t.led = true
  room : 5 * L.length < 3 * t.mask
  few : L.length < 64
variable {a : Addr} {L : List (List κ × Addr)} {es : Array (Int × Value)} {ep : Nat} {t : SetTable}
theorem ents_size (h : es.toList = L.map (ent kd)) : es.size = L.length := by
  rw [← Array.length_toList, h, List.length_map]
theorem tab_fits {hs : List Int} {n : Nat} (T : TabOk t hs) (hn : hs.length = n) (hm : n ≤ t.mask) : t.fits n = true := by
  have z : t.place.size = n := T.sz.trans hn
  unfold SetTable.fits SetTable.fill
  rw [T.dm, Bool.and_eq_true, beq_iff_eq, decide_eq_true_eq, z]
  exact ⟨rfl, hm⟩
theorem KSet.fits {h : Heap} (S : KSet kd h a L es ep t) : t.fits es.size = true := by
  have r := S.room
  rw [ents_size S.ents]
  exact tab_fits S.tabk (List.length_map ..) (by omega)
/-- the c-th step of the way of a hash -/
abbrev stp (m : Nat) (h : Int) (c : Nat) : SetTable.Probe := nth m (runAt m (SetTable.bits h % (m + 1)) (SetTable.bits h)) c
/-! ### one more in it -/
/-! ### set(xs) -/
theorem KSet.up {h h' : Heap} (S : KSet kd h a L es ep t) (ha : ∀ o, h.get? a = some o → h'.get? a = some o) (ht : ∀ p ∈ L, IsTupleKey kd h' p.1 p.2) : KSet kd h' a L es ep t := by
  obtain ⟨o, ho, r⟩ := S.here
  exact ⟨⟨o, ha o ho, r⟩, S.ents, S.tabk, S.dist, ht, S.follow, S.room, S.few⟩
/-! ### len(set(xs)) of a list of tuples of keys -/
/-- how many there are, each once -/
def firsts : List (List κ) → List (List κ) → List (List κ)
  | acc, [] => acc
  | acc, k :: ks => firsts (if k ∈ acc then acc else acc ++ [k]) ks
end
section
variable {X : Cx} {w : Wn}
/-- a key as data -/
def kyD : Key → PyData
  | .inl i => .int i
  | .inr z => .str z
def tLenSeX (te : DT) : DT := fun env P => te env fun u => rd u fun x => match x with
  | .list xs => ∃ ks : List (List Key), xs = ks.map (fun k => .tuple (k.map kyD)) ∧ ks.length < 64 ∧ P (.d (.int ((firsts [] ks).length : Nat)))
  | _ => False
end
end Dl
/-! f-strings, two ways to go through a value, xs.extend(e), trees held still -/
namespace Dl
open PySem PySem.Spec PyProof.Rows L2 PySem.W
section
variable {X : Cx} {w : Wn}
/-- a value that is gone through as the one or the other -/
def itOr (a b : DIt) : DIt := fun env P => a env P ∨ b env P
/-! ### f-strings -/
def tFmtD (te : DT) : DT := fun env P => te env fun u => rd u fun x => match x with
  | .int i => i.natAbs.log2 < 1920 ∧ P (.d (.str (toString i)))
  | .str z => z.length ≤ 100000 ∧ P (.d (.str z))
  | _ => False
inductive DPJ (X : Cx) (w : Wn) : List Expr → List DT → Prop
  | nil : DPJ X w [] []
  | cons {e : Expr} {t : DT} {es : List Expr} {ts : List DT} (h : DPE X w e t) (r : DPJ X w es ts) : DPJ X w (e :: es) (t :: ts)
theorem DPJ.pj {es : List Expr} {ts : List DT} (h : DPJ X w es ts) : PJ X es (ts.map fun t => lf X.K w t) := by
  induction h with
  | nil => exact .nil
  | cons h _ ih => exact .cons h ih
def tJsD : List DT → Str → List Sl → (Str → Prop) → Prop
  | [], acc, _, P => P acc
  | t :: ts, acc, env, P => t env fun u => match u with
    | .d (.str y) => (acc ++ y).length ≤ 100000 ∧ tJsD ts (acc ++ y) env P
    | _ => False
theorem js_go {env : List Sl} {σ : L2.St} {Q : Str → Hp → Prop} : ∀ (ts : List DT) (acc : Str) (F H : Hp) (P : Str → Prop), RelW X.K w env σ F H → tJsD ts acc env P → (∀ z F' H', Stp X.K w.b F H F' H' → P z → Q z H') → tJs (ts.map fun t => lf X.K w t) acc σ H Q
  | [], acc, F, H, P, r, h, q => q acc F H r.wd.refl h
  | t :: ts, acc, F, H, P, r, h, q => ⟨env, F, _, r, h, fun dv v F1 H1 s1 r1 h1 => by
    split at h1
    · next y =>
      cases (show Rp X.K F1 v (.str y) from r1)
      exact ⟨y, rfl, lim_le h1.1, js_go ts _ F1 H1 P (r.step s1) h1.2 fun z F2 H2 s2 h2 => q z F2 H2 (s1.trans s2) h2⟩
    · exact h1.elim⟩
def tFstr (ts : List DT) : DT := fun env P => tJsD ts Str.empty env fun z => P (.d (.str z))
theorem d_fstr {v1 v2 : Expr} {rest : List Expr} {ts : List DT} {pos : Pos} (h : DPJ X w (v1 :: v2 :: rest) ts) : DPE X w (.JoinedStr (v1 :: v2 :: rest) pos) (tFstr ts) :=
  pe_weak (pe_joined h.pj) fun σ H Q ⟨env, F, P, r, h, q⟩ => js_go ts _ F H _ r h fun z F1 H1 s1 h1 => q (.d (.str z)) _ F1 H1 s1 (Rp.str z) h1
/-! ### xs.extend(e), xs an owned list -/
def tExtO (i : Nat) (te : DT) : DS := fun d env => match env[i]? with
  | some (.ow l xs) => te env fun dv => rd dv fun y => match y with
    | .list zs => xs.length + zs.length ≤ 100000 ∧ d.nx (env.set i (.ow l (xs ++ zs)))
    | _ => False
  | _ => False
/-! ### an expression over which a tree stays as it is -/
def tTmT (i : Nat) (t : DT) : DT := fun env P => match env[i]? with
  | some (.tr _ _ x) => t (env.set i (.d x)) fun r => okT r ∧ P r
  | _ => False
end
end Dl
/-! places within an owned tree: x[i][k].clear(), x[i][k].extend(e) -/
namespace Dl
open PySem PySem.Spec PyProof.Rows L2 PySem.W
section
variable {K : PySem.W.Frag} {F H : Hp}
theorem OtA.sub {y : PyData} : ∀ {S : List Addr} {vs : List V} {xs : List PyData} {m : Nat}, OtA K F H true S vs xs → xs[m]? = some y →
    ∃ (A T B : List Addr) (u : V), S = A ++ T ++ B ∧ vs[m]? = some u ∧ Ot K F H true T u y ∧
      ∀ (F2 H2 : Hp) (T2 : List Addr) (y2 : PyData), Same F F2 → Ot K F2 H2 true T2 u y2 → (∀ b, b ∈ A ∨ b ∈ B → ∀ o, H b = some o → H2 b = some o) → OtA K F2 H2 true (A ++ T2 ++ B) vs (xs.set m y2)
  | _, _, _, _, .nil, e => by simp at e
  | _, _, _, 0, .cons (S := S) (T := T) h t, e => by
    simp at e
    subst e
    exact ⟨[], S, T, _, rfl, rfl, h, fun F2 H2 T2 y2 sm o2 kp => .cons o2 (OtA.up sm (fun b m => kp b (.inr m)) t)⟩
  | _, _, _, m + 1, .cons (S := S) (T := T) h t, e => by
    obtain ⟨A, T1, B, u, rfl, e1, o1, put⟩ := OtA.sub (m := m) t (by simpa using e)
    refine ⟨S ++ A, T1, B, u, by simp [List.append_assoc], by simpa using e1, o1, fun F2 H2 T2 y2 sm o2 kp => ?_⟩
    have z := OtA.cons (Ot.up sm (fun b m => kp b (.inl (List.mem_append.mpr (.inl m)))) h) (put F2 H2 T2 y2 sm o2 fun b hb => kp b (hb.imp (fun m => List.mem_append.mpr (.inr m)) id))
    simpa [List.append_assoc] using z
/-- v, that holds y, stands within the tree of v0; with y2 in y's stead the tree holds g y2 -/
def HoleAt (K : PySem.W.Frag) (F H : Hp) (S : List Addr) (v0 v : V) (y : PyData) (g : PyData → PyData) : Prop := ∃ A T B, S = A ++ T ++ B ∧ Ot K F H true T v y ∧
  ∀ (F2 H2 : Hp) (T2 : List Addr) (y2 : PyData), Same F F2 → Ot K F2 H2 true T2 v y2 → (∀ b, b ∈ A ∨ b ∈ B → ∀ o, H b = some o → H2 b = some o) → Ot K F2 H2 true (A ++ T2 ++ B) v0 (g y2)
theorem HoleAt.up {F' H' : Hp} {S : List Addr} {v0 v : V} {y : PyData} {g : PyData → PyData} (h : HoleAt K F H S v0 v y g) (sm : Same F F') (kp : ∀ a ∈ S, ∀ o, H a = some o → H' a = some o) : HoleAt K F' H' S v0 v y g := by
  obtain ⟨A, T, B, rfl, o, put⟩ := h
  refine ⟨A, T, B, rfl, o.up sm fun a m => kp a (by simp [m]), fun F2 H2 T2 y2 s2 o2 k2 => put F2 H2 T2 y2 (sm.trans s2) o2 fun b hb o ho => k2 b hb o (kp b ?_ o ho)⟩
  rcases hb with m | m <;> simp [m]
theorem HoleAt.self {S : List Addr} {v : V} {x : PyData} (h : Ot K F H true S v x) : HoleAt K F H S v v x id :=
  ⟨[], S, [], by simp, h, fun F2 H2 T2 y2 _ o2 _ => by simpa using o2⟩
theorem HoleAt.lst {S : List Addr} {v0 v : V} {xs : List PyData} {z : PyData} {m : Nat} {g : PyData → PyData} (h : HoleAt K F H S v0 v (.list xs) g) (e : xs[m]? = some z) :
    ∃ r vs u, v = .ref r ∧ H r = some (.lst vs) ∧ vs.length = xs.length ∧ vs[m]? = some u ∧ HoleAt K F H S v0 u z fun y2 => g (.list (xs.set m y2)) := by
  obtain ⟨A, T, B, rfl, o, put⟩ := h
  obtain ⟨a, T1, vs, rfl, rfl, ea, oa⟩ := ot_lst o
  obtain ⟨A2, T2, B2, u, rfl, e1, o1, put1⟩ := oa.sub e
  refine ⟨a, vs, u, rfl, ea, oa.len, e1, A ++ a :: A2, T2, B2 ++ B, by simp [List.append_assoc], o1, fun F2 H2 T3 y2 sm o3 kp => ?_⟩
  have q := put F2 H2 (a :: (A2 ++ T3 ++ B2)) (.list (xs.set m y2)) sm (.lst (kp a (.inl (by simp)) _ ea) (put1 F2 H2 T3 y2 sm o3 fun b hb => kp b (hb.elim (fun m => .inl (by simp [m])) fun m => .inr (by simp [m])))) fun b hb => kp b (hb.elim (fun m => .inl (by simp [m])) fun m => .inr (by simp [m]))
  simpa [List.append_assoc] using q
theorem HoleAt.tup {S : List Addr} {v0 v : V} {xs : List PyData} {z : PyData} {m : Nat} {g : PyData → PyData} (h : HoleAt K F H S v0 v (.tuple xs) g) (e : xs[m]? = some z) :
    ∃ r vs u, v = .ref r ∧ SqT K F r vs ∧ vs.length = xs.length ∧ vs[m]? = some u ∧ (noL (.tuple xs) = false → HoleAt K F H S v0 u z fun y2 => g (.tuple (xs.set m y2))) := by
  obtain ⟨A, T, B, rfl, o, put⟩ := h
  cases o with
  | leaf r n =>
    have n := n rfl
    cases r with
    | tup h r =>
      obtain ⟨u, e1, _⟩ := r.get e
      exact ⟨_, _, u, rfl, h, r.len, e1, fun c => by rw [n] at c; cases c⟩
  | tup hv oa =>
    obtain ⟨A2, T2, B2, u, rfl, e1, o1, put1⟩ := oa.sub e
    refine ⟨_, _, u, rfl, hv, oa.len, e1, fun _ => ⟨A ++ A2, T2, B2 ++ B, by simp [List.append_assoc], o1, fun F2 H2 T3 y2 sm o3 kp => ?_⟩⟩
    have q := put F2 H2 (A2 ++ T3 ++ B2) (.tuple (xs.set m y2)) sm (.tup (sqt_up sm hv) (put1 F2 H2 T3 y2 sm o3 fun b hb => kp b (hb.elim (fun m => .inl (by simp [m])) fun m => .inr (by simp [m])))) fun b hb => kp b (hb.elim (fun m => .inl (by simp [m])) fun m => .inr (by simp [m]))
    simpa [List.append_assoc] using q
end
abbrev DPl := List Sl → PyData → (PyData → (PyData → PyData) → Prop) → Prop
def tPl0 : DPl := fun _ x P => P x id
def tPlL (tp : DPl) (ti : DT) : DPl := fun env x P => tp env x fun y g => match y with
  | .list xs => ti env fun u => rd u fun k => match k with
    | .int k => ∃ m z, ixN xs.length k = some m ∧ xs[m]? = some z ∧ P z fun y2 => g (.list (xs.set m y2))
    | _ => False
  | _ => False
def tPlT (tp : DPl) (ti : DT) : DPl := fun env x P => tp env x fun y g => match y with
  | .tuple xs => ti env fun u => rd u fun k => match k with
    | .int k => noL (.tuple xs) = false ∧ ∃ m z, ixN xs.length k = some m ∧ xs[m]? = some z ∧ P z fun y2 => g (.tuple (xs.set m y2))
    | _ => False
  | _ => False
section
variable {X : Cx} {w : Wn} {i : Nat} {tp : DPl} {ti : DT} {o ix : Expr} {pos : Pos}
/-! items of tuples, counted from the front -/
theorem at3 {α : Type} (a b c d : α) (r : List α) : atI (a :: b :: c :: d :: r) 3 = some d := atD (j := 3) rfl rfl
theorem gi3 (a b c d : PyData) (r : List PyData) (P : DV → Prop) : gIx (.tuple (a :: b :: c :: d :: r)) (.int 3) P = P (.d d) := by simp only [gIx, at3]
theorem at4 {α : Type} (a b c d e : α) (r : List α) : atI (a :: b :: c :: d :: e :: r) 4 = some e := atD (j := 4) rfl rfl
theorem gi4 (a b c d e : PyData) (r : List PyData) (P : DV → Prop) : gIx (.tuple (a :: b :: c :: d :: e :: r)) (.int 4) P = P (.d e) := by simp only [gIx, at4]
theorem at5 {α : Type} (a b c d e f : α) (r : List α) : atI (a :: b :: c :: d :: e :: f :: r) 5 = some f := atD (j := 5) rfl rfl
theorem gi5 (a b c d e f : PyData) (r : List PyData) (P : DV → Prop) : gIx (.tuple (a :: b :: c :: d :: e :: f :: r)) (.int 5) P = P (.d f) := by simp only [gIx, at5]
theorem at6 {α : Type} (a b c d e f g : α) (r : List α) : atI (a :: b :: c :: d :: e :: f :: g :: r) 6 = some g := atD (j := 6) rfl rfl
theorem gi6 (a b c d e f g : PyData) (r : List PyData) (P : DV → Prop) : gIx (.tuple (a :: b :: c :: d :: e :: f :: g :: r)) (.int 6) P = P (.d g) := by simp only [gIx, at6]
theorem at7 {α : Type} (a b c d e f g h : α) (r : List α) : atI (a :: b :: c :: d :: e :: f :: g :: h :: r) 7 = some h := atD (j := 7) rfl rfl
theorem gi7 (a b c d e f g h : PyData) (r : List PyData) (P : DV → Prop) : gIx (.tuple (a :: b :: c :: d :: e :: f :: g :: h :: r)) (.int 7) P = P (.d h) := by simp only [gIx, at7]
/-- x..[k].clear() -/
def tClrP (i : Nat) (tp : DPl) : DS := fun d env => ∃ S x, env[i]? = some (.tr true S x) ∧ tp env x fun y g => ∃ ys, y = .list ys ∧ ∀ S2, d.nx (env.set i (.tr true S2 (g (.list []))))
/-- the items of a new list, as owned ones -/
def lsT : DV → Option (List PyData)
  | .ft (.list zs) => some zs
  | .fr zs => if noLs zs = true then some zs else none
  | _ => none
def tExtP (i : Nat) (tp : DPl) (te : DT) : DS := fun d env => ∃ S x, env[i]? = some (.tr true S x) ∧ tp env x fun y g => ∃ ys, y = .list ys ∧ te env fun dv => ∃ zs, lsT dv = some zs ∧ ys.length + zs.length ≤ 100000 ∧ ∀ S2, d.nx (env.set i (.tr true S2 (g (.list (ys ++ zs)))))
end
end Dl
/-! anything beside a text: ==, !=, in -/
namespace PySem.SeqAt
open PySem PySem.Calls
end PySem.SeqAt
namespace Dl
open PySem PySem.Spec PyProof.Rows L2
/-- the text z -/
def isTx (z : Str) : PyData → Bool
  | .str y => decide (y = z)
  | _ => false
section
variable {X : Cx} {w : Wn} {pins : List (Addr × Obj)} {σ : L2.St} {H : Hp} {s : Shared}
/-! ### the operators -/
def gEqX : G2 := fun x y P => isOb x = false ∧ match y with
  | .str z => P (.d (.bool (isTx z x)))
  | _ => False
def gInX (f : Bool → Bool) : G2 := fun x y P => isOb x = false ∧ ∃ zs : List Str, (y = .tuple (zs.map .str) ∨ y = .list (zs.map .str)) ∧ P (.d (.bool (f (zs.any fun z => isTx z x))))
/-- a sign in a text -/
def gInS (f : Bool → Bool) : G2 := fun x y P => ∃ (c : Nat) (z : Str), x = .str ⟨#[c]⟩ ∧ y = .str z ∧ P (.d (.bool (f (decide (c ∈ z.cps.toList)))))
/-- xs != [] -/
def gNeN : G2 := fun x y P => match x, y with
  | .list xs, .list [] => P (.d (.bool (!xs.isEmpty)))
  | _, _ => False
end
end Dl
/-! a dict display of constants, d.get(k), isinstance of one of two types, bool + int -/
namespace Dl
open PySem PySem.Spec PyProof.Rows L2 PySem.W
/-! ### bool + int -/
def bI (b : Bool) : Int := if b = true then 1 else 0
def gAddX : G2 := fun x y P => match x, y with
  | .bool k, .int j => P (.d (.int (bI k + j)))
  | .int i, .int j => P (.d (.int (i + j)))
  | _, _ => False
section
variable {X : Cx} {w : Wn}
/-! ### isinstance(x, (a, b)) -/
def tIsT (n m : String) (te : DT) : DT := fun env P => te env fun u => rd u fun x => isOb x = false ∧ P (.d (.bool (isA n x || isA m x)))
/-! ### {'a': 1, 'b': 2, ..}, all constants -/
inductive DispC : List (Option Expr) → List Expr → List (Str × Int) → Prop
  | nil : DispC [] [] []
  | cons {ks vs kvs k i j1 p1 j2 p2} : DispC ks vs kvs → DispC (some (.Constant (.str k) j1 p1) :: ks) (.Constant (.int i) j2 p2 :: vs) ((k, i) :: kvs)
def kvD (kvs : List (Str × Int)) : List (Key × PyData) := kvs.map fun p => (Sum.inr p.1, PyData.int p.2)
theorem DispC.len : ∀ {ks vs kvs}, DispC ks vs kvs → ks.all (·.isSome) = true ∧ ks.length = vs.length ∧ ks.length = kvs.length
  | _, _, _, .nil => ⟨rfl, rfl, rfl⟩
  | _, _, _, .cons t => by
    obtain ⟨a, b, c⟩ := t.len
    exact ⟨by rw [List.all_cons, a]; rfl, by rw [List.length_cons, List.length_cons, b], by rw [List.length_cons, List.length_cons, c]⟩
def tDictC (kvs : List (Str × Int)) : DT := fun env P => P (.d (dK (kvD kvs)))
/-! ### d.get(k), d a dict that is data -/
def tGetO (td te : DT) : DT := fun env P => td env fun u => ∃ kvs, u = .d (dK kvs) ∧ te env fun z => ∃ k, keyD z = some k ∧ P (.d ((lkD kvs k).getD .none))
end
end Dl
/-! == of data with its own copy, where an empty dict may lie in it -/
namespace PySem.SeqAt
open PySem PySem.Calls
end PySem.SeqAt
namespace Dl
open PySem PySem.Spec PyProof.Rows L2
mutual
/-- data in which the only dicts are empty ones -/
def okE : PyData → Bool
  | .none => true
  | .bool _ => true
  | .int _ => true
  | .str _ => true
  | .list xs => okEs xs
  | .tuple xs => okEs xs
  | .dict kvs => kvs.isEmpty
def okEs : List PyData → Bool
  | [] => true
  | x :: xs => okE x && okEs xs
end
section
variable {X : Cx} {w : Wn} {pins : List (Addr × Obj)} {σ : L2.St} {H : Hp} {s : Shared}
/-- x == its own copy -/
def gEqS : G2 := fun x y P => x = y ∧ okE x = true ∧ x.depth ≤ 60 ∧ P (.d (.bool true))
end
end Dl
set_option maxHeartbeats 4000000
/-! t[::-1], t a tuple -/
namespace Dl
open PySem PySem.Spec PyProof.Rows L2
section
variable {X : Cx} {w : Wn} {pos : Pos}
def tRevT (te : DT) : DT := fun env P => te env fun u => rd u fun x => match x with
  | .tuple xs => P (.d (.tuple xs.reverse))
  | _ => False
end
end Dl
/-! one measure of data that spoiling keeps -/
namespace Dl
open PySem PySem.Spec PyProof.Rows L2 PySem.W
mutual
/-- whole numbers up to B, lists and tuples at most w long, texts of signs, no dict but {} -/
def gdB (B w : Nat) : PyData → Bool
  | .none => true
  | .bool _ => true
  | .int i => decide (i.natAbs ≤ B)
  | .str z => z.cps.toList.all fun c => decide (c < 0x110000)
  | .list xs => decide (xs.length ≤ w) && gdBs B w xs
  | .tuple xs => decide (xs.length ≤ w) && gdBs B w xs
  | .dict kvs => kvs.isEmpty
def gdBs (B w : Nat) : List PyData → Bool
  | [] => true
  | x :: xs => gdB B w x && gdBs B w xs
end
mutual
/-- no less than the length of the data's text -/
def sz : PyData → Nat
  | .none => 10
  | .bool _ => 10
  | .int _ => 90
  | .str z => 10 * z.length + 2
  | .list xs => szs xs + 3
  | .tuple xs => szs xs + 3
  | .dict _ => 10
def szs : List PyData → Nat
  | [] => 0
  | x :: xs => sz x + 2 + szs xs
end
theorem gdBs_mem {B w : Nat} : ∀ {xs : List PyData}, gdBs B w xs = true ↔ ∀ x ∈ xs, gdB B w x = true
  | [] => by simp [gdBs]
  | y :: ys => by
    rw [gdBs, Bool.and_eq_true, gdBs_mem]
    simp
theorem szs_mem : ∀ {xs : List PyData} {x : PyData}, x ∈ xs → sz x + 2 ≤ szs xs
  | y :: ys, x, h => by
    rw [szs]
    rcases List.mem_cons.mp h with rfl | h
    · omega
    · have := szs_mem h
      omega
theorem depthAll_mem {d : Nat} : ∀ {xs : List PyData}, PyData.depthAll xs ≤ d ↔ ∀ x ∈ xs, x.depth ≤ d
  | [] => by simp [PyData.depthAll]
  | y :: ys => by
    rw [PyData.depthAll]
    have ih := depthAll_mem (d := d) (xs := ys)
    constructor
    · intro h x hx
      rcases List.mem_cons.mp hx with rfl | hx
      · omega
      · exact ih.mp (by omega) x hx
    · intro h
      have a := h y List.mem_cons_self
      have b := ih.mpr fun x hx => h x (List.mem_cons_of_mem _ hx)
      omega
mutual
theorem gdB_up {B w C v : Nat} (hB : B ≤ C) (hw : w ≤ v) : ∀ x : PyData, gdB B w x = true → gdB C v x = true
  | .none, _ => rfl
  | .bool _, _ => rfl
  | .int i, h => by simp only [gdB, decide_eq_true_eq] at h ⊢; omega
  | .str z, h => h
  | .list xs, h => by
    simp only [gdB, Bool.and_eq_true, decide_eq_true_eq] at h ⊢
    exact ⟨by omega, gdBs_up hB hw xs h.2⟩
  | .tuple xs, h => by
    simp only [gdB, Bool.and_eq_true, decide_eq_true_eq] at h ⊢
    exact ⟨by omega, gdBs_up hB hw xs h.2⟩
  | .dict _, h => h
theorem gdBs_up {B w C v : Nat} (hB : B ≤ C) (hw : w ≤ v) : ∀ xs : List PyData, gdBs B w xs = true → gdBs C v xs = true
  | [], _ => rfl
  | x :: xs, h => by
    simp only [gdBs, Bool.and_eq_true] at h ⊢
    exact ⟨gdB_up hB hw x h.1, gdBs_up hB hw xs h.2⟩
end
mutual
theorem gdB_sn {B w : Nat} (hB : B < 2 ^ 80) : ∀ x : PyData, gdB B w x = true → realD x = true ∧ x.showable = true ∧ x.shown.length ≤ sz x
  | .none, _ => ⟨sn_none.real, sn_none.show_, Nat.le_trans sn_none.len (by simp [sz])⟩
  | .bool b, _ => ⟨(sn_bool b).real, (sn_bool b).show_, Nat.le_trans (sn_bool b).len (by simp [sz])⟩
  | .int i, h => by
    simp only [gdB, decide_eq_true_eq] at h
    have s := sn_int (i := i) (j := 81) (show i.natAbs < 2 ^ 81 by omega)
    exact ⟨s.real, s.show_, Nat.le_trans s.len (by simp [sz])⟩
  | .str z, h => by
    simp only [gdB, List.all_eq_true, decide_eq_true_eq] at h
    have g := (gd_str h (Nat.le_refl _)).sn
    exact ⟨g.real, g.show_, Nat.le_trans g.len (by simp [sz])⟩
  | .list xs, h => by
    simp only [gdB, Bool.and_eq_true] at h
    obtain ⟨a, b, c, d⟩ := gdBs_sn hB xs h.2
    have q := listText_len_le (PyData.shownAll xs)
    refine ⟨by rw [realD, a], by rw [PyData.showable, b], ?_⟩
    show (listText (PyData.shownAll xs)).length ≤ _
    rw [sz]
    omega
  | .tuple xs, h => by
    simp only [gdB, Bool.and_eq_true] at h
    obtain ⟨a, b, c, d⟩ := gdBs_sn hB xs h.2
    have q := tupleText_len_le (PyData.shownAll xs)
    refine ⟨by rw [realD, a], by rw [PyData.showable, b], ?_⟩
    show (tupleText (PyData.shownAll xs)).length ≤ _
    rw [sz]
    omega
  | .dict kvs, h => by
    have e : kvs = [] := by simpa only [gdB, List.isEmpty_iff] using h
    subst e
    exact ⟨by simp [realD, realK], by simp [PyData.showable, PyData.showableKv], by decide +kernel⟩
theorem gdBs_sn {B w : Nat} (hB : B < 2 ^ 80) : ∀ xs : List PyData, gdBs B w xs = true → realA xs = true ∧ PyData.showableAll xs = true ∧ ((PyData.shownAll xs).map (·.length)).sum + 2 * xs.length ≤ szs xs ∧ (PyData.shownAll xs).length = xs.length
  | [], _ => ⟨by simp [realA], by simp [PyData.showableAll], by simp [PyData.shownAll, szs], by simp [PyData.shownAll]⟩
  | x :: xs, h => by
    simp only [gdBs, Bool.and_eq_true] at h
    obtain ⟨a, b, c, d⟩ := gdBs_sn hB xs h.2
    obtain ⟨a1, b1, c1⟩ := gdB_sn hB x h.1
    refine ⟨by rw [realA, a, a1]; rfl, by rw [PyData.showableAll, b, b1]; rfl, ?_, ?_⟩
    · simp only [PyData.shownAll, List.map_cons, List.sum_cons, List.length_cons, szs]
      omega
    · simp only [PyData.shownAll, List.length_cons, d]
end
/-- spoilt data: B bounds its numbers, w its lists, k its text, n its depth -/
structure Spt (B w k n : Nat) (x : PyData) : Prop where
  g : gdB B w x = true
  s : sz x ≤ k
  d : x.depth ≤ n
theorem Spt.sh {B w k n : Nat} {x : PyData} (h : Spt B w k n x) (hB : B < 2 ^ 80) (hk : k ≤ 100000) (hn : n ≤ 63) : Sh x := by
  obtain ⟨a, b, c⟩ := gdB_sn hB x h.g
  exact ⟨a, b, Nat.le_trans h.d hn, by have := h.s; omega⟩
end Dl
/-! drawn papers by the one measure -/
namespace Dl
open PySem PySem.Spec PyProof.Rows L2 PySem.W
structure Sps (B w k n : Nat) (xs : List PyData) : Prop where
  g : gdBs B w xs = true
  s : szs xs ≤ k
  d : PyData.depthAll xs ≤ n
theorem Sps.tup {B w k n : Nat} {xs : List PyData} (h : Sps B w k n xs) (hl : xs.length ≤ w) : Spt B w (k + 3) (n + 1) (.tuple xs) := by
  have a := h.s
  have b := h.d
  exact ⟨by rw [gdB, h.g, decide_eq_true hl]; rfl, by rw [sz]; omega, by rw [PyData.depth]; omega⟩
theorem Sps.lst {B w k n : Nat} {xs : List PyData} (h : Sps B w k n xs) (hl : xs.length ≤ w) : Spt B w (k + 3) (n + 1) (.list xs) := by
  have a := h.s
  have b := h.d
  exact ⟨by rw [gdB, h.g, decide_eq_true hl]; rfl, by rw [sz]; omega, by rw [PyData.depth]; omega⟩
theorem Sps.up {B w k n C v l m : Nat} {xs : List PyData} (h : Sps B w k n xs) (hB : B ≤ C := by decide) (hw : w ≤ v := by decide) (hk : k ≤ l := by decide) (hn : n ≤ m := by decide) : Sps C v l m xs :=
  ⟨gdBs_up hB hw xs h.g, Nat.le_trans h.s hk, Nat.le_trans h.d hn⟩
theorem Spt.up {B w k n C v l m : Nat} {x : PyData} (h : Spt B w k n x) (hB : B ≤ C := by decide) (hw : w ≤ v := by decide) (hk : k ≤ l := by decide) (hn : n ≤ m := by decide) : Spt C v l m x :=
  ⟨gdB_up hB hw x h.g, Nat.le_trans h.s hk, Nat.le_trans h.d hn⟩
/-! ### data spoilt once -/
end Dl
/-! parts and texts put otherwise -/
namespace Dl
open PySem PySem.Spec PyProof.Rows L2 PySem.W
/-! ### texts -/
/-! ### what a def gives, put into a name -/
/-- data given by a copy, in a slot -/
inductive IsO : Sl → PyData → Prop
  | d {x : PyData} : IsO (.d x) x
  | ow {l : Addr} {xs : List PyData} : IsO (.ow l xs) (.list xs)
theorem Sps.all {B w k n : Nat} {xs : List PyData} (h : Sps B w k n xs) : ∀ x ∈ xs, Spt B w k n x := fun x hx =>
  ⟨gdBs_mem.mp h.g x hx, by have a := szs_mem hx; have := h.s; omega, Nat.le_trans (depthAll_mem.mp (Nat.le_refl _) x hx) h.d⟩
end Dl
/-! try .. except C as n .. except D -/
namespace Dl
open PySem PySem.Spec PyProof.Rows L2
section
variable {X : Cx} {pins : List (Addr × Obj)} {B h : Heap} {a : Addr} {cls : Value} {d : Option Addr} {σ : L2.St} {H : Hp} {sI s' : Shared}
/-- an exception that came to its try: h is the heap there, sI the state without it -/
structure Cgt (X : Cx) (pins : List (Addr × Obj)) (B : Heap) (a : Addr) (cls : Value) (d : Option Addr) (σ : L2.St) (H : Hp) (sI s' : Shared) (h : Heap) : Prop where
  inv : Inv X pins σ H sI
  ground : ∀ b o, sI.heap.get? b = some o → b ∉ frs X.stack → B.get? b = some o
  slots : sI.heap.UpToSlots h
  flies : HandSPX.FlyingZ B (X.env :: X.outer) a (Zc cls d) h
  new : H a = none
  same : s'.os = sI.os
  bare : AllBare s'.gens
theorem Cgt.here (g : Cgt X pins B a cls d σ H sI s' h) : Inv X pins σ H { s' with heap := h } := Inv.landed g.inv g.ground g.flies.1 g.slots g.same g.bare
theorem Cgt.obj (g : Cgt X pins B a cls d σ H sI s' h) (hf : X.env.frame = some X.env.locals) : ∃ oe vs, h.get? a = some oe ∧ Zc cls d oe ∧ oe.data = .fields vs ∧ a ≠ X.env.locals ∧ a ∉ X.fs := by
  obtain ⟨oe, vs, e, z, f⟩ := g.flies.there
  have no : a ∉ frs (X.env :: X.outer) := fun m => by
    obtain ⟨_, o2, e2, n2⟩ := g.flies.2.2.1.mem m
    rw [e] at e2
    cases e2
    exact n2 _ f
  refine ⟨oe, vs, e, z, f, fun q => no (List.mem_filterMap.mpr ⟨X.env, List.mem_cons_self, by rw [hf, q]⟩), fun m => ?_⟩
  obtain ⟨t, ht, q⟩ := List.mem_filterMap.mp m
  exact no (List.mem_filterMap.mpr ⟨t, List.mem_cons_of_mem _ ht, q⟩)
theorem Cgt.suite (g : Cgt X pins B a cls d σ H sI s' h) (hf : X.env.frame = some X.env.locals) : ∃ oe, Zc cls d oe ∧ (∃ vs, oe.data = .fields vs) ∧ h.get? a = some oe ∧ Inv (X.suite a ((a, oe) :: (X.pn ++ pins))) [] σ H { s' with heap := h } := by
  obtain ⟨oe, vs, e, z, f, n1, n2⟩ := g.obj hf
  exact ⟨oe, z, ⟨vs, f⟩, e, g.here.suite e f g.new n1 n2⟩
/-- no clause takes it -/
theorem Cgt.out {W : WX} {D : Ends} (g : Cgt X pins B a cls d σ H sI s' h) (hs : X.stack = X.env :: X.outer) (hf : X.env.frame = some X.env.locals) (tk : Takes X W) (w : W cls d σ H) :
    wpAny (model X.prog X.w) X.A (handleBy (.ref a) X.env []) (SP X pins D) X.xe { s' with heap := h } := by
  refine wpAny_handleBy_nil ?_
  have fl := g.flies
  obtain ⟨_, _, _, o1, vs, T, _, _, g1, _, g2, g3, _⟩ := id fl
  have last : wpAny (model X.prog X.w) X.A (setFlight (.ref a) X.env.frame) (fun _ s4 => wpAny (model X.prog X.w) X.A (throw (.ref a) : Sem Flow) (SP X pins D) X.xe s4) X.xe { s' with heap := h } := by
    rw [hf]
    refine HandSPX.setFlight_upZ fl fun h4 held up => wpAny_throw (tk _ _ ⟨a, B, sI, pins, σ, H, cls, d, rfl, g.inv, g.ground, g.slots.trans up, ?_, g.new, g.same, g.bare, w⟩)
    rw [hs]
    exact .inr (.inr held)
  unfold PySem.passOn
  refine wpAny_bind (wpAny_field g1 g2 g3 ?_)
  rw [if_neg (by simp)]
  first
    | exact wpAny_bind (wpAny_pure (wpAny_bind last))
    | exact wpAny_bind last
/-- the clause's class is looked up -/
theorem Cgt.name {x : Str} {c : Value} {np : Pos} {Q E : Value → Shared → Prop} (g : Cgt X pins B a cls d σ H sI s' h) (hf : X.env.frame = some X.env.locals) (hc : Names X x c) (q : Q c { s' with heap := h }) :
    wpAny (model X.prog X.w) (X.A.mark (some (.ref a))) (eval (.Name x np) X.env) Q E { s' with heap := h } := by
  obtain ⟨oe, _, _, _, S⟩ := g.suite hf
  obtain ⟨hg, hd, hm | ⟨hm, hv, hn⟩⟩ := hc
  · exact ld_glob (X := X.suite a ((a, oe) :: (X.pn ++ pins))) S hg hm q hd
  · exact ld_blt (X := X.suite a ((a, oe) :: (X.pn ++ pins))) S hg hm hv q hn hd
end
end Dl
/-! anything == a whole number -/
namespace PySem.SeqAt
open PySem PySem.Calls
end PySem.SeqAt
namespace Dl
open PySem PySem.Spec PyProof.Rows L2
/-- as much as the number k -/
def isN (k : Int) : PyData → Bool
  | .int i => i == k
  | .bool b => (if b then 1 else 0) == k
  | _ => false
section
variable {X : Cx} {w : Wn} {pins : List (Addr × Obj)} {σ : L2.St} {H : Hp} {s : Shared}
def gEqI : G2 := fun x y P => isOb x = false ∧ match y with
  | .int k => P (.d (.bool (isN k x)))
  | _ => False
end
end Dl
/-! texts taken apart: split, partition, startswith, removeprefix, int(text), text times number -/
namespace Dl
open PySem PySem.Spec PyProof.Rows L2
/-- a method of a text with one text -/
def tS1 (g : Str → Str → (DV → Prop) → Prop) (to te : DT) : DT := fun env P => to env fun u => rd u fun x => match x with
  | .str a => te env fun v => rd v fun y => match y with
    | .str b => g a b P
    | _ => False
  | _ => False
/-- its parts between the signs of b -/
def gSplit (a b : Str) (P : DV → Prop) : Prop := (b.length == 0) = false ∧ a.length ≤ 100000 ∧ P (.fr ((Txt.split a b).map .str))
def gPart (a b : Str) (P : DV → Prop) : Prop := (b.length == 0) = false ∧ a.length ≤ 100000 ∧ P (.d (.tuple [.str (Txt.partition a b).1, .str (Txt.partition a b).2.1, .str (Txt.partition a b).2.2]))
def gStarts (a b : Str) (P : DV → Prop) : Prop := P (.d (.bool (Txt.startswith a b)))
def gRmPre (a b : Str) (P : DV → Prop) : Prop := a.length ≤ 100000 ∧ P (.d (.str (Txt.removeprefix a b)))
section
variable {X : Cx} {w : Wn} {o e : Expr} {to te : DT} {apos pos : Pos} {name : Str}
/-- int of a text, or of a number -/
def cIntT : GC := fun us P => one us fun u => rd u fun x => match x with
  | .str a => a.length ≤ 640 ∧ ∃ n, intText? a = some n ∧ P (.d (.int n))
  | _ => False
/-- the sign z, n times -/
def repS (z : Str) (n : Nat) : Str := ⟨(List.replicate n z.cps).foldl (· ++ ·) #[]⟩
theorem rep_list (z : Str) : ∀ (n : Nat) (acc : Array Nat), ((List.replicate n z.cps).foldl (· ++ ·) acc).toList = acc.toList ++ (List.replicate n z.cps.toList).flatten
  | 0, acc => by simp
  | n + 1, acc => by
    rw [List.replicate_succ, List.foldl_cons, rep_list z n, List.replicate_succ, List.flatten_cons, Array.toList_append, List.append_assoc]
theorem repS_list (z : Str) (n : Nat) : (repS z n).cps.toList = (List.replicate n z.cps.toList).flatten := by
  show ((List.replicate n z.cps).foldl (· ++ ·) #[]).toList = _
  rw [rep_list]
  rfl
theorem repS_one (z : Str) : repS z 1 = z := by
  show Str.mk _ = z
  have e : ((List.replicate 1 z.cps).foldl (· ++ ·) #[]) = z.cps := Array.toList_inj.mp (by rw [rep_list]; simp)
  rw [e]
theorem repS_nil (n : Nat) {z : Str} (h : z.length = 0) : repS z n = z := by
  have ez : z.cps = #[] := Array.size_eq_zero_iff.mp h
  have e : ((List.replicate n z.cps).foldl (· ++ ·) #[]) = z.cps := Array.toList_inj.mp (by rw [rep_list, ez]; simp)
  show Str.mk _ = z
  rw [e]
def gMulS : G2 := fun x y P => match x, y with
  | .str z, .int k => 0 ≤ k ∧ k ≤ 100000 ∧ z.length * k.toNat ≤ 100000 ∧ P (.d (.str (repS z k.toNat)))
  | _, _ => False
theorem o_mulS : OpR X (binaryOp .Mult) (lR X.K w.b gMulS) := by
  intro pins s σ H x y v u Q I rx ry h
  obtain ⟨F, dx, dy, P, wd, hx, hy, g, q⟩ := h
  unfold gMulS at g
  split at g
  · next z k =>
    cases hx.str
    cases hy.int
    obtain ⟨t, rfl⟩ := rx
    obtain ⟨t2, rfl⟩ := ry
    obtain ⟨h1, h2, h3, g⟩ := g
    have q1 : Q (.str (repS z k.toNat)) H := q (.d (.str _)) _ F H wd.refl (Rp.str _) g
    refine _root_.PySem.P.mul_str (by rw [decide_eq_false (by omega), decide_eq_false (by omega)]; rfl) (fun _ _ => ?_) (fun _ _ => ?_) ?_
    · rw [Int.not_lt] at *
      have : (z.length : Int) * k ≤ 100000 := by
        have e : ((z.length * k.toNat : Nat) : Int) = (z.length : Int) * k := by rw [Int.natCast_mul, Int.toNat_of_nonneg h1]
        omega
      refine (Int.le_ediv_iff_mul_le (by omega)).mpr ?_
      omega
    · show decide (z.length * k.toNat > sizeLine) = false
      rw [sizeLine_eq]
      exact decide_eq_false (by omega)
    · by_cases c : k < 1
      · rw [if_pos c]
        have e : k.toNat = 0 := by omega
        rw [e] at q1
        exact ⟨by decide, .str (repS z 0), H, I.tok _, ⟨_, rfl⟩, q1⟩
      · rw [if_neg c]
        by_cases c2 : (k == 1 || z.length == 0) = true
        · rw [if_pos c2]
          have e : repS z k.toNat = z := by
            rw [Bool.or_eq_true] at c2
            rcases c2 with c2 | c2
            · rw [show k.toNat = 1 from by have := eq_of_beq c2; omega]
              exact repS_one z
            · exact repS_nil _ (eq_of_beq c2)
          rw [e] at q1
          exact ⟨.str z, H, I, ⟨_, rfl⟩, q1⟩
        · rw [if_neg c2]
          refine ⟨?_, .str (repS z k.toNat), H, I.tok _, ⟨_, rfl⟩, q1⟩
          have e : (repS z k.toNat).length = z.length * k.toNat := by
            have a : (repS z k.toNat).cps.toList.length = (repS z k.toNat).length := Array.length_toList
            rw [← a, repS_list, List.length_flatten, List.map_replicate, List.sum_replicate_nat]
            show k.toNat * z.cps.toList.length = _
            rw [Array.length_toList, Nat.mul_comm]
            rfl
          show (repS z k.toNat).length ≤ sizeLine
          rw [e, sizeLine_eq]
          omega
  · exact g.elim
end
end Dl
/-! try .. except C as n, where the exceptions keep nothing -/
namespace Dl
open PySem PySem.Spec PyProof.Rows L2
end Dl
/-! words of figures and what they tell -/
namespace Dl
open PySem PySem.Spec PyProof.Rows L2
theorem tI_nat (n : Nat) : (Str.ofString (toString ((n : Nat) : Int))).cps.toList = TL.numL n := TL.tl_num n
/-! ### one sign ahead -/
theorem tI_neg {n : Nat} (h : 0 < n) : (Str.ofString (toString (-(n : Int)))).cps.toList = 45 :: TL.numL n := by
  obtain ⟨m, rfl⟩ : ∃ m, n = m + 1 := ⟨n - 1, by omega⟩
  have e : toString (-((m + 1 : Nat) : Int)) = "-" ++ toString (((m + 1 : Nat)) : Int) := rfl
  have g : TL.tl (Str.ofString (toString (((m + 1 : Nat)) : Int))) = TL.numL (m + 1) := tI_nat (m + 1)
  rw [TL.tl_ofString] at g
  show TL.tl (Str.ofString (toString (-((m + 1 : Nat) : Int)))) = _
  rw [e, TL.tl_ofString, String.toList_append, List.map_append, g]
  rfl
/-- a number's text -/
abbrev numT (i : Int) : Str := Str.ofString (toString i)
/-! ### the worths of words -/
end Dl
/-! zip of a tuple and a list -/
namespace Dl
open PySem PySem.Spec PyProof.Rows L2
def itZipM (ta : DA) : DIt := fun env P => ta env fun us => allD us fun xs => match xs with
  | [.tuple ys, .list zs] => P (zipD ys zs)
  | _ => False
end Dl
/-! range with a step -/
namespace Dl
open PySem PySem.Spec PyProof.Rows L2
def stpD (lo c : Int) (n : Nat) : List PyData := (List.range n).map fun i => .int (lo + (i : Nat) * c)
def itR3 (ta : DA) : DIt := fun env P => ta env fun us => allD us fun xs => match xs with
  | [.int i, .int j, .int k] => ∃ n : Nat, RgC i j k n ∧ P (stpD i k n)
  | _ => False
end Dl
/-! returns that hand a tree of a slot on -/
namespace Dl
open PySem PySem.Spec PyProof.Rows L2
section
variable {X : Cx} {w : Wn} {e : Expr} {te : DT} {pos p p1 p2 p3 p4 : Pos} {c1 : Nat} {x : Str} {i : Nat}
/-- return x -/
def tRetTV (i : Nat) : DS := fun d env => match env[i]? with
  | some (.ow _ xs) => d.rt (.fr xs)
  | some (.d x) => d.rt (.d x)
  | some (.raw v) => d.rt (.raw v)
  | some (.tr true _ x) => d.rt (.ft x)
  | _ => False
/-- what a slot hands on: a tree of its own, or plain data -/
def hand : Sl → Option PyData
  | .tr true _ x => some x
  | .d x => if noL x = true then some x else none
  | _ => none
/-- return (e, x) -/
def tRetPr (te : DT) (i : Nat) : DS := fun d env => te env fun u => ∃ a s y, frz u = .d a ∧ noL a = true ∧ env[i]? = some s ∧ hand s = some y ∧ d.rt (.ft (.tuple [a, y]))
/-- return tuple(e + [x]) -/
def tRetCat (te : DT) (i : Nat) : DS := fun d env => te env fun u => ∃ xs s y, u = .ft (.list xs) ∧ xs.length < 100000 ∧ env[i]? = some s ∧ hand s = some y ∧ d.rt (.ft (.tuple (xs ++ [y])))
/-- a test over which a tree stays as it is -/
def tTmW (i : Nat) (c : DTT) : DTT := fun env P => match env[i]? with
  | some (.tr _ _ x) => c (env.set i (.d x)) P
  | some (.d _) => c env P
  | _ => False
end
end Dl
/-! sets of flat items of any one kind (texts): sorted(set(xs)) -/
namespace Dl
open PySem PySem.Spec PyProof.Rows L2
section
variable {P : Program} {w : World} {κ : Type} [DecidableEq κ] (kd : PySem.KeyKind P w κ)
/-- what stands in a set, entry by entry, told by keys -/
inductive Ents : List (Int × Value) → List κ → Prop
  | nil : Ents [] []
  | cons {k : κ} {v : Value} {l : List (Int × Value)} {L : List κ} (h : kd.is k v = true) (c : v.scannable = true) (t : Ents l L) : Ents ((kd.hash k, v) :: l) (k :: L)
variable {kd}
theorem Ents.len {l : List (Int × Value)} {L : List κ} (h : Ents kd l L) : l.length = L.length := by
  induction h with
  | nil => rfl
  | cons h c t ih => rw [List.length_cons, List.length_cons, ih]
/-- a set whose table can be walked -/
def SetLike (w : World) (es : Array (Int × Value)) (t : SetTable) : Prop := t.fits es.size = true ∧ Ris t.place.toList ∧ (w.params.followText "set-order" = true ∨ t.led = true)
variable (kd) in
structure FSet (h : Heap) (a : Addr) (L : List κ) : Prop where
  ex : ∃ o es ep t, h.get? a = some o ∧ o.ExactSet ∧ o.data = .set es ep t ∧ Ents kd es.toList L ∧ SetLike w es t
  dist : L.Nodup
  few : L.length < 64
theorem FSet.up {h h' : Heap} {a : Addr} {L : List κ} (S : FSet kd h a L) (k : ∀ o, h.get? a = some o → h'.get? a = some o) : FSet kd h' a L := by
  obtain ⟨o, es, ep, t, ho, r⟩ := S.ex
  exact ⟨⟨o, es, ep, t, k o ho, r⟩, S.dist, S.few⟩
variable {A : Around} {E : Value → Shared → Prop} {s : Shared} {a : Addr} {L : List κ}
/-! ### set(xs) -/
end
end Dl
/-! sorted(set(xs)) of a list of texts -/
namespace Dl
open PySem PySem.Spec PyProof.Rows L2
section
variable {X : Cx} {w : Wn}
/-- sorted(set(e)), e a list of texts -/
def tSortTx (te : DT) : DT := fun env P => te env fun u => rd u fun x => match x with
  | .list xs => ∃ ks : List Str, xs = ks.map .str ∧ ks.length < 64 ∧ ∀ ys : List Str, ys.Nodup → (∀ j, j ∈ ys ↔ j ∈ ks) → sortedS ys = true → P (.fr (ys.map .str))
  | _ => False
end
end Dl
/-! trees that a def changes within its argument -/
namespace Dl
open PySem PySem.Spec PyProof.Rows L2
/-- the tree of a slot -/
def treeOf : Sl → Option (List Addr × PyData)
  | .tr true S x => some (S, x)
  | .tv _ S x => some (S, x)
  | _ => none
/-- another tree in its stead -/
def reT : Sl → List Addr → PyData → Sl
  | .tv v _ _, S, x => .tv v S x
  | _, S, x => .tr true S x
/-- a slot's tree, seen as a plain one -/
def asT (i : Nat) (env : List Sl) : List Sl := match env[i]? with
  | some (.tv _ S x) => env.set i (.tr true S x)
  | _ => env
section
variable {X : Cx} {w : Wn} {i : Nat} {tp : DPl} {e : Expr} {pos : Pos}
/-- x..[k].pop() -/
def tPopP (i : Nat) (tp : DPl) : DS := fun d env => ∃ s S x, env[i]? = some s ∧ treeOf s = some (S, x) ∧ tp (asT i env) x fun y g => ∃ ys z, y = .list (ys ++ [z]) ∧ ∀ S2, d.nx (env.set i (reT s S2 (g (.list ys))))
end
/-! ### defs that change the tree of an argument -/
abbrev DSpM := List DV → PyData → (PyData → Prop) → Prop
section
variable {X : Cx} {w : Wn} {CX : CXT} {k : Nat} {f : Addr} {ds : DSpM} {E : XK} {x y : Str} {e : Expr} {p p2 pos pos2 : Pos} {t0 : DT}
/-- f(e, x): a statement that changes the tree of x -/
def tMut (sp : DSpM) (t0 : DT) (i : Nat) : DS := fun d env => t0 env fun u => ∃ a s S x, frz u = .d a ∧ env[i]? = some s ∧ treeOf s = some (S, x) ∧ sp [.d a, .d .none] x fun z => ∀ S2, d.nx (env.set i (reT s S2 z))
end
end Dl
namespace Dl
open PySem PySem.Spec PyProof.Rows L2
section
variable {X : Cx} {w : Wn} {e : Expr} {pos : Pos}
/-- a test over which the tree of a slot stays as it is -/
def tTmV (i : Nat) (c : DTT) : DTT := fun env P => ∃ s S x, env[i]? = some s ∧ treeOf s = some (S, x) ∧ c (env.set i (.d x)) P
/-- x, y = e1, e2: e2 may be a new tree -/
def tParT (i j : Nat) (t1 t2 : DT) : DS := fun d env => t1 env fun u => ∃ a, frz u = .d a ∧ t2 env fun z => stD j z (env.set i (.d a)) d.nx
end
end Dl
/-! numbers of up to 4300 figures: their texts, the numbers of such texts, division -/
namespace Dl
open PySem PySem.Spec PyProof.Rows L2 PySem.W
/-- the module's memory knows no limit for the figures of a number -/
def NoDg (K : PySem.W.Frag) : Prop := PySem.W.nsIn K cStatics "sys.int_max_str_digits" = some none
theorem NoDg.heap {K : PySem.W.Frag} {h : Heap} (nd : NoDg K) (x : K.In h) (l : h.NoLimit) : h.NoDigits := by
  obtain ⟨mc, ⟨o, es, ep, ho, hd, hs, hm⟩, _⟩ := l
  refine ⟨mc, ⟨o, es, ep, ho, hd, hs, hm⟩, ?_⟩
  unfold NoDg PySem.W.nsIn at nd
  split at nd
  · rename_i c d es2 n sl e
    have e2 := x _ _ e
    rw [ho] at e2
    cases e2
    cases hd
    rw [← hm]
    unfold nsFind findBy
    rw [← Array.find?_toList]
    split at nd
    · cases nd
    · rename_i he
      rw [he]
      rfl
  · cases nd
section
variable {prog : Program} {w : World} {A : Around} {E : Value → Shared → Prop} {s : Shared} {a : Int} {t : Tok}
theorem over_none (hn : s.heap.NoDigits) {M : Model} {Q : Option Nat → Shared → Prop} (h : a.natAbs < 10 ^ 4300) (q : Q none s) : wpAny M A (Builtin.overDigitLimit? a) Q E s :=
  overDigitLimit_any hn (fun _ => q) fun z => absurd h (Nat.not_lt.mpr z)
theorem repr_big {R : Result → Shared → Prop} (hn : s.heap.NoDigits) (h : a.natAbs < 10 ^ 4300) (q : R (.ok (.ret (.str (toString a) s.toks))) { s with toks := s.toks + 1 }) :
    codeAny (model prog w) A (.builtin "int.__repr__" ⟨[.int a t], []⟩) R s := by
  refine codeAny_builtin entry_int_repr ?_
  rw [Around.under_plainId plain_int_repr _]
  unfold Builtin.«int.__repr__»
  show wpAny _ _ (do let r ← Builtin.overDigitLimit? a; _) _ _ s
  exact wpAny_bind (over_none hn h (wpAny_bind (wpAny_mkStr (wpAny_pure q) (int_text_fits10 h))))
theorem call_repr_big {Q : Value → Shared → Prop} (hn : s.heap.NoDigits) (h : a.natAbs < 10 ^ 4300) (q : Q (.str (toString a) s.toks) { s with toks := s.toks + 1 }) :
    wpAny (model prog w) A (call (.builtin "int.__repr__") [.int a t]) Q E s := by
  refine wpAny_call_entry F.slot_int_repr (typeIs_int s a t) F.entry_int_repr ?_ (F.args_int_repr_1 _)
  unfold Builtin.«int.__repr__»
  show wpAny _ _ (do let r ← Builtin.overDigitLimit? a; _) _ _ s
  exact wpAny_bind (over_none hn h (wpAny_bind (wpAny_mkStr (wpAny_pure ⟨_, rfl, q⟩) (int_text_fits10 h))))
theorem strOf_big {Q : Value → Shared → Prop} (hn : s.heap.NoDigits) (h : a.natAbs < 10 ^ 4300) (q : Q (.str (toString a) s.toks) { s with toks := s.toks + 1 }) :
    wpAny (model prog w) A (PySem.Builtin.Str.strOf (.int a t)) Q E s := by
  unfold PySem.Builtin.Str.strOf
  rw [show Builtin.Str.isExactStr (.int a t) = false from rfl]
  try (have hv : [Value.int a t].any Value.onHeap = false := rfl; simp only [cRoomFor, hv, Bool.false_eq_true, if_false, pure_bind])
  refine wpAny_bind (m := callSpecial? (.int a t) (Str.ofString "__str__")) (wpAny_callSpecial?_slot (name := Str.ofString "__str__") (typeIs_int s a t) F.slot_int_str ?_)
  refine wpAny_call_entry F.slot_int_str (typeIs_int s a t) entry_object_str ?_ (args_object_str _)
  unfold Builtin.«object.__str__»
  refine wpAny_bind (m := slotArgs "__str__" 0 _) (wpAny_pure ?_)
  try (have hv : [Value.int a t].any Value.onHeap = false := rfl; simp only [cRoomFor, hv, Bool.false_eq_true, if_false, pure_bind])
  refine wpAny_bind (m := callSpecialIfBound? (.int a t) (Str.ofString "__repr__")) (wpAny_callSpecialIfBound?_slot (name := Str.ofString "__repr__") (typeIs_int s a t) F.slot_int_repr
    (call_repr_big hn h ?_))
  exact wpAny_pure ⟨_, rfl, wpAny_pure q⟩
theorem str_big {Q : Value → Shared → Prop} (hn : s.heap.NoDigits) (h : a.natAbs < 10 ^ 4300) (q : Q (.str (toString a) s.toks) { s with toks := s.toks + 1 }) :
    wpAny (model prog w) A (call (.type "str") [.int a t]) Q E s :=
  callType_new F.called_str (by decide) (F.typeCall_str_1 _) (F.newCall_str_1 _) (fun obj => F.args_object_init_2 obj _) F.entry_str_new
    (meets_str_new (S := fun A R s => s.heap.NoDigits ∧ (R (.ok (.ret (.str (toString a) s.toks))) { s with toks := s.toks + 1 }))
      fun _ _ _ _ _ hq => strOf_big hq.1 h hq.2)
    ⟨hn, typeIs_str _ _ _, q⟩
theorem fmt_big {Q : Value → Shared → Prop} (hn : s.heap.NoDigits) (h : a.natAbs < 10 ^ 4300) (q : Q (.str (toString a) (s.toks + 1)) { s with toks := s.toks + 1 + 1 }) :
    wpAny (model prog w) A (formatField (.int a t) Str.empty) Q E s := by
  show wpAny _ _ (holding [.int a t] (pyFormat (.int a t) Str.empty)) Q E s
  refine wpAny_holding ?_
  unfold pyFormat
  refine wpAny_bind (wpAny_mkStr ?_ (by decide))
  refine wpAny_bind (m := callSpecial? (.int a t) (Str.ofString "__format__") [.str Str.empty s.toks]) (wpAny_callSpecial?_slot (name := Str.ofString "__format__") (typeIs_int _ a t) slot_int_format ?_)
  refine wpAny_call (codeAny_call_builtin slot_int_format.plain entry_int_format (slot_int_format.check _ _ _ _ _ _ _ _ (typeIs_int _ a t) (args_int_format _ _) ?_))
  show wpAny _ _ (do let _kind ← typeNameOf (.str Str.empty s.toks); (do rule "int.format.empty"; again (.builtin "int.__repr__" ⟨[.int a t], []⟩))) _ _ _
  refine wpAny_bind (wpAny_typeNameOf (T := "str") (typeIs_str _ _ _) (by decide) fun _ => wpAny_bind (wpAny_rule (wpAny_pure ⟨plainId_quiet plain_int_repr _, repr_big hn h ?_⟩)))
  show wpAny _ _ (do if ← isInstance (.str (toString a) (s.toks + 1)) (.type "str") then return (.str (toString a) (s.toks + 1)) else _) Q E _
  exact wpAny_bind (wpAny_isInstance (typeIs_str _ _ _) isSubtype_str_str (wpAny_pure q))
/-- int of a text of more than 640 signs -/
theorem wp_textBig {M : Model} {Q : Value → Shared → Prop} {v : Value} {text : List Nat} {n : Int} (hn : s.heap.NoDigits)
    (hs : 640 < (text.takeWhile (· != 0)).length) (hr : (int_private% "readNumeral") 4300 10 (text.takeWhile (· != 0)) = (int_private% "Numeral.value") n)
    (ha : ((text.takeWhile (· != 0)).length == text.length) = true) (h : Q (.int n s.toks) { s with toks := s.toks + 1 }) :
    wpAny M A ((int_private% "intFromText") v text 10) Q E s := by
  obtain ⟨hp, g, d, tk, os⟩ := s
  obtain ⟨mc, hns, hnone⟩ := hn
  have hs2 : ¬ (text.takeWhile (· != 0)).length ≤ 640 := Nat.not_le.mpr hs
  have mx : ∀ {Q : Nat → Shared → Prop} {tk2 : Nat}, Q 4300 ⟨hp, g, d, tk2, os⟩ → wpAny M A Builtin.intMaxStrDigits Q E ⟨hp, g, d, tk2, os⟩ := fun q => by
    unfold Builtin.intMaxStrDigits
    refine wpAny_bind (wpAny_nsGet hns ?_)
    rw [hnone]
    exact wpAny_pure q
  repeat (any_goals (first
    | assumption
    | (with_reducible refine wpAny_ite_false (decide_eq_false hs2) ?_)
    | (with_reducible refine mx ?_)
    | (with_reducible refine wpAny_ite_true (decide_eq_true ha) ?_)
    | wp_step))
  all_goals (try rw [hr])
  all_goals (try dsimp only)
  repeat (any_goals (first
    | assumption
    | (with_reducible refine wpAny_ite_true (decide_eq_true ha) ?_)
    | wp_step))
theorem meets_textBig {x : PySem.Str} {u : Tok} {n : Int} (hz : x.length ≤ sizeLine) (hl : 640 < (numSeenOf x).length) (hn : PySem.intText? x = some n) :
    Meets (Builtin.«int.__new__» ⟨[.type "int", .str x u], []⟩) (fun _ R s => s.heap.NoDigits ∧ R (.ok (.ret (.int n s.toks))) { s with toks := s.toks + 1 }) :=
  .of_wp fun prog w A R s h => by
    obtain ⟨nd, h⟩ := h
    have f1 := F.conv_sub_int
    have f2 := F.madeHere_int
    have f3 := KIN.str_int
    have f4 := KIN.str_idx
    have f5 := KIN.str_trunc
    have f6 : typeOf (.str x u) = pure (.type "str") := rfl
    have hr : (int_private% "readNumeral") 4300 10 (numSeenOf x) = (int_private% "Numeral.value") n ∧ ((numSeenOf x).length == (numTextOf x).length) = true := by
      rcases read4300 x hz with ⟨m, h1, h2, h3⟩ | ⟨h1, _⟩
      · rw [hn] at h1
        injection h1 with h1
        subst h1
        exact ⟨h3, h2⟩
      · rw [hn] at h1
        cases h1
    have hk := KIN.Hid.mk (And.intro (And.intro hl nd) hr)
    clear hr hl hn nd
    obtain ⟨hp, g, d, tk, os⟩ := s
    repeat (any_goals (first
      | assumption
      | ((with_reducible show wpAny _ _ ((int_private% "intFromText") _ _ _) _ _ _); refine wp_textBig hk.out.1.2 hk.out.1.1 hk.out.2.1 hk.out.2.2 ?_)
      | wp_step))
    all_goals first | exact ⟨_, rfl, h⟩ | skip
theorem int_big {x : PySem.Str} {u : Tok} {n : Int} {Q : Value → Shared → Prop} (hs : s.heap.NoDigits) (hz : x.length ≤ sizeLine) (hl : 640 < (numSeenOf x).length) (hn : PySem.intText? x = some n) (q : Q (.int n s.toks) { s with toks := s.toks + 1 }) :
    wpAny (model prog w) A (call (.type "int") [.str x u]) Q E s :=
  call_int_1 (meets_textBig hz hl hn) ⟨hs, typeIs_int _ _ _, q⟩
end
theorem take_all : ∀ l : List Nat, (∀ c ∈ l, 48 ≤ c ∧ c ≤ 57) → l.takeWhile (· != 0) = l
  | [], _ => rfl
  | c :: l, h => by
    have a := h c List.mem_cons_self
    rw [List.takeWhile_cons, if_pos (by simp only [bne_iff_ne, ne_eq]; omega), take_all l fun d m => h d (List.mem_cons_of_mem _ m)]
theorem seen_dig {x : Str} (h : ∀ c ∈ x.cps.toList, 48 ≤ c ∧ c ≤ 57) : numSeenOf x = x.cps.toList := by
  have a : (x.cps.all (· < 128)) = true := by
    rw [← Array.all_toList]
    exact List.all_eq_true.mpr fun c m => decide_eq_true (by have := h c m; omega)
  show (if x.cps.all (· < 128) then x.cps.toList else Unicode.numberText x.cps.toList).takeWhile (· != 0) = _
  rw [if_pos a]
  exact take_all _ h
theorem val_go : ∀ (l : List Nat) (acc : Nat), (∀ c ∈ l, 48 ≤ c ∧ c ≤ 57) → l.foldl (fun a c => a * 10 + (c - 48)) acc < (acc + 1) * 10 ^ l.length
  | [], acc, _ => by simp
  | c :: l, acc, h => by
    have b := h c List.mem_cons_self
    have a := val_go l (acc * 10 + (c - 48)) fun d m => h d (List.mem_cons_of_mem _ m)
    rw [List.foldl_cons, List.length_cons, Nat.pow_succ, Nat.mul_comm (10 ^ _) 10, ← Nat.mul_assoc]
    exact Nat.lt_of_lt_of_le a (Nat.mul_le_mul_right _ (by omega))
theorem digitsVal_lt (l : List Nat) (h : ∀ c ∈ l, 48 ≤ c ∧ c ≤ 57) : NumText.digitsVal l < 10 ^ l.length := by
  have a := val_go l 0 h
  rw [Nat.zero_add, Nat.one_mul] at a
  exact a
theorem no_py {i j : Int} (h : i.natAbs < 2 ^ 13440) : Builtin.divisionGoesByPylong i j = false := by
  show (decide ((if j == 0 then 0 else j.natAbs.log2 / 30 + 1) > 300) && decide ((if i == 0 then 0 else i.natAbs.log2 / 30 + 1) > (if j == 0 then 0 else j.natAbs.log2 / 30 + 1) + 150)) = false
  have l : i.natAbs.log2 < 13440 := log_lt (by decide) h
  clear h
  generalize (if j == 0 then 0 else j.natAbs.log2 / 30 + 1) = y
  have : (if i == 0 then 0 else i.natAbs.log2 / 30 + 1) ≤ 448 := by split <;> omega
  by_cases c : y > 300
  · rw [decide_eq_false (p := _ > y + 150) (by omega), Bool.and_false]
  · rw [decide_eq_false c, Bool.false_and]
/-- numbers below this one have a text; below that one are divided by C itself -/
def figs : Nat := 10 ^ 4300
def cDiv : Nat := 2 ^ 13440
section
variable {X : Cx} {w : Wn}
theorem dg_inv {K : PySem.W.Frag} {pins : List (Addr × Obj)} {σ : L2.St} {H : Hp} {s : Shared} (I : Inv X pins σ H s) (nd : NoDg X.K) : s.heap.NoDigits := nd.heap I.kIn I.nolimit
/-- x // y of numbers that C divides by itself -/
def gFdvB : G2 := fun x y P => match x, y with
  | .int i, .int j => j ≠ 0 ∧ i.natAbs < cDiv ∧ P (.d (.int (i.fdiv j)))
  | _, _ => False
theorem op_fdvB : OpR X (binaryOp .FloorDiv) (rI (fun i j => j ≠ 0 ∧ Builtin.divisionGoesByPylong i j = false) fun i j => .int (i.fdiv j)) :=
  opI fun _ _ _ _ _ _ _ hc q => floordiv_int hc.1 q (.inl hc.2)
theorem o_fdvB : OpR X (binaryOp .FloorDiv) (lR X.K w.b gFdvB) := by
  intro pins s σ H x y v u Q I rx ry h
  obtain ⟨F, dx, dy, P, wd, hx, hy, g, q⟩ := h
  unfold gFdvB at g
  split at g
  · cases hx.int; cases hy.int
    obtain ⟨g1, g2, g3⟩ := g
    exact op_fdvB pins s σ H _ _ v u Q I rx ry ⟨_, _, rfl, rfl, ⟨g1, no_py g2⟩, q _ _ F H wd.refl (res_d (.int _)) g3⟩
  · exact g.elim
def cStrW : GC := fun us P => one us fun u => rd u fun x => match x with
  | .int i => i.natAbs < figs ∧ P (.d (.str (toString i)))
  | .str z => P (.d (.str z))
  | _ => False
theorem k_strW (nd : NoDg X.K) : CallR X (.type "str") (lC X.K w.b cStrW) := by
  intro pins s σ H vs us Q I r h
  obtain ⟨F, dvs, P, wd, ar, g, q⟩ := h
  obtain ⟨u, v, rfl, a, g⟩ := one_ok ar g
  obtain ⟨x, hx, g⟩ := arr_rr a g
  split at g
  · cases hx.int
    obtain ⟨u, rfl, t, rfl⟩ := vals1 r
    exact str_big (dg_inv (K := X.K) I nd) g.1 ⟨.str _, H, I.tok _, ⟨_, rfl⟩, q (.d (.str _)) _ F H wd.refl (res_d (.str _)) g.2⟩
  · cases hx.str
    exact SkE.call_str_str pins s σ H _ us Q I r ⟨_, rfl, q _ _ F H wd.refl (res_d (.str _)) g⟩
  · exact g.elim
def cIntW : GC := fun us P => one us fun u => rd u fun x => match x with
  | .str a => (∀ c ∈ a.cps.toList, 48 ≤ c ∧ c ≤ 57) ∧ 640 < a.length ∧ a.length ≤ 4300 ∧ ∀ n : Nat, n < 10 ^ a.length → P (.d (.int n))
  | _ => False
theorem k_intW (nd : NoDg X.K) : CallR X (.type "int") (lC X.K w.b cIntW) := by
  intro pins s σ H vs us Q I r h
  obtain ⟨F, dvs, P, wd, ar, g, q⟩ := h
  obtain ⟨u, v, rfl, a, g⟩ := one_ok ar g
  obtain ⟨x, hx, g⟩ := arr_rr a g
  split at g
  · next z =>
    obtain ⟨hd, h1, h2, g⟩ := g
    cases hx.str
    obtain ⟨u, rfl, t, rfl⟩ := vals1 r
    have le : z.cps.toList.length = z.length := Array.length_toList
    have ne : z.cps.toList ≠ [] := fun e => by rw [e] at le; simp at le; omega
    have e := intText_digits (x := z) hd ne h2
    have lt := digitsVal_lt z.cps.toList hd
    rw [le] at lt
    exact int_big (dg_inv (K := X.K) I nd) (Nat.le_trans h2 (by rw [sizeLine_eq]; decide)) (by rw [seen_dig hd, le]; exact h1) e ⟨.int _, H, I.tok _, ⟨_, rfl⟩, q (.d (.int _)) _ F H wd.refl (res_d (.int _)) (g _ lt)⟩
  · exact g.elim
def tFmtW (te : DT) : DT := fun env P => te env fun u => rd u fun x => match x with
  | .int i => i.natAbs < figs ∧ P (.d (.str (toString i)))
  | .str z => z.length ≤ 100000 ∧ P (.d (.str z))
  | _ => False
theorem d_fmtW {e : Expr} {te : DT} {pos : Pos} (nd : NoDg X.K) (he : DPE X w e te) : DPE X w (.FormattedValue e (-1) none pos) (tFmtW te) :=
  ⟨fun pins s σ H Q I h => by
    obtain ⟨env, F, P, r, h, q⟩ := h
    refine wpAny_FormattedValue_plain (thn (he.run pins s σ H (fun v H1 => ∃ dv F1, Stp X.K w.b F H F1 H1 ∧ Res X.K w.b H F1 H1 dv v ∧ rd dv fun x => match x with
      | .int i => i.natAbs < figs ∧ P (.d (.str (toString i)))
      | .str z => z.length ≤ 100000 ∧ P (.d (.str z))
      | _ => False) I ⟨env, F, _, r, h, fun dv v F1 H1 s1 r1 h1 => ⟨dv, F1, s1, r1, h1⟩⟩) fun v s1 hv => ?_)
    obtain ⟨x, H1, I1, r1, dv, F1, st, rs, g⟩ := hv
    obtain ⟨y, hy, g⟩ := rd_ok rs g
    split at g
    · cases hy.int
      obtain ⟨t, rfl⟩ := r1
      exact fmt_big (dg_inv (K := X.K) I1 nd) g.1 ⟨.str _, H1, I1.tok _, ⟨_, rfl⟩, q (.d (.str _)) _ F1 H1 st (Rp.str _) g.2⟩
    · next z =>
      cases hy.str
      obtain ⟨t, rfl⟩ := r1
      exact wpAny_formatField_str ⟨.str z, H1, I1, ⟨t, rfl⟩, q (.d (.str _)) _ F1 H1 st (Rp.str _) g.2⟩ ⟨.str z, H1, I1.tok _, ⟨_, rfl⟩, q (.d (.str _)) _ F1 H1 st (Rp.str _) g.2⟩ (lim_le g.1)
    · exact g.elim⟩
end
end Dl
/-! fractions of up to 3911 figures and their texts -/
namespace Dl
open PySem PySem.Spec PyProof.Rows L2
/-- the greatest number spoken of -/
def LM : Nat := 10 ^ 3910
theorem LM_big : 10 ^ 70 ≤ LM := by unfold LM; decide +kernel
theorem lm_t {n : Nat} (h : n ≤ LM + 1) : n < figs := Nat.lt_of_le_of_lt h (by unfold LM figs; decide +kernel)
theorem lm_c {n : Nat} (h : n ≤ LM + 1) : n < cDiv := Nat.lt_of_le_of_lt h (by unfold LM cDiv; decide +kernel)
theorem lm_e {n : Nat} (h : n ≤ LM + 1) : n < 10 ^ 3911 := Nat.lt_of_le_of_lt h (by unfold LM; decide +kernel)
theorem lm_2 {n : Nat} (h : n ≤ LM + 1) : n < 2 ^ 13440 := Nat.lt_of_le_of_lt h (by unfold LM; decide +kernel)
theorem lm_l {n : Nat} (h : n ≤ LM + 1) : n.log2 < 13440 := log_lt (by decide) (lm_2 h)
theorem lm_great {n more much : Nat} (h : n < 10 ^ 3900) (h1 : more < 10 ^ 6) (h2 : much < 10 ^ 9) : n * more + much ≤ LM := by
  have a : n * more ≤ 10 ^ 3900 * 10 ^ 6 := Nat.mul_le_mul (Nat.le_of_lt h) (Nat.le_of_lt h1)
  have b : 10 ^ 3900 * 10 ^ 6 + 10 ^ 9 ≤ LM := by unfold LM; decide +kernel
  generalize 10 ^ 3900 * 10 ^ 6 = x at a b
  exact Nat.le_trans (Nat.add_le_add a (Nat.le_of_lt h2)) b
theorem ones_ok : (∀ c ∈ (repS (Str.ofString "1") (Int.toNat 3900)).cps.toList, 48 ≤ c ∧ c ≤ 57) ∧ (repS (Str.ofString "1") (Int.toNat 3900)).length = 3900 := by
  have e : (Str.ofString "1").cps.toList = [49] := by decide +kernel
  have h := repS_list (Str.ofString "1") (Int.toNat 3900)
  rw [e] at h
  refine ⟨fun c hc => ?_, ?_⟩
  · rw [h] at hc
    obtain ⟨l, hl, hc⟩ := List.mem_flatten.mp hc
    rw [(List.mem_replicate.mp hl).2] at hc
    have := List.mem_singleton.mp hc
    omega
  · have a : (repS (Str.ofString "1") (Int.toNat 3900)).cps.toList.length = (repS (Str.ofString "1") (Int.toNat 3900)).length := Array.length_toList
    rw [← a, h, List.length_flatten, List.map_replicate, List.sum_replicate_nat]
    rfl
theorem numT_len {i : Int} (h : i.natAbs ≤ LM + 1) : (numT i).length ≤ 3912 := by
  have e := PySem.int_text_length_le10 (k := 3911) (by decide) (lm_e h)
  rw [PySem.ofString_length]
  exact e
theorem numT_ch (i : Int) : ∀ c ∈ (numT i).cps.toList, 45 ≤ c ∧ c ≤ 57 := by
  intro c hc
  by_cases h : i < 0
  · obtain ⟨n, rfl, n0⟩ : ∃ n : Nat, i = -(n : Int) ∧ 0 < n := ⟨i.natAbs, by omega, by omega⟩
    rw [tI_neg n0] at hc
    rcases List.mem_cons.mp hc with rfl | hc
    · omega
    · have := TL.numL_digits n c hc
      omega
  · obtain ⟨n, rfl⟩ := Int.eq_ofNat_of_zero_le (Int.not_lt.mp h)
    rw [tI_nat] at hc
    have := TL.numL_digits n c hc
    omega
theorem print_n : ∀ c : Nat, 45 ≤ c → c ≤ 57 → ∀ q : Nat, (q = 34 ∨ q = 39) → Builtin.Str.reprChar q c = [c] := by
  intro c h1 h2 q hq
  obtain ⟨k, rfl⟩ : ∃ k, c = 45 + k := ⟨c - 45, by omega⟩
  have all : ∀ k : Fin 13, Builtin.Str.reprChar 34 (45 + k.1) = [45 + k.1] ∧ Builtin.Str.reprChar 39 (45 + k.1) = [45 + k.1] := by decide +kernel
  have := all ⟨k, by omega⟩
  rcases hq with rfl | rfl
  · exact this.1
  · exact this.2
theorem fold_n {q : Nat} (hq : q = 34 ∨ q = 39) : ∀ (l : List Nat) (acc : Array Nat), (∀ c ∈ l, 45 ≤ c ∧ c ≤ 57) → (l.foldl (fun out c => out ++ (Builtin.Str.reprChar q c).toArray) acc).size = acc.size + l.length
  | [], acc, _ => rfl
  | c :: l, acc, h => by
    have a := h c List.mem_cons_self
    rw [List.foldl_cons, fold_n hq l _ (fun d m => h d (List.mem_cons_of_mem _ m)), print_n c a.1 a.2 q hq, Array.size_append, List.length_cons]
    show acc.size + 1 + l.length = _
    omega
theorem repr_n {x : Str} (h : ∀ c ∈ x.cps.toList, 45 ≤ c ∧ c ≤ 57) : (reprText x).length ≤ x.length + 2 := by
  unfold reprText
  show ((x.cps.foldl (fun out c => out ++ (Builtin.Str.reprChar (reprQuote x) c).toArray) #[reprQuote x]).push (reprQuote x)).size ≤ _
  have hq : reprQuote x = 34 ∨ reprQuote x = 39 := by
    unfold reprQuote
    split
    · exact .inl rfl
    · exact .inr rfl
  rw [Array.size_push, ← Array.foldl_toList, fold_n hq _ _ h]
  have e : x.cps.toList.length = x.length := Array.length_toList
  have e1 : (#[reprQuote x] : Array Nat).size = 1 := rfl
  omega
/-- the text of a fraction -/
def bfT (p q : Int) : Str := if q = 1 then numT p else numT p ++ ("/" : Str) ++ numT q
theorem ap_len (a b : Str) : (a ++ b).length = a.length + b.length := Array.size_append
theorem ap_signs (a y : Str) : (a ++ y).cps.toList = a.cps.toList ++ y.cps.toList := by
  show (a.cps ++ y.cps).toList = _
  exact Array.toList_append
theorem bfT_ok {p q : Int} (hp : p.natAbs ≤ LM + 1) (hq : q.natAbs ≤ LM + 1) : (bfT p q).length ≤ 7825 ∧ ∀ c ∈ (bfT p q).cps.toList, 45 ≤ c ∧ c ≤ 57 := by
  have a := numT_len hp
  have b := numT_len hq
  have e1 : ("/" : Str).length = 1 := by decide +kernel
  have e2 : ∀ c ∈ ("/" : Str).cps.toList, 45 ≤ c ∧ c ≤ 57 := by decide +kernel
  unfold bfT
  by_cases c : q = 1
  · rw [if_pos c]
    exact ⟨by omega, numT_ch p⟩
  · rw [if_neg c]
    refine ⟨by rw [ap_len, ap_len]; omega, fun c hc => ?_⟩
    rw [ap_signs, ap_signs] at hc
    rcases List.mem_append.mp hc with hc | hc
    · rcases List.mem_append.mp hc with hc | hc
      · exact numT_ch p c hc
      · exact e2 c hc
    · exact numT_ch q c hc
theorem told_sh {p q : Int} (hp : p.natAbs ≤ LM + 1) (hq : q.natAbs ≤ LM + 1) : selfEq (.tuple [.str "told", .str (bfT p q)]) ∧ Sh (.tuple [.str "told", .str (bfT p q)]) := by
  obtain ⟨a, b⟩ := bfT_ok hp hq
  have g := gd_str (l := 7825) (fun c hc => by have := b c hc; omega) a
  have gt : Gd 0 82 (.str "told") := gd_lit (by decide +kernel) (by decide +kernel)
  have s1 : Sn 0 8000 (.str (bfT p q)) := sn_str (Nat.le_trans (repr_n b) (by omega))
  have s2 : Sn 0 8000 (.str "told") := gt.sn.up
  have ly : Ly 1 (.tuple [.str "told", .str (bfT p q)]) := ly_tup fun x hx => by
    simp only [List.mem_cons, List.not_mem_nil, or_false] at hx
    rcases hx with rfl | rfl
    · exact gt.ly
    · exact g.ly
  have sn : Sn 1 (2 * (8000 + 2) + 3) (.tuple [.str "told", .str (bfT p q)]) := sn_tup (m := 2) (fun x hx => by
    simp only [List.mem_cons, List.not_mem_nil, or_false] at hx
    rcases hx with rfl | rfl
    · exact s2
    · exact s1) (by simp)
  exact ⟨ly.selfEq (by decide), sn.sh⟩
theorem dvd_co {r b s : Int} (h : r ∣ b * s) (c : Int.gcd r s = 1) : r ∣ b := by
  have h1 := Int.natAbs_dvd_natAbs.mpr h
  rw [Int.natAbs_mul] at h1
  exact Int.natAbs_dvd_natAbs.mp (Nat.Coprime.dvd_of_dvd_mul_right c h1)
theorem frc_bd {s r t b : Int} (f : Frac s r) (b0 : 0 < b) (e : t * r = b * s) : s.natAbs ≤ t.natAbs ∧ r.natAbs ≤ b.natAbs := by
  have r0 := f.pos
  have c : Int.gcd s r = 1 := f.low
  have d2 : r ∣ b := dvd_co ⟨t, by rw [← e, Int.mul_comm]⟩ (by rw [Int.gcd_comm]; exact c)
  have h2 : r.natAbs ≤ b.natAbs := Nat.le_of_dvd (by omega) (Int.natAbs_dvd_natAbs.mpr d2)
  refine ⟨?_, h2⟩
  have d4 : s ∣ t := dvd_co (s := r) ⟨b, by rw [e, Int.mul_comm]⟩ c
  by_cases z : t = 0
  · subst z
    have : b * s = 0 := by rw [← e]; simp
    rcases Int.mul_eq_zero.mp this with h | h
    · omega
    · subst h; simp
  · exact Nat.le_of_dvd (by omega) (Int.natAbs_dvd_natAbs.mpr d4)
end Dl
namespace Lk
open PySem PySem.Spec PyProof.Rows L2 Dl
local macro_rules | `(tactic| walk_at "dl") => `(tactic| simp only [↓sqD, ↓alE, ↓rvE, capD, capSl, ↓stE, ↓reE, tRetVD, ↓ifE, tDropD, tParD, tAsgD, tAppD, tInsD, tDict1, tJoin, tSlT, tSlS, cSorted, cTuple, gLtT, tPar3D, ↓ixE, tSetI, tAugI, ↓vaE, ↓cdE, tRaw, ↓biE, ↓rdE, rd, gAdd, gMinus, gMul, gFdiv, gMod, gPow, gIn, gEqv, id,
  isB, ↓tsE, ↓unE, gNeg, ↓anE, ↓orE, ↓noE, ↓uxE, ↓raE, ↓mkE, ↓meE, ↓flE, ↓icE, ↓inE, ↓ikE, ↓xoE, ↓r0E, ↓osE, ↓cnE, mulLE, tSortSet, tTmp, tLenSeX, tFmtD, tFmtW, cStrW, cIntW, gFdvB, tFstr, tJsD, tExtO, tTmT, tTmW, tTmV, asT, reT, tMut, tPopP, tParT, tSortTx, tRetTV, tRetPr, tRetCat, itOr, tPl0, tPlL, tPlT, tClrP, tExtP, lsT, tGetD, tDict2S, gEqX, gEqI, gInX, gInS, gNeN, gAddX, gEqS, tIsT, tDictC, tGetO, tRevT, tEith, cAll, gEqN, tDict2, tTupT, tClrD, tExtD, tListK, tInT, tGetT, tPutT, tSortIt, tEmpT, cMinL, cSortG, isDt, ↓isE, ↓axE, ↓trE, truOk, truD, ↓itE, tAnV, tOrV', tNoV, tIsNV, nonB, tChD, ↓nlE, ↓coE, frz, allD, ↓liE, ↓tuE, ↓caE, one, two, cLen, cAbs, cMin, cInt, cGcd, cList, cIsi, isA, cRepr, cStr, tEmp,
  ↓usE, dat, okR, anyOw, owA, ↓sdE, stD, unS, gnD, gtD, gtLD, gconsD, gnilD, itR1, itR2, itLst, itTup, itEnum, itEnumT, itZip, itZipT, itZipM, itR3, tS1, gSplit, gPart, gStarts, gRmPre, cIntT, gMulS, itStr, ↓foE, startD, toSl, frzS, tSlL, oNone, oSome, List.flatMap_cons, List.flatMap_nil, List.nil_append, List.append_nil, List.cons_append,
  List.map_cons, List.map_nil, List.length_cons, List.length_nil, List.replicate, Nat.reduceAdd, Nat.reduceSub, List.getElem?_cons_zero, List.getElem?_cons_succ, List.set_cons_zero, List.set_cons_succ, at0, at1, at2, at3, at4, at5, at6, at7, ↓gi0, ↓gi1, ↓gi2, ↓gi3, ↓gi4, ↓gi5, ↓gi6, ↓gi7, ↓li0, ↓li1, ↓li2, tBitLen, true_or, or_true, true_and, and_true, Bool.not_true, Bool.not_false, String.reduceBEq, Bool.or_true, Bool.true_or, Bool.or_false, Bool.false_or, Bool.and_true, Bool.true_and, Bool.and_false, Bool.false_and, Bool.false_eq_true, if_true, if_false, reduceCtorEq, ↓reduceIte])
def few (z : Str) : Nat := if z = "scale" then 2 else 1
/-! _law_bag -/
abbrev N__law_bag : List Str := ["_law_script", "_law_cell"]
theorem sc__law_bag : FnScope N__law_bag ["_law_script"] (defScope s__law_bag) := ⟨rfl, rfl, rfl, by decide +kernel, rfl, by decide +kernel, by decide +kernel⟩
section
variable {ts : List Addr} {P : Program} {w : World} {K : PySem.W.Frag} {mg : Str → Option Value} {base : Heap}
theorem ok__law_bag {f : Addr} {fd : FuncData} (Fn : L2.Fun K "_law_bag" "_law_bag" s__law_bag f fd) (z_abs : mg "abs" = none) : Fg P w K mg base (L2.CX P w) 1 f (spBag K) := by
  refine r_def Fn sc__law_bag (fun _ _ _ _ _ _ us hl => match us, hl with | [_], _ => rfl) (spBag K) fun cdv A outer s H vs Q E ag hr want => ?_
  obtain ⟨a, ns, rfl, seq, hl, q⟩ := want
  have S := sc__law_bag
  refine ⟨rfl, bgT K, pss_one (ps_ret (pe_lst (pa_cons pe_int (pa_cons pe_int (pa_cons pe_int (pa_cons (pe_lc (own := [("_law_cell", 1)]) rfl S.nd (pi_list (pe_slice sl_list (pv 0) po_none (po_some pe_int))) (blkOk_by (N := N__law_bag) (sc := defScope s__law_bag) (by decide +kernel)) (fun _ _ _ _ _ => pg_name (i := 1) S.nd rfl (Or.inl rfl)) (fun _ _ _ _ _ => pts_nil) (fun _ _ _ _ _ => pe_callB call_abs (by rfl) z_abs (by decide +kernel) (pa_cons (pv 1) pa_nil))) pa_nil)))))), ?_⟩
  exact bg_go seq hl q
end
/-! _law_take -/
abbrev N__law_take : List Str := ["_law_bag_here", "_law_many", "_law_cell", "_law_value", "_law_first", "_law_second"]
theorem sc__law_take : FnScope N__law_take ["_law_bag_here", "_law_many"] (defScope s__law_take) := ⟨rfl, rfl, rfl, by decide +kernel, rfl, by decide +kernel, by decide +kernel⟩
section
variable {ts : List Addr} {P : Program} {w : World} {K : PySem.W.Frag} {mg : Str → Option Value} {base : Heap}
theorem ok__law_take {f : Addr} {fd : FuncData} (Fn : L2.Fun K "_law_take" "_law_take" s__law_take f fd) (z_len : mg "len" = none) : Fg P w K mg base (L2.CX P w) 1 f (Pm K ts sp__law_take) := by
  refine r_def Fn sc__law_take (fun _ _ _ _ _ _ us hl => match us, hl with | [_, _], _ => rfl) (Pm K ts sp__law_take) fun cdv A outer s H vs Q E ag hr want => ?_
  obtain ⟨b, F, dvs, R, _, wd, ar, ⟨m, rfl, hm, hs, hR⟩, q⟩ := want
  match vs, ar with
  | [_, _], .cons a1 (.cons a2 .nil) =>
  cases a1
  cases a2
  have S := sc__law_take
  refine ⟨rfl, tkT K, pss_cons (ps_if (pt_cmpR op_eq (pe_ix ix_list (pv 0) pe_int (fun _ _ => rfl)) pe_int (nomark _))
      (pss_cons (ps_set (i := 2) S.nd rfl (.inl rfl) pe_int)
      (pss_cons (ps_if (pt_cmpR op_lt (pe_ix ix_list (pv 0) pe_int (fun _ _ => rfl)) (pe_callB call_len_seq (by rfl) z_len PySem.boot_len (pa_cons (pe_ix ix_list (pv 0) pe_int (fun _ _ => rfl)) pa_nil)) (nomark _))
        (pss_one (ps_set (i := 2) S.nd rfl (.inl rfl) (pe_ix ix_list (pe_ix ix_list (pv 0) pe_int (fun _ _ => rfl)) (pe_ix ix_list (pv 0) pe_int (fun _ _ => rfl)) (fun _ _ => rfl)))) pss_nil)
      (pss_cons (ps_augS (pv 0) pe_int get_lst pe_int ip_add set_list)
      (pss_cons (ps_if (pt_cmpR op_ge (pv 2) pe_int (nomark _)) (pss_one (ps_asg (pv 2) (pg_sub (pv 0) pe_int set_list))) pss_nil)
      (pss_one (ps_asg (pe_op op_mod (pe_op op_add (pe_op op_add (pe_op op_mul (pe_ix ix_list (pv 0) pe_int (fun _ _ => rfl)) pe_int) (pe_op op_mod (pv 2) pe_int)) (pe_op op_mul pe_int (pe_ix ix_list (pv 0) pe_int (fun _ _ => rfl)))) pe_int) (pg_sub (pv 0) pe_int set_list))))))) pss_nil)
    (pss_cons (ps_if (pt_cmpR op_gt (pe_ix ix_list (pv 0) pe_int (fun _ _ => rfl)) pe_int (nomark _))
      (pss_cons (ps_set (i := 3) S.nd rfl (.inl rfl) (pe_op op_mod (pe_ix ix_list (pv 0) pe_int (fun _ _ => rfl)) (pv 1)))
      (pss_cons (ps_asg (pe_op op_fdivX (pe_ix ix_list (pv 0) pe_int (fun _ _ => rfl)) (pv 1)) (pg_sub (pv 0) pe_int set_list))
      (pss_one (ps_ret (pv 3))))) pss_nil)
    (pss_cons (ps_set (i := 4) S.nd rfl (.inl rfl) (pe_op op_mod (pe_op op_mul (pe_op op_add (pe_ix ix_list (pv 0) pe_int (fun _ _ => rfl)) pe_int) pe_int) pe_int))
    (pss_cons (ps_set (i := 5) S.nd rfl (.inl rfl) (pe_op op_mod (pe_op op_mul (pe_op op_mod (pe_op op_mul (pv 4) (pv 4)) pe_int) pe_int) pe_int))
    (pss_cons (ps_if (pt_cmpR op_gt (pv 1) pe_int (nomark _)) (pss_one (ps_ret (pe_op op_mod (pe_op op_add (pe_op op_mul (pv 5) pe_int) (pv 4)) (pv 1)))) pss_nil)
    (pss_one (ps_ret (pe_op op_mod (pe_op op_fdiv (pv 5) pe_int) (pv 1)))))))), ?_⟩
  exact tk_go wd hm hs fun r r0 r1 H2 st => q (.d (.int r)) _ F H2 st (.int r) (hR r r0 r1)
end
/-! _law_great -/
abbrev N__law_great : List Str := ["_law_bag_here", "_law_way", "_law_sign", "_law_much", "_law_more"]
theorem sc__law_great : FnScope N__law_great ["_law_bag_here"] (defScope s__law_great) := ⟨rfl, rfl, rfl, by decide +kernel, rfl, by decide +kernel, by decide +kernel⟩
def rd__law_great : DS := (tSeqD (tSetD 1 (tUse sp__law_take (tConsD (tVarD 0) (tConsD (tCD (.int 4)) tNilD))))
    (tSeqD (tSetD 2 (tBin gMinus (tCD (.int 1)) (tBin gMul (tCD (.int 2)) (tUse sp__law_take (tConsD (tVarD 0) (tConsD (tCD (.int 2)) tNilD))))))
    (tSeqD (tSetD 3 (tUse sp__law_take (tConsD (tVarD 0) (tConsD (tBin gPow (tCD (.int 10)) (tCD (.int 9))) tNilD))))
    (tSeqD (tSetD 4 (tUse sp__law_take (tConsD (tVarD 0) (tConsD (tBin gPow (tCD (.int 10)) (tCD (.int 6))) tNilD))))
    (tRetD (tBin gMul (tVarD 2) (tBin gIx (tLstD (tConsD (tBin gMod (tVarD 3) (tCD (.int 10))) (tConsD (tVarD 3) (tConsD (tBin gAdd (tBin gMul (tVarD 3) (tBin gPow (tCD (.int 10)) (tCD (.int 51)))) (tVarD 4)) (tConsD (tBin gAdd (tBin gMul (tCallD cIntW (tConsD (tBin gMulS (tCD (.str "1")) (tCD (.int 3900))) tNilD)) (tVarD 4)) (tVarD 3)) tNilD))))) (tVarD 1))))))))
def sp__law_great : DSp := fun us P => us = [.bag] ∧ ∀ g : Int, g.natAbs ≤ LM → P (.d (.int g))
theorem vc__law_great : ∀ dvs Q, sp__law_great dvs Q → dvs.length = 1 ∧ rd__law_great { nx := fun _ => Q (.d .none), rt := Q } (startD N__law_great dvs) := by
  rintro dvs Q ⟨rfl, h⟩
  refine ⟨rfl, ?_⟩
  unfold rd__law_great
  refine seqG fun R hR => ?_
  walk_at "dl"
  refine ⟨4, rfl, by decide, by decide, fun way w0 w4 => ?_⟩
  walk_at "dl"
  refine hR _ (seqG fun R hR => ?_)
  walk_at "dl"
  refine ⟨2, rfl, by decide, by decide, fun sg s0 s2 => ?_⟩
  have sgn : 1 - 2 * sg = 1 ∨ 1 - 2 * sg = -1 := by omega
  generalize e1 : 1 - 2 * sg = s at sgn
  have ls : (2 : Int).natAbs.log2 + sg.natAbs.log2 < 1000000 := by
    have : sg = 0 ∨ sg = 1 := by omega
    rcases this with rfl | rfl <;> decide
  refine ⟨ls, ?_⟩
  rw [e1]
  refine hR _ (seqG fun R hR => ?_)
  walk_at "dl"
  refine ⟨by decide, 10 ^ 9, rfl, by decide, by decide, fun much m0 m9 => ?_⟩
  walk_at "dl"
  refine hR _ (seqG fun R hR => ?_)
  walk_at "dl"
  refine ⟨by decide, 10 ^ 6, rfl, by decide, by decide, fun more r0 r6 => ?_⟩
  walk_at "dl"
  refine hR _ ?_
  walk_at "dl"
  obtain ⟨o1, o2⟩ := ones_ok
  have lmu : much.natAbs.log2 < 30 := log_lt (by decide) (show much.natAbs < 2 ^ 30 by omega)
  have lmo : more.natAbs.log2 < 20 := log_lt (by decide) (show more.natAbs < 2 ^ 20 by omega)
  have l51 : ((10 : Int) ^ Int.toNat 51).natAbs.log2 < 200 := by decide +kernel
  have e51 : (10 : Int) ^ Int.toNat 51 = 1000000000000000000000000000000000000000000000000000 := by decide +kernel
  have big := LM_big
  refine ⟨by decide, by decide, by omega, by decide, by decide, by decide +kernel, o1, by omega, by omega, fun n hn => ?_⟩
  rw [o2] at hn
  have ln : ((n : Int)).natAbs.log2 < 13440 := by
    rw [Int.natAbs_natCast]
    refine lm_l (Nat.le_trans (Nat.le_of_lt hn) (Nat.le_trans ?_ (Nat.le_succ _)))
    unfold LM
    decide +kernel
  refine ⟨by omega, by decide, ?_⟩
  have fin : ∀ v : Int, v.natAbs ≤ LM → s.natAbs.log2 + v.natAbs.log2 < 1000000 ∧ Q (.d (.int (s * v))) := fun v hv => by
    have lv := lm_l (Nat.le_trans hv (Nat.le_succ _))
    have ls : s.natAbs.log2 = 0 := by rcases sgn with e | e <;> rw [e] <;> decide
    refine ⟨by omega, h _ ?_⟩
    rcases sgn with e | e <;> rw [e]
    · rw [Int.one_mul]; exact hv
    · rw [Int.neg_one_mul, Int.natAbs_neg]; exact hv
  refine pick w0 w4 fun e he => ?_
  simp only [List.mem_cons, List.not_mem_nil, or_false] at he
  rcases he with rfl | rfl | rfl | rfl
  · refine fin _ ?_
    have := Int.fmod_eq_emod_of_nonneg much (show (0 : Int) ≤ 10 by decide)
    omega
  · exact fin _ (by omega)
  · refine fin _ ?_
    rw [e51]
    omega
  · refine fin _ ?_
    obtain ⟨mo, rfl⟩ := Int.eq_ofNat_of_zero_le r0
    obtain ⟨mu, rfl⟩ := Int.eq_ofNat_of_zero_le m0
    have := lm_great (n := n) (more := mo) (much := mu) hn (by omega) (by omega)
    rw [← Int.natCast_mul, ← Int.natCast_add, Int.natAbs_natCast]
    exact this
section
variable {ts : List Addr} {P : Program} {w : World} {K : PySem.W.Frag} {mg : Str → Option Value} {base : Heap}
theorem ok__law_great {f : Addr} {fd : FuncData} (Fn : L2.Fun K "_law_great" "_law_great" s__law_great f fd) (nd_dg : NoDg K) {f__law_take : Addr} (g__law_take : Fg P w K mg base (L2.CX P w) 1 f__law_take (Pm K ts sp__law_take)) (m__law_take : mg "_law_take" = some (.ref f__law_take)) (p__law_take : PySem.W.keepIn K (.ref f__law_take) = true) (z_int : mg "int" = none) : Fg P w K mg base (L2.CX P w) 2 f (Pm K ts sp__law_great) := d_def Fn sc__law_great (fun _ _ _ _ _ _ us hl => match us, hl with | [_], _ => rfl) sp__law_great rd__law_great (fun cdv A outer s H E wn hcd ht ag hr => by
  have S := sc__law_great
  have hu := hr.units
  exact (dss_cons (ds_set (i := 1) S.nd rfl (by first | exact Or.inl rfl | exact Or.inr rfl) (d_use g__law_take ht ag (hr.mono (by decide)) passZ (by rfl) m__law_take p__law_take (da_cons (d_var 0) (da_cons d_int da_nil))))
    (dss_cons (ds_set (i := 2) S.nd rfl (by first | exact Or.inl rfl | exact Or.inr rfl) (d_bin o_sub d_int (d_bin o_mul d_int (d_use g__law_take ht ag (hr.mono (by decide)) passZ (by rfl) m__law_take p__law_take (da_cons (d_var 0) (da_cons d_int da_nil))))))
    (dss_cons (ds_set (i := 3) S.nd rfl (by first | exact Or.inl rfl | exact Or.inr rfl) (d_use g__law_take ht ag (hr.mono (by decide)) passZ (by rfl) m__law_take p__law_take (da_cons (d_var 0) (da_cons (d_bin o_pow d_int d_int) da_nil))))
    (dss_cons (ds_set (i := 4) S.nd rfl (by first | exact Or.inl rfl | exact Or.inr rfl) (d_use g__law_take ht ag (hr.mono (by decide)) passZ (by rfl) m__law_take p__law_take (da_cons (d_var 0) (da_cons (d_bin o_pow d_int d_int) da_nil))))
    (dss_one (ds_ret (d_bin o_mul (d_var 2) (d_ix (d_lst (da_cons (d_bin o_mod (d_var 3) d_int) (da_cons (d_var 3) (da_cons (d_bin o_add (d_bin o_mul (d_var 3) (d_bin o_pow d_int d_int)) (d_var 4)) (da_cons (d_bin o_add (d_bin o_mul (d_callTy (k_intW nd_dg) (by rfl) z_int (by decide +kernel) (da_cons (d_bin o_mulS d_str d_int) da_nil)) (d_var 4)) (d_var 3)) da_nil))))) (d_var 1)))))))))) vc__law_great
end
/-! _law_low -/
abbrev N__law_low : List Str := ["_law_top", "_law_bottom", "_law_one", "_law_other"]
theorem sc__law_low : FnScope N__law_low ["_law_top", "_law_bottom"] (defScope s__law_low) := ⟨rfl, rfl, rfl, by decide +kernel, rfl, by decide +kernel, by decide +kernel⟩
def rd__law_low : DS := (tSeqD (tParD 2 3 (tConsD (tCallD cAbs (tConsD (tVarD 0) tNilD)) (tConsD (tVarD 1) tNilD)))
    (tSeqD (tWhD (tTst (tBin (gIn (fun i j => decide (j < i)) fun i j => decide (j.cps.toList < i.cps.toList)) (tVarD 3) (tCD (.int 0)))) (tParD 2 3 (tConsD (tVarD 3) (tConsD (tBin gMod (tVarD 2) (tVarD 3)) tNilD))))
    (tRetD (tTupD (tConsD (tBin gFdvB (tVarD 0) (tVarD 2)) (tConsD (tBin gFdvB (tVarD 1) (tVarD 2)) tNilD))))))
def sp__law_low : DSp := fun us P => ∃ t b : Int, us = [.d (.int t), .d (.int b)] ∧ 0 < b ∧ t.natAbs ≤ LM + 1 ∧ b.natAbs ≤ LM + 1 ∧ ∀ s r, Frac s r → t * r = b * s → P (.d (.tuple [.int s, .int r]))
theorem vc__law_low : ∀ dvs Q, sp__law_low dvs Q → dvs.length = 2 ∧ rd__law_low { nx := fun _ => Q (.d .none), rt := Q } (startD N__law_low dvs) := by
  rintro dvs Q ⟨t, b, rfl, b0, tm, bm, h⟩
  refine ⟨rfl, ?_⟩
  have hb : b ≠ 0 := Int.ne_of_gt b0
  have hbn : ¬ b < 0 := Int.not_lt.mpr (Int.le_of_lt b0)
  have gp := gcd_pos (t := t) hb
  have gn : ((Int.gcd t b : Nat) : Int) ≠ 0 := Int.ne_of_gt (Int.natCast_pos.mpr gp)
  have gt := lm_c tm
  have gb := lm_c bm
  obtain ⟨k1, k2⟩ := lo_ok (t := t) hb
  have h := h _ _ k1 k2
  rw [loT, loB, if_neg hbn, if_neg hbn] at h
  clear k1 k2 tm bm
  unfold rd__law_low
  walk_at "dl"
  refine whD_ind (fun env => ∃ x y : Int, env = [.d (.int t), .d (.int b), .d (.int x), .d (.int y)] ∧ 0 ≤ x ∧ 0 ≤ y ∧ Int.gcd x y = Int.gcd t b) (fun env => match env with | [_, _, _, .d (.int y)] => y.toNat | _ => 0) (fun env R hI hR => ?_) ⟨_, _, rfl, by omega, by omega, by simp [Int.gcd]⟩
  obtain ⟨x, y, rfl, hx, hy, hg⟩ := hI
  walk_at "dl"
  by_cases hp : 0 < y
  · simp only [hp, decide_true, if_true]
    obtain ⟨g1, g2, g3⟩ := gcd_turn x y hx hp
    exact ⟨by omega, hR _ ⟨_, _, rfl, hy, g2, g1.trans hg⟩ (by show (x.fmod y).toNat < y.toNat; omega)⟩
  · have : y = 0 := by omega
    subst this
    simp only [Int.lt_irrefl, decide_false, Bool.false_eq_true, if_false]
    have e : x = (Int.gcd t b : Int) := by
      rw [← hg, Int.gcd_zero]; omega
    subst e
    refine ⟨gn, gt, gn, gb, by decide, ?_⟩
    rw [Int.fdiv_eq_ediv_of_dvd (Int.gcd_dvd_left _ _), Int.fdiv_eq_ediv_of_dvd (Int.gcd_dvd_right _ _)]
    exact h
section
variable {ts : List Addr} {P : Program} {w : World} {K : PySem.W.Frag} {mg : Str → Option Value} {base : Heap}
theorem ok__law_low {f : Addr} {fd : FuncData} (Fn : L2.Fun K "_law_low" "_law_low" s__law_low f fd) (z_abs : mg "abs" = none) : Fg P w K mg base (L2.CX P w) 1 f (Pm K ts sp__law_low) := d_def Fn sc__law_low (fun _ _ _ _ _ _ us hl => match us, hl with | [_, _], _ => rfl) sp__law_low rd__law_low (fun cdv A outer s H E wn hcd ht ag hr => by
  have S := sc__law_low
  have hu := hr.units
  exact (dss_cons (ds_par (i := 2) (j := 3) rfl S.nd rfl rfl (by decide) rfl rfl (da_cons (d_callB k_abs (by rfl) z_abs (by decide +kernel) (da_cons (d_var 0) da_nil)) (da_cons (d_var 1) da_nil)) (ps_par (i := 2) (j := 3) rfl S.nd rfl rfl (by decide) rfl rfl (da_cons (d_callB k_abs (by rfl) z_abs (by decide +kernel) (da_cons (d_var 0) da_nil)) (da_cons (d_var 1) da_nil)) (by rfl)))
    (dss_cons (ds_while PassesOwn.never (dt_cmp o_gt (d_var 3) d_int) (dss_one (ds_par (i := 2) (j := 3) rfl S.nd rfl rfl (by decide) rfl rfl (da_cons (d_var 3) (da_cons (d_bin o_mod (d_var 2) (d_var 3)) da_nil)) (ps_par (i := 2) (j := 3) rfl S.nd rfl rfl (by decide) rfl rfl (da_cons (d_var 3) (da_cons (d_bin o_mod (d_var 2) (d_var 3)) da_nil)) (by rfl)))))
    (dss_one (ds_ret (d_tup (da_cons (d_bin o_fdvB (d_var 0) (d_var 2)) (da_cons (d_bin o_fdvB (d_var 1) (d_var 2)) da_nil)))))))) vc__law_low
end
/-! _law_copy -/
abbrev N__law_copy : List Str := ["_law_thing", "_law_one"]
theorem sc__law_copy : FnScope N__law_copy ["_law_thing"] (defScope s__law_copy) := ⟨rfl, rfl, rfl, by decide +kernel, rfl, by decide +kernel, by decide +kernel⟩
def cpR : PyData → DV
  | .list xs => .fr xs
  | x => .d x
theorem frz_cp (x : PyData) : frz (cpR x) = .d x := by cases x <;> rfl
def sp__law_copy : Nat → DSp
  | 0 => fun _ _ => False
  | m + 1 => fun us P => ∃ x, us = [.d x] ∧ x.depth ≤ m ∧ okC x = true ∧ P (cpR x)
def rd__law_copy (m : Nat) : DS := (tSeqD (tIfD (tTru (tCallD (cIsi "list") (tConsD (tVarD 0) (tConsD (tRaw (.ty "list")) tNilD)))) (tRetD (tLcD (itLst (tVarD 0)) (gnD 1) (fun _ P => P true) (tUse (sp__law_copy m) (tConsD (tVarD 1) tNilD)) [1])) (fun d env => d.nx env))
    (tSeqD (tIfD (tTru (tCallD (cIsi "tuple") (tConsD (tVarD 0) (tConsD (tRaw (.ty "tuple")) tNilD)))) (tRetD (tCallD cTuple (tConsD (tLcD (itTup (tVarD 0)) (gnD 1) (fun _ P => P true) (tUse (sp__law_copy m) (tConsD (tVarD 1) tNilD)) [1]) tNilD))) (fun d env => d.nx env))
    (tRetVD 0)))
theorem okC_mem : ∀ {xs : List PyData} {x : PyData}, okCs xs = true → x ∈ xs → okC x = true
  | [], _, _, h => absurd h List.not_mem_nil
  | y :: ys, x, h, hx => by
    simp only [okCs, Bool.and_eq_true] at h
    rcases List.mem_cons.mp hx with rfl | hx
    · exact h.1
    · exact okC_mem h.2 hx
theorem depth_mem : ∀ {xs : List PyData} {x : PyData}, x ∈ xs → x.depth ≤ PyData.depthAll xs
  | [], _, h => absurd h List.not_mem_nil
  | y :: ys, x, hx => by
    simp only [PyData.depthAll]
    rcases List.mem_cons.mp hx with rfl | hx
    · omega
    · have := depth_mem hx
      omega
theorem copy_all (m : Nat) {xs : List PyData} {env : List Sl} {P : DV → Prop} (hd : PyData.depthAll xs + 1 ≤ m) (hl : xs.length ≤ 5000) (hc : okCs xs = true) (he : ∃ s0 s1, env = [s0, s1]) (h : P (.fr xs)) :
    lcD (gnD 1) (fun _ P => P true) (tUse (sp__law_copy m) (tConsD (tVarD 1) tNilD)) env xs [] P := by
  obtain ⟨s0, s1, rfl⟩ := he
  refine lcD_ind (fun zs acc => acc ++ zs = xs) (fun acc hI => ?_) (fun z zs acc R hI hR => ?_) _ _ rfl
  · rw [List.append_nil] at hI
    rw [hI]
    exact h
  · have hz : z ∈ xs := by rw [← hI]; exact List.mem_append.mpr (.inr (List.mem_cons_self ..))
    have h1 := depth_mem hz
    have h2 := okC_mem hc hz
    have h3 : acc.length < 5000 := by
      have := congrArg List.length hI
      rw [List.length_append, List.length_cons] at this
      omega
    obtain ⟨k, rfl⟩ : ∃ k, m = k + 1 := ⟨m - 1, by omega⟩
    walk_at "dl"
    refine ⟨z, rfl, by omega, h2, ?_⟩
    have e := frz_cp z
    unfold frz at e
    have hR := hR (acc ++ [z]) (by rw [← hI, List.append_assoc]; rfl)
    cases z <;> (simp only [cpR] at e ⊢; exact ⟨by omega, hR⟩)
theorem vc__law_copy (m : Nat) : ∀ dvs Q, sp__law_copy (m + 1) dvs Q → dvs.length = 1 ∧ rd__law_copy m { nx := fun _ => Q (.d .none), rt := Q } (startD N__law_copy dvs) := by
  rintro dvs Q ⟨x, rfl, hd, hc, h⟩
  refine ⟨rfl, ?_⟩
  unfold rd__law_copy
  cases x with
  | list xs =>
    simp only [okC, Bool.and_eq_true, decide_eq_true_eq] at hc
    simp only [PyData.depth] at hd
    walk_at "dl"
    unfold tLcD
    walk_at "dl"
    exact copy_all m hd hc.1 hc.2 ⟨_, _, rfl⟩ h
  | tuple xs =>
    simp only [okC, Bool.and_eq_true, decide_eq_true_eq] at hc
    simp only [PyData.depth] at hd
    walk_at "dl"
    unfold tLcD
    walk_at "dl"
    refine copy_all m hd hc.1 hc.2 ⟨_, _, rfl⟩ ?_
    walk_at "dl"
    exact h
  | _ => walk_at "dl"; exact h
section
variable {ts : List Addr} {P : Program} {w : World} {K : PySem.W.Frag} {mg : Str → Option Value} {base : Heap}
theorem ok__law_copy {f : Addr} {fd : FuncData} (Fn : L2.Fun K "_law_copy" "_law_copy" s__law_copy f fd) (m__law_copy : mg "_law_copy" = some (.ref f)) (p__law_copy : PySem.W.keepIn K (.ref f) = true) (z_isinstance : mg "isinstance" = none) (z_list : mg "list" = none) (z_tuple : mg "tuple" = none) : ∀ m : Nat, Fg P w K mg base (L2.CX P w) (1 + m) f (Pm K ts (sp__law_copy m)) := by
  intro m
  induction m with
  | zero => exact fun A outer s H us vs Q E _ _ _ _ ⟨_, _, _, _, _, _, _, h, _⟩ => h.elim
  | succ m g__law_copy => exact show Fg P w K mg base (L2.CX P w) (1 + m + 1) f _ from d_def Fn sc__law_copy (fun _ _ _ _ _ _ us hl => match us, hl with | [_], _ => rfl) (sp__law_copy (m + 1)) (rd__law_copy m) (fun cdv A outer s H E wn hcd ht ag hr => by
  have S := sc__law_copy
  have hu := hr.units
  exact (dss_cons (ds_if (dt_e (d_callB (k_isi (n := "list") (by simp)) (by rfl) z_isinstance (by decide +kernel) (da_cons (d_var 0) (da_cons (d_ty (by rfl) z_list (by decide +kernel)) da_nil)))) (dss_one (ds_ret (d_lc (own := [("_law_one", 1)]) rfl S.nd (di_list (d_var 0)) (blkOk_by (N := N__law_copy) (sc := defScope s__law_copy) (by decide +kernel)) (tgt1 1) (fun _ _ _ _ _ => pg_name (i := 1) S.nd rfl (Or.inl rfl)) (fun _ _ _ _ _ => pts_nilD) (fun _ _ _ _ _ => (d_use g__law_copy ht ag (hr.mono (by omega)) passZ (by rfl) m__law_copy p__law_copy (da_cons (d_var 1) da_nil)))))) dss_nil)
    (dss_cons (ds_if (dt_e (d_callB (k_isi (n := "tuple") (by simp)) (by rfl) z_isinstance (by decide +kernel) (da_cons (d_var 0) (da_cons (d_ty (by rfl) z_tuple (by decide +kernel)) da_nil)))) (dss_one (ds_ret (d_callTy k_tuple (by rfl) z_tuple (by decide +kernel) (da_cons (d_lc (own := [("_law_one", 1)]) rfl S.nd (di_tup (d_var 0)) (blkOk_by (N := N__law_copy) (sc := defScope s__law_copy) (by decide +kernel)) (tgt1 1) (fun _ _ _ _ _ => pg_name (i := 1) S.nd rfl (Or.inl rfl)) (fun _ _ _ _ _ => pts_nilD) (fun _ _ _ _ _ => (d_use g__law_copy ht ag (hr.mono (by omega)) passZ (by rfl) m__law_copy p__law_copy (da_cons (d_var 1) da_nil)))) da_nil)))) dss_nil)
    (dss_one (ds_retV 0))))) (vc__law_copy m)
end
/-! _law_odd -/
abbrev N__law_odd : List Str := ["_law_bag_here", "_law_some"]
theorem sc__law_odd : FnScope N__law_odd ["_law_bag_here"] (defScope s__law_odd) := ⟨rfl, rfl, rfl, by decide +kernel, rfl, by decide +kernel, by decide +kernel⟩
def rd__law_odd : DS := (tSeqD (tSetD 1 (tLstD (tConsD (tCD .none) (tConsD (tCD (.bool true)) (tConsD (tCD (.bool false)) (tConsD (tUnD gNeg (tCD (.int 1))) (tConsD (tCD (.int 0)) (tConsD (tCD (.int 1)) (tConsD (tCD (.str "")) (tConsD (tCD (.str "a")) (tConsD (tCD (.str "A")) (tConsD (tCD (.str "a b")) (tConsD (tCD (.str "abcdefghi")) (tConsD (tTupD tNilD) (tConsD (tLstD tNilD) (tConsD (tTupD (tConsD (tCD (.int 1)) tNilD)) (tConsD (tLstD (tConsD (tCD (.int 0)) tNilD)) (tConsD (tTupD (tConsD (tCD (.int 1)) (tConsD (tCD (.int 2)) tNilD))) (tConsD (tTupD (tConsD (tCD (.int 2)) (tConsD (tCD (.int 4)) tNilD))) tNilD)))))))))))))))))))
    (tSeqD (tSetD 1 (tBin gAdd (tVarD 1) (tLstD (tConsD (tTupD (tConsD (tCD (.int 1)) (tConsD (tCD (.int 0)) tNilD))) (tConsD (tTupD (tConsD (tCD (.int 0)) (tConsD (tCD (.int 2)) tNilD))) (tConsD (tTupD (tConsD (tCD (.int 0)) (tConsD (tCD (.int 1)) tNilD))) (tConsD (tTupD (tConsD (tUnD gNeg (tCD (.int 1))) (tConsD (tCD (.int 1)) tNilD))) (tConsD (tTupD (tConsD (tCD (.int 1)) (tConsD (tCD (.int 1001)) tNilD))) (tConsD (tTupD (tConsD (tBin gAdd (tBin gPow (tCD (.int 10)) (tCD (.int 12))) (tCD (.int 1))) (tConsD (tCD (.int 1)) tNilD))) (tConsD (tTupD (tConsD (tCD (.bool true)) (tConsD (tCD (.int 2)) tNilD))) (tConsD (tTupD (tConsD (tCD (.int 1)) (tConsD (tCD (.bool true)) tNilD))) (tConsD (tLstD (tConsD (tCD (.int 1)) (tConsD (tCD (.int 2)) tNilD))) tNilD))))))))))))
    (tSeqD (tSetD 1 (tBin gAdd (tVarD 1) (tLstD (tConsD (tCD (.int 1001)) (tConsD (tBin gAdd (tBin gPow (tCD (.int 10)) (tCD (.int 6))) (tCD (.int 1))) (tConsD (tBin gAdd (tBin gPow (tCD (.int 10)) (tCD (.int 9))) (tCD (.int 1))) (tConsD (tBin gAdd (tBin gPow (tCD (.int 10)) (tCD (.int 12))) (tCD (.int 1))) (tConsD (tCD (.str "scale")) (tConsD (tCD (.str "box")) (tConsD (tCD (.str "thing")) (tConsD (tCD (.str "made")) (tConsD (tLstD (tConsD (tLstD (tConsD (tCD (.int 1)) tNilD)) tNilD)) (tConsD tEmp tNilD)))))))))))))
    (tSeqD (tSetD 1 (tBin gAdd (tVarD 1) (tLstD (tConsD (tLstD (tConsD (tCD .none) tNilD)) (tConsD (tLstD (tConsD (tCD (.int 1)) (tConsD (tCD (.int 1)) tNilD))) (tConsD (tLstD (tConsD (tCD (.int 2)) (tConsD (tCD (.int 1)) tNilD))) (tConsD (tLstD (tConsD (tCD (.int 0)) (tConsD (tCD (.int 0)) (tConsD (tCD (.int 0)) (tConsD (tCD (.int 0)) (tConsD (tCD (.int 0)) (tConsD (tCD (.int 0)) (tConsD (tCD (.int 0)) tNilD)))))))) (tConsD (tLstD (tConsD (tCD (.bool true)) tNilD)) (tConsD (tCD (.str "1")) (tConsD (tCD (.int 6)) (tConsD (tCD (.int 5)) (tConsD (tCD (.int 1000)) (tConsD (tLstD (tConsD (tCD (.int 1000)) tNilD)) (tConsD (tTupD (tConsD (tCD (.int 1)) (tConsD (tCD (.int 1)) tNilD))) tNilD))))))))))))))
    (tSeqD (tSetD 1 (tBin gAdd (tVarD 1) (tLstD (tConsD (tTupD (tConsD (tCD (.int 1)) (tConsD (tCD (.str "a")) (tConsD (tCD (.int 1)) tNilD)))) (tConsD (tBin gPow (tCD (.int 10)) (tCD (.int 20))) (tConsD (tLstD (tConsD (tCD (.int 0)) (tConsD (tCD (.int 1)) (tConsD (tCD (.int 2)) (tConsD (tCD (.int 3)) (tConsD (tCD (.int 4)) (tConsD (tCD (.int 5)) (tConsD (tCD (.int 6)) (tConsD (tCD (.int 7)) (tConsD (tCD (.int 8)) tNilD)))))))))) (tConsD (tLstD (tConsD (tCD (.int 0)) (tConsD (tCD (.int 1)) (tConsD (tCD (.int 2)) (tConsD (tCD (.int 3)) (tConsD (tCD (.int 4)) (tConsD (tCD (.int 5)) (tConsD (tCD (.int 6)) (tConsD (tCD (.int 7)) tNilD))))))))) tNilD)))))))
    (tSeqD (tSetD 1 (tBin gAdd (tVarD 1) (tLstD (tConsD (tTupD (tConsD (tCD (.int 1)) (tConsD (tUnD gNeg (tCD (.int 2))) tNilD))) (tConsD (tTupD (tConsD (tUnD gNeg (tCD (.int 1))) (tConsD (tUnD gNeg (tCD (.int 2))) tNilD))) (tConsD (tTupD (tConsD (tCD (.int 0)) (tConsD (tUnD gNeg (tCD (.int 1))) tNilD))) (tConsD (tTupD (tConsD (tCD (.str "1")) (tConsD (tCD (.int 2)) tNilD))) (tConsD (tTupD (tConsD (tCD (.int 1)) (tConsD (tCD (.str "2")) tNilD))) (tConsD (tTupD (tConsD (tCD .none) (tConsD (tCD (.int 2)) tNilD))) (tConsD (tTupD (tConsD (tCD (.int 1)) (tConsD (tCD .none) tNilD))) (tConsD (tTupD (tConsD (tLstD (tConsD (tCD (.int 1)) tNilD)) (tConsD (tCD (.int 2)) tNilD))) (tConsD (tTupD (tConsD (tTupD (tConsD (tCD (.int 1)) tNilD)) (tConsD (tCD (.int 2)) tNilD))) tNilD))))))))))))
    (tRetD (tUse (sp__law_copy 8) (tConsD (tBin gIx (tVarD 1) (tUse sp__law_take (tConsD (tVarD 0) (tConsD (tCallD cLen (tConsD (tVarD 1) tNilD)) tNilD)))) tNilD)))))))))
/-- what is asked of an odd thing -/
def oddB (y : PyData) : Bool := okC y && (decide (y.depth ≤ 7) && match y with
  | .tuple [.int p, .int q] => decide (p.natAbs ≤ 10 ^ 60) && decide (q.natAbs ≤ 10 ^ 60)
  | _ => true)
theorem pickB (f : PyData → Bool) {xs : List PyData} {r : Int} {P : DV → Prop} (hf : xs.all f = true) (h0 : 0 ≤ r) (h1 : r < xs.length) (h : ∀ z, f z = true → P (.d z)) : gIx (.list xs) (.int r) P := pick h0 h1 fun z hz => h z (List.all_eq_true.mp hf z hz)
def sp__law_odd : DSp := fun us P => us = [.bag] ∧ ∀ y, oddB y = true → P (cpR y)
theorem vc__law_odd : ∀ dvs Q, sp__law_odd dvs Q → dvs.length = 1 ∧ rd__law_odd { nx := fun _ => Q (.d .none), rt := Q } (startD N__law_odd dvs) := by
  rintro dvs Q ⟨rfl, h⟩
  refine ⟨rfl, ?_⟩
  unfold rd__law_odd
  refine seqG fun R hR => ?_
  walk_at "dl"
  (repeat (refine ⟨by decide, ?_⟩))
  refine fun l1 => hR _ (seqG fun R hR => ?_)
  walk_at "dl"
  (repeat (refine ⟨by decide, ?_⟩))
  refine fun l2 => hR _ (seqG fun R hR => ?_)
  walk_at "dl"
  (repeat (refine ⟨by decide, ?_⟩))
  refine fun l3 => hR _ (seqG fun R hR => ?_)
  walk_at "dl"
  (repeat (refine ⟨by decide, ?_⟩))
  refine fun l4 => hR _ (seqG fun R hR => ?_)
  walk_at "dl"
  (repeat (refine ⟨by decide, ?_⟩))
  refine fun l5 => hR _ (seqG fun R hR => ?_)
  walk_at "dl"
  (repeat (refine ⟨by decide, ?_⟩))
  refine fun l6 => hR _ ?_
  walk_at "dl"
  refine ⟨60, rfl, by decide, by decide, fun r r0 r1 => ?_⟩
  walk_at "dl"
  refine pickB oddB (by decide +kernel) r0 r1 fun y hy => ?_
  have hy0 := hy
  simp only [oddB, Bool.and_eq_true, decide_eq_true_eq] at hy
  obtain ⟨y1, y2, _⟩ := hy
  walk_at "dl"
  refine ⟨y, rfl, y2, y1, ?_⟩
  have q := h y hy0
  cases y <;> exact q
section
variable {ts : List Addr} {P : Program} {w : World} {K : PySem.W.Frag} {mg : Str → Option Value} {base : Heap}
theorem ok__law_odd {f : Addr} {fd : FuncData} (Fn : L2.Fun K "_law_odd" "_law_odd" s__law_odd f fd) {f__law_copy : Addr} (g__law_copy : Fg P w K mg base (L2.CX P w) 9 f__law_copy (Pm K ts (sp__law_copy 8))) (m__law_copy : mg "_law_copy" = some (.ref f__law_copy)) (p__law_copy : PySem.W.keepIn K (.ref f__law_copy) = true) {f__law_take : Addr} (g__law_take : Fg P w K mg base (L2.CX P w) 1 f__law_take (Pm K ts sp__law_take)) (m__law_take : mg "_law_take" = some (.ref f__law_take)) (p__law_take : PySem.W.keepIn K (.ref f__law_take) = true) (z_len : mg "len" = none) : Fg P w K mg base (L2.CX P w) 10 f (Pm K ts sp__law_odd) := d_def Fn sc__law_odd (fun _ _ _ _ _ _ us hl => match us, hl with | [_], _ => rfl) sp__law_odd rd__law_odd (fun cdv A outer s H E wn hcd ht ag hr => by
  have S := sc__law_odd
  have hu := hr.units
  exact (dss_cons (ds_set (i := 1) S.nd rfl (by first | exact Or.inl rfl | exact Or.inr rfl) (d_lst (da_cons d_non (da_cons d_bl (da_cons d_bl (da_cons (d_neg d_int) (da_cons d_int (da_cons d_int (da_cons d_str (da_cons d_str (da_cons d_str (da_cons d_str (da_cons d_str (da_cons (d_tup da_nil) (da_cons (d_lst da_nil) (da_cons (d_tup (da_cons d_int da_nil)) (da_cons (d_lst (da_cons d_int da_nil)) (da_cons (d_tup (da_cons d_int (da_cons d_int da_nil))) (da_cons (d_tup (da_cons d_int (da_cons d_int da_nil))) da_nil)))))))))))))))))))
    (dss_cons (ds_set (i := 1) S.nd rfl (by first | exact Or.inl rfl | exact Or.inr rfl) (d_bin o_add (d_var 1) (d_lst (da_cons (d_tup (da_cons d_int (da_cons d_int da_nil))) (da_cons (d_tup (da_cons d_int (da_cons d_int da_nil))) (da_cons (d_tup (da_cons d_int (da_cons d_int da_nil))) (da_cons (d_tup (da_cons (d_neg d_int) (da_cons d_int da_nil))) (da_cons (d_tup (da_cons d_int (da_cons d_int da_nil))) (da_cons (d_tup (da_cons (d_bin o_add (d_bin o_pow d_int d_int) d_int) (da_cons d_int da_nil))) (da_cons (d_tup (da_cons d_bl (da_cons d_int da_nil))) (da_cons (d_tup (da_cons d_int (da_cons d_bl da_nil))) (da_cons (d_lst (da_cons d_int (da_cons d_int da_nil))) da_nil))))))))))))
    (dss_cons (ds_set (i := 1) S.nd rfl (by first | exact Or.inl rfl | exact Or.inr rfl) (d_bin o_add (d_var 1) (d_lst (da_cons d_int (da_cons (d_bin o_add (d_bin o_pow d_int d_int) d_int) (da_cons (d_bin o_add (d_bin o_pow d_int d_int) d_int) (da_cons (d_bin o_add (d_bin o_pow d_int d_int) d_int) (da_cons d_str (da_cons d_str (da_cons d_str (da_cons d_str (da_cons (d_lst (da_cons (d_lst (da_cons d_int da_nil)) da_nil)) (da_cons d_emp da_nil)))))))))))))
    (dss_cons (ds_set (i := 1) S.nd rfl (by first | exact Or.inl rfl | exact Or.inr rfl) (d_bin o_add (d_var 1) (d_lst (da_cons (d_lst (da_cons d_non da_nil)) (da_cons (d_lst (da_cons d_int (da_cons d_int da_nil))) (da_cons (d_lst (da_cons d_int (da_cons d_int da_nil))) (da_cons (d_lst (da_cons d_int (da_cons d_int (da_cons d_int (da_cons d_int (da_cons d_int (da_cons d_int (da_cons d_int da_nil)))))))) (da_cons (d_lst (da_cons d_bl da_nil)) (da_cons d_str (da_cons d_int (da_cons d_int (da_cons d_int (da_cons (d_lst (da_cons d_int da_nil)) (da_cons (d_tup (da_cons d_int (da_cons d_int da_nil))) da_nil))))))))))))))
    (dss_cons (ds_set (i := 1) S.nd rfl (by first | exact Or.inl rfl | exact Or.inr rfl) (d_bin o_add (d_var 1) (d_lst (da_cons (d_tup (da_cons d_int (da_cons d_str (da_cons d_int da_nil)))) (da_cons (d_bin o_pow d_int d_int) (da_cons (d_lst (da_cons d_int (da_cons d_int (da_cons d_int (da_cons d_int (da_cons d_int (da_cons d_int (da_cons d_int (da_cons d_int (da_cons d_int da_nil)))))))))) (da_cons (d_lst (da_cons d_int (da_cons d_int (da_cons d_int (da_cons d_int (da_cons d_int (da_cons d_int (da_cons d_int (da_cons d_int da_nil))))))))) da_nil)))))))
    (dss_cons (ds_set (i := 1) S.nd rfl (by first | exact Or.inl rfl | exact Or.inr rfl) (d_bin o_add (d_var 1) (d_lst (da_cons (d_tup (da_cons d_int (da_cons (d_neg d_int) da_nil))) (da_cons (d_tup (da_cons (d_neg d_int) (da_cons (d_neg d_int) da_nil))) (da_cons (d_tup (da_cons d_int (da_cons (d_neg d_int) da_nil))) (da_cons (d_tup (da_cons d_str (da_cons d_int da_nil))) (da_cons (d_tup (da_cons d_int (da_cons d_str da_nil))) (da_cons (d_tup (da_cons d_non (da_cons d_int da_nil))) (da_cons (d_tup (da_cons d_int (da_cons d_non da_nil))) (da_cons (d_tup (da_cons (d_lst (da_cons d_int da_nil)) (da_cons d_int da_nil))) (da_cons (d_tup (da_cons (d_tup (da_cons d_int da_nil)) (da_cons d_int da_nil))) da_nil))))))))))))
    (dss_one (ds_ret (d_use g__law_copy ht ag (hr.mono (by decide)) passZ (by rfl) m__law_copy p__law_copy (da_cons (d_ix (d_var 1) (d_use g__law_take ht ag (hr.mono (by decide)) passZ (by rfl) m__law_take p__law_take (da_cons (d_var 0) (da_cons (d_callB k_len (by rfl) z_len (by decide +kernel) (da_cons (d_var 1) da_nil)) da_nil)))) da_nil))))))))))) vc__law_odd
end
/-! _law_alike -/
abbrev N__law_alike : List Str := ["_law_found", "_law_due"]
theorem sc__law_alike : FnScope N__law_alike ["_law_found", "_law_due"] (defScope s__law_alike) := ⟨rfl, rfl, rfl, by decide +kernel, rfl, by decide +kernel, by decide +kernel⟩
def rd__law_alike : DS := (tRetD (tAnV (tBin (gEqv id) (tVarD 0) (tVarD 1)) (tBin (gEqv id) (tCallD cRepr (tConsD (tVarD 0) tNilD)) (tCallD cRepr (tConsD (tVarD 1) tNilD)))))
def sp__law_alike : DSp := fun us P => ∃ x, us = [.d x, .d x] ∧ selfEq x ∧ Sh x ∧ P (.d (.bool true))
theorem vc__law_alike : ∀ dvs Q, sp__law_alike dvs Q → dvs.length = 2 ∧ rd__law_alike { nx := fun _ => Q (.d .none), rt := Q } (startD N__law_alike dvs) := by
  rintro dvs Q ⟨x, rfl, hs, sh, h⟩
  refine ⟨rfl, ?_⟩
  have e : ∀ P : DV → Prop, P (.d (.bool true)) → gEqv id x x P := fun P q => gEqv_self hs q
  unfold rd__law_alike
  generalize hg : gEqv id = g at *
  walk_at "dl"
  refine e _ ?_
  walk_at "dl"
  refine ⟨sh, sh, ?_⟩
  subst hg
  walk_at "dl"
  exact h
section
variable {ts : List Addr} {P : Program} {w : World} {K : PySem.W.Frag} {mg : Str → Option Value} {base : Heap}
theorem ok__law_alike {f : Addr} {fd : FuncData} (Fn : L2.Fun K "_law_alike" "_law_alike" s__law_alike f fd) (z_repr : mg "repr" = none) : Fg P w K mg base (L2.CX P w) 1 f (Pm K ts sp__law_alike) := d_def Fn sc__law_alike (fun _ _ _ _ _ _ us hl => match us, hl with | [_, _], _ => rfl) sp__law_alike rd__law_alike (fun cdv A outer s H E wn hcd ht ag hr => by
  have S := sc__law_alike
  have hu := hr.units
  exact (dss_one (ds_ret (d_and (d_cmp (o_eq hu) (d_var 0) (d_var 1)) (d_one (d_cmp (o_eq hu) (d_callB (k_repr ag hu) (by rfl) z_repr (by decide +kernel) (da_cons (d_var 0) da_nil)) (d_callB (k_repr ag hu) (by rfl) z_repr (by decide +kernel) (da_cons (d_var 1) da_nil)))))))) vc__law_alike
end
/-! _law_shown -/
abbrev N__law_shown : List Str := ["_law_one"]
theorem sc__law_shown : FnScope N__law_shown ["_law_one"] (defScope s__law_shown) := ⟨rfl, rfl, rfl, by decide +kernel, rfl, by decide +kernel, by decide +kernel⟩
def rd__law_shown : DS := (tSeqD (tIfD (tTst (tBin (gEqv id) (tBin gIx (tVarD 0) (tCD (.int 1))) (tCD (.int 1)))) (tRetD (tCallD cStrW (tConsD (tBin gIx (tVarD 0) (tCD (.int 0))) tNilD))) (fun d env => d.nx env))
    (tRetD (tBin gAdd (tBin gAdd (tCallD cStrW (tConsD (tBin gIx (tVarD 0) (tCD (.int 0))) tNilD)) (tCD (.str "/"))) (tCallD cStrW (tConsD (tBin gIx (tVarD 0) (tCD (.int 1))) tNilD)))))
def sp__law_shown : DSp := fun us P => ∃ p q : Int, us = [.d (.tuple [.int p, .int q])] ∧ p.natAbs ≤ LM + 1 ∧ q.natAbs ≤ LM + 1 ∧ P (.d (.str (bfT p q)))
theorem vc__law_shown : ∀ dvs Q, sp__law_shown dvs Q → dvs.length = 1 ∧ rd__law_shown { nx := fun _ => Q (.d .none), rt := Q } (startD N__law_shown dvs) := by
  rintro dvs Q ⟨p, q, rfl, a, b, h⟩
  refine ⟨rfl, ?_⟩
  have la := numT_len a
  have lb := numT_len b
  have ga := lm_t a
  have gb := lm_t b
  have e1 : ("/" : Str).length = 1 := by decide +kernel
  unfold rd__law_shown
  unfold bfT at h
  walk_at "dl"
  by_cases c : q = 1
  · simp only [c, decide_true, if_true] at h ⊢
    exact ⟨ga, h⟩
  · simp only [c, decide_false, Bool.false_eq_true, if_false] at h ⊢
    have b1 : (numT p).length + ("/" : Str).length ≤ 100000 := by omega
    have b2 : (numT p ++ ("/" : Str)).length + (numT q).length ≤ 100000 := by rw [ap_len]; omega
    exact ⟨ga, b1, gb, b2, h⟩
section
variable {ts : List Addr} {P : Program} {w : World} {K : PySem.W.Frag} {mg : Str → Option Value} {base : Heap}
theorem ok__law_shown {f : Addr} {fd : FuncData} (Fn : L2.Fun K "_law_shown" "_law_shown" s__law_shown f fd) (nd_dg : NoDg K) (z_str : mg "str" = none) : Fg P w K mg base (L2.CX P w) 1 f (Pm K ts sp__law_shown) := d_def Fn sc__law_shown (fun _ _ _ _ _ _ us hl => match us, hl with | [_], _ => rfl) sp__law_shown rd__law_shown (fun cdv A outer s H E wn hcd ht ag hr => by
  have S := sc__law_shown
  have hu := hr.units
  exact (dss_cons (ds_if (dt_cmp (o_eq hu) (d_ix (d_var 0) d_int) d_int) (dss_one (ds_ret (d_callTy (k_strW nd_dg) (by rfl) z_str (by decide +kernel) (da_cons (d_ix (d_var 0) d_int) da_nil)))) dss_nil)
    (dss_one (ds_ret (d_bin o_add (d_bin o_add (d_callTy (k_strW nd_dg) (by rfl) z_str (by decide +kernel) (da_cons (d_ix (d_var 0) d_int) da_nil)) d_str) (d_callTy (k_strW nd_dg) (by rfl) z_str (by decide +kernel) (da_cons (d_ix (d_var 0) d_int) da_nil))))))) vc__law_shown
end
/-! require -/
abbrev N_require : List Str := ["as_told", "at", "good"]
theorem sc_require : FnScope N_require ["as_told"] (defScope s_require) := ⟨rfl, rfl, rfl, by decide +kernel, rfl, by decide +kernel, by decide +kernel⟩
def rd_require (R : List Sl → XD) : DS := (tForD (gtD 2 (gconsD (gnD 1) (gconsD (gnD 2) gnilD))) (itEnumT (tConsD (tVarD 0) tNilD)) (tIfD (tNotD (tTru (tVarD 2))) (tRaiseX R "Wrong" "at" (tVarD 1)) (fun d env => d.nx env)))
def sp_require : DSpX := fun us P R => ∃ bs : List Bool, us = bs.map (fun b => .d (.bool b)) ∧ bs.length ≤ 1000 ∧ (match fstF 0 bs with | none => P (.d .none) | some i => R "Wrong" "at" (.int (i : Nat)))
theorem vc_require : ∀ dvs Q R, sp_require dvs Q R → allD dvs fun xs => xs.length ≤ 100000 ∧ rd_require (fun _ => R) { nx := fun _ => Q (.d .none), rt := Q } (startD N_require [.d (.tuple xs)]) := by
  rintro dvs Q R ⟨bs, rfl, hl, h⟩
  refine allD_bools bs ⟨by rw [List.length_map]; omega, ?_⟩
  unfold rd_require
  walk_at "dl"
  rw [enumF_eq]
  refine forD_ind (fun zs env => ∃ s1 s2 k cs, env = [.d (.tuple (bs.map .bool)), s1, s2] ∧ zs = enumF k cs ∧ fstF k cs = fstF 0 bs) (fun env hI => ?_) (fun x zs env R2 hI hR => ?_) _ _ ⟨_, _, 0, bs, rfl, rfl, rfl⟩
  · obtain ⟨s1, s2, k, cs, rfl, e, e2⟩ := hI
    cases cs with
    | cons c cs => cases e
    | nil =>
      rw [← e2] at h
      exact h
  · obtain ⟨s1, s2, k, cs, rfl, e, e2⟩ := hI
    cases cs with
    | nil => cases e
    | cons c cs =>
      cases e
      walk_at "dl"
      cases c with
      | true =>
        exact hR _ ⟨_, _, k + 1, cs, rfl, rfl, e2⟩
      | false =>
        rw [← e2] at h
        exact h
section
variable {ts : List Addr} {P : Program} {w : World} {K : PySem.W.Frag} {mg : Str → Option Value} {base : Heap}
theorem ok_require {f : Addr} {fd : FuncData} (Fn : L2.Fun K "require" "require" s_require f fd) (z_enumerate : mg "enumerate" = none) {C_Wrong fI_Wrong : Addr} {fd_Wrong : FuncData} (T_Wrong : OexC K C_Wrong) (ic_Wrong : PySem.W.findIn K (.ref C_Wrong) "__init__" = some (some (.ref fI_Wrong))) (ti_Wrong : PySem.W.typeIn K (.ref fI_Wrong) = some (.type "function")) (i1_Wrong : FnOk P w K mg base (L2.CX P w) 1 fI_Wrong fd_Wrong ["self", "at"] (spIni C_Wrong "at")) (hb_Wrong : Binds K fd_Wrong ["self", "at"] []) (m_Wrong : mg "Wrong" = some (.ref C_Wrong)) : Fg P w K mg base (L2.CX P w) 3 f (PmX mg K ts sp_require) := d_starX Fn sc_require (fun _ _ _ _ _ _ us => by cases us <;> rfl) sp_require (fun R => rd_require fun _ => R) (fun cdv A outer s H E R wn hcd ht hE ag hr tk => by
  have S := sc_require
  have hu := hr.units
  have hE := XEnd.at hE
  exact (dss_one (ds_for (passes_of rfl) rfl (di_enumT (by rfl) z_enumerate (da_cons (d_var 0) da_nil)) (dg_tup rfl (dgs_cons (dg_name (i := 1) S.nd rfl (by first | exact Or.inl rfl | exact Or.inr rfl)) (dgs_cons (dg_name (i := 2) S.nd rfl (by first | exact Or.inl rfl | exact Or.inr rfl)) dgs_nil))) (dss_one (ds_if (dt_not (dt_e (d_var 2))) (dss_one (ds_raise1 (E := fun _ => E) rfl tk T_Wrong ic_Wrong ti_Wrong i1_Wrong (hr.mono (by decide)) hb_Wrong (by rfl) m_Wrong (d_var 1) hE passZ)) dss_nil))))) vc_require
end
/-! is_whole -/
abbrev N_is_whole : List Str := ["thing"]
theorem sc_is_whole : FnScope N_is_whole ["thing"] (defScope s_is_whole) := ⟨rfl, rfl, rfl, by decide +kernel, rfl, by decide +kernel, by decide +kernel⟩
def rd_is_whole : DS := (tRetD (tAnV (tCallD (cIsi "int") (tConsD (tVarD 0) (tConsD (tRaw (.ty "int")) tNilD))) (tNoV (tCallD (cIsi "bool") (tConsD (tVarD 0) (tConsD (tRaw (.ty "bool")) tNilD))))))
def sp_is_whole : DSp := fun us P => ∃ x, us = [.d x] ∧ P (.d (.bool (isWh x)))
theorem vc_is_whole : ∀ dvs Q, sp_is_whole dvs Q → dvs.length = 1 ∧ rd_is_whole { nx := fun _ => Q (.d .none), rt := Q } (startD N_is_whole dvs) := by
  rintro dvs Q ⟨x, rfl, h⟩
  refine ⟨rfl, ?_⟩
  unfold rd_is_whole
  cases x <;> (walk_at "dl"; exact h)
section
variable {ts : List Addr} {P : Program} {w : World} {K : PySem.W.Frag} {mg : Str → Option Value} {base : Heap}
theorem ok_is_whole {f : Addr} {fd : FuncData} (Fn : L2.Fun K "is_whole" "is_whole" s_is_whole f fd) (z_isinstance : mg "isinstance" = none) (z_int : mg "int" = none) (z_bool : mg "bool" = none) : Fg P w K mg base (L2.CX P w) 1 f (Pm K ts sp_is_whole) := d_def Fn sc_is_whole (fun _ _ _ _ _ _ us hl => match us, hl with | [_], _ => rfl) sp_is_whole rd_is_whole (fun cdv A outer s H E wn hcd ht ag hr => by
  have S := sc_is_whole
  have hu := hr.units
  exact (dss_one (ds_ret (d_and (d_callB (k_isi (n := "int") (by simp)) (by rfl) z_isinstance (by decide +kernel) (da_cons (d_var 0) (da_cons (d_ty (by rfl) z_int (by decide +kernel)) da_nil))) (d_one (d_not (d_callB (k_isi (n := "bool") (by simp)) (by rfl) z_isinstance (by decide +kernel) (da_cons (d_var 0) (da_cons (d_ty (by rfl) z_bool (by decide +kernel)) da_nil))))))))) vc_is_whole
end
/-! is_fraction -/
abbrev N_is_fraction : List Str := ["thing", "top", "bottom"]
theorem sc_is_fraction : FnScope N_is_fraction ["thing"] (defScope s_is_fraction) := ⟨rfl, rfl, rfl, by decide +kernel, rfl, by decide +kernel, by decide +kernel⟩
def rd_is_fraction : DS := (tSeqD (tIfD (tOrD (tNotD (tTru (tCallD (cIsi "tuple") (tConsD (tVarD 0) (tConsD (tRaw (.ty "tuple")) tNilD))))) (tTst (tBin (gEqv not) (tCallD cLen (tConsD (tVarD 0) tNilD)) (tCD (.int 2))))) (tRetD (tCD (.bool false))) (fun d env => d.nx env))
    (tSeqD (tAsgD (tVarD 0) (gtD 2 (gconsD (gnD 1) (gconsD (gnD 2) gnilD))))
    (tSeqD (tIfD (tOrD (tNotD (tTru (tUse sp_is_whole (tConsD (tVarD 1) tNilD)))) (tOrD (tNotD (tTru (tUse sp_is_whole (tConsD (tVarD 2) tNilD)))) (tTst (tBin gLt (tVarD 2) (tCD (.int 1)))))) (tRetD (tCD (.bool false))) (fun d env => d.nx env))
    (tRetD (tBin (gEqv id) (tCallD cGcd (tConsD (tVarD 1) (tConsD (tVarD 2) tNilD))) (tCD (.int 1)))))))
def sp_is_fraction : DSp := fun us P => ∃ x, us = [.d x] ∧ P (.d (.bool (isFr x)))
theorem vc_is_fraction : ∀ dvs Q, sp_is_fraction dvs Q → dvs.length = 1 ∧ rd_is_fraction { nx := fun _ => Q (.d .none), rt := Q } (startD N_is_fraction dvs) := by
  rintro dvs Q ⟨x, rfl, h⟩
  refine ⟨rfl, ?_⟩
  unfold rd_is_fraction
  have no : isFr x = false → Q (.d (.bool false)) := fun e => by rw [e] at h; exact h
  cases x with
  | tuple xs =>
    match xs, h, no with
    | [], _, no => walk_at "dl"; exact no rfl
    | [a], _, no => walk_at "dl"; cases a <;> exact no rfl
    | a :: b :: c :: r, _, no =>
      walk_at "dl"
      have e : ¬ (((r.length + 1 + 1 + 1 : Nat) : Int) = 2) := by omega
      simp only [e, decide_false, Bool.not_false, if_true]
      cases a <;> cases b <;> exact no rfl
    | [a, b], h, no =>
      walk_at "dl"
      simp only [Int.cast_ofNat_Int, decide_true, Bool.not_true, Bool.false_eq_true, if_false]
      refine ⟨_, rfl, ?_⟩
      walk_at "dl"
      cases a with
      | int p =>
        rw [show isWh (.int p) = true from rfl]
        simp only [Bool.not_true, Bool.false_eq_true, if_false]
        refine ⟨_, rfl, ?_⟩
        walk_at "dl"
        cases b with
        | int q =>
          rw [show isWh (.int q) = true from rfl]
          simp only [Bool.not_true, Bool.false_eq_true, if_false]
          have eg : p.natAbs.gcd q.natAbs = Int.gcd p q := rfl
          walk_at "dl"
          by_cases hq : q < 1
          · simp only [hq, decide_true, if_true]
            exact no (by simp [isFr]; omega)
          · simp only [hq, decide_false, Bool.false_eq_true, if_false, eg]
            have e1 : isFr (.tuple [.int p, .int q]) = decide (((Int.gcd p q : Nat) : Int) = 1) := by
              simp only [isFr, show 0 < q by omega, decide_true, Bool.true_and]
              exact decide_eq_decide.mpr (by omega)
            rw [e1] at h
            exact h
        | _ => simp only [isWh, Bool.not_false, if_true]; exact no rfl
      | _ => simp only [isWh, Bool.not_false, if_true]; cases b <;> exact no rfl
  | _ => walk_at "dl"; exact no rfl
section
variable {ts : List Addr} {P : Program} {w : World} {K : PySem.W.Frag} {mg : Str → Option Value} {base : Heap}
theorem ok_is_fraction {f : Addr} {fd : FuncData} (Fn : L2.Fun K "is_fraction" "is_fraction" s_is_fraction f fd) {f_is_whole : Addr} (g_is_whole : Fg P w K mg base (L2.CX P w) 1 f_is_whole (Pm K ts sp_is_whole)) (m_is_whole : mg "is_whole" = some (.ref f_is_whole)) (p_is_whole : PySem.W.keepIn K (.ref f_is_whole) = true) (z_isinstance : mg "isinstance" = none) (z_tuple : mg "tuple" = none) (z_len : mg "len" = none) (i_gcd : mg "gcd" = some (.builtin "math.gcd")) : Fg P w K mg base (L2.CX P w) 2 f (Pm K ts sp_is_fraction) := d_def Fn sc_is_fraction (fun _ _ _ _ _ _ us hl => match us, hl with | [_], _ => rfl) sp_is_fraction rd_is_fraction (fun cdv A outer s H E wn hcd ht ag hr => by
  have S := sc_is_fraction
  have hu := hr.units
  exact (dss_cons (ds_if (dt_w (dw_or (dt_not (dt_e (d_callB (k_isi (n := "tuple") (by simp)) (by rfl) z_isinstance (by decide +kernel) (da_cons (d_var 0) (da_cons (d_ty (by rfl) z_tuple (by decide +kernel)) da_nil))))) (dw_or1 (dt_cmp (o_ne hu) (d_callB k_len (by rfl) z_len (by decide +kernel) (da_cons (d_var 0) da_nil)) d_int)))) (dss_one (ds_ret d_bl)) dss_nil)
    (dss_cons (ds_asg (d_var 0) (dg_tup rfl (dgs_cons (dg_name (i := 1) S.nd rfl (by first | exact Or.inl rfl | exact Or.inr rfl)) (dgs_cons (dg_name (i := 2) S.nd rfl (by first | exact Or.inl rfl | exact Or.inr rfl)) dgs_nil))))
    (dss_cons (ds_if (dt_w (dw_or (dt_not (dt_e (d_use g_is_whole ht ag (hr.mono (by decide)) passZ (by rfl) m_is_whole p_is_whole (da_cons (d_var 1) da_nil)))) (dw_or (dt_not (dt_e (d_use g_is_whole ht ag (hr.mono (by decide)) passZ (by rfl) m_is_whole p_is_whole (da_cons (d_var 2) da_nil)))) (dw_or1 (dt_cmp o_lt (d_var 2) d_int))))) (dss_one (ds_ret d_bl)) dss_nil)
    (dss_one (ds_ret (d_cmp (o_eq hu) (d_callM k_gcd (by rfl) i_gcd (da_cons (d_var 1) (da_cons (d_var 2) da_nil))) d_int))))))) vc_is_fraction
end
/-! show_fraction -/
abbrev N_show_fraction : List Str := ["fraction", "top", "bottom"]
theorem sc_show_fraction : FnScope N_show_fraction ["fraction"] (defScope s_show_fraction) := ⟨rfl, rfl, rfl, by decide +kernel, rfl, by decide +kernel, by decide +kernel⟩
def rd_show_fraction (R : List Sl → XD) : DS := (tSeqD (tDropD (tUseX sp_require R (tConsD (tUse sp_is_fraction (tConsD (tVarD 0) tNilD)) tNilD)))
    (tSeqD (tAsgD (tVarD 0) (gtD 2 (gconsD (gnD 1) (gconsD (gnD 2) gnilD))))
    (tRetD (tIteD (tTst (tBin (gEqv id) (tVarD 2) (tCD (.int 1)))) (tCallD cStrW (tConsD (tVarD 1) tNilD)) (tFstr [(tFmtW (tVarD 1)), (tCD (.str "/")), (tFmtW (tVarD 2))])))))
theorem empty_app (a : Str) : Str.empty ++ a = a := by
  have e := ap_signs Str.empty a
  have e0 : Str.empty.cps.toList = [] := rfl
  rw [e0, List.nil_append] at e
  cases a with
  | mk a =>
    show Str.mk (Str.empty.cps ++ a) = _
    congr 1
    exact Array.toList_inj.mp e
def sp_show_fraction : DSpX := fun us P R => ∃ x, us = [.d x] ∧ (isFr x = false → R "Wrong" "at" (.int 0)) ∧ (isFr x = true → ∃ p q, x = .tuple [.int p, .int q] ∧ p.natAbs ≤ LM + 1 ∧ q.natAbs ≤ LM + 1 ∧ P (.d (.str (bfT p q))))
theorem vc_show_fraction : ∀ dvs Q R, sp_show_fraction dvs Q R → dvs.length = 1 ∧ rd_show_fraction (fun _ => R) { nx := fun _ => Q (.d .none), rt := Q } (startD N_show_fraction dvs) := by
  rintro dvs Q R ⟨x, rfl, h0, h⟩
  refine ⟨rfl, ?_⟩
  unfold rd_show_fraction
  refine seqG fun R hR => ?_
  walk_at "dl"
  refine ⟨x, rfl, ?_⟩
  cases e : isFr x with
  | false =>
    walk_at "dl"
    exact ⟨[false], rfl, by decide, h0 e⟩
  | true =>
    obtain ⟨p, q, rfl, a, b, h⟩ := h e
    clear h0
    have la := numT_len a
    have lb := numT_len b
    have ga := lm_t a
    have gb := lm_t b
    have e1 : ("/" : Str).length = 1 := by decide +kernel
    unfold bfT at h
    walk_at "dl"
    refine ⟨[true], rfl, by decide, hR _ (seqG fun R hR => ?_)⟩
    walk_at "dl"
    refine hR _ ?_
    walk_at "dl"
    by_cases c : q = 1
    · simp only [c, decide_true, if_true] at h ⊢
      exact ⟨ga, h⟩
    · simp only [c, decide_false, Bool.false_eq_true, if_false] at h ⊢
      have b1 : (Str.empty ++ numT p).length ≤ 100000 := by rw [empty_app]; omega
      have b2 : (Str.empty ++ numT p ++ ("/" : Str)).length ≤ 100000 := by rw [empty_app, ap_len]; omega
      have b3 : (Str.empty ++ numT p ++ ("/" : Str) ++ numT q).length ≤ 100000 := by rw [empty_app, ap_len, ap_len]; omega
      refine ⟨ga, b1, b2, gb, b3, ?_⟩
      rw [show (Str.empty ++ Str.ofString (toString p) ++ Str.ofString "/" ++ Str.ofString (toString q)) = numT p ++ ("/" : Str) ++ numT q from by rw [empty_app]]
      exact h
section
variable {ts : List Addr} {P : Program} {w : World} {K : PySem.W.Frag} {mg : Str → Option Value} {base : Heap}
theorem ok_show_fraction {f : Addr} {fd : FuncData} (Fn : L2.Fun K "show_fraction" "show_fraction" s_show_fraction f fd) (nd_dg : NoDg K) {f_require : Addr} (g_require : Fg P w K mg base (L2.CX P w) 3 f_require (PmX mg K ts sp_require)) (m_require : mg "require" = some (.ref f_require)) (p_require : PySem.W.keepIn K (.ref f_require) = true) {f_is_fraction : Addr} (g_is_fraction : Fg P w K mg base (L2.CX P w) 2 f_is_fraction (Pm K ts sp_is_fraction)) (m_is_fraction : mg "is_fraction" = some (.ref f_is_fraction)) (p_is_fraction : PySem.W.keepIn K (.ref f_is_fraction) = true) (z_str : mg "str" = none) : Fg P w K mg base (L2.CX P w) 4 f (PmX mg K ts sp_show_fraction) := d_defX Fn sc_show_fraction (fun _ _ _ _ _ _ us hl => match us, hl with | [_], _ => rfl) sp_show_fraction (fun R => rd_show_fraction fun _ => R) (fun cdv A outer s H E R wn hcd ht hE ag hr tk => by
  have S := sc_show_fraction
  have hu := hr.units
  have hE := XEnd.at hE
  exact (dss_cons (ds_expr (d_useX g_require ht ag (hr.mono (by decide)) (fun σ => passAt tk σ) hE (by rfl) m_require p_require (da_cons (d_use g_is_fraction ht ag (hr.mono (by decide)) passZ (by rfl) m_is_fraction p_is_fraction (da_cons (d_var 0) da_nil)) da_nil)))
    (dss_cons (ds_asg (d_var 0) (dg_tup rfl (dgs_cons (dg_name (i := 1) S.nd rfl (by first | exact Or.inl rfl | exact Or.inr rfl)) (dgs_cons (dg_name (i := 2) S.nd rfl (by first | exact Or.inl rfl | exact Or.inr rfl)) dgs_nil))))
    (dss_one (ds_ret (d_ite (dt_cmp (o_eq hu) (d_var 2) d_int) (d_callTy (k_strW nd_dg) (by rfl) z_str (by decide +kernel) (da_cons (d_var 1) da_nil)) (d_fstr (.cons (d_fmtW nd_dg (d_var 1)) (.cons d_str (.cons (d_fmtW nd_dg (d_var 2)) .nil)))))))))) vc_show_fraction
end
/-! _law_told -/
abbrev N__law_told : List Str := ["_law_thing", "_law_found", "e"]
theorem sc__law_told : FnScope N__law_told ["_law_thing"] (defScope s__law_told) := ⟨rfl, rfl, rfl, by decide +kernel, rfl, by decide +kernel, by decide +kernel⟩
def rd__law_told : DS := (tSeqD (tSetD 1 (tCD .none))
    (tSeqD (tTryAs 2 [("Wrong", "at")] (fun _ => true) (fun a c n x => (tRetD (tTupD (tConsD (tCD (.str "refused")) (tConsD (tAtX 2 a x) tNilD))))) (fun _ _ _ _ => False) (fun R => (tSetD 1 (tUseX sp_show_fraction R (tConsD (tVarD 0) tNilD)))))
    (tRetD (tTupD (tConsD (tCD (.str "told")) (tConsD (tVarD 1) tNilD))))))
def sp__law_told : DSp := fun us P => ∃ x, us = [.d x] ∧ ((isFr x = false ∧ P (.d (.tuple [.str "refused", .int 0]))) ∨ ∃ p q, x = .tuple [.int p, .int q] ∧ isFr x = true ∧ p.natAbs ≤ LM + 1 ∧ q.natAbs ≤ LM + 1 ∧ P (.d (.tuple [.str "told", .str (bfT p q)])))
theorem vc__law_told : ∀ dvs Q, sp__law_told dvs Q → dvs.length = 1 ∧ rd__law_told { nx := fun _ => Q (.d .none), rt := Q } (startD N__law_told dvs) := by
  rintro dvs Q ⟨x, rfl, h⟩
  refine ⟨rfl, ?_⟩
  unfold rd__law_told
  refine seqG fun R hR => ?_
  walk_at "dl"
  refine hR _ (seqG fun R hR => ?_)
  refine ⟨noOw_ok _ rfl, ?_⟩
  walk_at "dl"
  refine ⟨x, rfl, fun e => ?_, fun e => ?_⟩
  · rcases h with ⟨_, h⟩ | ⟨_, _, _, e2, _⟩
    · refine ⟨by decide, fun _ => ⟨noOw_ok _ rfl, fun a => ?_⟩, fun z => nomatch z⟩
      walk_at "dl"
      exact ⟨by decide, h⟩
    · rw [e] at e2; cases e2
  · rcases h with ⟨e2, h⟩ | ⟨p, q, rfl, _, a, b, h⟩
    · rw [e] at e2; cases e2
    · refine ⟨p, q, rfl, a, b, ?_⟩
      refine hR _ ?_
      walk_at "dl"
      exact ⟨by decide, h⟩
section
variable {ts : List Addr} {P : Program} {w : World} {K : PySem.W.Frag} {mg : Str → Option Value} {base : Heap}
theorem ok__law_told {f : Addr} {fd : FuncData} (Fn : L2.Fun K "_law_told" "_law_told" s__law_told f fd) {C_Wrong : Addr} (m_Wrong : mg "Wrong" = some (.ref C_Wrong)) (em_Wrong_Wrong : PySem.W.exmOne K (.ref C_Wrong) (.ref C_Wrong) = some true) (ex_Wrong : ExcC K C_Wrong) (xf_Wrong : XfC K C_Wrong) (nf_Wrong : PySem.W.findIn K (.ref C_Wrong) "at" = some none) {f_show_fraction : Addr} (g_show_fraction : Fg P w K mg base (L2.CX P w) 4 f_show_fraction (PmX mg K ts sp_show_fraction)) (m_show_fraction : mg "show_fraction" = some (.ref f_show_fraction)) (p_show_fraction : PySem.W.keepIn K (.ref f_show_fraction) = true) : Fg P w K mg base (L2.CX P w) 5 f (Pm K ts sp__law_told) := d_def Fn sc__law_told (fun _ _ _ _ _ _ us hl => match us, hl with | [_], _ => rfl) sp__law_told rd__law_told (fun cdv A outer s H E wn hcd ht ag hr => by
  have S := sc__law_told
  have hu := hr.units
  exact (dss_cons (ds_set (i := 1) S.nd rfl (by first | exact Or.inl rfl | exact Or.inr rfl) d_non)
    (dss_cons (ds_tryAs (i := 2) (E := fun _ _ _ _ => False) (R := fun _ _ _ _ => False) (cs := [("Wrong", "at")]) (exm := fun _ => true) rfl rfl S.nd rfl rfl ⟨by rfl, by decide, .inl m_Wrong⟩ takes0 (fun _ _ _ _ _ => XEnd.none) (by decide) (fun q hq C hC => by
        have e := List.mem_singleton.mp hq
        subst e
        cases Value.ref.inj (Option.some.inj (hC.symm.trans m_Wrong))
        exact em_Wrong_Wrong) (fun pn xe E R w' hw tk hE => by
        have ht := (congrArg Bg.ts hw).trans ht
        exact (dss_one (ds_set (i := 1) S.nd rfl (by first | exact Or.inl rfl | exact Or.inr rfl) (d_useX g_show_fraction ht ag (hr.mono (by decide)) (fun σ => passAt tk σ) hE (by rfl) m_show_fraction p_show_fraction (da_cons (d_var 0) da_nil))))) (fun a oe pn c C n x v dd w' hw hcs hc wd hd rp hz hf => by
        have ht := (congrArg Bg.ts hw).trans ht
        obtain ⟨rfl, rfl⟩ := Prod.mk.inj (List.mem_singleton.mp hcs)
        cases Value.ref.inj (Option.some.inj (hc.symm.trans m_Wrong))
        exact (dss_one (ds_ret (d_tup (da_cons d_str (da_cons (d_atX xf_Wrong nf_Wrong hz hf wd hd rp (pv 2)) da_nil)))))))
    (dss_one (ds_ret (d_tup (da_cons d_str (da_cons (d_var 1) da_nil)))))))) vc__law_told
end
/-! _law_whole -/
abbrev N__law_whole : List Str := ["_law_thing", "_law_low_here", "_law_most"]
theorem sc__law_whole : FnScope N__law_whole ["_law_thing", "_law_low_here", "_law_most"] (defScope s__law_whole) := ⟨rfl, rfl, rfl, by decide +kernel, rfl, by decide +kernel, by decide +kernel⟩
def rd__law_whole : DS := (tRetD (tAnV (tCallD (cIsi "int") (tConsD (tVarD 0) (tConsD (tRaw (.ty "int")) tNilD))) (tAnV (tNoV (tCallD (cIsi "bool") (tConsD (tVarD 0) (tConsD (tRaw (.ty "bool")) tNilD)))) (tChD (gIn (fun i j => decide (i ≤ j)) fun i j => !decide (j.cps.toList < i.cps.toList)) (gIn (fun i j => decide (i ≤ j)) fun i j => !decide (j.cps.toList < i.cps.toList)) (tVarD 1) (tVarD 0) (tVarD 2)))))
def whB (lo hi : Int) : PyData → Bool
  | .int n => decide (lo ≤ n) && decide (n ≤ hi)
  | _ => false
def sp__law_whole : DSp := fun us P => ∃ (x : PyData) (lo hi : Int), us = [.d x, .d (.int lo), .d (.int hi)] ∧ P (.d (.bool (whB lo hi x)))
theorem vc__law_whole : ∀ dvs Q, sp__law_whole dvs Q → dvs.length = 3 ∧ rd__law_whole { nx := fun _ => Q (.d .none), rt := Q } (startD N__law_whole dvs) := by
  rintro dvs Q ⟨x, lo, hi, rfl, h⟩
  refine ⟨rfl, ?_⟩
  unfold rd__law_whole
  cases x with
  | int n =>
    walk_at "dl"
    simp only [whB] at h
    by_cases c : lo ≤ n
    · simp only [c, decide_true, Bool.true_and, if_true] at h ⊢
      exact h
    · simp only [c, decide_false, Bool.false_and, Bool.false_eq_true, if_false] at h ⊢
      exact h
  | _ => walk_at "dl"; exact h
section
variable {ts : List Addr} {P : Program} {w : World} {K : PySem.W.Frag} {mg : Str → Option Value} {base : Heap}
theorem ok__law_whole {f : Addr} {fd : FuncData} (Fn : L2.Fun K "_law_whole" "_law_whole" s__law_whole f fd) (z_isinstance : mg "isinstance" = none) (z_int : mg "int" = none) (z_bool : mg "bool" = none) : Fg P w K mg base (L2.CX P w) 1 f (Pm K ts sp__law_whole) := d_def Fn sc__law_whole (fun _ _ _ _ _ _ us hl => match us, hl with | [_, _, _], _ => rfl) sp__law_whole rd__law_whole (fun cdv A outer s H E wn hcd ht ag hr => by
  have S := sc__law_whole
  have hu := hr.units
  exact (dss_one (ds_ret (d_and (d_callB (k_isi (n := "int") (by simp)) (by rfl) z_isinstance (by decide +kernel) (da_cons (d_var 0) (da_cons (d_ty (by rfl) z_int (by decide +kernel)) da_nil))) (d_and (d_not (d_callB (k_isi (n := "bool") (by simp)) (by rfl) z_isinstance (by decide +kernel) (da_cons (d_var 0) (da_cons (d_ty (by rfl) z_bool (by decide +kernel)) da_nil)))) (d_one (d_chain o_le o_le (d_var 1) (d_var 0) (d_var 2)))))))) vc__law_whole
end
/-! _law_is_fraction -/
abbrev N__law_is_fraction : List Str := ["_law_thing"]
theorem sc__law_is_fraction : FnScope N__law_is_fraction ["_law_thing"] (defScope s__law_is_fraction) := ⟨rfl, rfl, rfl, by decide +kernel, rfl, by decide +kernel, by decide +kernel⟩
def rd__law_is_fraction : DS := (tSeqD (tIfD (tOrD (tNotD (tTru (tCallD (cIsi "tuple") (tConsD (tVarD 0) (tConsD (tRaw (.ty "tuple")) tNilD))))) (tTst (tBin (gEqv not) (tCallD cLen (tConsD (tVarD 0) tNilD)) (tCD (.int 2))))) (tRetD (tCD (.bool false))) (fun d env => d.nx env))
    (tSeqD (tIfD (tOrD (tNotD (tTru (tUse sp__law_whole (tConsD (tBin gIx (tVarD 0) (tCD (.int 0))) (tConsD (tUnD gNeg (tBin gPow (tCD (.int 10)) (tCD (.int 60)))) (tConsD (tBin gPow (tCD (.int 10)) (tCD (.int 60))) tNilD)))))) (tNotD (tTru (tUse sp__law_whole (tConsD (tBin gIx (tVarD 0) (tCD (.int 1))) (tConsD (tCD (.int 1)) (tConsD (tBin gPow (tCD (.int 10)) (tCD (.int 60))) tNilD))))))) (tRetD (tCD (.bool false))) (fun d env => d.nx env))
    (tRetD (tBin (gEqv id) (tUse sp__law_low (tConsD (tBin gIx (tVarD 0) (tCD (.int 0))) (tConsD (tBin gIx (tVarD 0) (tCD (.int 1))) tNilD))) (tVarD 0)))))
def sp__law_is_fraction : DSp := fun us P => ∃ x, us = [.d x] ∧ oddB x = true ∧ P (.d (.bool (isFr x)))
theorem vc__law_is_fraction : ∀ dvs Q, sp__law_is_fraction dvs Q → dvs.length = 1 ∧ rd__law_is_fraction { nx := fun _ => Q (.d .none), rt := Q } (startD N__law_is_fraction dvs) := by
  rintro dvs Q ⟨x, rfl, ok, h⟩
  refine ⟨rfl, ?_⟩
  unfold rd__law_is_fraction
  have no : isFr x = false → Q (.d (.bool false)) := fun e => by rw [e] at h; exact h
  cases x with
  | tuple xs =>
    match xs, h, no, ok with
    | [], _, no, _ => walk_at "dl"; exact no rfl
    | [a], _, no, _ => walk_at "dl"; cases a <;> exact no rfl
    | a :: b :: c :: r, _, no, _ =>
      walk_at "dl"
      have e : ¬ (((r.length + 1 + 1 + 1 : Nat) : Int) = 2) := by omega
      simp only [e, decide_false, Bool.not_false, if_true]
      cases a <;> cases b <;> exact no rfl
    | [a, b], h, no, ok =>
      refine seqG fun R hR => ?_
      walk_at "dl"
      simp only [Int.cast_ofNat_Int, decide_true, Bool.not_true, Bool.false_eq_true, if_false]
      refine hR _ (seqG fun R hR => ?_)
      refine ifG fun P1 P2 hP hN => ?_
      have en : (10 : Int) ^ Int.toNat 60 = 10 ^ 60 := rfl
      have nP : isFr (.tuple [a, b]) = false → P1 := fun e => hP (no e)
      clear no hP
      walk_at "dl"
      refine ⟨by decide, by decide, a, _, _, rfl, ?_⟩
      walk_at "dl"
      by_cases ib : ∃ q, b = .int q
      · obtain ⟨q, rfl⟩ := ib
        cases ew : whB (-10 ^ Int.toNat 60) (10 ^ Int.toNat 60) a with
        | false =>
          simp only [Bool.not_false, if_true]
          refine nP ?_
          cases a with
          | int p =>
            simp only [oddB, Bool.and_eq_true, decide_eq_true_eq] at ok
            simp only [whB, en, Bool.and_eq_false_iff, decide_eq_false_iff_not] at ew
            omega
          | _ => rfl
        | true =>
          simp only [Bool.not_true, Bool.false_eq_true, if_false]
          obtain ⟨p, rfl⟩ : ∃ p, a = .int p := by
            cases a with
            | int p => exact ⟨p, rfl⟩
            | _ => cases ew
          simp only [oddB, Bool.and_eq_true, decide_eq_true_eq] at ok
          obtain ⟨_, _, p4, q4⟩ := ok
          refine ⟨by decide, _, _, _, rfl, ?_⟩
          walk_at "dl"
          by_cases q1 : 1 ≤ q
          · have e2 : whB 1 (10 ^ Int.toNat 60) (.int q) = true := by
              simp only [whB, en, Bool.and_eq_true, decide_eq_true_eq]
              omega
            rw [e2]
            simp only [Bool.not_true, Bool.false_eq_true, if_false]
            refine hN (hR _ ?_)
            have big := LM_big
            walk_at "dl"
            refine ⟨p, q, rfl, by omega, by omega, by omega, fun s r f e => ?_⟩
            walk_at "dl"
            have sh : ∀ u v : Int, SeqAt.shaped (.tuple [.int u, .int v]) = true := fun u v => by simp [SeqAt.shaped, PyData.canLay0, PyData.canLayAll0, PyData.depth, PyData.depthAll]
            refine ⟨sh _ _, sh _ _, ?_⟩
            have ee : (decide (s = p) && decide (r = q)) = isFr (.tuple [.int p, .int q]) := by
              simp only [isFr, show 0 < q by omega, decide_true, Bool.true_and]
              rw [← Bool.decide_and]
              refine decide_eq_decide.mpr ⟨fun z => ?_, fun z => ?_⟩
              · rw [← z.1, ← z.2]; exact f.low
              · exact f.one ⟨by omega, z⟩ (by rw [Int.mul_comm s q, e])
            rw [eqv2, ee]
            exact h
          · have e2 : whB 1 (10 ^ Int.toNat 60) (.int q) = false := by
              simp only [whB, Bool.and_eq_false_iff, decide_eq_false_iff_not]
              exact .inl q1
            rw [e2]
            simp only [Bool.not_false, if_true]
            exact nP (by simp [isFr]; omega)
      · have nf : isFr (.tuple [a, b]) = false := by
          cases b with
          | int q => exact absurd ⟨q, rfl⟩ ib
          | _ => cases a <;> rfl
        cases ew : whB (-10 ^ Int.toNat 60) (10 ^ Int.toNat 60) a with
        | false =>
          simp only [Bool.not_false, if_true]
          exact nP nf
        | true =>
          simp only [Bool.not_true, Bool.false_eq_true, if_false]
          refine ⟨by decide, _, _, _, rfl, ?_⟩
          walk_at "dl"
          have e2 : whB 1 (10 ^ Int.toNat 60) b = false := by
            cases b with
            | int q => exact absurd ⟨q, rfl⟩ ib
            | _ => rfl
          rw [e2]
          simp only [Bool.not_false, if_true]
          exact nP nf
  | _ => walk_at "dl"; exact no rfl
section
variable {ts : List Addr} {P : Program} {w : World} {K : PySem.W.Frag} {mg : Str → Option Value} {base : Heap}
theorem ok__law_is_fraction {f : Addr} {fd : FuncData} (Fn : L2.Fun K "_law_is_fraction" "_law_is_fraction" s__law_is_fraction f fd) {f__law_whole : Addr} (g__law_whole : Fg P w K mg base (L2.CX P w) 1 f__law_whole (Pm K ts sp__law_whole)) (m__law_whole : mg "_law_whole" = some (.ref f__law_whole)) (p__law_whole : PySem.W.keepIn K (.ref f__law_whole) = true) {f__law_low : Addr} (g__law_low : Fg P w K mg base (L2.CX P w) 1 f__law_low (Pm K ts sp__law_low)) (m__law_low : mg "_law_low" = some (.ref f__law_low)) (p__law_low : PySem.W.keepIn K (.ref f__law_low) = true) (z_isinstance : mg "isinstance" = none) (z_tuple : mg "tuple" = none) (z_len : mg "len" = none) : Fg P w K mg base (L2.CX P w) 2 f (Pm K ts sp__law_is_fraction) := d_def Fn sc__law_is_fraction (fun _ _ _ _ _ _ us hl => match us, hl with | [_], _ => rfl) sp__law_is_fraction rd__law_is_fraction (fun cdv A outer s H E wn hcd ht ag hr => by
  have S := sc__law_is_fraction
  have hu := hr.units
  exact (dss_cons (ds_if (dt_w (dw_or (dt_not (dt_e (d_callB (k_isi (n := "tuple") (by simp)) (by rfl) z_isinstance (by decide +kernel) (da_cons (d_var 0) (da_cons (d_ty (by rfl) z_tuple (by decide +kernel)) da_nil))))) (dw_or1 (dt_cmp (o_ne hu) (d_callB k_len (by rfl) z_len (by decide +kernel) (da_cons (d_var 0) da_nil)) d_int)))) (dss_one (ds_ret d_bl)) dss_nil)
    (dss_cons (ds_if (dt_w (dw_or (dt_not (dt_e (d_use g__law_whole ht ag (hr.mono (by decide)) passZ (by rfl) m__law_whole p__law_whole (da_cons (d_ix (d_var 0) d_int) (da_cons (d_neg (d_bin o_pow d_int d_int)) (da_cons (d_bin o_pow d_int d_int) da_nil)))))) (dw_or1 (dt_not (dt_e (d_use g__law_whole ht ag (hr.mono (by decide)) passZ (by rfl) m__law_whole p__law_whole (da_cons (d_ix (d_var 0) d_int) (da_cons d_int (da_cons (d_bin o_pow d_int d_int) da_nil))))))))) (dss_one (ds_ret d_bl)) dss_nil)
    (dss_one (ds_ret (d_cmp (o_eq hu) (d_use g__law_low ht ag (hr.mono (by decide)) passZ (by rfl) m__law_low p__law_low (da_cons (d_ix (d_var 0) d_int) (da_cons (d_ix (d_var 0) d_int) da_nil))) (d_var 0))))))) vc__law_is_fraction
end
/-! law -/
abbrev N_law : List Str := ["_law_script", "_law_bag_here", "_law_k", "_law_plain", "_law_top", "_law_some", "_law_odd_here", "_law_due"]
theorem sc_law : FnScope N_law ["_law_script"] (defScope s_law) := ⟨rfl, rfl, rfl, by decide +kernel, rfl, by decide +kernel, by decide +kernel⟩
def rd_law : DS := (tSeqD (tForD (gnD 2) (itR1 (tConsD (tBin gAdd (tCD (.int 1)) (tUse sp__law_take (tConsD (tVarD 1) (tConsD (tCD (.int 3)) tNilD)))) tNilD)) (tSeqD (tSetD 3 (tBin (gEqv id) (tUse sp__law_take (tConsD (tVarD 1) (tConsD (tCD (.int 3)) tNilD))) (tCD (.int 0))))
        (tSeqD (tSetD 4 (tUse sp__law_great (tConsD (tVarD 1) tNilD)))
        (tSeqD (tSetD 5 (tUse sp__law_low (tConsD (tVarD 4) (tConsD (tBin gAdd (tCD (.int 1)) (tBin gMul (tCallD cAbs (tConsD (tUse sp__law_great (tConsD (tVarD 1) tNilD)) tNilD)) (tCallD cInt (tConsD (tNoV (tVarD 3)) tNilD)))) tNilD))))
        (tSeqD (tSetD 6 (tUse sp__law_odd (tConsD (tVarD 1) tNilD)))
        (tSeqD (tIfD (tNotD (tTru (tUse sp__law_alike (tConsD (tUse sp__law_told (tConsD (tVarD 5) tNilD)) (tConsD (tTupD (tConsD (tCD (.str "told")) (tConsD (tUse sp__law_shown (tConsD (tVarD 5) tNilD)) tNilD))) tNilD))))) (tRetD (tCD (.bool false))) (fun d env => d.nx env))
        (tSeqD (tSetD 7 (tTupD (tConsD (tCD (.str "refused")) (tConsD (tCD (.int 0)) tNilD))))
        (tSeqD (fun d env => (tIfD (tTru (tUse sp__law_is_fraction (tConsD (tVarD 6) tNilD))) (tSetD 7 (tTupD (tConsD (tCD (.str "told")) (tConsD (tUse sp__law_shown (tConsD (tVarD 6) tNilD)) tNilD)))) (fun d env => d.nx env)) d (frzS 6 env))
        (fun d env => (tIfD (tNotD (tTru (tUse sp__law_alike (tConsD (tUse sp__law_told (tConsD (tUse (sp__law_copy 8) (tConsD (tVarD 6) tNilD)) tNilD)) (tConsD (tVarD 7) tNilD))))) (tRetD (tCD (.bool false))) (fun d env => d.nx env)) d (frzS 6 env))))))))))
    (tRetD (tCD (.bool true))))
inductive IsO : Sl → PyData → Prop
  | d {o : PyData} : IsO (.d o) o
  | ow {l : Addr} {xs : List PyData} : IsO (.ow l xs) (.list xs)
theorem st_cpR (o : PyData) (i : Nat) (env : List Sl) (k : List Sl → Prop) (h : ∀ s, IsO s o → k (env.set i s)) : stD i (cpR o) env k := by
  cases o with
  | list xs => exact fun l => h _ .ow
  | _ => exact h _ .d
theorem gnG {i : Nat} {x : PyData} {env : List Sl} {k : List Sl → Prop} (h : k (env.set i (.d x))) : gnD i x env k := h
theorem forG {g : DG} {it : DIt} {B : DS} {d : DK} {env : List Sl} (h : ∀ B', B' = B → tForD g it B' d env) : tForD g it B d env := h B rfl
theorem ref_ok : selfEq (.tuple [.str "refused", .int 0]) ∧ Sh (.tuple [.str "refused", .int 0]) := by
  have g : Gd 1 200 (.tuple [.str "refused", .int 0]) := (gd_tupL (gdl_cons ((gd_lit (z := "refused") (by decide +kernel) (by decide +kernel)).up (m := 0) (l := 82)) (gdl_cons ((gd_int (i := 0) (j := 2) (by decide)).up (m := 0) (l := 82)) gdl_nil)) (by simp)).up
  exact ⟨g.eq, g.sh⟩
theorem vc_law : rd_law { nx := fun _ => False, rt := fun dv => dv = .d (.bool true) } (.un :: .bag :: List.replicate 6 .un) := by
  unfold rd_law
  refine seqG fun R hR => ?_
  refine forG fun B hB => ?_
  walk_at "dl"
  refine ⟨3, rfl, by decide, by decide, fun n n0 n3 => ?_⟩
  walk_at "dl"
  refine ⟨⟨by omega, by omega⟩, ?_⟩
  refine forD_ind (fun zs env => ∃ s2 s3 s4 s5 s6 s7, env = [.un, .bag, s2, s3, s4, s5, s6, s7]) (fun env hI => ?_) (fun z0 zs env R2 hI hR2 => ?_) _ _ ⟨_, _, _, _, _, _, rfl⟩
  · obtain ⟨s2, s3, s4, s5, s6, s7, rfl⟩ := hI
    refine hR _ ?_
    walk_at "dl"
  · obtain ⟨s2, s3, s4, s5, s6, s7, rfl⟩ := hI
    subst hB
    refine gnG (seqG fun R hR => ?_)
    walk_at "dl"
    refine ⟨3, rfl, by decide, by decide, fun u u0 u3 => ?_⟩
    walk_at "dl"
    generalize decide (u = 0) = pl
    refine hR _ (seqG fun R hR => ?_)
    walk_at "dl"
    refine ⟨rfl, fun t ht => ?_⟩
    walk_at "dl"
    refine hR _ (seqG fun R hR => ?_)
    walk_at "dl"
    refine ⟨rfl, fun g hg => ?_⟩
    walk_at "dl"
    obtain ⟨k, ek, kk⟩ : ∃ k : Int, (if (!pl) = true then (1 : Int) else 0) = k ∧ (k = 0 ∨ k = 1) := by
      cases pl
      · exact ⟨1, rfl, .inr rfl⟩
      · exact ⟨0, rfl, .inl rfl⟩
    rw [ek]
    have lk : k.natAbs.log2 = 0 := by rcases kk with rfl | rfl <;> decide
    have lg := lm_l (n := ((g.natAbs : Nat) : Int).natAbs) (by rw [Int.natAbs_natCast]; omega)
    generalize eb : 1 + ((g.natAbs : Nat) : Int) * k = b
    have bb : 0 < b ∧ b.natAbs ≤ LM + 1 := by
      rcases kk with rfl | rfl
      · rw [Int.mul_zero] at eb; omega
      · rw [Int.mul_one] at eb; omega
    obtain ⟨b0, bm⟩ := bb
    clear eb ek kk
    refine ⟨by omega, t, b, rfl, b0, by omega, bm, fun s r f e => ?_⟩
    obtain ⟨f1, f2⟩ := frc_bd f b0 e
    have sm : s.natAbs ≤ LM + 1 := by omega
    have rm : r.natAbs ≤ LM + 1 := by omega
    clear f1 f2 e
    walk_at "dl"
    refine hR _ (seqG fun R hR => ?_)
    walk_at "dl"
    refine ⟨rfl, fun y hy => ?_⟩
    refine st_cpR y _ _ _ fun s6 hs6 => hR _ (seqG fun R hR => ?_)
    obtain ⟨te, ts⟩ := told_sh sm rm
    refine ifG fun P1 P2 hP hN => ?_
    walk_at "dl"
    refine ⟨_, rfl, .inr ⟨s, r, rfl, isFr_of f, sm, rm, ?_⟩⟩
    walk_at "dl"
    refine ⟨s, r, rfl, sm, rm, ?_⟩
    walk_at "dl"
    refine ⟨by decide, _, rfl, te, ts, ?_⟩
    walk_at "dl"
    refine hN (hR _ (seqG fun R hR => ?_))
    walk_at "dl"
    refine ⟨by decide, hR _ (seqG fun R hR => ?_)⟩
    have fz : ∀ v7, frzS 6 [.un, .bag, .d z0, .d (.bool pl), .d (.int t), .d (.tuple [.int s, .int r]), s6, v7] = [.un, .bag, .d z0, .d (.bool pl), .d (.int t), .d (.tuple [.int s, .int r]), .d y, v7] := fun v7 => by cases hs6 <;> rfl
    show tIfD _ _ _ _ (frzS 6 _)
    rw [fz]
    clear fz hs6 te ts
    have hy2 := hy
    simp only [oddB, Bool.and_eq_true, decide_eq_true_eq] at hy2
    obtain ⟨y1, y2, y3⟩ := hy2
    have last : ∀ v, v = .tuple [.str "refused", .int 0] ∧ isFr y = false ∨ (∃ p q, y = .tuple [.int p, .int q] ∧ isFr y = true ∧ p.natAbs ≤ LM + 1 ∧ q.natAbs ≤ LM + 1 ∧ v = .tuple [.str "told", .str (bfT p q)]) →
        R [.un, .bag, .d z0, .d (.bool pl), .d (.int t), .d (.tuple [.int s, .int r]), .d y, .d v] := fun v hv => hR _ (by
      show tIfD _ _ _ _ (frzS 6 _)
      refine ifG fun P1 P2 hP hN => ?_
      walk_at "dl"
      refine ⟨y, rfl, y2, y1, ?_⟩
      have no : P2 := hN (hR2 _ ⟨_, _, _, _, _, _, rfl⟩)
      obtain ⟨r1, r2⟩ := ref_ok
      clear hy y1 y2 y3 hN hP hR
      cases y <;> (
        walk_at "dl"
        refine ⟨_, rfl, ?_⟩
        rcases hv with ⟨rfl, e⟩ | ⟨p, q, ey, e, a, b, rfl⟩
        · refine .inl ⟨e, ?_⟩
          walk_at "dl"
          refine ⟨.inl rfl, _, rfl, r1, r2, ?_⟩
          walk_at "dl"
          exact no
        · refine .inr ⟨p, q, ey, e, a, b, ?_⟩
          obtain ⟨t1, t2⟩ := told_sh a b
          walk_at "dl"
          refine ⟨.inl rfl, _, rfl, t1, t2, ?_⟩
          walk_at "dl"
          exact no))
    refine ifG fun P1 P2 hP hN => ?_
    walk_at "dl"
    refine ⟨y, rfl, hy, ?_⟩
    walk_at "dl"
    cases hf : isFr y with
    | false =>
      simp only [Bool.false_eq_true, if_false]
      exact hN (last _ (.inl ⟨rfl, hf⟩))
    | true =>
      obtain ⟨p, q, rfl, _⟩ := of_isFr hf
      have big := LM_big
      simp only [Bool.and_eq_true, decide_eq_true_eq] at y3
      simp only [if_true]
      refine hP ?_
      walk_at "dl"
      refine ⟨p, q, rfl, by omega, by omega, ?_⟩
      walk_at "dl"
      exact ⟨by decide, last _ (.inr ⟨p, q, rfl, hf, by omega, by omega, rfl⟩)⟩
section
variable {ts : List Addr} {P : Program} {w : World} {K : PySem.W.Frag} {mg : Str → Option Value} {base : Heap}
theorem ok_law {f : Addr} {fd : FuncData} (Fn : L2.Fun K "law" "law" s_law f fd) {f__law_bag : Addr} (g__law_bag : Fg P w K mg base (L2.CX P w) 1 f__law_bag (spBag K)) (m__law_bag : mg "_law_bag" = some (.ref f__law_bag)) (p__law_bag : PySem.W.keepIn K (.ref f__law_bag) = true) {f__law_take : Addr} (g__law_take : Fg P w K mg base (L2.CX P w) 1 f__law_take (Pm K ts sp__law_take)) (m__law_take : mg "_law_take" = some (.ref f__law_take)) (p__law_take : PySem.W.keepIn K (.ref f__law_take) = true) {f__law_great : Addr} (g__law_great : Fg P w K mg base (L2.CX P w) 2 f__law_great (Pm K ts sp__law_great)) (m__law_great : mg "_law_great" = some (.ref f__law_great)) (p__law_great : PySem.W.keepIn K (.ref f__law_great) = true) {f__law_low : Addr} (g__law_low : Fg P w K mg base (L2.CX P w) 1 f__law_low (Pm K ts sp__law_low)) (m__law_low : mg "_law_low" = some (.ref f__law_low)) (p__law_low : PySem.W.keepIn K (.ref f__law_low) = true) {f__law_odd : Addr} (g__law_odd : Fg P w K mg base (L2.CX P w) 10 f__law_odd (Pm K ts sp__law_odd)) (m__law_odd : mg "_law_odd" = some (.ref f__law_odd)) (p__law_odd : PySem.W.keepIn K (.ref f__law_odd) = true) {f__law_alike : Addr} (g__law_alike : Fg P w K mg base (L2.CX P w) 1 f__law_alike (Pm K ts sp__law_alike)) (m__law_alike : mg "_law_alike" = some (.ref f__law_alike)) (p__law_alike : PySem.W.keepIn K (.ref f__law_alike) = true) {f__law_shown : Addr} (g__law_shown : Fg P w K mg base (L2.CX P w) 1 f__law_shown (Pm K ts sp__law_shown)) (m__law_shown : mg "_law_shown" = some (.ref f__law_shown)) (p__law_shown : PySem.W.keepIn K (.ref f__law_shown) = true) {f__law_told : Addr} (g__law_told : Fg P w K mg base (L2.CX P w) 5 f__law_told (Pm K ts sp__law_told)) (m__law_told : mg "_law_told" = some (.ref f__law_told)) (p__law_told : PySem.W.keepIn K (.ref f__law_told) = true) {f__law_is_fraction : Addr} (g__law_is_fraction : Fg P w K mg base (L2.CX P w) 2 f__law_is_fraction (Pm K ts sp__law_is_fraction)) (m__law_is_fraction : mg "_law_is_fraction" = some (.ref f__law_is_fraction)) (p__law_is_fraction : PySem.W.keepIn K (.ref f__law_is_fraction) = true) {f__law_copy : Addr} (g__law_copy : Fg P w K mg base (L2.CX P w) 9 f__law_copy (Pm K ts (sp__law_copy 8))) (m__law_copy : mg "_law_copy" = some (.ref f__law_copy)) (p__law_copy : PySem.W.keepIn K (.ref f__law_copy) = true) (z_range : mg "range" = none) (z_abs : mg "abs" = none) (z_int : mg "int" = none) : Fg P w K mg base (L2.CX P w) 11 f (spLaw K ts) := law_ok (z1 := "_law_bag_here") (n := 6) Fn sc_law rfl (fun _ _ _ _ _ _ us hl => match us, hl with | [_], _ => rfl) rd_law (fun cdv A outer s H E ag hr => by
  have S := sc_law
  have hu := hr.units
  exact pss_cons (ps_set (i := 1) S.nd rfl (by first | exact Or.inl rfl | exact Or.inr rfl) (g_call g__law_bag ag (hr.mono (by decide)) passZ (by rfl) m__law_bag p__law_bag (pa_cons (pv 0) pa_nil)))
    (pss_any fun wn ht => (dss_cons (ds_for PassesOwn.never rfl (di_r1 (by rfl) z_range (da_cons (d_bin o_add d_int (d_use g__law_take ht ag (hr.mono (by decide)) passZ (by rfl) m__law_take p__law_take (da_cons (d_var 1) (da_cons d_int da_nil)))) da_nil)) (dg_name (i := 2) S.nd rfl (by first | exact Or.inl rfl | exact Or.inr rfl)) (dss_cons (ds_set (i := 3) S.nd rfl (by first | exact Or.inl rfl | exact Or.inr rfl) (d_cmp (o_eq hu) (d_use g__law_take ht ag (hr.mono (by decide)) passZ (by rfl) m__law_take p__law_take (da_cons (d_var 1) (da_cons d_int da_nil))) d_int))
        (dss_cons (ds_set (i := 4) S.nd rfl (by first | exact Or.inl rfl | exact Or.inr rfl) (d_use g__law_great ht ag (hr.mono (by decide)) passZ (by rfl) m__law_great p__law_great (da_cons (d_var 1) da_nil)))
        (dss_cons (ds_set (i := 5) S.nd rfl (by first | exact Or.inl rfl | exact Or.inr rfl) (d_use g__law_low ht ag (hr.mono (by decide)) passZ (by rfl) m__law_low p__law_low (da_cons (d_var 4) (da_cons (d_bin o_add d_int (d_bin o_mul (d_callB k_abs (by rfl) z_abs (by decide +kernel) (da_cons (d_use g__law_great ht ag (hr.mono (by decide)) passZ (by rfl) m__law_great p__law_great (da_cons (d_var 1) da_nil)) da_nil)) (d_callTy k_int (by rfl) z_int (by decide +kernel) (da_cons (d_not (d_var 3)) da_nil)))) da_nil))))
        (dss_cons (ds_set (i := 6) S.nd rfl (by first | exact Or.inl rfl | exact Or.inr rfl) (d_use g__law_odd ht ag (hr.mono (by decide)) passZ (by rfl) m__law_odd p__law_odd (da_cons (d_var 1) da_nil)))
        (dss_cons (ds_if (dt_not (dt_e (d_use g__law_alike ht ag (hr.mono (by decide)) passZ (by rfl) m__law_alike p__law_alike (da_cons (d_use g__law_told ht ag (hr.mono (by decide)) passZ (by rfl) m__law_told p__law_told (da_cons (d_var 5) da_nil)) (da_cons (d_tup (da_cons d_str (da_cons (d_use g__law_shown ht ag (hr.mono (by decide)) passZ (by rfl) m__law_shown p__law_shown (da_cons (d_var 5) da_nil)) da_nil))) da_nil))))) (dss_one (ds_ret d_bl)) dss_nil)
        (dss_cons (ds_set (i := 7) S.nd rfl (by first | exact Or.inl rfl | exact Or.inr rfl) (d_tup (da_cons d_str (da_cons d_int da_nil))))
        (dss_cons (ds_frz 6 (ds_if (dt_e (d_use g__law_is_fraction ht ag (hr.mono (by decide)) passZ (by rfl) m__law_is_fraction p__law_is_fraction (da_cons (d_var 6) da_nil))) (dss_one (ds_set (i := 7) S.nd rfl (by first | exact Or.inl rfl | exact Or.inr rfl) (d_tup (da_cons d_str (da_cons (d_use g__law_shown ht ag (hr.mono (by decide)) passZ (by rfl) m__law_shown p__law_shown (da_cons (d_var 6) da_nil)) da_nil))))) dss_nil))
        (dss_one (ds_frz 6 (ds_if (dt_not (dt_e (d_use g__law_alike ht ag (hr.mono (by decide)) passZ (by rfl) m__law_alike p__law_alike (da_cons (d_use g__law_told ht ag (hr.mono (by decide)) passZ (by rfl) m__law_told p__law_told (da_cons (d_use g__law_copy ht ag (hr.mono (by decide)) passZ (by rfl) m__law_copy p__law_copy (da_cons (d_var 6) da_nil)) da_nil)) (da_cons (d_var 7) da_nil))))) (dss_one (ds_ret d_bl)) dss_nil)))))))))))
    (dss_one (ds_ret d_bl))))) vc_law
end
theorem scI_Wrong : FnScope ["self", "at"] ["self", "at"] (defScope sI_Wrong) := ⟨rfl, rfl, rfl, by decide +kernel, rfl, by decide +kernel, by decide +kernel⟩
/-! what the top has left -/
theorem all_mk {q : Program} {lo : List Str} {mean : ExcName → Option Value} {mb : Str → Option Value} {w : World} {K : PySem.W.Frag} {h : Heap} {mg : Str → Option Value} {fa0 : Addr} (X : K.In h) (T : PyProof.Rows.Top q lo mean mg mb h) (hfa : mg "law" = some (.ref fa0)) (c : He.SaysX fa fn tb tf ex w h K) :
  ∃ cs : List (Addr × Addr), K.In h ∧ Tabs K h cs ∧ ∀ base : Heap, K.In base → base.Ns mainGlobals mg → (∀ p ∈ cs, GxR.TabB base mg p.1 p.2) → Fg PySem.Challenge.rw_truechain_k38_fractions_written.prog w K mg base (L2.CX PySem.Challenge.rw_truechain_k38_fractions_written.prog w) 11 fa0 (spLaw K (cs.map Prod.snd)) := by
  have G := T.g
  refine ⟨tf.map (He.cT K), X, tabsX X c, fun base _ _ tb => ?_⟩
  obtain ⟨fd__law_bag, F__law_bag⟩ := c.t.d.def_ 0 (d := d__law_bag) rfl
  have m__law_bag := He.glo_ok X G (c.t.d.fact 0 (f := .glo "_law_bag") rfl)
  have p__law_bag := F__law_bag.kp
  obtain ⟨fd__law_take, F__law_take⟩ := c.t.d.def_ 1 (d := d__law_take) rfl
  have m__law_take := He.glo_ok X G (c.t.d.fact 1 (f := .glo "_law_take") rfl)
  have p__law_take := F__law_take.kp
  obtain ⟨fd__law_great, F__law_great⟩ := c.t.d.def_ 2 (d := d__law_great) rfl
  have m__law_great := He.glo_ok X G (c.t.d.fact 2 (f := .glo "_law_great") rfl)
  have p__law_great := F__law_great.kp
  obtain ⟨fd__law_low, F__law_low⟩ := c.t.d.def_ 3 (d := d__law_low) rfl
  have m__law_low := He.glo_ok X G (c.t.d.fact 3 (f := .glo "_law_low") rfl)
  have p__law_low := F__law_low.kp
  obtain ⟨fd__law_copy, F__law_copy⟩ := c.t.d.def_ 4 (d := d__law_copy) rfl
  have m__law_copy := He.glo_ok X G (c.t.d.fact 4 (f := .glo "_law_copy") rfl)
  have p__law_copy := F__law_copy.kp
  obtain ⟨fd__law_odd, F__law_odd⟩ := c.t.d.def_ 5 (d := d__law_odd) rfl
  have m__law_odd := He.glo_ok X G (c.t.d.fact 5 (f := .glo "_law_odd") rfl)
  have p__law_odd := F__law_odd.kp
  obtain ⟨fd__law_alike, F__law_alike⟩ := c.t.d.def_ 6 (d := d__law_alike) rfl
  have m__law_alike := He.glo_ok X G (c.t.d.fact 6 (f := .glo "_law_alike") rfl)
  have p__law_alike := F__law_alike.kp
  obtain ⟨fd__law_shown, F__law_shown⟩ := c.t.d.def_ 7 (d := d__law_shown) rfl
  have m__law_shown := He.glo_ok X G (c.t.d.fact 7 (f := .glo "_law_shown") rfl)
  have p__law_shown := F__law_shown.kp
  obtain ⟨fd_require, F_require⟩ := c.t.d.def_ 8 (d := d_require) rfl
  have m_require := He.glo_ok X G (c.t.d.fact 8 (f := .glo "require") rfl)
  have p_require := F_require.kp
  obtain ⟨fd_is_whole, F_is_whole⟩ := c.t.d.def_ 9 (d := d_is_whole) rfl
  have m_is_whole := He.glo_ok X G (c.t.d.fact 9 (f := .glo "is_whole") rfl)
  have p_is_whole := F_is_whole.kp
  obtain ⟨fd_is_fraction, F_is_fraction⟩ := c.t.d.def_ 10 (d := d_is_fraction) rfl
  have m_is_fraction := He.glo_ok X G (c.t.d.fact 10 (f := .glo "is_fraction") rfl)
  have p_is_fraction := F_is_fraction.kp
  obtain ⟨fd_show_fraction, F_show_fraction⟩ := c.t.d.def_ 11 (d := d_show_fraction) rfl
  have m_show_fraction := He.glo_ok X G (c.t.d.fact 11 (f := .glo "show_fraction") rfl)
  have p_show_fraction := F_show_fraction.kp
  obtain ⟨fd__law_told, F__law_told⟩ := c.t.d.def_ 12 (d := d__law_told) rfl
  have m__law_told := He.glo_ok X G (c.t.d.fact 12 (f := .glo "_law_told") rfl)
  have p__law_told := F__law_told.kp
  obtain ⟨fd__law_whole, F__law_whole⟩ := c.t.d.def_ 13 (d := d__law_whole) rfl
  have m__law_whole := He.glo_ok X G (c.t.d.fact 13 (f := .glo "_law_whole") rfl)
  have p__law_whole := F__law_whole.kp
  obtain ⟨fd__law_is_fraction, F__law_is_fraction⟩ := c.t.d.def_ 14 (d := d__law_is_fraction) rfl
  have m__law_is_fraction := He.glo_ok X G (c.t.d.fact 14 (f := .glo "_law_is_fraction") rfl)
  have p__law_is_fraction := F__law_is_fraction.kp
  obtain ⟨fd_law, F_law⟩ := c.t.d.def_ 15 (d := d_law) rfl
  have m_law := He.glo_ok X G (c.t.d.fact 15 (f := .glo "law") rfl)
  have p_law := F_law.kp
  have e := hfa.symm.trans m_law
  cases e
  have z_abs := He.free_ok X G (c.t.d.fact 16 (f := .free "abs") rfl)
  have z_len := He.free_ok X G (c.t.d.fact 17 (f := .free "len") rfl)
  have z_int := He.free_ok X G (c.t.d.fact 18 (f := .free "int") rfl)
  have nd_dg : NoDg K := (He.eqO_ok (exsAt (K := K) c.more 0 (b := fun K => He.eqO (PySem.W.nsIn K cStatics "sys.int_max_str_digits") (some none)) rfl))
  have z_isinstance := He.free_ok X G (c.t.d.fact 19 (f := .free "isinstance") rfl)
  have z_list := He.free_ok X G (c.t.d.fact 20 (f := .free "list") rfl)
  have z_tuple := He.free_ok X G (c.t.d.fact 21 (f := .free "tuple") rfl)
  have z_repr := He.free_ok X G (c.t.d.fact 22 (f := .free "repr") rfl)
  have z_str := He.free_ok X G (c.t.d.fact 23 (f := .free "str") rfl)
  have z_enumerate := He.free_ok X G (c.t.d.fact 24 (f := .free "enumerate") rfl)
  have m_Wrong := He.glo_ok X G (c.t.d.fact 25 (f := .glo "Wrong") rfl)
  have z_bool := He.free_ok X G (c.t.d.fact 26 (f := .free "bool") rfl)
  have i_gcd := PySem.W.mg_of X G (He.eqO_ok (exsAt (K := K) c.more 1 (b := fun K => He.eqO (PySem.W.nsIn K mainGlobals "gcd") (some (some (.builtin "math.gcd")))) rfl))
  have em_Wrong_Wrong := He.exm_ok (c.t.d.fact 27 (f := .exm "Wrong" "Wrong" true) rfl)
  have ex_Wrong : ExcC K (He.ga K "Wrong") := ⟨(He.eqO_ok (exsAt (K := K) c.more 2 (b := fun K => He.eqO (PySem.W.findIn K (.ref (He.ga K "Wrong")) "__getattribute__") (some (some (.builtin "BaseException.__getattribute__")))) rfl)), (He.eqO_ok (exsAt (K := K) c.more 3 (b := fun K => He.eqO (PySem.W.findIn K (.ref (He.ga K "Wrong")) "__getattr__") (some none)) rfl)), (of_decide_eq_true (exsAt (K := K) c.more 4 (b := fun K => decide (PySem.W.subIn K (.ref (He.ga K "Wrong")) (.type "BaseException") = some true)) rfl)), (of_decide_eq_true (exsAt (K := K) c.more 5 (b := fun K => decide (PySem.W.hasDictIn K (He.ga K "Wrong") = true)) rfl)), (He.eqO_ok (exsAt (K := K) c.more 6 (b := fun K => He.eqO (PySem.W.findIn K (.ref (He.ga K "Wrong")) "__class__") (some (some (.builtin "object.__class__")))) rfl)), (He.eqO_ok (exsAt (K := K) c.more 7 (b := fun K => He.eqO (PySem.W.specialIn K (.builtin "object.__class__") "__get__") (some (some (.builtin "getset_descriptor.__get__")))) rfl)), (of_decide_eq_true (exsAt (K := K) c.more 8 (b := fun K => decide (PySem.W.takesIn K (.builtin "object.__class__") = some true)) rfl)), (of_decide_eq_true (exsAt (K := K) c.more 9 (b := fun K => decide (PySem.W.mroIn K (He.ga K "Wrong") (.type "object") = some true)) rfl))⟩
  have xf_Wrong : XfC K (He.ga K "Wrong") := ⟨(He.eqO_ok (exsAt (K := K) c.more 2 (b := fun K => He.eqO (PySem.W.findIn K (.ref (He.ga K "Wrong")) "__getattribute__") (some (some (.builtin "BaseException.__getattribute__")))) rfl)), (He.eqO_ok (exsAt (K := K) c.more 3 (b := fun K => He.eqO (PySem.W.findIn K (.ref (He.ga K "Wrong")) "__getattr__") (some none)) rfl)), (of_decide_eq_true (exsAt (K := K) c.more 4 (b := fun K => decide (PySem.W.subIn K (.ref (He.ga K "Wrong")) (.type "BaseException") = some true)) rfl)), (of_decide_eq_true (exsAt (K := K) c.more 5 (b := fun K => decide (PySem.W.hasDictIn K (He.ga K "Wrong") = true)) rfl))⟩
  have nf_Wrong := (He.eqO_ok (exsAt (K := K) c.more 10 (b := fun K => He.eqO (PySem.W.findIn K (.ref (He.ga K "Wrong")) "at") (some none)) rfl))
  have z_range := He.free_ok X G (c.t.d.fact 28 (f := .free "range") rfl)
  have T_Wrong := oexB_ok (exsAt (K := K) c.more 11 (b := fun K => oexB K (He.ga K "Wrong")) rfl) (He.eqO_ok (exsAt (K := K) c.more 12 (b := fun K => He.eqO (PySem.W.findIn K (.ref (He.ga K "Wrong")) "__setattr__") (some (some (.builtin "object.__setattr__")))) rfl)) (of_decide_eq_true (exsAt (K := K) c.more 4 (b := fun K => decide (PySem.W.subIn K (.ref (He.ga K "Wrong")) (.type "BaseException") = some true)) rfl)) (of_decide_eq_true (exsAt (K := K) c.more 13 (b := fun K => decide (PySem.W.typeIn K (.ref (He.ga K "Wrong")) = some (.type "type"))) rfl)) (exsAt (K := K) c.more 14 (b := fun K => PySem.W.keepIn K (.ref (He.ga K "Wrong"))) rfl)
  have ic_Wrong := (He.eqO_ok (exsAt (K := K) c.more 15 (b := fun K => He.eqO (PySem.W.findIn K (.ref (He.ga K "Wrong")) "__init__") (some (some (.ref (He.ma K (He.ga K "Wrong") "__init__"))))) rfl))
  have ti_Wrong := (of_decide_eq_true (exsAt (K := K) c.more 16 (b := fun K => decide (PySem.W.typeIn K (.ref (He.ma K (He.ga K "Wrong") "__init__")) = some (.type "function"))) rfl))
  obtain ⟨fdI_Wrong, FI_Wrong⟩ := c.t.d.def_ 16 (d := dI_Wrong) rfl
  have F1_Wrong := fun_ofD (st := sI_Wrong) FI_Wrong
  have i1_Wrong := ini_ok (P := PySem.Challenge.rw_truechain_k38_fractions_written.prog) (w := w) (mg := mg) (base := base) (n := "at") F1_Wrong scI_Wrong T_Wrong (He.eqO_ok (exsAt (K := K) c.more 10 (b := fun K => He.eqO (PySem.W.findIn K (.ref (He.ga K "Wrong")) "at") (some none)) rfl)) (by decide) (by decide) (by decide) (by first | exact Or.inl rfl | exact Or.inr (Or.inl rfl)) (by first | exact Or.inl rfl | exact Or.inr (Or.inl rfl)) rfl
  have hb_Wrong := F1_Wrong.binds (ps := ["self", "at"]) fun _ _ _ _ _ _ us hl => match us, hl with | [_, _], _ => rfl
  have g__law_bag := ok__law_bag (P := PySem.Challenge.rw_truechain_k38_fractions_written.prog) (w := w) (mg := mg) (base := base) (fun_ofD (st := s__law_bag) F__law_bag) (z_abs := z_abs)
  have g__law_take := ok__law_take (ts := (tf.map (He.cT K)).map Prod.snd) (P := PySem.Challenge.rw_truechain_k38_fractions_written.prog) (w := w) (mg := mg) (base := base) (fun_ofD (st := s__law_take) F__law_take) (z_len := z_len)
  have g__law_great := ok__law_great (ts := (tf.map (He.cT K)).map Prod.snd) (P := PySem.Challenge.rw_truechain_k38_fractions_written.prog) (w := w) (mg := mg) (base := base) (fun_ofD (st := s__law_great) F__law_great) (nd_dg := nd_dg) (g__law_take := g__law_take) (m__law_take := m__law_take) (p__law_take := p__law_take) (z_int := z_int)
  have g__law_low := ok__law_low (ts := (tf.map (He.cT K)).map Prod.snd) (P := PySem.Challenge.rw_truechain_k38_fractions_written.prog) (w := w) (mg := mg) (base := base) (fun_ofD (st := s__law_low) F__law_low) (z_abs := z_abs)
  have g__law_copy := ok__law_copy (ts := (tf.map (He.cT K)).map Prod.snd) (P := PySem.Challenge.rw_truechain_k38_fractions_written.prog) (w := w) (mg := mg) (base := base) (fun_ofD (st := s__law_copy) F__law_copy) (m__law_copy := m__law_copy) (p__law_copy := p__law_copy) (z_isinstance := z_isinstance) (z_list := z_list) (z_tuple := z_tuple) 8
  have g__law_odd := ok__law_odd (ts := (tf.map (He.cT K)).map Prod.snd) (P := PySem.Challenge.rw_truechain_k38_fractions_written.prog) (w := w) (mg := mg) (base := base) (fun_ofD (st := s__law_odd) F__law_odd) (g__law_copy := g__law_copy) (m__law_copy := m__law_copy) (p__law_copy := p__law_copy) (g__law_take := g__law_take) (m__law_take := m__law_take) (p__law_take := p__law_take) (z_len := z_len)
  have g__law_alike := ok__law_alike (ts := (tf.map (He.cT K)).map Prod.snd) (P := PySem.Challenge.rw_truechain_k38_fractions_written.prog) (w := w) (mg := mg) (base := base) (fun_ofD (st := s__law_alike) F__law_alike) (z_repr := z_repr)
  have g__law_shown := ok__law_shown (ts := (tf.map (He.cT K)).map Prod.snd) (P := PySem.Challenge.rw_truechain_k38_fractions_written.prog) (w := w) (mg := mg) (base := base) (fun_ofD (st := s__law_shown) F__law_shown) (nd_dg := nd_dg) (z_str := z_str)
  have g_require := ok_require (ts := (tf.map (He.cT K)).map Prod.snd) (P := PySem.Challenge.rw_truechain_k38_fractions_written.prog) (w := w) (mg := mg) (base := base) (fun_ofD (st := s_require) F_require) (z_enumerate := z_enumerate) (T_Wrong := T_Wrong) (ic_Wrong := ic_Wrong) (ti_Wrong := ti_Wrong) (i1_Wrong := i1_Wrong) (hb_Wrong := hb_Wrong) (m_Wrong := m_Wrong)
  have g_is_whole := ok_is_whole (ts := (tf.map (He.cT K)).map Prod.snd) (P := PySem.Challenge.rw_truechain_k38_fractions_written.prog) (w := w) (mg := mg) (base := base) (fun_ofD (st := s_is_whole) F_is_whole) (z_isinstance := z_isinstance) (z_int := z_int) (z_bool := z_bool)
  have g_is_fraction := ok_is_fraction (ts := (tf.map (He.cT K)).map Prod.snd) (P := PySem.Challenge.rw_truechain_k38_fractions_written.prog) (w := w) (mg := mg) (base := base) (fun_ofD (st := s_is_fraction) F_is_fraction) (g_is_whole := g_is_whole) (m_is_whole := m_is_whole) (p_is_whole := p_is_whole) (z_isinstance := z_isinstance) (z_tuple := z_tuple) (z_len := z_len) (i_gcd := i_gcd)
  have g_show_fraction := ok_show_fraction (ts := (tf.map (He.cT K)).map Prod.snd) (P := PySem.Challenge.rw_truechain_k38_fractions_written.prog) (w := w) (mg := mg) (base := base) (fun_ofD (st := s_show_fraction) F_show_fraction) (nd_dg := nd_dg) (g_require := g_require) (m_require := m_require) (p_require := p_require) (g_is_fraction := g_is_fraction) (m_is_fraction := m_is_fraction) (p_is_fraction := p_is_fraction) (z_str := z_str)
  have g__law_told := ok__law_told (ts := (tf.map (He.cT K)).map Prod.snd) (P := PySem.Challenge.rw_truechain_k38_fractions_written.prog) (w := w) (mg := mg) (base := base) (fun_ofD (st := s__law_told) F__law_told) (m_Wrong := m_Wrong) (em_Wrong_Wrong := em_Wrong_Wrong) (ex_Wrong := ex_Wrong) (xf_Wrong := xf_Wrong) (nf_Wrong := nf_Wrong) (g_show_fraction := g_show_fraction) (m_show_fraction := m_show_fraction) (p_show_fraction := p_show_fraction)
  have g__law_whole := ok__law_whole (ts := (tf.map (He.cT K)).map Prod.snd) (P := PySem.Challenge.rw_truechain_k38_fractions_written.prog) (w := w) (mg := mg) (base := base) (fun_ofD (st := s__law_whole) F__law_whole) (z_isinstance := z_isinstance) (z_int := z_int) (z_bool := z_bool)
  have g__law_is_fraction := ok__law_is_fraction (ts := (tf.map (He.cT K)).map Prod.snd) (P := PySem.Challenge.rw_truechain_k38_fractions_written.prog) (w := w) (mg := mg) (base := base) (fun_ofD (st := s__law_is_fraction) F__law_is_fraction) (g__law_whole := g__law_whole) (m__law_whole := m__law_whole) (p__law_whole := p__law_whole) (g__law_low := g__law_low) (m__law_low := m__law_low) (p__law_low := p__law_low) (z_isinstance := z_isinstance) (z_tuple := z_tuple) (z_len := z_len)
  have g_law := ok_law (ts := (tf.map (He.cT K)).map Prod.snd) (P := PySem.Challenge.rw_truechain_k38_fractions_written.prog) (w := w) (mg := mg) (base := base) (fun_ofD (st := s_law) F_law) (g__law_bag := g__law_bag) (m__law_bag := m__law_bag) (p__law_bag := p__law_bag) (g__law_take := g__law_take) (m__law_take := m__law_take) (p__law_take := p__law_take) (g__law_great := g__law_great) (m__law_great := m__law_great) (p__law_great := p__law_great) (g__law_low := g__law_low) (m__law_low := m__law_low) (p__law_low := p__law_low) (g__law_odd := g__law_odd) (m__law_odd := m__law_odd) (p__law_odd := p__law_odd) (g__law_alike := g__law_alike) (m__law_alike := m__law_alike) (p__law_alike := p__law_alike) (g__law_shown := g__law_shown) (m__law_shown := m__law_shown) (p__law_shown := p__law_shown) (g__law_told := g__law_told) (m__law_told := m__law_told) (p__law_told := p__law_told) (g__law_is_fraction := g__law_is_fraction) (m__law_is_fraction := m__law_is_fraction) (p__law_is_fraction := p__law_is_fraction) (g__law_copy := g__law_copy) (m__law_copy := m__law_copy) (p__law_copy := p__law_copy) (z_range := z_range) (z_abs := z_abs) (z_int := z_int)
  exact g_law
end Lk
open PySem PySem.W PyProof.Rows
set_option maxHeartbeats 0 in
theorem PySem.Challenge.cw_truechain_k38_fractions_written_holds : PySem.Challenge.rw_truechain_k38_fractions_written.Holds := by
  refine Lk.hd ?_
  refine Dl.law_endX (l := PySem.Challenge.rw_truechain_k38_fractions_written) (k := 11) (sp := fun K ts => Dl.spLaw K ts) rfl rfl ⟨rfl, by decide, by decide⟩ rfl (fun w mg mb lo mean fa h Y T hmg => ?F) (fun K H a ns ts hl ht hS => ⟨ht, a, ns, rfl, hS, hl, fun _ => rfl⟩)
  obtain ⟨K, KX, c⟩ := Y
  exact ⟨K, Lk.all_mk KX T hmg c⟩
