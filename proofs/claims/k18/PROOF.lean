import PyProof.Rows.All
import Wide.All
import OpenK.AllK
import Wide.FinOn
import HandS.ForMost
import HandS.Flow
import HandS.Wide
import HandS.WideBits
import HandS.Gcd
import HandS.IsInst
import HandS.Call
import HandS.SortInts
import HandS.Walk
import HandS.Star
import PyProof.ReprRoads
import HandS.AnyAll
import HandS.EndBits
import HandS.Exc
import HandS.Text
import KE.GoesEnum
import HandS.RaiseMore
import HandS.Comp
import HandS.Style
import PyProof.P3Eq
import HandS.Deep
import HandS.More
import HandS.TupAny
import HandS.ExcOwn
import HandS.ExcInit
import HandS.WordsExc
import HandS.ExcField
import HandS.ExcIs
import KE.KExcIs
import HandS.TryOnly
import PySem.Challenge.RW_truechain_k18_fractions_refused
set_option Elab.async false
set_option linter.all false
set_option maxRecDepth 100000
set_option exponentiation.threshold 100000
/-! the data layer: values as trees, heaps out of sight -/
namespace Dl
open PySem PySem.Spec PyProof.Rows L2 GxR
/-- what is asked of a class whose objects are held as data -/
structure ObC (K : PySem.W.Frag) (c : Str) (C : Addr) : Prop where
  name : PySem.W.nsIn K mainGlobals c = some (some (.ref C))
  cls : Cls K C
  ha : PySem.W.findIn K (.ref C) "__class__" = some (some (.builtin "object.__class__"))
  hn : PySem.W.specialIn K (.builtin "object.__class__") "__get__" = some (some (.builtin "getset_descriptor.__get__"))
  ht : PySem.W.takesIn K (.builtin "object.__class__") = some true
  hm : PySem.W.mroIn K C (.type "object") = some true
  kit : ∀ n, (n = "int" ∨ n = "bool" ∨ n = "str" ∨ n = "list" ∨ n = "tuple" ∨ n = "dict") → PySem.W.kitOne K (.ref C) (.type n) = some false
/-- an object of a class of the module as data: its class by its name, its fields -/
def obD (c : Str) (ns : List Str) (xs : List PyData) : PyData := .dict ((.none, .str c) :: (ns.map PyData.str).zip xs)
mutual
inductive Rp (K : PySem.W.Frag) (F : Hp) : V → PyData → Prop
  | non : Rp K F .non .none
  | bl (b : Bool) : Rp K F (.bl b) (.bool b)
  | int (i : Int) : Rp K F (.int i) (.int i)
  | str (x : Str) : Rp K F (.str x) (.str x)
  | lst {a : Addr} {vs : List V} {xs : List PyData} (h : F a = some (.lst vs)) (r : RpA K F vs xs) : Rp K F (.ref a) (.list xs)
  | tup {a : Addr} {vs : List V} {xs : List PyData} (h : SqT K F a vs) (r : RpA K F vs xs) : Rp K F (.ref a) (.tuple xs)
  | dct {a : Addr} {kvs : List (Key × V)} {ks xs : List PyData} (h : F a = some (.dK kvs)) (r : RpA K F (kvs.map fun p => kV p.1) ks) (q : RpA K F (kvs.map Prod.snd) xs) : Rp K F (.ref a) (.dict (ks.zip xs))
  | obj {a C dx : Addr} {fs : List (Str × V)} {c : Str} {ns : List Str} {vs : List V} {xs : List PyData} (h : F a = some (.ins C dx fs)) (hc : ObC K c C) (hn : ns.map (fun n => fs.lookup n) = vs.map some) (ho : ∀ n, n ∉ ns → fs.lookup n = none) (r : RpA K F vs xs) : Rp K F (.ref a) (obD c ns xs)
inductive RpA (K : PySem.W.Frag) (F : Hp) : List V → List PyData → Prop
  | nil : RpA K F [] []
  | cons {v : V} {vs : List V} {x : PyData} {xs : List PyData} (h : Rp K F v x) (t : RpA K F vs xs) : RpA K F (v :: vs) (x :: xs)
end
section
variable {K : PySem.W.Frag} {F F' : Hp}
theorem sq_up {a : Addr} {vs : List V} (e : Same F F') (h : SqL K F a vs) : SqL K F' a vs := e.seq h
theorem sqt_up {a : Addr} {vs : List V} (e : Same F F') (h : SqT K F a vs) : SqT K F' a vs := by
  rcases h with (h | ⟨o, h⟩) | h
  · exact .inl (.inl (e _ _ h))
  · exact .inl (.inr ⟨o, e _ _ h⟩)
  · exact .inr h
mutual
theorem Rp.up (e : Same F F') : ∀ {v : V} {x : PyData}, Rp K F v x → Rp K F' v x
  | _, _, .non => .non
  | _, _, .bl b => .bl b
  | _, _, .int b => .int b
  | _, _, .str b => .str b
  | _, _, .lst h r => .lst (e _ _ h) (RpA.up e r)
  | _, _, .tup h r => .tup (sqt_up e h) (RpA.up e r)
  | _, _, .dct h r q => .dct (e _ _ h) (RpA.up e r) (RpA.up e q)
  | _, _, .obj h hc hn ho r => .obj (e _ _ h) hc hn ho (RpA.up e r)
theorem RpA.up (e : Same F F') : ∀ {v : List V} {x : List PyData}, RpA K F v x → RpA K F' v x
  | _, _, .nil => .nil
  | _, _, .cons h t => .cons (Rp.up e h) (RpA.up e t)
end
theorem RpA.len : ∀ {vs : List V} {xs : List PyData}, RpA K F vs xs → vs.length = xs.length
  | _, _, .nil => rfl
  | _, _, .cons _ t => congrArg (· + 1) (RpA.len t)
theorem RpA.app : ∀ {vs ws : List V} {xs ys : List PyData}, RpA K F vs xs → RpA K F ws ys → RpA K F (vs ++ ws) (xs ++ ys)
  | _, _, _, _, .nil, q => q
  | _, _, _, _, .cons h t, q => .cons h (RpA.app t q)
theorem RpA.get : ∀ {vs : List V} {xs : List PyData} {i : Nat} {x : PyData}, RpA K F vs xs → xs[i]? = some x → ∃ v, vs[i]? = some v ∧ Rp K F v x
  | _, _, _, _, .nil, e => by simp at e
  | _, _, 0, _, .cons h _, e => by simp at e; subst e; exact ⟨_, rfl, h⟩
  | _, _, i + 1, x, .cons _ t, e => by
    obtain ⟨v, h1, h2⟩ := RpA.get (i := i) (x := x) t (by simpa using e)
    exact ⟨v, by simpa using h1, h2⟩
theorem RpA.getV : ∀ {vs : List V} {xs : List PyData} {i : Nat} {v : V}, RpA K F vs xs → vs[i]? = some v → ∃ x, xs[i]? = some x ∧ Rp K F v x
  | _, _, _, _, .nil, e => by simp at e
  | _, _, 0, _, .cons h _, e => by simp at e; subst e; exact ⟨_, rfl, h⟩
  | _, _, i + 1, x, .cons _ t, e => by
    obtain ⟨v, h1, h2⟩ := RpA.getV (i := i) (v := x) t (by simpa using e)
    exact ⟨v, by simpa using h1, h2⟩
theorem RpA.set {v : V} {x : PyData} (h : Rp K F v x) : ∀ {vs : List V} {xs : List PyData} (i : Nat), RpA K F vs xs → RpA K F (vs.set i v) (xs.set i x)
  | _, _, _, .nil => .nil
  | _, _, 0, .cons _ t => .cons h t
  | _, _, i + 1, .cons q t => .cons q (RpA.set h i t)
theorem RpA.take : ∀ {vs : List V} {xs : List PyData} (n : Nat), RpA K F vs xs → RpA K F (vs.take n) (xs.take n)
  | _, _, 0, _ => .nil
  | _, _, _ + 1, .nil => .nil
  | _, _, n + 1, .cons h t => .cons h (RpA.take n t)
theorem RpA.drop : ∀ {vs : List V} {xs : List PyData} (n : Nat), RpA K F vs xs → RpA K F (vs.drop n) (xs.drop n)
  | _, _, 0, h => h
  | _, _, _ + 1, .nil => .nil
  | _, _, n + 1, .cons _ t => RpA.drop n t
theorem RpA.ints : ∀ ns : List Int, RpA K F (ns.map V.int) (ns.map PyData.int)
  | [] => .nil
  | n :: ns => .cons (.int n) (RpA.ints ns)
/-- the ints of data that are all ints -/
theorem RpA.ofInts : ∀ {vs : List V} {ns : List Int}, RpA K F vs (ns.map PyData.int) → vs = ns.map V.int
  | _, [], .nil => rfl
  | _, n :: ns, .cons h t => by
    cases h
    rw [RpA.ofInts t]
    rfl
end
/-! ### the world of a running def: the bag, what is known F, the heap H -/
/-- where the bag stands, and the cells that it was made of; where the tables of codes stand -/
structure Bg where
  b : Addr
  c : Addr
  ns : List Int
  ts : List Addr
/-- the draws' list: three numbers and the cells -/
def Bag (b : Bg) (F H : Hp) : Prop := (∃ x y z : Int, H b.b = some (.lst [.int x, .int y, .int z, .ref b.c]) ∧ 0 ≤ x ∧ 0 ≤ y ∧ 0 ≤ z) ∧ F b.c = some (.lst (b.ns.map V.int)) ∧ (∀ n ∈ b.ns, 0 ≤ n) ∧ ∀ t ∈ b.ts, F t = none ∧ TabG H t
/-- a step of the world -/
structure Stp (K : PySem.W.Frag) (b : Bg) (F H F' H' : Hp) : Prop where
  keep : ∀ a o, a ≠ b.b → (∀ ps, o ≠ .tbl ps) → H a = some o → H' a = some o
  bag : Bag b F' H'
  ex : Same F F'
  sub : Same F' H'
  fb : F' b.b = none
  new : ∀ a, F a = none → H a ≠ none → F' a = none
  tab : ∀ a ps, a ≠ b.b → H a = some (.tbl ps) → ∃ qs, H' a = some (.tbl qs) ∧ (TriplesOk ps.toList → TriplesOk qs.toList)
/-- a step may begin here -/
structure Wd (K : PySem.W.Frag) (b : Bg) (F H : Hp) : Prop where
  bag : Bag b F H
  sub : Same F H
  fb : F b.b = none
section
variable {K : PySem.W.Frag} {b : Bg} {F H F' H' F2 H2 : Hp}
theorem Wd.refl (w : Wd K b F H) : Stp K b F H F H := ⟨fun _ _ _ _ h => h, w.bag, fun _ _ h => h, w.sub, w.fb, fun _ h _ => h, fun _ ps _ h => ⟨ps, h, fun q => q⟩⟩
theorem Stp.wd (s : Stp K b F H F' H') : Wd K b F' H' := ⟨s.bag, s.sub, s.fb⟩
theorem Stp.there (s : Stp K b F H F' H') {a : Addr} (ne : a ≠ b.b) (h : H a ≠ none) : H' a ≠ none := by
  cases e : H a with
  | none => exact absurd e h
  | some o =>
    by_cases t : ∃ ps, o = .tbl ps
    · obtain ⟨ps, rfl⟩ := t
      obtain ⟨qs, q, _⟩ := s.tab a ps ne e
      rw [q]; exact fun z => nomatch z
    · rw [s.keep a o ne (fun ps z => t ⟨ps, z⟩) e]; exact fun z => nomatch z
theorem Stp.trans (s : Stp K b F H F' H') (t : Stp K b F' H' F2 H2) : Stp K b F H F2 H2 :=
  ⟨fun a o ne nt h => t.keep a o ne nt (s.keep a o ne nt h), t.bag, s.ex.trans t.ex, t.sub, t.fb, fun a hf hh => by
    by_cases e : a = b.b
    · rw [e]; exact t.fb
    · exact t.new a (s.new a hf hh) (s.there e hh), fun a ps ne h => by
    obtain ⟨qs, h1, k1⟩ := s.tab a ps ne h
    obtain ⟨rs, h2, k2⟩ := t.tab a qs ne h1
    exact ⟨rs, h2, fun z => k2 (k1 z)⟩⟩
theorem Bag.up (h : Bag b F H) (e : Same F F') (hb : H' b.b = H b.b) (ht : ∀ t ∈ b.ts, F t = none → TabG H t → F' t = none ∧ TabG H' t) : Bag b F' H' := by
  obtain ⟨⟨x, y, z, eb, r⟩, ec, q, k⟩ := h
  exact ⟨⟨x, y, z, hb.trans eb, r⟩, e _ _ ec, q, fun t m => ht t m (k t m).1 (k t m).2⟩
theorem TabG.ne {t p : Addr} (h : TabG H t) (hp : H p = none) : t ≠ p := fun e => by
  obtain ⟨ps, z, _⟩ := h
  rw [e, hp] at z
  cases z
theorem TabG.up {t p : Addr} {o : HO} (h : TabG H t) (hp : H p = none) : TabG (upd H p o) t := by
  obtain ⟨ps, z, k⟩ := id h
  exact ⟨ps, by rw [upd_ne (TabG.ne h hp)]; exact z, k⟩
theorem Bag.lst (h : Bag b F H) : ∃ vs, H b.b = some (.lst vs) := let ⟨⟨_, _, _, e, _⟩, _⟩ := h; ⟨_, e⟩
theorem same_laid {p : Addr} {o : HO} (hf : F p = none) : Same F (upd F p o) := fun a u h => by
  rw [upd_ne (ne_of_none h hf)]; exact h
/-- a new object is laid, known from now on -/
theorem Wd.laid (w : Wd K b F H) {p : Addr} {o : HO} (hp : H p = none) : Stp K b F H (upd F p o) (upd H p o) := by
  obtain ⟨vs, eb⟩ := w.bag.lst
  have pb : p ≠ b.b := fun e => by rw [e, eb] at hp; cases hp
  have fp : F p = none := by
    cases e : F p with
    | none => rfl
    | some o => rw [w.sub _ _ e] at hp; cases hp
  refine ⟨fun a u ne _ h => ?_, w.bag.up (same_laid fp) (upd_ne (Ne.symm pb)) (fun t _ h1 h2 => ⟨by rw [upd_ne (TabG.ne h2 hp)]; exact h1, TabG.up h2 hp⟩), same_laid fp, fun a u h => ?_, ?_, fun a hf hh => ?_, fun a ps ne h => ⟨ps, by rw [upd_ne (ne_of_none h hp)]; exact h, fun q => q⟩⟩
  · rw [upd_ne (ne_of_none h hp)]; exact h
  · by_cases e : a = p
    · rw [e, upd_same] at h ⊢; exact h
    · rw [upd_ne e] at h ⊢; exact w.sub _ _ h
  · rw [upd_ne (Ne.symm pb)]; exact w.fb
  · by_cases e : a = p
    · rw [e] at hh; exact absurd hp hh
    · rw [upd_ne e]; exact hf
/-- .. not known yet -/
theorem Wd.laidM (w : Wd K b F H) {p : Addr} {o : HO} (hp : H p = none) : Stp K b F H F (upd H p o) := by
  obtain ⟨vs, eb⟩ := w.bag.lst
  have pb : p ≠ b.b := fun e => by rw [e, eb] at hp; cases hp
  refine ⟨fun a u ne _ h => ?_, w.bag.up (fun _ _ h => h) (upd_ne (Ne.symm pb)) (fun t _ h1 h2 => ⟨h1, TabG.up h2 hp⟩), fun a u h => h, fun a u h => ?_, w.fb, fun a hf hh => hf, fun a ps ne h => ⟨ps, by rw [upd_ne (ne_of_none h hp)]; exact h, fun q => q⟩⟩
  · rw [upd_ne (ne_of_none h hp)]; exact h
  · have := w.sub _ _ h
    rw [upd_ne (ne_of_none this hp)]; exact this
end
/-! ### values and slots -/
inductive DV where
  | d (x : PyData)
  | fr (xs : List PyData)
  | ow (l : Addr) (xs : List PyData)
  | raw (v : V)
  | bag
inductive Sl where
  | un
  | d (x : PyData)
  | ow (l : Addr) (xs : List PyData)
  | raw (v : V)
  | bag
/-- a value v stands for dv: H₀ ahead of the evaluation, F H behind it -/
def Res (K : PySem.W.Frag) (b : Bg) (H₀ F H : Hp) : DV → V → Prop
  | .d x, v => Rp K F v x
  | .fr xs, v => ∃ p vs, v = .ref p ∧ H₀ p = none ∧ F p = none ∧ p ≠ b.b ∧ H p = some (.lst vs) ∧ RpA K F vs xs
  | .ow l xs, v => v = .ref l ∧ F l = none ∧ l ≠ b.b ∧ ∃ vs, H l = some (.lst vs) ∧ RpA K F vs xs
  | .raw u, v => v = u
  | .bag, v => v = .ref b.b
def SlOk (K : PySem.W.Frag) (b : Bg) (H₀ F H : Hp) : Sl → Option (Option V) → Prop
  | .un, _ => True
  | .d x, o => ∃ v, o = some (some v) ∧ Rp K F v x
  | .ow l xs, o => o = some (some (.ref l)) ∧ H₀ l = none ∧ F l = none ∧ l ≠ b.b ∧ ∃ vs, H l = some (.lst vs) ∧ RpA K F vs xs
  | .raw v, o => o = some (some v)
  | .bag, o => o = some (some (.ref b.b))
/-- the slots stand for env; since the def's entry (F₀ H₀) -/
structure Rel (K : PySem.W.Frag) (b : Bg) (F₀ H₀ : Hp) (env : List Sl) (σ : L2.St) (F H : Hp) : Prop where
  len : σ.length = env.length
  st : Stp K b F₀ H₀ F H
  at' : ∀ (i : Nat) (s : Sl), env[i]? = some s → SlOk K b H₀ F H s σ[i]?
  own : ∀ (i j : Nat) (l : Addr) (xs ys : List PyData), env[i]? = some (.ow l xs) → env[j]? = some (.ow l ys) → i = j
section
variable {K : PySem.W.Frag} {b : Bg} {F₀ H₀ F H F' H' : Hp} {env : List Sl} {σ : L2.St}
theorem Rel.wd (r : Rel K b F₀ H₀ env σ F H) : Wd K b F H := r.st.wd
theorem SlOk.step (w : Wd K b F H) (s : Stp K b F H F' H') : ∀ {z : Sl} {o : Option (Option V)}, SlOk K b H₀ F H z o → SlOk K b H₀ F' H' z o
  | .un, _, _ => True.intro
  | .d _, _, ⟨v, e, r⟩ => ⟨v, e, r.up s.ex⟩
  | .ow l xs, _, ⟨e, h0, hf, ne, vs, hl, r⟩ => ⟨e, h0, s.new l hf (by rw [hl]; exact fun z => nomatch z), ne, vs, s.keep _ _ ne (fun _ z => nomatch z) hl, r.up s.ex⟩
  | .raw _, _, e => e
  | .bag, _, e => e
theorem Rel.step (r : Rel K b F₀ H₀ env σ F H) (s : Stp K b F H F' H') : Rel K b F₀ H₀ env σ F' H' :=
  ⟨r.len, r.st.trans s, fun i z h => (r.at' i z h).step r.wd s, r.own⟩
theorem Res.step (s : Stp K b F H F' H') {Hz : Hp} : ∀ {dv : DV} {v : V}, Res K b Hz F H dv v → Res K b Hz F' H' dv v
  | .d _, _, r => Rp.up s.ex r
  | .fr xs, _, ⟨p, vs, e, h0, hf, ne, hp, r⟩ => ⟨p, vs, e, h0, s.new p hf (by rw [hp]; exact fun z => nomatch z), ne, s.keep _ _ ne (fun _ z => nomatch z) hp, r.up s.ex⟩
  | .ow l xs, _, ⟨e, hf, ne, vs, hp, r⟩ => ⟨e, s.new l hf (by rw [hp]; exact fun z => nomatch z), ne, vs, s.keep _ _ ne (fun _ z => nomatch z) hp, r.up s.ex⟩
  | .raw _, _, e => e
  | .bag, _, e => e
theorem Stp.back (s : Stp K b F H F' H') {p : Addr} (ne : p ≠ b.b) (h : H' p = none) : H p = none := by
  cases e : H p with
  | none => rfl
  | some o => exact absurd h (s.there ne (by rw [e]; exact fun z => nomatch z))
theorem Res.early (s : Stp K b F H F' H') {F2 H2 : Hp} : ∀ {dv : DV} {v : V}, Res K b H' F2 H2 dv v → Res K b H F2 H2 dv v
  | .d _, _, r => r
  | .fr xs, _, ⟨p, vs, e, h0, hf, ne, hp, r⟩ => ⟨p, vs, e, s.back ne h0, hf, ne, hp, r⟩
  | .ow l xs, _, r => r
  | .raw _, _, e => e
  | .bag, _, e => e
/-- a fresh list becomes known: seen from Fz Hz, ahead of its making -/
theorem Stp.freeze {Fz Hz : Hp} (s : Stp K b Fz Hz F H) {p : Addr} {vs : List V} (h0 : Hz p = none) (hf : F p = none) (ne : p ≠ b.b) (hp : H p = some (.lst vs)) : Stp K b Fz Hz (upd F p (.lst vs)) H := by
  refine ⟨s.keep, s.bag.up (same_laid hf) rfl (fun t _ h1 h2 => ⟨by rw [upd_ne (fun e => by obtain ⟨ps, z, _⟩ := h2; rw [e, hp] at z; cases z)]; exact h1, h2⟩), fun a o h => ?_, fun a o h => ?_, ?_, fun a h1 h2 => ?_, s.tab⟩
  · have := s.ex a o h
    rw [upd_ne (ne_of_none this hf)]; exact this
  · by_cases e : a = p
    · rw [e, upd_same] at h; rw [e, hp]; exact h
    · rw [upd_ne e] at h; exact s.sub _ _ h
  · rw [upd_ne (Ne.symm ne)]; exact s.fb
  · by_cases e : a = p
    · rw [e] at h2; exact absurd h0 h2
    · rw [upd_ne e]; exact s.new a h1 h2
end
end Dl
namespace Dl
open PySem PySem.Spec PyProof.Rows L2
theorem pe_weak {X : Cx} {e : Expr} {t u : TE} (h : PE X e t) (i : ∀ σ H Q, u σ H Q → t σ H Q) : PE X e u := ⟨fun p s σ H Q I q => h.run p s σ H Q I (i σ H Q q)⟩
theorem pt_weak {X : Cx} {e : Expr} {t u : TT} (h : PT X e t) (i : ∀ σ H Q, u σ H Q → t σ H Q) : PT X e u := ⟨fun p s σ H Q I q => h.run p s σ H Q I (i σ H Q q)⟩
theorem pw_weak {X : Cx} {e : Expr} {t u : TT} (h : PW X e t) (i : ∀ σ H Q, u σ H Q → t σ H Q) : PW X e u := ⟨fun wh p s σ H Q I q => h.run wh p s σ H Q I (i σ H Q q)⟩
theorem pa_weak {X : Cx} {e : List Expr} {t u : TA} (h : PA X e t) (i : ∀ σ H Q, u σ H Q → t σ H Q) : PA X e u := ⟨fun wh p s σ H Q I q => h.run wh p s σ H Q I (i σ H Q q)⟩
theorem ps_weak {X : Cx} {e : Stmt} {t u : TS} (h : PS X e t) (i : ∀ D σ H, u D σ H → t D σ H) : PS X e u := ⟨fun p s σ H D I q => h.run p s σ H D I (i D σ H q)⟩
theorem pss_weak {X : Cx} {e : List Stmt} {t u : TS} (h : PSs X e t) (i : ∀ D σ H, u D σ H → t D σ H) : PSs X e u := ⟨fun p s σ H D I q => h.run p s σ H D I (i D σ H q)⟩
/-- what stays through a def's run: the bag's place, what was known and what stood at the entry -/
structure Wn where
  b : Bg
  F : Hp
  H : Hp
abbrev RelW (K : PySem.W.Frag) (w : Wn) (env : List Sl) (σ : L2.St) (F H : Hp) : Prop := Rel K w.b w.F w.H env σ F H
abbrev DT := List Sl → (DV → Prop) → Prop
abbrev DTT := List Sl → (Bool → Prop) → Prop
abbrev DA := List Sl → (List DV → Prop) → Prop
structure DK where
  nx : List Sl → Prop
  rt : DV → Prop
  bk : List Sl → Prop := fun _ => False
  ct : List Sl → Prop := fun _ => False
abbrev DS := DK → List Sl → Prop
/-- an argument's value -/
def ArR (K : PySem.W.Frag) (b : Bg) (F H : Hp) : DV → V → Prop
  | .d x, v => Rp K F v x
  | .ow l xs, v => v = .ref l ∧ F l = none ∧ l ≠ b.b ∧ ∃ vs, H l = some (.lst vs) ∧ RpA K F vs xs
  | .raw u, v => v = u
  | .bag, v => v = .ref b.b
  | .fr _, _ => False
def lf (K : PySem.W.Frag) (w : Wn) (t : DT) : TE := fun σ H Q => ∃ env F P, RelW K w env σ F H ∧ t env P ∧ ∀ dv v F' H', Stp K w.b F H F' H' → Res K w.b H F' H' dv v → P dv → Q v H'
def lfT (K : PySem.W.Frag) (w : Wn) (t : DTT) : TT := fun σ H Q => ∃ env F P, RelW K w env σ F H ∧ t env P ∧ ∀ c F' H', Stp K w.b F H F' H' → P c → Q c H'
def lfA (K : PySem.W.Frag) (w : Wn) (t : DA) : TA := fun σ H Q => ∃ env F P, RelW K w env σ F H ∧ t env P ∧ ∀ dvs vs F' H', Stp K w.b F H F' H' → Paired (ArR K w.b F' H') dvs vs → P dvs → Q vs H'
structure Fit (K : PySem.W.Frag) (w : Wn) (F₁ : Hp) (d : DK) (D : Ends) : Prop where
  nx : ∀ env σ F H, RelW K w env σ F H → Same F₁ F → d.nx env → D.nx σ H
  bk : ∀ env σ F H, RelW K w env σ F H → Same F₁ F → d.bk env → D.bk σ H
  ct : ∀ env σ F H, RelW K w env σ F H → Same F₁ F → d.ct env → D.ct σ H
  rt : ∀ dv v F H, Stp K w.b w.F w.H F H → Res K w.b w.H F H dv v → d.rt dv → D.rt v H
theorem Fit.up {K : PySem.W.Frag} {w : Wn} {F₁ F₂ : Hp} {d : DK} {D : Ends} (f : Fit K w F₁ d D) (s : Same F₁ F₂) : Fit K w F₂ d D :=
  ⟨fun env σ F H r z => f.nx env σ F H r (s.trans z), fun env σ F H r z => f.bk env σ F H r (s.trans z), fun env σ F H r z => f.ct env σ F H r (s.trans z), f.rt⟩
theorem sm0 {F : Hp} : Same F F := fun _ _ z => z
def lfS (K : PySem.W.Frag) (w : Wn) (t : DS) : TS := fun D σ H => ∃ env F d, RelW K w env σ F H ∧ t d env ∧ Fit K w F d D
abbrev DPE (X : Cx) (w : Wn) (e : Expr) (t : DT) : Prop := PE X e (lf X.K w t)
abbrev DPT (X : Cx) (w : Wn) (e : Expr) (t : DTT) : Prop := PT X e (lfT X.K w t)
abbrev DPW (X : Cx) (w : Wn) (e : Expr) (t : DTT) : Prop := PW X e (lfT X.K w t)
abbrev DPA (X : Cx) (w : Wn) (e : List Expr) (t : DA) : Prop := PA X e (lfA X.K w t)
abbrev DPS (X : Cx) (w : Wn) (e : Stmt) (t : DS) : Prop := PS X e (lfS X.K w t)
abbrev DPSs (X : Cx) (w : Wn) (e : List Stmt) (t : DS) : Prop := PSs X e (lfS X.K w t)
/-! ### what a value is read as -/
def rd : DV → (PyData → Prop) → Prop
  | .d x, k => k x
  | .fr xs, k => k (.list xs)
  | .ow _ xs, k => k (.list xs)
  | .raw _, _ => False
  | .bag, _ => False
inductive Rr (K : PySem.W.Frag) (b : Bg) (F H : Hp) : V → PyData → Prop
  | d {v : V} {x : PyData} (h : Rp K F v x) : Rr K b F H v x
  | o {l : Addr} {vs : List V} {xs : List PyData} (hf : F l = none) (ne : l ≠ b.b) (h : H l = some (.lst vs)) (r : RpA K F vs xs) : Rr K b F H (.ref l) (.list xs)
section
variable {K : PySem.W.Frag} {b : Bg} {F H F' H' Hz : Hp} {v : V}
theorem Rr.step (s : Stp K b F H F' H') {x : PyData} : Rr K b F H v x → Rr K b F' H' v x
  | .d h => .d (h.up s.ex)
  | .o hf ne h r => .o (s.new _ hf (by rw [h]; exact fun z => nomatch z)) ne (s.keep _ _ ne (by intro _ z; cases z) h) (r.up s.ex)
theorem rd_ok {dv : DV} {k : PyData → Prop} (r : Res K b Hz F H dv v) (h : rd dv k) : ∃ x, Rr K b F H v x ∧ k x := by
  cases dv with
  | d x => exact ⟨x, .d r, h⟩
  | fr xs =>
    obtain ⟨p, vs, rfl, _, hf, ne, hp, q⟩ := r
    exact ⟨_, .o hf ne hp q, h⟩
  | ow l xs =>
    obtain ⟨rfl, hf, ne, vs, hp, q⟩ := r
    exact ⟨_, .o hf ne hp q, h⟩
  | raw u => exact False.elim h
  | bag => exact False.elim h
theorem Rr.int {i : Int} (h : Rr K b F H v (.int i)) : v = .int i := by cases h with | d h => cases h; rfl
theorem Rr.bl {i : Bool} (h : Rr K b F H v (.bool i)) : v = .bl i := by cases h with | d h => cases h; rfl
theorem Rr.str {i : Str} (h : Rr K b F H v (.str i)) : v = .str i := by cases h with | d h => cases h; rfl
theorem Rr.non (h : Rr K b F H v .none) : v = .non := by cases h with | d h => cases h; rfl
theorem Rr.lst {xs : List PyData} (w : Same F H) (h : Rr K b F H v (.list xs)) : ∃ l vs, v = .ref l ∧ H l = some (.lst vs) ∧ RpA K F vs xs := by
  cases h with
  | d h => cases h with | lst h r => exact ⟨_, _, rfl, w _ _ h, r⟩
  | o _ _ h r => exact ⟨_, _, rfl, h, r⟩
theorem Rr.tup {xs : List PyData} (w : Same F H) (h : Rr K b F H v (.tuple xs)) : ∃ l vs, v = .ref l ∧ SqT K H l vs ∧ RpA K F vs xs := by
  cases h with
  | d h => cases h with | tup h r => exact ⟨_, _, rfl, sqt_up w h, r⟩
theorem Rr.all {x : PyData} (w : Same F H) (h : Rr K b F H v x) : Rp K H v x := by
  cases h with
  | d h => exact h.up w
  | o hf ne h r => exact .lst h (r.up w)
theorem Res.intOf {i : Int} (r : Res K b Hz F H (.d (.int i)) v) : v = .int i := by cases (show Rp K F v (.int i) from r); rfl
theorem Res.blOf {i : Bool} (r : Res K b Hz F H (.d (.bool i)) v) : v = .bl i := by cases (show Rp K F v (.bool i) from r); rfl
end
/-! ### expressions -/
section
variable {X : Cx} {w : Wn} {a b e c : Expr} {ta tb tc te : DT} {pos : Pos}
def tVarD (i : Nat) : DT := fun env P => match env[i]? with
  | some (.d x) => P (.d x)
  | some (.ow l xs) => P (.ow l xs)
  | some (.raw v) => P (.raw v)
  | some .bag => P .bag
  | _ => False
theorem d_var (i : Nat) {x : Str} (hN : X.N[i]? = some x := by rfl) (hv : Vis X.env.scope x := by first | exact Or.inl rfl | exact Or.inr (Or.inl rfl) | exact Or.inr (Or.inr rfl)) (hd : (x == ("__debug__" : Str)) = false := by decide) (hc : (x == ("__classdict__" : Str)) = false := by decide) :
    DPE X w (.Name x pos) (tVarD i) := pe_weak (pe_var hN hv hd hc) fun σ H Q ⟨env, F, P, r, h, q⟩ => by
  unfold tVarD at h
  split at h
  · next x e =>
    obtain ⟨v, e1, r1⟩ := r.at' i _ e
    exact ⟨v, e1, q (.d x) _ F H r.wd.refl r1 h⟩
  · next l xs e =>
    obtain ⟨e1, h0, hf, ne, vs, hl, r1⟩ := r.at' i _ e
    exact ⟨_, e1, q (.ow l xs) _ F H r.wd.refl ⟨rfl, hf, ne, vs, hl, r1⟩ h⟩
  · next v e => exact ⟨v, r.at' i _ e, q (.raw v) v F H r.wd.refl rfl h⟩
  · next e => exact ⟨_, r.at' i _ e, q .bag _ F H r.wd.refl rfl h⟩
  · exact h.elim
def tCD (x : PyData) : DT := fun _ P => P (.d x)
theorem d_int {i : Int} {j} : DPE X w (.Constant (.int i) j pos) (tCD (.int i)) := pe_weak pe_int fun σ H Q ⟨env, F, P, r, h, q⟩ => q (.d (.int i)) _ F H r.wd.refl (Rp.int i) h
theorem d_bl {i : Bool} {j} : DPE X w (.Constant (.bool i) j pos) (tCD (.bool i)) := pe_weak pe_bl fun σ H Q ⟨env, F, P, r, h, q⟩ => q (.d (.bool i)) _ F H r.wd.refl (Rp.bl i) h
theorem d_str {i : Str} {j} : DPE X w (.Constant (.str i) j pos) (tCD (.str i)) := pe_weak pe_str fun σ H Q ⟨env, F, P, r, h, q⟩ => q (.d (.str i)) _ F H r.wd.refl (Rp.str i) h
theorem d_non {j} : DPE X w (.Constant .none j pos) (tCD .none) := pe_weak pe_non fun σ H Q ⟨env, F, P, r, h, q⟩ => q (.d .none) _ F H r.wd.refl Rp.non h
/-- a number that the module names -/
theorem d_globI {x : Str} {i : Int} {t : Tok} (hg : Gl X x) (hm : X.mg x = some (.int i t)) (hd : (x == ("__debug__" : Str)) = false := by decide) : DPE X w (.Name x pos) (tCD (.int i)) :=
  pe_weak (pe_glob (v := .int i) hg hm ⟨t, rfl⟩ hd) fun σ H Q ⟨env, F, P, r, h, q⟩ => q (.d (.int i)) _ F H r.wd.refl (Rp.int i) h
def tRaw (v : V) : DT := fun _ P => P (.raw v)
/-- a built-in class as a value -/
theorem d_ty {x : Str} {n : String} (hg : Gl X x) (hm : X.mg x = none) (hv : bootBuiltins x = some (.type n)) (hn : x ≠ "__name__" := by decide) (hd : (x == ("__debug__" : Str)) = false := by decide) : DPE X w (.Name x pos) (tRaw (.ty n)) :=
  pe_weak (pe_bltn (v := .ty n) hg hm hv rfl hn hd) fun σ H Q ⟨env, F, P, r, h, q⟩ => q (.raw (.ty n)) _ F H r.wd.refl rfl h
/-! two operands -/
abbrev G2 := PyData → PyData → (DV → Prop) → Prop
def lR (K : PySem.W.Frag) (b : Bg) (g : G2) : R2 := fun x y H Q => ∃ F dx dy P, Wd K b F H ∧ Rr K b F H x dx ∧ Rr K b F H y dy ∧ g dx dy P ∧ ∀ dv v F' H', Stp K b F H F' H' → Res K b H F' H' dv v → P dv → Q v H'
def tBin (g : G2) (ta tb : DT) : DT := fun env P => ta env fun u => rd u fun x => tb env fun z => rd z fun y => g x y P
theorem bin_go {g : G2} {σ : L2.St} {H : Hp} {Q : VK} (h : lf X.K w (tBin g ta tb) σ H Q) : tOp (lR X.K w.b g) (lf X.K w ta) (lf X.K w tb) σ H Q := by
  obtain ⟨env, F, P, r, h, q⟩ := h
  refine ⟨env, F, _, r, h, fun dv v F1 H1 s1 r1 h1 => ?_⟩
  obtain ⟨x, x1, h1⟩ := rd_ok r1 h1
  refine ⟨env, F1, _, r.step s1, h1, fun dv2 v2 F2 H2 s2 r2 h2 => ?_⟩
  obtain ⟨y, y1, h2⟩ := rd_ok r2 h2
  exact ⟨F2, x, y, P, s2.wd, x1.step s2, y1, h2, fun dv3 v3 F3 H3 s3 r3 h3 => q dv3 v3 F3 H3 ((s1.trans s2).trans s3) (r3.early (s1.trans s2)) h3⟩
theorem d_bin {op : Operator} {g : G2} (ho : OpR X (binaryOp op) (lR X.K w.b g)) (ha : DPE X w a ta) (hb : DPE X w b tb) : DPE X w (.BinOp a op b pos) (tBin g ta tb) :=
  pe_weak (pe_op ho ha hb) fun _ _ _ h => bin_go h
theorem d_cmp {op : CmpOp} {g : G2} (ho : OpR X (compareOp op) (lR X.K w.b g)) (ha : DPE X w a ta) (hb : DPE X w b tb) (hm : behindInMarks op b = false := by first | exact nomark _ | rfl) : DPE X w (.Compare a [op] [b] pos) (tBin g ta tb) :=
  pe_weak (pe_cmpR ho ha hb hm) fun _ _ _ h => bin_go h
/-- the Bool that a value of True, False is -/
def isB : DV → (Bool → Prop) → Prop
  | .d (.bool c), k => k c
  | _, _ => False
theorem isB_ok {K : PySem.W.Frag} {b : Bg} {Hz F H : Hp} {v : V} {dv : DV} {k : Bool → Prop} (r : Res K b Hz F H dv v) (h : isB dv k) : ∃ c, v = .bl c ∧ k c := by
  unfold isB at h
  split at h
  · next c => exact ⟨c, r.blOf, h⟩
  · exact h.elim
def tTst (t : DT) : DTT := fun env P => t env fun u => isB u P
theorem dt_cmp {op : CmpOp} {g : G2} (ho : OpR X (compareOp op) (lR X.K w.b g)) (ha : DPE X w a ta) (hb : DPE X w b tb) (hm : behindInMarks op b = false := by first | exact nomark _ | rfl) : DPT X w (.Compare a [op] [b] pos) (tTst (tBin g ta tb)) :=
  pt_weak (pt_cmpR ho ha hb hm) fun σ H Q ⟨env, F, P, r, h, q⟩ => bin_go ⟨env, F, _, r, h, fun dv v F1 H1 s1 r1 h1 => by
    obtain ⟨c, rfl, h1⟩ := isB_ok r1 h1
    exact ⟨c, rfl, q c F1 H1 s1 h1⟩⟩
/-! one operand -/
abbrev G1 := PyData → (DV → Prop) → Prop
def tUnD (g : G1) (ta : DT) : DT := fun env P => ta env fun u => rd u fun x => g x P
def gNeg : G1 := fun x P => match x with
  | .int i => P (.d (.int (-i)))
  | _ => False
theorem d_neg (ha : DPE X w a ta) : DPE X w (.UnaryOp .USub a pos) (tUnD gNeg ta) := pe_weak (pe_un un_neg ha) fun σ H Q ⟨env, F, P, r, h, q⟩ => by
  refine ⟨env, F, _, r, h, fun dv v F1 H1 s1 r1 h1 => ?_⟩
  obtain ⟨x, x1, h1⟩ := rd_ok r1 h1
  unfold gNeg at h1
  split at h1
  · next i => exact ⟨i, x1.int, q (.d (.int (-i))) _ F1 H1 s1 (Rp.int _) h1⟩
  · exact h1.elim
/-! ### tests -/
variable {tA tB tC : DTT} {rest : List Expr}
def tAndD (t u : DTT) : DTT := fun env P => t env fun c => if c = true then u env P else P false
def tOrD (t u : DTT) : DTT := fun env P => t env fun c => if c = true then P true else u env P
def tNotD (t : DTT) : DTT := fun env P => t env fun c => P (!c)
theorem dw_and1 (ha : DPT X w a tA) : DPW X w (.BoolOp .And [a] pos) tA := pw_and1 ha
theorem dw_or1 (ha : DPT X w a tA) : DPW X w (.BoolOp .Or [a] pos) tA := pw_or1 ha
theorem dw_and (ha : DPT X w a tA) (hb : DPW X w (.BoolOp .And (b :: rest) pos) tB) : DPW X w (.BoolOp .And (a :: b :: rest) pos) (tAndD tA tB) :=
  pw_weak (pw_and ha hb) fun σ H Q ⟨env, F, P, r, h, q⟩ => ⟨env, F, _, r, h, fun c F1 H1 s1 h1 => by
    cases c with
    | true => exact ⟨env, F1, P, r.step s1, h1, fun c F2 H2 s2 h2 => q c F2 H2 (s1.trans s2) h2⟩
    | false => exact q false F1 H1 s1 h1⟩
theorem dw_or (ha : DPT X w a tA) (hb : DPW X w (.BoolOp .Or (b :: rest) pos) tB) : DPW X w (.BoolOp .Or (a :: b :: rest) pos) (tOrD tA tB) :=
  pw_weak (pw_or ha hb) fun σ H Q ⟨env, F, P, r, h, q⟩ => ⟨env, F, _, r, h, fun c F1 H1 s1 h1 => by
    cases c with
    | false => exact ⟨env, F1, P, r.step s1, h1, fun c F2 H2 s2 h2 => q c F2 H2 (s1.trans s2) h2⟩
    | true => exact q true F1 H1 s1 h1⟩
theorem dt_w (h : DPW X w a tA) : DPT X w a tA := PW.pt h
theorem dt_not (ha : DPT X w a tA) : DPT X w (.UnaryOp .Not a pos) (tNotD tA) :=
  pt_weak (pt_not ha) fun σ H Q ⟨env, F, P, r, h, q⟩ => ⟨env, F, _, r, h, fun c F1 H1 s1 h1 => q _ F1 H1 s1 h1⟩
/-- an expression by its truth -/
def truD : PyData → Bool
  | .none => false
  | .bool c => c
  | .int i => i != 0
  | .str x => x.length != 0
  | .list xs => !xs.isEmpty
  | .tuple xs => !xs.isEmpty
  | .dict kvs => !kvs.isEmpty
def truOk : PyData → Prop
  | .str x => x.length ≤ 100000
  | .dict _ => False
  | _ => True
theorem lim_le {n : Nat} (h : n ≤ 100000) : n ≤ sizeLine := Nat.le_trans h (by decide)
theorem lim_lt {n : Nat} (h : n < 100000) : n < sizeLine := Nat.lt_of_lt_of_le h (by decide)
theorem rpa_empty {K : PySem.W.Frag} {F : Hp} {vs : List V} {xs : List PyData} (r : RpA K F vs xs) : vs.isEmpty = xs.isEmpty := by cases r <;> rfl
theorem tru_of {K : PySem.W.Frag} {b : Bg} {F H : Hp} {v : V} {x : PyData} (s : Same F H) (h : Rr K b F H v x) (ok : truOk x) : TruV K v H (truD x) := by
  cases x with
  | none => cases h.non; rfl
  | bool c => cases h.bl; rfl
  | int i => cases h.int; rfl
  | str x =>
    cases h.str
    refine ⟨lim_le ok, ?_⟩
    show (x.length != 0) = ((x.length : Int) != 0)
    cases hx : x.length with
    | zero => rfl
    | succ n => rw [bne_iff_ne.mpr (show n + 1 ≠ 0 by omega), bne_iff_ne.mpr (show ((n + 1 : Nat) : Int) ≠ 0 by omega)]
  | list xs =>
    obtain ⟨l, vs, rfl, e, r⟩ := h.lst s
    exact .inl ⟨vs, SqL.of e, by rw [rpa_empty r]; rfl⟩
  | tuple xs =>
    obtain ⟨l, vs, rfl, e, r⟩ := h.tup s
    exact .inr (.inl ⟨vs, e, by rw [rpa_empty r]; rfl⟩)
  | dict kvs => exact False.elim ok
def tTru (t : DT) : DTT := fun env P => t env fun u => rd u fun x => truOk x ∧ P (truD x)
theorem dt_e (ha : DPE X w a ta) (he : ∀ whole, isTrue a X.env whole = (do let v ← whole; standAt a.pos; holding [v] (truthy v)) := by intro _; rfl) : DPT X w a (tTru ta) :=
  pt_weak (pt_truth ha he) fun σ H Q ⟨env, F, P, r, h, q⟩ => by
    refine ⟨env, F, _, r, h, fun dv v F1 H1 s1 r1 h1 => ?_⟩
    obtain ⟨x, x1, ok, h1⟩ := rd_ok r1 h1
    exact ⟨truD x, tru_of s1.sub x1 ok, q _ F1 H1 s1 h1⟩
/-- values of and, or, not, if-else -/
theorem lf_early {t : DT} {σ : L2.St} {F H F1 H1 : Hp} {env : List Sl} {P : DV → Prop} {Q : VK} (s1 : Stp X.K w.b F H F1 H1) (r : RelW X.K w env σ F H) (h : t env P)
    (q : ∀ dv v F' H', Stp X.K w.b F H F' H' → Res X.K w.b H F' H' dv v → P dv → Q v H') : lf X.K w t σ H1 Q :=
  ⟨env, F1, P, r.step s1, h, fun dv v F2 H2 s2 r2 h2 => q dv v F2 H2 (s1.trans s2) (r2.early s1) h2⟩
def tAndV (ta tb : DT) : DT := fun env P => ta env fun u => rd u fun x => truOk x ∧ if truD x = true then tb env P else P (match u with | .fr xs => .fr xs | _ => .d x)
theorem d_one {op} {t : DT} (h : DPE X w a t) : DPE X w (.BoolOp op [a] pos) t := pe_one h
def tIteD (t : DTT) (ta tb : DT) : DT := fun env P => t env fun c => if c = true then ta env P else tb env P
theorem d_ite (hc : DPT X w c tC) (ha : DPE X w a ta) (hb : DPE X w b tb) : DPE X w (.IfExp c a b pos) (tIteD tC ta tb) :=
  pe_weak (pe_ifExp hc ha hb) fun σ H Q ⟨env, F, P, r, h, q⟩ => ⟨env, F, _, r, h, fun c F1 H1 s1 h1 => by
    cases c with
    | true => exact lf_early s1 r h1 q
    | false => exact lf_early s1 r h1 q⟩
end
end Dl
namespace Dl
open PySem PySem.Spec PyProof.Rows L2
/-! ### operators by what they are given -/
def gAdd : G2 := fun x y P => match x, y with
  | .int i, .int j => P (.d (.int (i + j)))
  | .str i, .str j => i.length + j.length ≤ 100000 ∧ P (.d (.str (i ++ j)))
  | .list xs, .list ys => xs.length + ys.length ≤ 100000 ∧ P (.fr (xs ++ ys))
  | .tuple xs, .tuple ys => xs ≠ [] ∧ xs.length + ys.length ≤ 100000 ∧ P (.d (.tuple (xs ++ ys)))
  | _, _ => False
def gMinus : G2 := fun x y P => match x, y with
  | .int i, .int j => P (.d (.int (i - j)))
  | _, _ => False
def gMul : G2 := fun x y P => match x, y with
  | .int i, .int j => i.natAbs.log2 + j.natAbs.log2 < 1000000 ∧ P (.d (.int (i * j)))
  | _, _ => False
def gFdiv : G2 := fun x y P => match x, y with
  | .int i, .int j => j ≠ 0 ∧ j.natAbs.log2 < 9000 ∧ P (.d (.int (i.fdiv j)))
  | _, _ => False
def gMod : G2 := fun x y P => match x, y with
  | .int i, .int j => j ≠ 0 ∧ P (.d (.int (i.fmod j)))
  | _, _ => False
def gPow : G2 := fun x y P => match x, y with
  | .int i, .int j => (0 ≤ j ∧ j ≤ 1000000 ∧ i.natAbs < 2 ^ 64) ∧ P (.d (.int (i ^ j.toNat)))
  | _, _ => False
section
variable {X : Cx} {w : Wn}
theorem res_d {K : PySem.W.Frag} {b : Bg} {Hz F H : Hp} {v : V} {x : PyData} (h : Rp K F v x) : Res K b Hz F H (.d x) v := h
/-- a fresh list is laid -/
theorem res_new {K : PySem.W.Frag} {b : Bg} {F H : Hp} {vs : List V} {xs : List PyData} {P : DV → Prop} {Q : VK} (wd : Wd K b F H) (r : RpA K F vs xs) (q : ∀ dv v F' H', Stp K b F H F' H' → Res K b H F' H' dv v → P dv → Q v H') (h : P (.fr xs)) :
    ∀ p, H p = none → Q (.ref p) (upd H p (.lst vs)) := fun p hp => by
  obtain ⟨us, eb⟩ := wd.bag.lst
  have pb : p ≠ b.b := fun e => by rw [e, eb] at hp; cases hp
  refine q (.fr xs) _ F _ (wd.laidM hp) ⟨p, vs, rfl, hp, ?_, pb, upd_same, r⟩ h
  cases e : F p with
  | none => rfl
  | some o => rw [wd.sub _ _ e] at hp; cases hp
theorem res_newT {K : PySem.W.Frag} {b : Bg} {F H : Hp} {vs : List V} {xs : List PyData} {P : DV → Prop} {Q : VK} (wd : Wd K b F H) (r : RpA K F vs xs) (q : ∀ dv v F' H', Stp K b F H F' H' → Res K b H F' H' dv v → P dv → Q v H') (h : P (.d (.tuple xs))) :
    ∀ p, H p = none → Q (.ref p) (upd H p (.tup vs)) := fun p hp => by
  have st := wd.laid (o := .tup vs) hp
  exact q (.d (.tuple xs)) _ _ _ st (Rp.tup (SqT.of upd_same) (r.up st.ex)) h
theorem nonempty_vs {K : PySem.W.Frag} {F : Hp} {vs : List V} {xs : List PyData} (r : RpA K F vs xs) (h : xs ≠ []) : vs ≠ [] := by
  cases r with
  | nil => exact absurd rfl h
  | cons _ _ => exact fun z => nomatch z
theorem o_add : OpR X (binaryOp .Add) (lR X.K w.b gAdd) := by
  intro pins s σ H x y v u Q I rx ry h
  obtain ⟨F, dx, dy, P, wd, hx, hy, g, q⟩ := h
  unfold gAdd at g
  split at g
  · cases hx.int; cases hy.int
    exact op_add pins s σ H _ _ v u Q I rx ry ⟨_, _, rfl, rfl, q _ _ F H wd.refl (res_d (.int _)) g⟩
  · cases hx.str; cases hy.str
    exact op_add_str pins s σ H _ _ v u Q I rx ry ⟨_, _, rfl, rfl, lim_le g.1, q _ _ F H wd.refl (res_d (.str _)) g.2⟩
  · obtain ⟨l, vs, rfl, e1, r1⟩ := hx.lst wd.sub
    obtain ⟨m, us, rfl, e2, r2⟩ := hy.lst wd.sub
    exact op_cat pins s σ H _ _ v u Q I rx ry ⟨l, m, vs, us, rfl, rfl, e1, e2, by rw [r1.len, r2.len]; exact lim_le g.1, res_new wd (r1.app r2) q g.2⟩
  · next xs ys =>
    obtain ⟨l, vs, rfl, e1, r1⟩ := hx.tup wd.sub
    obtain ⟨m, us, rfl, e2, r2⟩ := hy.tup wd.sub
    have ne := nonempty_vs r1 g.1
    refine op_catT pins s σ H _ _ v u Q I rx ry ⟨l, m, vs, us, rfl, rfl, e1, e2, ne, by rw [r1.len, r2.len]; exact lim_le g.2.1, fun e => ?_, fun _ => res_newT wd (r1.app r2) q g.2.2⟩
    subst e
    cases r2
    rw [List.append_nil] at g
    have hq : Rp X.K F (.ref l) (.tuple xs) := by
      cases hx with
      | d h => exact h
    exact q _ _ F H wd.refl (res_d hq) g.2.2
  · exact g.elim
theorem o_sub : OpR X (binaryOp .Sub) (lR X.K w.b gMinus) := by
  intro pins s σ H x y v u Q I rx ry h
  obtain ⟨F, dx, dy, P, wd, hx, hy, g, q⟩ := h
  unfold gMinus at g
  split at g
  · cases hx.int; cases hy.int
    exact op_sub pins s σ H _ _ v u Q I rx ry ⟨_, _, rfl, rfl, q _ _ F H wd.refl (res_d (.int _)) g⟩
  · exact g.elim
theorem o_mul : OpR X (binaryOp .Mult) (lR X.K w.b gMul) := by
  intro pins s σ H x y v u Q I rx ry h
  obtain ⟨F, dx, dy, P, wd, hx, hy, g, q⟩ := h
  unfold gMul at g
  split at g
  · cases hx.int; cases hy.int
    exact op_mulW pins s σ H _ _ v u Q I rx ry ⟨_, _, rfl, rfl, g.1, q _ _ F H wd.refl (res_d (.int _)) g.2⟩
  · exact g.elim
theorem op_fdivX : OpR X (binaryOp .FloorDiv) (rI (fun _ j => j ≠ 0 ∧ j.natAbs.log2 < 9000) fun i j => .int (i.fdiv j)) :=
  opI fun _ _ _ _ _ _ _ hc q => floordiv_int hc.1 q (.inl (PyProof.noPylong_of_log2 hc.2))
theorem o_fdiv : OpR X (binaryOp .FloorDiv) (lR X.K w.b gFdiv) := by
  intro pins s σ H x y v u Q I rx ry h
  obtain ⟨F, dx, dy, P, wd, hx, hy, g, q⟩ := h
  unfold gFdiv at g
  split at g
  · cases hx.int; cases hy.int
    exact op_fdivX pins s σ H _ _ v u Q I rx ry ⟨_, _, rfl, rfl, ⟨g.1, g.2.1⟩, q _ _ F H wd.refl (res_d (.int _)) g.2.2⟩
  · exact g.elim
theorem o_mod : OpR X (binaryOp .Mod) (lR X.K w.b gMod) := by
  intro pins s σ H x y v u Q I rx ry h
  obtain ⟨F, dx, dy, P, wd, hx, hy, g, q⟩ := h
  unfold gMod at g
  split at g
  · cases hx.int; cases hy.int
    exact op_modN pins s σ H _ _ v u Q I rx ry ⟨_, _, rfl, rfl, g.1, q _ _ F H wd.refl (res_d (.int _)) g.2⟩
  · exact g.elim
theorem o_pow : OpR X (binaryOp .Pow) (lR X.K w.b gPow) := by
  intro pins s σ H x y v u Q I rx ry h
  obtain ⟨F, dx, dy, P, wd, hx, hy, g, q⟩ := h
  unfold gPow at g
  split at g
  · cases hx.int; cases hy.int
    exact op_pow pins s σ H _ _ v u Q I rx ry ⟨_, _, rfl, rfl, g.1, q _ _ F H wd.refl (res_d (.int _)) g.2⟩
  · exact g.elim
/-! comparisons -/
def gIn (p : Int → Int → Bool) (s : Str → Str → Bool) : G2 := fun x y P => match x, y with
  | .int i, .int j => P (.d (.bool (p i j)))
  | .str i, .str j => P (.d (.bool (s i j)))
  | _, _ => False
abbrev gLt : G2 := gIn (fun i j => decide (i < j)) fun i j => decide (i.cps.toList < j.cps.toList)
def gI (p : Int → Int → Bool) : G2 := fun x y P => match x, y with
  | .int i, .int j => P (.d (.bool (p i j)))
  | _, _ => False
theorem o_lt : OpR X (compareOp .Lt) (lR X.K w.b gLt) := by
  intro pins s σ H x y v u Q I rx ry h
  obtain ⟨F, dx, dy, P, wd, hx, hy, g, q⟩ := h
  unfold gLt gIn at g
  split at g
  · cases hx.int; cases hy.int
    exact op_lt pins s σ H _ _ v u Q I rx ry ⟨_, _, rfl, rfl, q _ _ F H wd.refl (res_d (.bl _)) g⟩
  · cases hx.str; cases hy.str
    exact op_lt_str pins s σ H _ _ v u Q I rx ry ⟨_, _, rfl, rfl, q _ _ F H wd.refl (res_d (.bl _)) g⟩
  · exact g.elim
theorem o_le : OpR X (compareOp .LtE) (lR X.K w.b (gIn (fun i j => decide (i ≤ j)) fun i j => !decide (j.cps.toList < i.cps.toList))) := by
  intro pins s σ H x y v u Q I rx ry h
  obtain ⟨F, dx, dy, P, wd, hx, hy, g, q⟩ := h
  unfold gIn at g
  split at g
  · cases hx.int; cases hy.int
    exact op_le pins s σ H _ _ v u Q I rx ry ⟨_, _, rfl, rfl, q _ _ F H wd.refl (res_d (.bl _)) g⟩
  · cases hx.str; cases hy.str
    exact op_le_str pins s σ H _ _ v u Q I rx ry ⟨_, _, rfl, rfl, q _ _ F H wd.refl (res_d (.bl _)) g⟩
  · exact g.elim
theorem o_gt : OpR X (compareOp .Gt) (lR X.K w.b (gIn (fun i j => decide (j < i)) fun i j => decide (j.cps.toList < i.cps.toList))) := by
  intro pins s σ H x y v u Q I rx ry h
  obtain ⟨F, dx, dy, P, wd, hx, hy, g, q⟩ := h
  unfold gIn at g
  split at g
  · cases hx.int; cases hy.int
    exact op_gt pins s σ H _ _ v u Q I rx ry ⟨_, _, rfl, rfl, q _ _ F H wd.refl (res_d (.bl _)) g⟩
  · cases hx.str; cases hy.str
    exact op_gt_str pins s σ H _ _ v u Q I rx ry ⟨_, _, rfl, rfl, q _ _ F H wd.refl (res_d (.bl _)) g⟩
  · exact g.elim
theorem o_ge : OpR X (compareOp .GtE) (lR X.K w.b (gIn (fun i j => decide (j ≤ i)) fun i j => !decide (i.cps.toList < j.cps.toList))) := by
  intro pins s σ H x y v u Q I rx ry h
  obtain ⟨F, dx, dy, P, wd, hx, hy, g, q⟩ := h
  unfold gIn at g
  split at g
  · cases hx.int; cases hy.int
    exact op_ge pins s σ H _ _ v u Q I rx ry ⟨_, _, rfl, rfl, q _ _ F H wd.refl (res_d (.bl _)) g⟩
  · cases hx.str; cases hy.str
    exact op_ge_str pins s σ H _ _ v u Q I rx ry ⟨_, _, rfl, rfl, q _ _ F H wd.refl (res_d (.bl _)) g⟩
  · exact g.elim
/-! what Rp says to the library's Reads -/
end
section
variable {X : Cx} {pins : List (Addr × Obj)} {σ : L2.St} {H : Hp} {s : Shared}
mutual
def flatD : PyData → Bool
  | .none => true
  | .bool _ => true
  | .int _ => true
  | .str _ => true
  | .list xs => flatA xs
  | .tuple xs => flatA xs
  | .dict _ => false
def flatA : List PyData → Bool
  | [] => true
  | x :: xs => flatD x && flatA xs
end
mutual
theorem rp_reads (I : Inv X pins σ H s) : ∀ (d : PyData) (v : V) (u : Value), flatD d = true → Rp X.K H v d → RelV v u → ∃ as, Reads s.heap u d as
  | .none, _, _, _, h, r => by cases h; cases r; exact ⟨_, Reads.none⟩
  | .bool b, _, _, _, h, r => by cases h; cases r; exact ⟨_, Reads.bool b⟩
  | .int i, _, _, _, h, r => by cases h; obtain ⟨t, rfl⟩ := r; exact ⟨_, Reads.int i t⟩
  | .str i, _, _, _, h, r => by cases h; obtain ⟨t, rfl⟩ := r; exact ⟨_, Reads.str i t⟩
  | .list ds, _, _, f, h, r => by
    cases h with
    | lst hs ha =>
      cases r
      obtain ⟨its, rv, ⟨o, n, ho, hc, _, hd⟩, _⟩ := I.list (SqL.of hs)
      obtain ⟨as, hr⟩ := rpa_reads I ds _ its (by simpa only [flatD] using f) ha rv
      exact ⟨_, Reads.list ho hc hd hr⟩
  | .tuple ds, _, _, f, h, r => by
    cases h with
    | tup hs ha =>
      cases r
      obtain ⟨its, rv, ⟨o, ho, hc, n, hd⟩, _⟩ := I.tuple hs
      obtain ⟨as, hr⟩ := rpa_reads I ds _ its (by simpa only [flatD] using f) ha rv
      exact ⟨_, Reads.tuple ho hc hd hr⟩
  | .dict _, _, _, f, _, _ => by simp only [flatD] at f; cases f
theorem rpa_reads (I : Inv X pins σ H s) : ∀ (ds : List PyData) (vs : List V) (us : List Value), flatA ds = true → RpA X.K H vs ds → Vals vs us → ∃ as, ReadsAll s.heap us ds as
  | [], _, _, _, h, r => by cases h; cases r; exact ⟨_, ReadsAll.nil⟩
  | d :: ds, _, _, f, h, r => by
    cases h with
    | cons h1 h2 =>
      cases r with
      | cons r1 r2 =>
        rw [flatA, Bool.and_eq_true] at f
        obtain ⟨as, q1⟩ := rp_reads I d _ _ f.1 h1 r1
        obtain ⟨bs, q2⟩ := rpa_reads I ds _ _ f.2 h2 r2
        exact ⟨_, ReadsAll.cons q1 q2⟩
end
mutual
theorem flat_of_can : ∀ d : PyData, d.canLay0 = true → flatD d = true
  | .none, _ => by simp only [flatD]
  | .bool _, _ => by simp only [flatD]
  | .int _, _ => by simp only [flatD]
  | .str _, _ => by simp only [flatD]
  | .list xs, h => by simp only [flatD]; exact flatA_of_can xs (by simpa only [PyData.canLay0] using h)
  | .tuple xs, h => by simp only [flatD]; exact flatA_of_can xs (by simpa only [PyData.canLay0] using h)
  | .dict _, h => by simp only [PyData.canLay0] at h; cases h
theorem flatA_of_can : ∀ d : List PyData, PyData.canLayAll0 d = true → flatA d = true
  | [], _ => by simp only [flatA]
  | x :: xs, h => by
    simp only [PyData.canLayAll0, Bool.and_eq_true] at h
    rw [flatA, flat_of_can x h.1, flatA_of_can xs h.2]
    rfl
end
end
/-- two values alike -/
def gEqv (f : Bool → Bool) : G2 := fun x y P => match x, y with
  | .int i, .int j => P (.d (.bool (f (decide (i = j)))))
  | .str i, .str j => P (.d (.bool (f (decide (i = j)))))
  | .bool i, .bool j => P (.d (.bool (f (decide (i = j)))))
  | x, y => SeqAt.shaped x = true ∧ SeqAt.shaped y = true ∧ P (.d (.bool (f (x.eqv y))))
section
variable {X : Cx} {w : Wn}
theorem o_eq (hu : X.A.units + 64 < cLine) : OpR X (compareOp .Eq) (lR X.K w.b (gEqv id)) := by
  intro pins s σ H x y v u Q I rx ry h
  obtain ⟨F, dx, dy, P, wd, hx, hy, g, q⟩ := h
  unfold gEqv at g
  split at g
  · cases hx.int; cases hy.int
    refine op_eq pins s σ H _ _ v u Q I rx ry ⟨rfl, ?_⟩
    rw [dec_int, Bool.beq_eq_decide_eq]
    exact q _ _ F H wd.refl (res_d (.bl _)) g
  · cases hx.str; cases hy.str
    refine op_eq pins s σ H _ _ v u Q I rx ry ⟨rfl, ?_⟩
    rw [dec_str, Bool.beq_eq_decide_eq]
    exact q _ _ F H wd.refl (res_d (.bl _)) g
  · cases hx.bl; cases hy.bl
    refine op_eq pins s σ H _ _ v u Q I rx ry ⟨rfl, ?_⟩
    rw [dec_bl, Bool.beq_eq_decide_eq]
    exact q _ _ F H wd.refl (res_d (.bl _)) g
  · obtain ⟨as, r1⟩ := rp_reads I _ _ _ (flat_of_can _ (SeqAt.canLay_of_shaped g.1)) (hx.all wd.sub) rx
    obtain ⟨bs, r2⟩ := rp_reads I _ _ _ (flat_of_can _ (SeqAt.canLay_of_shaped g.2.1)) (hy.all wd.sub) ry
    exact SeqAt.compareEq_shaped r1 r2 g.1 g.2.1 hu ⟨.bl _, H, I, rfl, q _ _ F H wd.refl (res_d (.bl _)) g.2.2⟩
theorem o_ne (hu : X.A.units + 64 < cLine) : OpR X (compareOp .NotEq) (lR X.K w.b (gEqv not)) := by
  intro pins s σ H x y v u Q I rx ry h
  obtain ⟨F, dx, dy, P, wd, hx, hy, g, q⟩ := h
  unfold gEqv at g
  split at g
  · cases hx.int; cases hy.int
    refine op_ne pins s σ H _ _ v u Q I rx ry ⟨rfl, ?_⟩
    rw [dec_int, Bool.beq_eq_decide_eq]
    exact q _ _ F H wd.refl (res_d (.bl _)) g
  · cases hx.str; cases hy.str
    refine op_ne pins s σ H _ _ v u Q I rx ry ⟨rfl, ?_⟩
    rw [dec_str, Bool.beq_eq_decide_eq]
    exact q _ _ F H wd.refl (res_d (.bl _)) g
  · cases hx.bl; cases hy.bl
    refine op_ne pins s σ H _ _ v u Q I rx ry ⟨rfl, ?_⟩
    rw [dec_bl, Bool.beq_eq_decide_eq]
    exact q _ _ F H wd.refl (res_d (.bl _)) g
  · obtain ⟨as, r1⟩ := rp_reads I _ _ _ (flat_of_can _ (SeqAt.canLay_of_shaped g.1)) (hx.all wd.sub) rx
    obtain ⟨bs, r2⟩ := rp_reads I _ _ _ (flat_of_can _ (SeqAt.canLay_of_shaped g.2.1)) (hy.all wd.sub) ry
    exact SeqAt.compareNe_shaped r1 r2 g.1 g.2.1 hu ⟨.bl _, H, I, rfl, q _ _ F H wd.refl (res_d (.bl _)) g.2.2⟩
/-! ### arguments, displays -/
variable {e : Expr} {es : List Expr} {te : DT} {t tr : DA} {pos : Pos}
def frz : DV → DV
  | .fr xs => .d (.list xs)
  | x => x
theorem frz_ok {K : PySem.W.Frag} {b : Bg} {F H F' H' : Hp} {v : V} {dv : DV} (s : Stp K b F H F' H') (r : Res K b H F' H' dv v) : ∃ F2, Stp K b F H F2 H' ∧ ArR K b F2 H' (frz dv) v := by
  cases dv with
  | d x => exact ⟨F', s, r⟩
  | fr xs =>
    obtain ⟨p, vs, rfl, h0, hf, ne, hp, q⟩ := r
    exact ⟨_, s.freeze h0 hf ne hp, Rp.lst upd_same (q.up (same_laid hf))⟩
  | ow l xs => exact ⟨F', s, r⟩
  | raw u => exact ⟨F', s, r⟩
  | bag => exact ⟨F', s, r⟩
theorem ArR.step {K : PySem.W.Frag} {b : Bg} {F H F' H' : Hp} (s : Stp K b F H F' H') : ∀ {dv : DV} {v : V}, ArR K b F H dv v → ArR K b F' H' dv v
  | .d _, _, r => Rp.up s.ex r
  | .fr xs, _, r => r.elim
  | .ow l xs, _, ⟨e, hf, ne, vs, hp, r⟩ => ⟨e, s.new l hf (by rw [hp]; exact fun z => nomatch z), ne, vs, s.keep _ _ ne (fun _ z => nomatch z) hp, r.up s.ex⟩
  | .raw _, _, e => e
  | .bag, _, e => e
def tNilD : DA := fun _ P => P []
def tConsD (te : DT) (tr : DA) : DA := fun env P => te env fun u => tr env fun us => P (frz u :: us)
theorem da_nil : DPA X w [] tNilD := pa_weak pa_nil fun σ H Q ⟨env, F, P, r, h, q⟩ => q [] [] F H r.wd.refl .nil h
theorem da_cons (ha : DPE X w e te) (hr : DPA X w es tr) (hs : starEach (e :: es) X.env = (false, eval e X.env) :: starEach es X.env := by rfl) : DPA X w (e :: es) (tConsD te tr) :=
  pa_weak (pa_cons ha hr hs) fun σ H Q ⟨env, F, P, r, h, q⟩ => ⟨env, F, _, r, h, fun dv v F1 H1 s1 r1 h1 => by
    obtain ⟨F2, s2, a2⟩ := frz_ok s1 r1
    exact ⟨env, F2, _, r.step s2, h1, fun dvs vs F3 H3 s3 r3 h3 => q (frz dv :: dvs) (v :: vs) F3 H3 (s2.trans s3) (.cons (a2.step s3) r3) h3⟩⟩
/-- all of them data -/
def allD : List DV → (List PyData → Prop) → Prop
  | [], k => k []
  | .d x :: r, k => allD r fun xs => k (x :: xs)
  | _ :: _, _ => False
theorem allD_ok {K : PySem.W.Frag} {b : Bg} {F H : Hp} : ∀ {dvs : List DV} {vs : List V} {k : List PyData → Prop}, Paired (ArR K b F H) dvs vs → allD dvs k → ∃ xs, RpA K F vs xs ∧ k xs
  | _, _, _, .nil, h => ⟨[], .nil, h⟩
  | .d x :: r, _, k, .cons a t, h => by
    obtain ⟨xs, q, hk⟩ := allD_ok t (show allD r (fun xs => k (x :: xs)) from h)
    exact ⟨x :: xs, .cons a q, hk⟩
  | .fr _ :: _, _, _, .cons _ _, h => h.elim
  | .ow _ _ :: _, _, _, .cons _ _, h => h.elim
  | .raw _ :: _, _, _, .cons _ _, h => h.elim
  | .bag :: _, _, _, .cons _ _, h => h.elim
def tLstD (t : DA) : DT := fun env P => t env fun us => allD us fun xs => xs.length ≤ 100000 ∧ P (.fr xs)
def tTupD (t : DA) : DT := fun env P => t env fun us => allD us fun xs => xs.length ≤ 100000 ∧ P (.d (.tuple xs))
theorem d_lst (h : DPA X w es t) : DPE X w (.List es pos) (tLstD t) := pe_weak (pe_lst h) fun σ H Q ⟨env, F, P, r, h, q⟩ => ⟨env, F, _, r, h, fun dvs vs F1 H1 s1 r1 h1 => by
  obtain ⟨xs, q1, hz, hp⟩ := allD_ok r1 h1
  exact ⟨by rw [q1.len]; exact lim_le hz, res_new s1.wd q1 (fun dv v F2 H2 s2 r2 h2 => q dv v F2 H2 (s1.trans s2) (r2.early s1) h2) hp⟩⟩
theorem d_tup {x1} (h : DPA X w es t) : DPE X w (.Tuple es x1 pos) (tTupD t) := pe_weak (pe_tup h) fun σ H Q ⟨env, F, P, r, h, q⟩ => ⟨env, F, _, r, h, fun dvs vs F1 H1 s1 r1 h1 => by
  obtain ⟨xs, q1, hz, hp⟩ := allD_ok r1 h1
  exact ⟨by rw [q1.len]; exact lim_le hz, res_newT s1.wd q1 (fun dv v F2 H2 s2 r2 h2 => q dv v F2 H2 (s1.trans s2) (r2.early s1) h2) hp⟩⟩
/-! ### an item -/
variable {a b : Expr} {ta tb : DT}
def gIx : G2 := fun x y P => match x, y with
  | .list xs, .int i => match atI xs i with
    | some z => P (.d z)
    | none => False
  | .tuple xs, .int i => match atI xs i with
    | some z => P (.d z)
    | none => False
  | .str z, .int i => z.length ≤ 100000 ∧ match atI z.cps.toList i with
    | some c => P (.d (.str ⟨#[c]⟩))
    | none => False
  | _, _ => False
theorem at_rp {K : PySem.W.Frag} {F : Hp} {vs : List V} {xs : List PyData} {i : Int} {z : PyData} (r : RpA K F vs xs) (h : atI xs i = some z) : ∃ v, atI vs i = some v ∧ Rp K F v z := by
  unfold atI at h ⊢
  rw [r.len]
  cases e : ixN xs.length i with
  | none => rw [e] at h; cases h
  | some j =>
    rw [e] at h
    exact r.get h
theorem ix_all : IxR X (lR X.K w.b gIx) := by
  intro value slice pins s σ H x y v u Q I rx ry h hs
  obtain ⟨F, dx, dy, P, wd, hx, hy, g, q⟩ := h
  unfold gIx at g
  split at g
  · obtain ⟨l, vs, rfl, e, r⟩ := hx.lst wd.sub
    cases hy.int
    split at g
    · next z ez =>
      obtain ⟨v1, e1, r1⟩ := at_rp r ez
      exact ix_list value slice pins s σ H _ _ v u Q I rx ry ⟨l, vs, _, v1, rfl, rfl, SqL.of e, e1, q _ _ F H wd.refl (res_d r1) g⟩ hs
    · exact g.elim
  · obtain ⟨l, vs, rfl, e, r⟩ := hx.tup wd.sub
    cases hy.int
    split at g
    · next z ez =>
      obtain ⟨v1, e1, r1⟩ := at_rp r ez
      exact ix_tup value slice pins s σ H _ _ v u Q I rx ry ⟨l, vs, _, v1, rfl, rfl, e, e1, q _ _ F H wd.refl (res_d r1) g⟩ hs
    · exact g.elim
  · cases hx.str
    cases hy.int
    obtain ⟨hz, g⟩ := g
    split at g
    · next z ez => exact ix_str value slice pins s σ H _ _ v u Q I rx ry ⟨_, _, z, rfl, rfl, lim_le hz, ez, q _ _ F H wd.refl (res_d (.str _)) g⟩ hs
    · exact g.elim
  · exact g.elim
theorem d_ix (ha : DPE X w a ta) (hb : DPE X w b tb) (hs : PlainIx b := by exact fun _ _ => rfl) : DPE X w (.Subscript a b pos) (tBin gIx ta tb) := pe_weak (pe_ix ix_all ha hb hs) fun _ _ _ h => bin_go h
end
end Dl
namespace Dl
open PySem PySem.Spec PyProof.Rows L2
/-! ### built-ins by values -/
abbrev GC := List DV → (DV → Prop) → Prop
def lC (K : PySem.W.Frag) (b : Bg) (g : GC) : List V → Hp → VK → Prop := fun vs H Q => ∃ F dvs P, Wd K b F H ∧ Paired (ArR K b F H) dvs vs ∧ g dvs P ∧ ∀ dv v F' H', Stp K b F H F' H' → Res K b H F' H' dv v → P dv → Q v H'
def tCallD (g : GC) (t : DA) : DT := fun env P => t env fun us => g us P
section
variable {K : PySem.W.Frag} {b : Bg} {F H F' H' Hz : Hp}
theorem arr_rr {dv : DV} {v : V} {k : PyData → Prop} (r : ArR K b F H dv v) (h : rd dv k) : ∃ x, Rr K b F H v x ∧ k x := by
  cases dv with
  | d x => exact ⟨x, .d r, h⟩
  | fr xs => exact False.elim r
  | ow l xs =>
    obtain ⟨rfl, hf, ne, vs, hp, q⟩ := r
    exact ⟨_, .o hf ne hp q, h⟩
  | raw u => exact False.elim h
  | bag => exact False.elim h
def one : List DV → (DV → Prop) → Prop
  | [x], k => k x
  | _, _ => False
def two : List DV → (DV → DV → Prop) → Prop
  | [x, y], k => k x y
  | _, _ => False
theorem one_ok {R : DV → V → Prop} {dvs : List DV} {vs : List V} {k : DV → Prop} (r : Paired R dvs vs) (h : one dvs k) : ∃ x v, vs = [v] ∧ R x v ∧ k x := by
  unfold one at h
  split at h
  · cases r with | cons a t => cases t; exact ⟨_, _, rfl, a, h⟩
  · exact h.elim
theorem two_ok {R : DV → V → Prop} {dvs : List DV} {vs : List V} {k : DV → DV → Prop} (r : Paired R dvs vs) (h : two dvs k) : ∃ x y v u, vs = [v, u] ∧ R x v ∧ R y u ∧ k x y := by
  unfold two at h
  split at h
  · cases r with | cons a t => cases t with | cons a2 t => cases t; exact ⟨_, _, _, _, rfl, a, a2, h⟩
  · exact h.elim
end
section
variable {X : Cx} {w : Wn} {e : Expr} {es : List Expr} {t : DA} {x : Str} {p pos : Pos} {id T : String} {g : GC}
theorem callb_go {σ : L2.St} {H : Hp} {Q : VK} (h : lf X.K w (tCallD g t) σ H Q) : tCB (lC X.K w.b g) (lfA X.K w t) σ H Q := by
  obtain ⟨env, F, P, r, h, q⟩ := h
  exact ⟨env, F, _, r, h, fun dvs vs F1 H1 s1 r1 h1 => ⟨F1, dvs, P, s1.wd, r1, h1, fun dv v F2 H2 s2 r2 h2 => q dv v F2 H2 (s1.trans s2) (r2.early s1) h2⟩⟩
theorem d_callB (hc : CallR X (.builtin id) (lC X.K w.b g)) (gl : Gl X x) (gm : X.mg x = none) (gv : bootBuiltins x = some (.builtin id)) (ha : DPA X w (e :: es) t) (hn : x ≠ "__name__" := by decide) (db : (x == ("__debug__" : Str)) = false := by decide)
    (he : starEach (e :: es) X.env = (false, eval e X.env) :: starEach es X.env := by rfl) (hpl : (backTo pos (starEach es X.env)).any (·.1) = false := by rfl) : DPE X w (.Call (.Name x p) (e :: es) [] pos) (tCallD g t) :=
  pe_weak (pe_callB hc gl gm gv ha hn db he hpl) fun _ _ _ h => callb_go h
theorem d_callTy (hc : CallR X (.type T) (lC X.K w.b g)) (gl : Gl X x) (gm : X.mg x = none) (gv : bootBuiltins x = some (.type T)) (ha : DPA X w (e :: es) t) (hn : x ≠ "__name__" := by decide) (db : (x == ("__debug__" : Str)) = false := by decide)
    (he : starEach (e :: es) X.env = (false, eval e X.env) :: starEach es X.env := by rfl) (hpl : (backTo pos (starEach es X.env)).any (·.1) = false := by rfl) : DPE X w (.Call (.Name x p) (e :: es) [] pos) (tCallD g t) :=
  pe_weak (pe_callTy hc gl gm gv ha hn db he hpl) fun _ _ _ h => callb_go h
theorem d_callM (hc : CallR X (.builtin id) (lC X.K w.b g)) (gl : Gl X x) (gm : X.mg x = some (.builtin id)) (ha : DPA X w (e :: es) t) (db : (x == ("__debug__" : Str)) = false := by decide)
    (he : starEach (e :: es) X.env = (false, eval e X.env) :: starEach es X.env := by rfl) (hpl : (backTo pos (starEach es X.env)).any (·.1) = false := by rfl) : DPE X w (.Call (.Name x p) (e :: es) [] pos) (tCallD g t) :=
  pe_weak (pe_callBfun hc gl gm ha db he hpl) fun _ _ _ h => callb_go h
def cLen : GC := fun us P => one us fun u => rd u fun x => match x with
  | .list xs => P (.d (.int xs.length))
  | .tuple xs => P (.d (.int xs.length))
  | .str z => z.length ≤ 100000 ∧ P (.d (.int z.length))
  | _ => False
theorem k_len : CallR X (.builtin "len") (lC X.K w.b cLen) := by
  intro pins s σ H vs us Q I r h
  obtain ⟨F, dvs, P, wd, ar, g, q⟩ := h
  obtain ⟨u, v, rfl, a, g⟩ := one_ok ar g
  obtain ⟨x, hx, g⟩ := arr_rr a g
  split at g
  · obtain ⟨l, vs, rfl, e, r1⟩ := hx.lst wd.sub
    exact call_len_seq pins s σ H _ us Q I r ⟨l, vs, rfl, .inl (SqL.of e), by rw [r1.len]; exact q _ _ F H wd.refl (res_d (.int _)) g⟩
  · obtain ⟨l, vs, rfl, e, r1⟩ := hx.tup wd.sub
    exact call_len_seq pins s σ H _ us Q I r ⟨l, vs, rfl, .inr e, by rw [r1.len]; exact q _ _ F H wd.refl (res_d (.int _)) g⟩
  · cases hx.str
    exact call_len_str pins s σ H _ us Q I r ⟨_, rfl, lim_le g.1, q _ _ F H wd.refl (res_d (.int _)) g.2⟩
  · exact g.elim
def cAbs : GC := fun us P => one us fun u => rd u fun x => match x with
  | .int i => P (.d (.int i.natAbs))
  | _ => False
theorem k_abs : CallR X (.builtin "abs") (lC X.K w.b cAbs) := by
  intro pins s σ H vs us Q I r h
  obtain ⟨F, dvs, P, wd, ar, g, q⟩ := h
  obtain ⟨u, v, rfl, a, g⟩ := one_ok ar g
  obtain ⟨x, hx, g⟩ := arr_rr a g
  split at g
  · next i =>
    cases hx.int
    refine call_abs pins s σ H _ us Q I r ⟨i, rfl, ?_⟩
    have e : (if i < 0 then -i else i) = (i.natAbs : Int) := by split <;> omega
    rw [e]
    exact q _ _ F H wd.refl (res_d (.int _)) g
  · exact g.elim
def cMin (f : Int → Int → Int) : GC := fun us P => two us fun u z => rd u fun x => rd z fun y => match x, y with
  | .int i, .int j => P (.d (.int (f i j)))
  | _, _ => False
theorem k_min (hc : X.calm = true) : CallR X (.builtin "min") (lC X.K w.b (cMin min)) := by
  intro pins s σ H vs us Q I r h
  obtain ⟨F, dvs, P, wd, ar, g, q⟩ := h
  obtain ⟨u, z, v1, v2, rfl, a1, a2, g⟩ := two_ok ar g
  obtain ⟨x, hx, g⟩ := arr_rr a1 g
  obtain ⟨y, hy, g⟩ := arr_rr a2 g
  split at g
  · cases hx.int
    cases hy.int
    refine call_min2 hc pins s σ H _ us Q I r ⟨_, _, rfl, ?_⟩
    have e : ∀ i j : Int, (if j < i then j else i) = min i j := fun i j => by split <;> omega
    rw [e]
    exact q _ _ F H wd.refl (res_d (.int _)) g
  · exact g.elim
theorem k_max (hc : X.calm = true) : CallR X (.builtin "max") (lC X.K w.b (cMin max)) := by
  intro pins s σ H vs us Q I r h
  obtain ⟨F, dvs, P, wd, ar, g, q⟩ := h
  obtain ⟨u, z, v1, v2, rfl, a1, a2, g⟩ := two_ok ar g
  obtain ⟨x, hx, g⟩ := arr_rr a1 g
  obtain ⟨y, hy, g⟩ := arr_rr a2 g
  split at g
  · cases hx.int
    cases hy.int
    refine call_max2 hc pins s σ H _ us Q I r ⟨_, _, rfl, ?_⟩
    have e : ∀ i j : Int, (if j > i then j else i) = max i j := fun i j => by split <;> omega
    rw [e]
    exact q _ _ F H wd.refl (res_d (.int _)) g
  · exact g.elim
def cInt : GC := fun us P => one us fun u => rd u fun x => match x with
  | .int i => P (.d (.int i))
  | .bool c => P (.d (.int (if c then 1 else 0)))
  | _ => False
theorem k_int : CallR X (.type "int") (lC X.K w.b cInt) := by
  intro pins s σ H vs us Q I r h
  obtain ⟨F, dvs, P, wd, ar, g, q⟩ := h
  obtain ⟨u, v, rfl, a, g⟩ := one_ok ar g
  obtain ⟨x, hx, g⟩ := arr_rr a g
  split at g
  · cases hx.int
    exact call_int1 pins s σ H _ us Q I r (.inl ⟨_, rfl, q _ _ F H wd.refl (res_d (.int _)) g⟩)
  · cases hx.bl
    exact call_int1 pins s σ H _ us Q I r (.inr ⟨_, rfl, q _ _ F H wd.refl (res_d (.int _)) g⟩)
  · exact g.elim
def cGcd : GC := fun us P => two us fun u z => rd u fun x => rd z fun y => match x, y with
  | .int i, .int j => P (.d (.int ((Nat.gcd i.natAbs j.natAbs : Nat) : Int)))
  | _, _ => False
theorem k_gcd : CallR X (.builtin "math.gcd") (lC X.K w.b cGcd) := by
  intro pins s σ H vs us Q I r h
  obtain ⟨F, dvs, P, wd, ar, g, q⟩ := h
  obtain ⟨u, z, v1, v2, rfl, a1, a2, g⟩ := two_ok ar g
  obtain ⟨x, hx, g⟩ := arr_rr a1 g
  obtain ⟨y, hy, g⟩ := arr_rr a2 g
  split at g
  · cases hx.int
    cases hy.int
    exact cr_gcd pins s σ H _ us Q I r ⟨_, _, rfl, q _ _ F H wd.refl (res_d (.int _)) g⟩
  · exact g.elim
def cList : GC := fun us P => one us fun u => rd u fun x => match x with
  | .list xs => P (.fr xs)
  | .tuple xs => P (.fr xs)
  | _ => False
theorem k_list : CallR X (.type "list") (lC X.K w.b cList) := by
  intro pins s σ H vs us Q I r h
  obtain ⟨F, dvs, P, wd, ar, g, q⟩ := h
  obtain ⟨u, v, rfl, a, g⟩ := one_ok ar g
  obtain ⟨x, hx, g⟩ := arr_rr a g
  split at g
  · obtain ⟨l, vs, rfl, e, r1⟩ := hx.lst wd.sub
    exact call_list_of pins s σ H _ us Q I r ⟨l, vs, rfl, .inl (SqL.of e), res_new wd r1 q g⟩
  · obtain ⟨l, vs, rfl, e, r1⟩ := hx.tup wd.sub
    exact call_list_of pins s σ H _ us Q I r ⟨l, vs, rfl, .inr e, res_new wd r1 q g⟩
  · exact g.elim
/-! isinstance -/
def tyN : PyData → String
  | .none => "NoneType"
  | .bool _ => "bool"
  | .int _ => "int"
  | .str _ => "str"
  | .list _ => "list"
  | .tuple _ => "tuple"
  | .dict _ => "dict"
/-- an object of a class of the module -/
def isOb : PyData → Bool
  | .dict ((.none, _) :: _) => true
  | _ => false
theorem obD_isOb (c : Str) (ns : List Str) (xs : List PyData) : isOb (obD c ns xs) = true := rfl
theorem dct_isOb {K : PySem.W.Frag} {F : Hp} {kvs : List (Key × V)} {ks xs : List PyData} (r : RpA K F (kvs.map fun p => kV p.1) ks) : isOb (.dict (ks.zip xs)) = false := by
  match kvs, ks, xs, r with
  | [], _, _, .nil => rfl
  | (k, v) :: _, x :: _, y :: _, .cons a _ =>
    cases x with
    | none => cases k <;> cases a
    | _ => rfl
  | _ :: _, _ :: _, [], _ => rfl
def isA (n : String) : PyData → Bool
  | .none => n == "NoneType"
  | .bool _ => n == "bool" || n == "int"
  | .int _ => n == "int"
  | .str _ => n == "str"
  | .list _ => n == "list"
  | .tuple _ => n == "tuple"
  | .dict kvs => n == "dict" && !isOb (.dict kvs)
def cIsi (n : String) : GC := fun us P => two us fun u z => rd u fun x => match z with
  | .raw (.ty m) => m = n ∧ P (.d (.bool (isA n x)))
  | _ => False
theorem kit_all {n : String} (hn : n = "int" ∨ n = "bool" ∨ n = "str" ∨ n = "list" ∨ n = "tuple" ∨ n = "dict") (x : PyData) (hx : isOb x = false) : kitB (tyN x) n = some (isA n x) := by
  rcases hn with rfl | rfl | rfl | rfl | rfl | rfl <;> cases x <;> (simp only [tyN, isA, hx, Bool.not_false, Bool.and_true]; decide +kernel)
theorem ty_isa {K : PySem.W.Frag} {b : Bg} {F H : Hp} {v : V} {x : PyData} {n : String} (hn : n = "int" ∨ n = "bool" ∨ n = "str" ∨ n = "list" ∨ n = "tuple" ∨ n = "dict") (s : Same F H) (h : Rr K b F H v x) : ∃ t, TyX K H v t ∧ PySem.W.kitOne K t (.type n) = some (isA n x) := by
  cases x with
  | none => cases h.non; exact ⟨_, .base .non, kit_ty (kit_all hn .none rfl)⟩
  | bool c => cases h.bl; exact ⟨_, .base (.bl _), kit_ty (kit_all hn (.bool c) rfl)⟩
  | int c => cases h.int; exact ⟨_, .base (.int _), kit_ty (kit_all hn (.int c) rfl)⟩
  | str c => cases h.str; exact ⟨_, .base (.str _), kit_ty (kit_all hn (.str c) rfl)⟩
  | list xs => obtain ⟨l, vs, rfl, e, r⟩ := h.lst s; exact ⟨_, .base (.lst e), kit_ty (kit_all hn (.list xs) rfl)⟩
  | tuple xs =>
    obtain ⟨l, vs, rfl, e, r⟩ := h.tup s
    refine ⟨_, ?_, kit_ty (kit_all hn (.tuple xs) rfl)⟩
    rcases e with (e | ⟨o, e⟩) | ⟨o, its, n, e, c, _⟩
    · exact .base (.tup e)
    · exact .fTuple e
    · exact .kTuple e c
  | dict kvs =>
    generalize e : PyData.dict kvs = z at h
    cases h with
    | d h =>
      cases h with
      | dct h r q => exact ⟨_, .base (.dK (s _ _ h)), kit_ty (kit_all hn _ (dct_isOb r))⟩
      | obj h hc _ _ r =>
        refine ⟨_, .base (.ins (s _ _ h) hc.cls hc.ha hc.hn hc.ht hc.hm), ?_⟩
        rw [hc.kit n hn]
        simp only [isA, obD, isOb, Bool.not_true, Bool.and_false]
      | _ => cases e
    | o => cases e
theorem k_isi {n : String} (hn : n = "int" ∨ n = "bool" ∨ n = "str" ∨ n = "list" ∨ n = "tuple" ∨ n = "dict") : CallR X (.builtin "isinstance") (lC X.K w.b (cIsi n)) := by
  intro pins s σ H vs us Q I r h
  obtain ⟨F, dvs, P, wd, ar, g, q⟩ := h
  obtain ⟨u, z, v1, v2, rfl, a1, a2, g⟩ := two_ok ar g
  obtain ⟨x, hx, g⟩ := arr_rr a1 g
  split at g
  · obtain ⟨e, g⟩ := g
    subst e
    cases (show v2 = V.ty _ from a2)
    obtain ⟨t, ty, kt⟩ := ty_isa hn wd.sub hx
    exact call_isi pins s σ H _ us Q I r ⟨v1, .ty _, _, _, _, rfl, .ty _, ty, kt, q _ _ F H wd.refl (res_d (.bl _)) g⟩
  · exact g.elim
end
/-! ### calls of the text's own defs -/
def Fg (P : Program) (w : World) (K : PySem.W.Frag) (mg : Str → Option Value) (base : Heap) (CX : CXT) (k : Nat) (f : Addr) (sp : Sp) : Prop :=
  ∀ (A : Around) (outer : List Env) (s : Shared) (H : Hp) (us : List Value) (vs : List V) (Q : VK) (E : XK), A.guards = some [] → Room k A → Env0 P w K mg base A outer s H → Vals vs us → sp vs H Q E →
    codeAny (model P w) A (.call (.ref f) { pos := us, kw := [] }) (CR CX outer P w H s Q E) s
/-- a promise in the data's words -/
abbrev DSp := List DV → (DV → Prop) → Prop
def AgR (K : PySem.W.Frag) (b : Bg) (F : Hp) : DV → V → Prop
  | .d x, v => Rp K F v x
  | .raw u, v => v = u
  | .bag, v => v = .ref b.b
  | _, _ => False
def Pm (K : PySem.W.Frag) (ts : List Addr) (sp : DSp) : Sp := fun vs H Q _ => ∃ b F dvs P, b.ts = ts ∧ Wd K b F H ∧ Paired (AgR K b F) dvs vs ∧ sp dvs P ∧ ∀ dv v F' H', Stp K b F H F' H' → Res K b H F' H' dv v → P dv → Q v H'
mutual
def noL : PyData → Bool
  | .none => true
  | .bool _ => true
  | .int _ => true
  | .str _ => true
  | .list _ => false
  | .tuple xs => noLs xs
  | .dict _ => false
def noLs : List PyData → Bool
  | [] => true
  | x :: xs => noL x && noLs xs
end
def dat : DV → DV
  | .ow _ xs => .d (.list xs)
  | x => x
def owA : DV → List Addr
  | .ow l _ => [l]
  | _ => []
def anyOw (us : List DV) : List Addr := us.flatMap owA
def okR (us : List DV) (r : DV) : Prop := anyOw us = [] ∨ match r with
  | .d x => noL x = true
  | _ => False
def tUse (sp : DSp) (t : DA) : DT := fun env P => t env fun us => sp (us.map dat) fun r => okR us r ∧ P r
section
variable {K : PySem.W.Frag} {b : Bg} {F H F' H' : Hp}
/-- the heap F with the owned lists known too -/
def opn (ls : List Addr) (F H : Hp) : Hp := fun a => if a ∈ ls then H a else F a
def shut (ls : List Addr) (F : Hp) : Hp := fun a => if a ∈ ls then none else F a
theorem opn_same {ls : List Addr} (h : ∀ l ∈ ls, F l = none) : Same F (opn ls F H) := fun a o e => by
  unfold opn
  rw [if_neg (fun z => by rw [h a z] at e; cases e)]
  exact e
theorem args_open {dvs : List DV} {vs : List V} (r : Paired (ArR K b F H) dvs vs) : ∀ l ∈ anyOw dvs, F l = none ∧ l ≠ b.b ∧ ∃ ws, H l = some (.lst ws) := by
  induction r with
  | nil => intro l hl; cases hl
  | @cons dv v dvs vs a t ih =>
    intro l hl
    rcases List.mem_append.mp (show l ∈ owA dv ++ anyOw dvs from hl) with h | h
    · cases dv with
      | ow m xs =>
        obtain rfl : l = m := by simpa [owA] using h
        obtain ⟨_, hf, ne, ws, e, _⟩ := a
        exact ⟨hf, ne, ws, e⟩
      | d x => simp [owA] at h
      | fr xs => simp [owA] at h
      | raw v => simp [owA] at h
      | bag => simp [owA] at h
    · exact ih l h
theorem args_dat {ls : List Addr} {dvs : List DV} {vs : List V} (r : Paired (ArR K b F H) dvs vs) (hs : Same F (opn ls F H)) (hl : ∀ l ∈ anyOw dvs, l ∈ ls) : Paired (AgR K b (opn ls F H)) (dvs.map dat) vs := by
  induction r with
  | nil => exact .nil
  | @cons dv v dvs vs a t ih =>
    refine .cons ?_ (ih fun l h => hl l (List.mem_append.mpr (.inr h)))
    cases dv with
    | d x => exact Rp.up hs a
    | raw u => exact a
    | bag => exact a
    | fr xs => exact a.elim
    | ow l xs =>
      obtain ⟨rfl, hf, ne, ws, e, q⟩ := a
      have : l ∈ ls := hl l (List.mem_append.mpr (.inl (by simp [owA])))
      refine Rp.lst ?_ (q.up hs)
      unfold opn
      rw [if_pos this]
      exact e
mutual
theorem noL_up {F2 : Hp} (h : ∀ a o, (∀ us, o ≠ .lst us) → (∀ ob us, o ≠ .frz ob (.lst us)) → F a = some o → F2 a = some o) : ∀ {v : V} {x : PyData}, noL x = true → Rp K F v x → Rp K F2 v x
  | _, _, _, .non => .non
  | _, _, _, .bl b => .bl b
  | _, _, _, .int b => .int b
  | _, _, _, .str b => .str b
  | _, _, n, .lst _ _ => by simp only [noL] at n; cases n
  | _, _, n, .tup e r => by
    refine .tup ?_ (noLs_up h (by simpa only [noL] using n) r)
    rcases e with (e | ⟨o, e⟩) | e
    · exact .inl (.inl (h _ _ (fun us z => by cases z) (fun ob us z => by cases z) e))
    · exact .inl (.inr ⟨o, h _ _ (fun us z => by cases z) (fun ob us z => by cases z) e⟩)
    · exact .inr e
  | _, _, n, .dct _ _ _ => by simp only [noL] at n; cases n
  | _, _, n, .obj _ _ _ _ _ => by simp only [obD, noL] at n; cases n
theorem noLs_up {F2 : Hp} (h : ∀ a o, (∀ us, o ≠ .lst us) → (∀ ob us, o ≠ .frz ob (.lst us)) → F a = some o → F2 a = some o) : ∀ {v : List V} {x : List PyData}, noLs x = true → RpA K F v x → RpA K F2 v x
  | _, _, _, .nil => .nil
  | _, _, n, .cons a t => by
    rw [noLs, Bool.and_eq_true] at n
    exact .cons (noL_up h n.1 a) (noLs_up h n.2 t)
end
end
section
variable {X : Cx} {w : Wn} {CX : CXT} {k : Nat} {f : Addr} {sp : Sp} {ds : DSp} {E : XK} {x : Str} {e : Expr} {es : List Expr} {p pos : Pos} {t : DA}
theorem run_g {pins : List (Addr × Obj)} {σ : L2.St} {H : Hp} {s : Shared} {Q : VK} {us : List Value} {vs : List V} (Fk : Fg X.prog X.w X.K X.mg X.base CX k f sp) (ag : X.A.guards = some []) (room : Room k X.A) (ps : Passes CX X E)
    (I : L2.Inv X pins σ H s) (rv : Vals vs us) (want : sp vs H Q E) : wpAny (model X.prog X.w) X.A (call (.ref f) us) (EP X pins σ Q) X.xe s := by
  refine wpAny_call (codeAny_mono (Fk X.A X.stack s H us vs Q E ag room I.env0 rv want) fun res s2 got => ?_)
  match res, got with
  | .error u, got => exact ps pins σ H s u s2 I got
  | .ok (.ret u), got => exact I.after got
theorem d_use {ts : List Addr} (Fk : Fg X.prog X.w X.K X.mg X.base CX k f (Pm X.K ts ds)) (ht : w.b.ts = ts) (ag : X.A.guards = some []) (room : Room k X.A) (ps : Passes CX X E) (gl : Gl X x) (gm : X.mg x = some (.ref f)) (kp : PySem.W.keepIn X.K (.ref f) = true)
    (ha : DPA X w (e :: es) t) (db : (x == ("__debug__" : Str)) = false := by decide) (s1 : starEach (e :: es) X.env = (false, eval e X.env) :: starEach es X.env := by rfl) (s2 : (backTo pos (starEach es X.env)).any (·.1) = false := by rfl) :
    DPE X w (.Call (.Name x p) (e :: es) [] pos) (tUse ds t) := by
  have base : PE X (.Call (.Name x p) (e :: es) [] pos) (fun σ H Q => lfA X.K w t σ H fun vs H1 => Pm X.K ts ds vs H1 Q E) := by
    refine ⟨fun pins s σ H Q I want => wpAny_Call_Name_kw (ld_glob I gl gm ?_ db)⟩
    refine PySem.W.callWith_K (h₀ := X.base) I.ok.mod.kin kp ?_ s1 s2
    exact thn (ha.run pos pins s σ H _ I want) fun us st ⟨vs, H1, I1, rv, q⟩ => ⟨I1.kIn, run_g Fk ag room ps I1 rv q⟩
  refine pe_weak base fun σ H Q ⟨env, F, P, r, h, q⟩ => ⟨env, F, _, r, h, fun dvs vs F1 H1 st ar h1 => ?_⟩
  have op := args_open ar
  have hs : Same F1 (opn (anyOw dvs) F1 H1) := opn_same fun l hl => (op l hl).1
  refine ⟨w.b, opn (anyOw dvs) F1 H1, _, _, ht, ⟨st.bag.up hs rfl (fun t _ h1 h2 => ⟨by unfold opn; rw [if_neg (fun m => by obtain ⟨ps, z, _⟩ := h2; obtain ⟨_, _, ws, e⟩ := op t m; rw [e] at z; cases z)]; exact h1, h2⟩), fun a o z => ?_, ?_⟩, args_dat ar hs (fun l hl => hl), h1, fun dv v F2 H2 s2 rs ⟨ok, hp⟩ => ?_⟩
  · unfold opn at z
    split at z
    · exact z
    · exact st.sub _ _ z
  · unfold opn
    rw [if_neg fun z => (op _ z).2.1 rfl]
    exact st.fb
  · by_cases em : anyOw dvs = []
    · have e1 : opn (anyOw dvs) F1 H1 = F1 := by
        funext a
        unfold opn
        rw [em, if_neg (by simp)]
      rw [e1] at s2
      exact q dv v F2 H2 (st.trans s2) (rs.early st) hp
    · rcases ok with ok | ok
      · exact absurd ok em
      · cases dv with
        | d x =>
          have sh : Stp X.K w.b F1 H1 (shut (anyOw dvs) F2) H2 := by
            refine ⟨s2.keep, ⟨s2.bag.1, ?_, s2.bag.2.2.1, fun t m => ⟨by unfold shut; split; exact rfl; exact (s2.bag.2.2.2 t m).1, (s2.bag.2.2.2 t m).2⟩⟩, fun a o z => ?_, fun a o z => ?_, ?_, fun a z1 z2 => ?_, s2.tab⟩
            · unfold shut
              rw [if_neg fun m => by have := st.bag.2.1; rw [(op _ m).1] at this; cases this]
              exact s2.bag.2.1
            · unfold shut
              rw [if_neg fun m => by rw [(op a m).1] at z; cases z]
              exact s2.ex a o (hs a o z)
            · unfold shut at z
              split at z
              · cases z
              · exact s2.sub _ _ z
            · unfold shut
              split
              · rfl
              · exact s2.fb
            · unfold shut
              split
              · rfl
              · next m =>
                refine s2.new a ?_ z2
                unfold opn
                rw [if_neg m]
                exact z1
          refine q (.d x) v _ H2 (st.trans sh) (noL_up (fun a o n1 n2 z => ?_) ok rs) hp
          unfold shut
          rw [if_neg fun m => ?_]
          · exact z
          · obtain ⟨_, ne, ws, el⟩ := op a m
            have h3 := s2.keep a (.lst ws) ne (by intro _ z; cases z) el
            rw [s2.sub _ _ z] at h3
            cases h3
            exact n1 _ rfl
        | fr xs => exact ok.elim
        | ow l xs => exact ok.elim
        | raw u => exact ok.elim
        | bag => exact ok.elim
end
end Dl
namespace Dl
open PySem PySem.Spec PyProof.Rows L2
section
variable {K : PySem.W.Frag} {b : Bg} {F₀ H₀ F H F' H' : Hp} {env : List Sl} {σ : L2.St}
theorem Rel.put (r : Rel K b F₀ H₀ env σ F H) (i : Nat) {z : Sl} {v : V} (ok : SlOk K b H₀ F H z (some (some v))) (ow : ∀ l xs ys j, z = .ow l xs → j ≠ i → env[j]? ≠ some (.ow l ys)) :
    Rel K b F₀ H₀ (env.set i z) (σ.set i (some v)) F H := by
  refine ⟨by rw [List.length_set, List.length_set]; exact r.len, r.st, fun j s e => ?_, fun j k l xs ys h1 h2 => ?_⟩
  · rw [List.getElem?_set] at e ⊢
    by_cases h : i = j
    · subst h
      rw [if_pos rfl] at e ⊢
      by_cases hl : i < env.length
      · rw [if_pos hl] at e
        rw [if_pos (by rw [r.len]; exact hl)]
        cases e
        exact ok
      · rw [if_neg hl] at e
        cases e
    · rw [if_neg h] at e ⊢
      exact r.at' j s e
  · rw [List.getElem?_set] at h1 h2
    by_cases e1 : i = j
    · by_cases e2 : i = k
      · exact e1.symm.trans e2
      · rw [if_pos e1] at h1
        rw [if_neg e2] at h2
        split at h1
        · cases h1
          exact absurd h2 (ow l xs ys k rfl (Ne.symm e2))
        · cases h1
    · rw [if_neg e1] at h1
      by_cases e2 : i = k
      · rw [if_pos e2] at h2
        split at h2
        · cases h2
          exact absurd h1 (ow l ys xs j rfl (Ne.symm e1))
        · cases h2
      · rw [if_neg e2] at h2
        exact r.own j k l xs ys h1 h2
/-- the list of an owned slot is written -/
theorem Rel.wrt (r : Rel K b F₀ H₀ env σ F H) {i : Nat} {l : Addr} {xs ys : List PyData} {vs : List V} (e : env[i]? = some (.ow l xs)) (q : RpA K F vs ys) :
    Rel K b F₀ H₀ (env.set i (.ow l ys)) σ F (upd H l (.lst vs)) := by
  obtain ⟨es, h0, hf, ne, us, hl, _⟩ := r.at' i _ e
  have kp : ∀ a o, a ≠ l → H a = some o → upd H l (.lst vs) a = some o := fun a o n h => by rw [upd_ne n]; exact h
  refine ⟨by rw [List.length_set]; exact r.len, ⟨fun a o n nt h => ?_, ?_, r.st.ex, fun a o h => ?_, r.st.fb, r.st.new, fun a ps n h => by
    obtain ⟨qs, h1, k⟩ := r.st.tab a ps n h
    exact ⟨qs, by rw [upd_ne (ne_of_none h h0)]; exact h1, k⟩⟩, fun j s h => ?_, fun j k m as bs h1 h2 => ?_⟩
  · rw [upd_ne (ne_of_none h h0)]
    exact r.st.keep a o n nt h
  · exact r.st.bag.up (fun _ _ h => h) (upd_ne (Ne.symm ne)) (fun t _ h1 h2 => ⟨h1, by obtain ⟨ps, z, k⟩ := h2; exact ⟨ps, by rw [upd_ne (fun e => by rw [e, hl] at z; cases z)]; exact z, k⟩⟩)
  · rw [upd_ne (ne_of_none h hf)]
    exact r.st.sub a o h
  · rw [List.getElem?_set] at h
    by_cases hj : i = j
    · subst hj
      rw [if_pos rfl] at h
      split at h
      · cases h
        exact ⟨es, h0, hf, ne, vs, upd_same, q⟩
      · cases h
    · rw [if_neg hj] at h
      have old := r.at' j s h
      cases s with
      | un => exact old
      | d x => exact old
      | raw v => exact old
      | bag => exact old
      | ow m zs =>
        obtain ⟨e1, e2, e3, e4, ws, e5, e6⟩ := old
        have ml : m ≠ l := fun z => by subst z; exact hj (r.own i j _ _ _ e h)
        exact ⟨e1, e2, e3, e4, ws, by rw [upd_ne ml]; exact e5, e6⟩
  · rw [List.getElem?_set] at h1 h2
    by_cases e1 : i = j
    · by_cases e2 : i = k
      · exact e1.symm.trans e2
      · rw [if_pos e1] at h1
        rw [if_neg e2] at h2
        split at h1
        · cases h1
          exact absurd (r.own i k _ _ _ e h2) e2
        · cases h1
    · rw [if_neg e1] at h1
      by_cases e2 : i = k
      · rw [if_pos e2] at h2
        split at h2
        · cases h2
          exact absurd (r.own i j _ _ _ e h1) e1
        · cases h2
      · rw [if_neg e2] at h2
        exact r.own j k m as bs h1 h2
end
/-! ### statements -/
def stD (i : Nat) : DV → List Sl → (List Sl → Prop) → Prop
  | .d x, env, k => k (env.set i (.d x))
  | .fr xs, env, k => ∀ l, k (env.set i (.ow l xs))
  | .raw v, env, k => k (env.set i (.raw v))
  | .bag, env, k => k (env.set i .bag)
  | .ow _ _, _, _ => False
section
variable {X : Cx} {w : Wn} {e : Expr} {te : DT} {pos : Pos} {st : Stmt} {rest : List Stmt} {t u : DS}
theorem st_ok {σ : L2.St} {F H F1 H1 : Hp} {env : List Sl} {i : Nat} {dv : DV} {v : V} {k : List Sl → Prop} (r : RelW X.K w env σ F H) (s : Stp X.K w.b F H F1 H1) (rs : Res X.K w.b H F1 H1 dv v) (h : stD i dv env k) :
    ∃ env', RelW X.K w env' (σ.set i (some v)) F1 H1 ∧ k env' := by
  cases dv with
  | d x => exact ⟨_, (r.step s).put i (z := .d x) ⟨v, rfl, rs⟩ (fun l xs ys j z => by cases z), h⟩
  | raw u =>
    obtain rfl : v = u := rs
    exact ⟨_, (r.step s).put i (z := .raw v) rfl (fun l xs ys j z => by cases z), h⟩
  | bag =>
    obtain rfl : v = .ref w.b.b := rs
    exact ⟨_, (r.step s).put i (z := .bag) rfl (fun l xs ys j z => by cases z), h⟩
  | ow l xs => exact h.elim
  | fr xs =>
    obtain ⟨p, vs, rfl, h0, hf, ne, hp, q⟩ := rs
    refine ⟨_, (r.step s).put i (z := .ow p xs) ⟨rfl, r.st.back ne h0, hf, ne, vs, hp, q⟩ (fun l as bs j z nj ej => ?_), h p⟩
    cases z
    obtain ⟨_, _, _, _, us, e5, _⟩ := r.at' j _ ej
    rw [h0] at e5
    cases e5
def tSetD (i : Nat) (te : DT) : DS := fun d env => te env fun dv => stD i dv env d.nx
theorem ds_set {x : Str} {i : Nat} {pos' : Pos} (hN : X.N.Nodup) (hi : X.N[i]? = some x) (hx : Loc X.env.scope x) (he : DPE X w e te) (hs : swapsWith e (some (.Name x pos')) pos.line X.env = pure false := by rfl)
    (hf : X.fn x = true ∨ X.env.scope.names.lookup x = some .local := by first | exact .inl rfl | exact .inr rfl) : DPS X w (.Assign [.Name x pos'] e pos) (tSetD i te) :=
  ps_weak (ps_set hN hi hx he hs hf) fun D σ H ⟨env, F, d, r, h, fit⟩ => ⟨env, F, _, r, h, fun dv v F1 H1 s1 r1 h1 => by
    obtain ⟨env', r2, k⟩ := st_ok r s1 r1 h1
    exact fit.nx env' _ F1 H1 r2 s1.ex k⟩
def tSeqD (t u : DS) : DS := fun d env => t { d with nx := u d } env
theorem dss_nil : DPSs X w [] (fun d env => d.nx env) := pss_weak pss_nil fun D σ H ⟨env, F, d, r, h, fit⟩ => fit.nx env σ F H r sm0 h
theorem dss_one (h : DPS X w st t) : DPSs X w [st] t := pss_one h
theorem dss_cons (h1 : DPS X w st t) (h2 : DPSs X w rest u) : DPSs X w (st :: rest) (tSeqD t u) :=
  pss_weak (pss_cons h1 h2) fun D σ H ⟨env, F, d, r, h, fit⟩ => ⟨env, F, _, r, h, ⟨fun env' σ' F' H' r' sm h' => ⟨env', F', d, r', h', fit.up sm⟩, fit.bk, fit.ct, fit.rt⟩⟩
theorem ds_pass : DPS X w (.Pass pos) (fun d env => d.nx env) := ps_weak ps_pass fun D σ H ⟨env, F, d, r, h, fit⟩ => fit.nx env σ F H r sm0 h
theorem ds_break : DPS X w (.Break pos) (fun d env => d.bk env) := ps_weak ps_break fun D σ H ⟨env, F, d, r, h, fit⟩ => fit.bk env σ F H r sm0 h
theorem ds_cont : DPS X w (.Continue pos) (fun d env => d.ct env) := ps_weak ps_continue fun D σ H ⟨env, F, d, r, h, fit⟩ => fit.ct env σ F H r sm0 h
theorem ds_doc {x j pos'} : DPS X w (.Expr (.Constant (.str x) j pos) pos') (fun d env => d.nx env) := ps_weak ps_doc fun D σ H ⟨env, F, d, r, h, fit⟩ => fit.nx env σ F H r sm0 h
theorem ds_never : DPS X w st (fun _ _ => False) := ps_weak ps_never fun D σ H ⟨env, F, d, r, h, fit⟩ => h
theorem dss_never {sts : List Stmt} : DPSs X w sts (fun _ _ => False) := pss_weak pss_never fun D σ H ⟨env, F, d, r, h, fit⟩ => h
def tDropD (te : DT) : DS := fun d env => te env fun _ => d.nx env
theorem ds_expr (he : DPE X w e te) (hs : swapsWith e none pos.line X.env = pure false := by rfl) : DPS X w (.Expr e pos) (tDropD te) :=
  ps_weak (ps_expr he hs) fun D σ H ⟨env, F, d, r, h, fit⟩ => ⟨env, F, _, r, h, fun dv v F1 H1 s1 r1 h1 => fit.nx env _ F1 H1 (r.step s1) s1.ex h1⟩
def tRetD (te : DT) : DS := fun d env => te env fun dv => match dv with
  | .ow _ _ => False
  | x => d.rt x
theorem Res.since {K : PySem.W.Frag} {b : Bg} {F₀ H₀ F H F2 H2 : Hp} (s : Stp K b F₀ H₀ F H) {dv : DV} {v : V} (r : Res K b H F2 H2 dv v) : Res K b H₀ F2 H2 dv v := r.early s
theorem ds_ret (he : DPE X w e te) : DPS X w (.Return (some e) pos) (tRetD te) :=
  ps_weak (ps_ret he) fun D σ H ⟨env, F, d, r, h, fit⟩ => ⟨env, F, _, r, h, fun dv v F1 H1 s1 r1 h1 => by
    refine fit.rt dv v F1 H1 (r.st.trans s1) (r1.since r.st) ?_
    cases dv with
    | ow l xs => exact h1.elim
    | d x => exact h1
    | fr x => exact h1
    | raw x => exact h1
    | bag => exact h1⟩
def tRetVD (i : Nat) : DS := fun d env => match env[i]? with
  | some (.ow _ xs) => d.rt (.fr xs)
  | some (.d x) => d.rt (.d x)
  | some (.raw v) => d.rt (.raw v)
  | _ => False
theorem ds_retV (i : Nat) {x : Str} {p : Pos} (hN : X.N[i]? = some x := by rfl) (hv : Vis X.env.scope x := by first | exact Or.inl rfl | exact Or.inr (Or.inl rfl) | exact Or.inr (Or.inr rfl)) (hd : (x == ("__debug__" : Str)) = false := by decide) (hc : (x == ("__classdict__" : Str)) = false := by decide) :
    DPS X w (.Return (some (.Name x p)) pos) (tRetVD i) :=
  ps_weak (ps_ret (pe_var hN hv hd hc)) fun D σ H ⟨env, F, d, r, h, fit⟩ => by
    unfold tRetVD at h
    split at h
    · next l xs e =>
      obtain ⟨e1, h0, hf, ne, vs, hl, q⟩ := r.at' i _ e
      exact ⟨_, e1, fit.rt (.fr xs) _ F H r.st ⟨l, vs, rfl, h0, hf, ne, hl, q⟩ h⟩
    · next x e =>
      obtain ⟨v, e1, r1⟩ := r.at' i _ e
      exact ⟨v, e1, fit.rt (.d x) v F H r.st r1 h⟩
    · next v e => exact ⟨v, r.at' i _ e, fit.rt (.raw v) v F H r.st rfl h⟩
    · exact h.elim
theorem ds_retN : DPS X w (.Return none pos) (fun d _ => d.rt (.d .none)) := ps_weak ps_retN fun D σ H ⟨env, F, d, r, h, fit⟩ => fit.rt (.d .none) .non F H r.st Rp.non h
variable {c : Expr} {tc : DTT} {as bs : List Stmt}
def tIfD (c : DTT) (t u : DS) : DS := fun d env => c env fun k => if k = true then t d env else u d env
theorem ds_if (hc : DPT X w c tc) (ha : DPSs X w as t) (hb : DPSs X w bs u) : DPS X w (.If c as bs pos) (tIfD tc t u) :=
  ps_weak (ps_if hc ha hb) fun D σ H ⟨env, F, d, r, h, fit⟩ => ⟨env, F, _, r, h, fun k F1 H1 s1 h1 => by
    cases k with
    | true => exact ⟨env, F1, d, r.step s1, h1, fit.up s1.ex⟩
    | false => exact ⟨env, F1, d, r.step s1, h1, fit.up s1.ex⟩⟩
/-- an owned list becomes data for good, ahead of a statement -/
def frzS (i : Nat) (env : List Sl) : List Sl := match env[i]? with
  | some (.ow _ xs) => env.set i (.d (.list xs))
  | _ => env
theorem frz_rel {K : PySem.W.Frag} {w : Wn} {env : List Sl} {σ : L2.St} {F H : Hp} (i : Nat) (r : RelW K w env σ F H) : ∃ F2, RelW K w (frzS i env) σ F2 H ∧ Same F F2 := by
  unfold frzS
  split
  · next l xs e =>
    obtain ⟨e1, h0, hf, ne, vs, hl, q⟩ := r.at' i _ e
    have st := r.st.freeze h0 hf ne hl
    have up : Same F (upd F l (.lst vs)) := same_laid hf
    refine ⟨_, ⟨by rw [List.length_set]; exact r.len, st, fun j s h => ?_, fun j k m as bs h1 h2 => ?_⟩, up⟩
    · rw [List.getElem?_set] at h
      by_cases hj : i = j
      · subst hj
        rw [if_pos rfl] at h
        split at h
        · cases h
          exact ⟨_, e1, Rp.lst upd_same (q.up up)⟩
        · cases h
      · rw [if_neg hj] at h
        have old := r.at' j s h
        cases s with
        | un => exact old
        | d x => obtain ⟨v, a1, a2⟩ := old; exact ⟨v, a1, a2.up up⟩
        | raw v => exact old
        | bag => exact old
        | ow m zs =>
          obtain ⟨e1, e2, e3, e4, ws, e5, e6⟩ := old
          have ml : m ≠ l := fun z => by subst z; exact hj (r.own i j _ _ _ e h)
          exact ⟨e1, e2, by rw [upd_ne ml]; exact e3, e4, ws, e5, e6.up up⟩
    · rw [List.getElem?_set] at h1 h2
      by_cases c1 : i = j
      · rw [if_pos c1] at h1; split at h1 <;> cases h1
      · by_cases c2 : i = k
        · rw [if_pos c2] at h2; split at h2 <;> cases h2
        · rw [if_neg c1] at h1
          rw [if_neg c2] at h2
          exact r.own j k m as bs h1 h2
  · exact ⟨F, r, sm0⟩
theorem ds_frz (i : Nat) (h : DPS X w st t) : DPS X w st (fun d env => t d (frzS i env)) := ps_weak h fun D σ H ⟨env, F, d, r, h, fit⟩ => by
  obtain ⟨F2, r2, sm⟩ := frz_rel i r
  exact ⟨_, F2, d, r2, h, fit.up sm⟩
/-- xs.append(e) -/
def tAppD (i : Nat) (te : DT) : DS := fun d env => match env[i]? with
  | some (.ow l xs) => xs.length < 100000 ∧ te env fun dv => match frz dv with
    | .d x => d.nx (env.set i (.ow l (xs ++ [x])))
    | _ => False
  | _ => False
theorem ds_app {i : Nat} (base : PE X e (tBM X.K "list" rAppend (tVar i) (tCons (lf X.K w te) tNil))) (hs : swapsWith e none pos.line X.env = pure false := by rfl) : DPS X w (.Expr e pos) (tAppD i te) :=
  ps_weak (ps_expr base hs) fun D σ H ⟨env, F, d, r, h, fit⟩ => by
    unfold tAppD at h
    split at h
    · next l xs ei =>
      obtain ⟨e1, _, _, _, vs, hl, _⟩ := r.at' i _ ei
      obtain ⟨hz, h⟩ := h
      refine ⟨_, e1, .inl ⟨rfl, vs, SqL.of hl⟩, env, F, _, r, h, fun dv v F1 H1 s1 r1 h1 => ?_⟩
      obtain ⟨F2, s2, a2⟩ := frz_ok s1 r1
      have r2 := r.step s2
      obtain ⟨_, _, _, _, us, hl2, q2⟩ := r2.at' i _ ei
      split at h1
      · next x ex =>
        rw [ex] at a2
        refine ⟨l, us, v, rfl, rfl, hl2, by rw [q2.len]; exact lim_lt hz, ?_⟩
        exact fit.nx _ _ F2 _ (r2.wrt ei (q2.app (.cons a2 .nil))) s2.ex h1
      · exact h1.elim
    · exact h.elim
/-- xs[i] = e, xs an owned list -/
def tSetI (i : Nat) (ti te : DT) : DS := fun d env => te env fun dv => match frz dv, env[i]? with
  | .d x, some (.ow l xs) => ti env fun k => rd k fun y => match y with
    | .int j => match ixN xs.length j with
      | some m => d.nx (env.set i (.ow l (xs.set m x)))
      | none => False
    | _ => False
  | _, _ => False
theorem ds_seti {i : Nat} {ti : DT} {ix o : Expr} {p : Pos} (he : DPE X w e te) (ho : PE X o (tVar i)) (hi : DPE X w ix ti) (hp : PG X (.Subscript o ix p) (gSub (tVar i) (lf X.K w ti) rSetL)) (hs : swapsWithSole [.Subscript o ix p] e pos.line X.env = pure false := by rfl) (hw : swappedStores [.Subscript o ix p] e X.env = pure none := by rfl) :
    DPS X w (.Assign [.Subscript o ix p] e pos) (tSetI i ti te) :=
  ps_weak (ps_asg he hp hs hw) fun D σ H ⟨env, F, d, r, h, fit⟩ => ⟨env, F, _, r, h, fun dv v F1 H1 s1 r1 h1 => by
    obtain ⟨F2, s2, a2⟩ := frz_ok s1 r1
    have r2 := r.step s2
    split at h1
    · next x l xs ex ei =>
      rw [ex] at a2
      obtain ⟨e1, _, _, _, us, hl2, q2⟩ := r2.at' i _ ei
      refine ⟨_, e1, env, F2, _, r2, h1, fun k u F3 H3 s3 r3 h3 => ?_⟩
      obtain ⟨y, y1, h3⟩ := rd_ok r3 h3
      split at h3
      · next j =>
        obtain rfl := y1.int
        split at h3
        · next m em =>
          have r4 := r2.step s3
          obtain ⟨_, _, _, _, ws, hl4, q4⟩ := r4.at' i _ ei
          refine ⟨l, ws, j, m, rfl, rfl, hl4, by rw [q4.len]; exact em, ?_⟩
          exact fit.nx _ _ F3 _ (r4.wrt ei (q4.set (Rp.up s3.ex a2) m)) (s2.ex.trans s3.ex) h3
        · exact h3.elim
      · exact h3.elim
    · exact h1.elim⟩
end
/-! ### loops -/
def forD (g : PyData → List Sl → (List Sl → Prop) → Prop) (tb : DS) (d : DK) : List PyData → List Sl → Prop
  | [], env => d.nx env
  | x :: xs, env => g x env fun e2 => tb { d with nx := forD g tb d xs, ct := forD g tb d xs, bk := d.nx } e2
def whD (tc : DTT) (tb : DS) (d : DK) : Nat → List Sl → Prop
  | 0, _ => False
  | n + 1, env => tc env fun k => if k = true then tb { d with nx := whD tc tb d n, ct := whD tc tb d n, bk := d.nx } env else d.nx env
abbrev DG := PyData → List Sl → (List Sl → Prop) → Prop
def lfG (K : PySem.W.Frag) (w : Wn) (g : DG) : TG := fun v σ H Q => ∃ env F x k, RelW K w env σ F H ∧ Rp K F v x ∧ g x env k ∧ ∀ env' σ' F' H', RelW K w env' σ' F' H' → Same F F' → k env' → Q σ' H'
/-- what is walked: J gives xs, one by one -/
structure Wlk (K : PySem.W.Frag) (b : Bg) (F : Hp) (J : It) (xs : List PyData) : Prop where
  ex : ∃ (G : Hp → Prop) (Y : Nat → Hp → V → Hp → Prop), Walk J xs.length G Y ∧ (∀ F' H', Same F F' → Wd K b F' H' → G H') ∧
    ∀ i F' H' v H2, Same F F' → Wd K b F' H' → Y i H' v H2 → ∃ F2 x, Stp K b F' H' F2 H2 ∧ xs[i]? = some x ∧ Rp K F2 v x
abbrev DIt := List Sl → (List PyData → Prop) → Prop
def lfI (K : PySem.W.Frag) (w : Wn) (t : DIt) : TI := fun σ H R => ∃ env F P, RelW K w env σ F H ∧ t env P ∧ ∀ xs J F' H', Stp K w.b F H F' H' → Wlk K w.b F' J xs → P xs → R J H'
section
variable {X : Cx} {w : Wn} {c e : Expr} {tc : DTT} {as : List Stmt} {pos : Pos} {tb : DS}
def tWhD (tc : DTT) (tb : DS) : DS := fun d env => ∃ n, whD tc tb d n env
theorem ds_while (hp : PassesOwn (model X.prog X.w) X.A X.env X.xe) (hc : DPT X w c tc) (hb : DPSs X w as tb) : DPS X w (.While c as [] pos) (tWhD tc tb) :=
  ps_weak (ps_while hp hc hb) fun D σ H ⟨env, F, d, r, ⟨n, h⟩, fit⟩ => by
    refine ⟨fun m σ H => ∃ env F', RelW X.K w env σ F' H ∧ Same F F' ∧ whD tc tb d m env, ⟨n, env, F, r, sm0, h⟩, ?_⟩
    rintro m σ H ⟨env, F2, r, sm, h⟩
    cases m with
    | zero => exact h.elim
    | succ m =>
      refine ⟨env, F2, _, r, h, fun k F1 H1 s1 h1 => ?_⟩
      cases k with
      | false => exact fit.nx env σ F1 H1 (r.step s1) (sm.trans s1.ex) h1
      | true =>
        refine ⟨fun σ' H' => ∃ env F', RelW X.K w env σ' F' H' ∧ Same F F' ∧ whD tc tb d m env, fun σ' H' h' => ⟨m, Nat.lt_succ_self m, h'⟩, env, F1, _, r.step s1, h1, ?_⟩
        have up := (fit.up sm).up s1.ex
        have sb := sm.trans s1.ex
        exact ⟨fun env' σ' F' H' r' sm' h' => ⟨env', F', r', sb.trans sm', h'⟩, up.nx, fun env' σ' F' H' r' sm' h' => ⟨env', F', r', sb.trans sm', h'⟩, fit.rt⟩
def tForD (g : DG) (ti : DIt) (tb : DS) : DS := fun d env => ti env fun xs => forD g tb d xs env
theorem ds_for {tg iter : Expr} {g : DG} {ti : DIt} (hp : PassesOwn (model X.prog X.w) X.A X.env X.xe) (hc : X.calm = true) (hi : PI X tg iter (lfI X.K w ti)) (hg : PG X tg (lfG X.K w g)) (hb : DPSs X w as tb)
    (hs : ∀ x, foldedSetIterable iter X.env x = pure x := by intro _; rfl) : DPS X w (.For tg iter as [] pos) (tForD g ti tb) :=
  ps_weak (ps_for hp hc hi hg hb hs) fun D σ H ⟨env, F, d, r, h, fit⟩ => by
    refine ⟨env, F, _, r, h, fun xs J F1 H1 s1 wl h1 => ?_⟩
    obtain ⟨G, Y, wk, hG, hY⟩ := wl.ex
    refine for_it wk (fun i σ H => ∃ env F, RelW X.K w env σ F H ∧ Same F1 F ∧ forD g tb d (xs.drop i) env) ⟨env, F1, r.step s1, fun _ _ z => z, h1⟩ (fun i σ H _ ⟨env, F, r, sm, _⟩ => hG F H sm r.wd) (fun i v σ H H' hi ⟨env, F, r, sm, hd⟩ y => ?_) fun σ H ⟨env, F, r, sm, hd⟩ => ?_
    · obtain ⟨F2, x, s2, ex, rx⟩ := hY i F H v H' sm r.wd y
      have e1 : xs.drop i = x :: xs.drop (i + 1) := by
        obtain ⟨hl, ex⟩ := List.getElem?_eq_some_iff.mp ex
        rw [List.drop_eq_getElem_cons hl, ex]
      rw [e1] at hd
      refine ⟨env, F2, x, _, r.step s2, rx, hd, fun env' σ' F' H'' r' sm' k' => ⟨env', F', _, r', k', ?_⟩⟩
      have sb : Same F1 F' := (sm.trans s2.ex).trans sm'
      have up := fit.up (s1.ex.trans sb)
      exact ⟨fun env' σ' F'' H' r' sm' h' => ⟨env', F'', r', sb.trans sm', h'⟩, up.nx, fun env' σ' F'' H' r' sm' h' => ⟨env', F'', r', sb.trans sm', h'⟩, fit.rt⟩
    · rw [List.drop_length] at hd
      exact fit.nx env σ F H r (s1.ex.trans sm) hd
end
end Dl
namespace Dl
open PySem PySem.Spec PyProof.Rows L2
/-! ### what is walked -/
section
variable {K : PySem.W.Frag} {b : Bg} {F : Hp}
theorem wlk_list {a : Addr} {vs : List V} {xs : List PyData} (h : F a = some (.lst vs)) (r : RpA K F vs xs) : Wlk K b F (Itl K a) xs :=
  ⟨⟨_, _, r.len ▸ walk_list (K := K) (a := a) (xs := vs), fun F' H' s w => SqL.of (w.sub _ _ (s _ _ h)), fun i F' H' v H2 s w y => by
    obtain ⟨rfl, e⟩ := y
    obtain ⟨x, e1, r1⟩ := r.getV e
    exact ⟨F', x, w.refl, e1, r1.up s⟩⟩⟩
theorem wlk_tup {a : Addr} {vs : List V} {xs : List PyData} (h : SqT K F a vs) (r : RpA K F vs xs) : Wlk K b F (Itt K a) xs :=
  ⟨⟨_, _, r.len ▸ walk_tup (K := K) (a := a) (xs := vs), fun F' H' s w => sqt_up w.sub (sqt_up s h), fun i F' H' v H2 s w y => by
    obtain ⟨rfl, e⟩ := y
    obtain ⟨x, e1, r1⟩ := r.getV e
    exact ⟨F', x, w.refl, e1, r1.up s⟩⟩⟩
def rngD (lo : Int) (n : Nat) : List PyData := (List.range n).map fun i => .int (lo + (i : Nat))
theorem rngD_len (lo : Int) (n : Nat) : (rngD lo n).length = n := by simp [rngD]
theorem wlk_rng {lo : Int} {n : Nat} : Wlk K b F (Itr lo n) (rngD lo n) :=
  ⟨⟨_, fun i H v H' => i < n ∧ H' = H ∧ v = .int (lo + i), ⟨fun i H hi _ => by rw [rngD_len] at hi; exact hi, fun H _ => by rw [rngD_len]; exact Nat.le_refl _, fun i H x H' hi _ y => by rw [rngD_len] at hi; exact ⟨hi, y⟩⟩, fun _ _ _ _ => True.intro, fun i F' H' v H2 s w y => by
    obtain ⟨hi, rfl, rfl⟩ := y
    refine ⟨F', .int (lo + i), w.refl, ?_, .int _⟩
    unfold rngD
    rw [List.getElem?_map, List.getElem?_range hi]
    rfl⟩⟩
def signsD (z : Str) : List PyData := z.cps.toList.map fun c => .str ⟨#[c]⟩
theorem wlk_str {z : Str} : Wlk K b F (Its z) (signsD z) :=
  ⟨⟨_, _, (show (signsD z).length = z.cps.size by simp [signsD]) ▸ walk_str (z := z), fun _ _ _ _ => True.intro, fun i F' H' v H2 s w y => by
    obtain ⟨rfl, c, e, rfl⟩ := y
    refine ⟨F', .str ⟨#[c]⟩, w.refl, ?_, .str _⟩
    unfold signsD
    rw [List.getElem?_map, Array.getElem?_toList, e]
    rfl⟩⟩
theorem pair_new {F' H' : Hp} (w : Wd K b F' H') {T : Addr} {x y : V} {dx dy : PyData} (hT : H' T = none) (rx : Rp K F' x dx) (ry : Rp K F' y dy) : ∃ F2, Stp K b F' H' F2 (upd H' T (.tup [x, y])) ∧ Rp K F2 (.ref T) (.tuple [dx, dy]) := by
  have st := w.laid (o := .tup [x, y]) hT
  exact ⟨_, st, Rp.tup (SqT.of upd_same) (.cons (rx.up st.ex) (.cons (ry.up st.ex) .nil))⟩
def enumD (xs : List PyData) : List PyData := xs.zipIdx.map fun p => .tuple [.int (p.2 : Nat), p.1]
theorem enumD_len (xs : List PyData) : (enumD xs).length = xs.length := by simp [enumD]
theorem wlk_enum {a : Addr} {vs : List V} {xs : List PyData} (h : F a = some (.lst vs)) (r : RpA K F vs xs) : Wlk K b F (Ite K a) (enumD xs) :=
  ⟨⟨_, _, (show vs.length = (enumD xs).length by rw [enumD_len, r.len]) ▸ walk_enum (K := K) (a := a) (xs := vs), fun F' H' s w => SqL.of (w.sub _ _ (s _ _ h)), fun i F' H' v H2 s w y => by
    obtain ⟨T, x, y, rfl, hT, rfl, e1, e2⟩ := y
    cases e1
    obtain ⟨z, e3, r1⟩ := r.getV e2
    obtain ⟨F2, st, rp⟩ := pair_new w hT (Rp.int (i : Nat)) (r1.up s)
    refine ⟨F2, _, st, ?_, rp⟩
    unfold enumD
    rw [List.getElem?_map, List.getElem?_zipIdx, e3]
    simp⟩⟩
def zipD (xs ys : List PyData) : List PyData := (xs.zip ys).map fun p => .tuple [p.1, p.2]
theorem wlk_zip {a c : Addr} {vs us : List V} {xs ys : List PyData} (h : F a = some (.lst vs)) (r : RpA K F vs xs) (h2 : F c = some (.lst us)) (r2 : RpA K F us ys) : Wlk K b F (Itz K a c) (zipD xs ys) :=
  ⟨⟨_, _, walk_zip (K := K) (a := a) (b := c) (xs := vs) (ys := us) (by simp [zipD, r.len, r2.len]), fun F' H' s w => ⟨SqL.of (w.sub _ _ (s _ _ h)), SqL.of (w.sub _ _ (s _ _ h2))⟩, fun i F' H' v H2 s w y => by
    obtain ⟨T, x, y, rfl, hT, rfl, e1, e2⟩ := y
    obtain ⟨z1, e3, r3⟩ := r.getV e1
    obtain ⟨z2, e4, r4⟩ := r2.getV e2
    obtain ⟨F2, st, rp⟩ := pair_new w hT (r3.up s) (r4.up s)
    refine ⟨F2, _, st, ?_, rp⟩
    unfold zipD
    have e5 : (xs.zip ys)[i]? = some (z1, z2) := List.getElem?_zip_eq_some.mpr ⟨e3, e4⟩
    rw [List.getElem?_map, e5]
    rfl⟩⟩
end
section
variable {X : Cx} {w : Wn} {tg e : Expr} {te : DT} {ta : DA} {pos p : Pos}
theorem pi_weak {iter : Expr} {t u : TI} (h : PI X tg iter t) (i : ∀ σ H R, u σ H R → t σ H R) : PI X tg iter u := ⟨fun p s σ H R I q => h.run p s σ H R I (i σ H R q)⟩
def itLst (te : DT) : DIt := fun env P => te env fun dv => match frz dv with
  | .d (.list xs) => P xs
  | _ => False
def itTup (te : DT) : DIt := fun env P => te env fun dv => match frz dv with
  | .d (.tuple xs) => P xs
  | _ => False
def itStr (te : DT) : DIt := fun env P => te env fun dv => match frz dv with
  | .d (.str z) => P (signsD z)
  | _ => False
theorem di_list (he : DPE X w e te) : PI X tg e (lfI X.K w (itLst te)) := pi_weak (pi_list he) fun σ H R ⟨env, F, P, r, h, q⟩ => ⟨env, F, _, r, h, fun dv v F1 H1 s1 r1 h1 => by
  obtain ⟨F2, s2, a2⟩ := frz_ok s1 r1
  split at h1
  · next xs ex =>
    rw [ex] at a2
    cases (show Rp X.K F2 v (.list xs) from a2) with
    | lst e1 r2 => exact ⟨_, rfl, ⟨_, SqL.of (s2.sub _ _ e1)⟩, q xs _ F2 H1 s2 (wlk_list e1 r2) h1⟩
  · exact h1.elim⟩
theorem di_tup (he : DPE X w e te) : PI X tg e (lfI X.K w (itTup te)) := pi_weak (pi_tup he) fun σ H R ⟨env, F, P, r, h, q⟩ => ⟨env, F, _, r, h, fun dv v F1 H1 s1 r1 h1 => by
  obtain ⟨F2, s2, a2⟩ := frz_ok s1 r1
  split at h1
  · next xs ex =>
    rw [ex] at a2
    cases (show Rp X.K F2 v (.tuple xs) from a2) with
    | tup e1 r2 => exact ⟨_, rfl, ⟨_, sqt_up s2.sub e1⟩, q xs _ F2 H1 s2 (wlk_tup e1 r2) h1⟩
  · exact h1.elim⟩
theorem di_str (he : DPE X w e te) : PI X tg e (lfI X.K w (itStr te)) := pi_weak (pi_str he) fun σ H R ⟨env, F, P, r, h, q⟩ => ⟨env, F, _, r, h, fun dv v F1 H1 s1 r1 h1 => by
  obtain ⟨F2, s2, a2⟩ := frz_ok s1 r1
  split at h1
  · next z ex =>
    rw [ex] at a2
    cases (show Rp X.K F2 v (.str z) from a2)
    exact ⟨z, rfl, q _ _ F2 H1 s2 wlk_str h1⟩
  · exact h1.elim⟩
def itR1 (ta : DA) : DIt := fun env P => ta env fun us => allD us fun xs => match xs with
  | [.int j] => (-1000000000 < j ∧ j < 1000000000) ∧ P (rngD 0 j.toNat)
  | _ => False
def itR2 (ta : DA) : DIt := fun env P => ta env fun us => allD us fun xs => match xs with
  | [.int i, .int j] => (-1000000000 < i ∧ i < 1000000000 ∧ -1000000000 < j ∧ j < 1000000000) ∧ P (rngD i (j - i).toNat)
  | _ => False
theorem di_r1 {a : Expr} (gl : Gl X "range") (gm : X.mg "range" = none) (ha : DPA X w [a] ta) (hs : starEach [a] X.env = [(false, eval a X.env)] := by rfl) : PI X tg (.Call (.Name "range" p) [a] [] pos) (lfI X.K w (itR1 ta)) :=
  pi_weak (pi_range1 gl gm ha hs) fun σ H R ⟨env, F, P, r, h, q⟩ => ⟨env, F, _, r, h, fun dvs vs F1 H1 s1 r1 h1 => by
    obtain ⟨xs, ra, h1⟩ := allD_ok r1 h1
    split at h1
    · next j =>
      cases ra with
      | cons a1 t =>
        cases t
        cases a1
        exact ⟨j, rfl, by omega, by omega, q _ _ F1 H1 s1 wlk_rng h1.2⟩
    · exact h1.elim⟩
theorem di_r2 {a c : Expr} (gl : Gl X "range") (gm : X.mg "range" = none) (ha : DPA X w [a, c] ta) (hs : starEach [a, c] X.env = [(false, eval a X.env), (false, eval c X.env)] := by rfl) (hs2 : starEach [c] X.env = [(false, eval c X.env)] := by rfl) :
    PI X tg (.Call (.Name "range" p) [a, c] [] pos) (lfI X.K w (itR2 ta)) :=
  pi_weak (pi_range2 gl gm ha hs hs2) fun σ H R ⟨env, F, P, r, h, q⟩ => ⟨env, F, _, r, h, fun dvs vs F1 H1 s1 r1 h1 => by
    obtain ⟨xs, ra, h1⟩ := allD_ok r1 h1
    split at h1
    · next i j =>
      cases ra with
      | cons a1 t =>
        cases t with
        | cons a2 t =>
          cases t
          cases a1
          cases a2
          exact ⟨i, j, rfl, ⟨by omega, by omega, by omega, by omega⟩, q _ _ F1 H1 s1 wlk_rng h1.2⟩
    · exact h1.elim⟩
def itEnum (ta : DA) : DIt := fun env P => ta env fun us => allD us fun xs => match xs with
  | [.list ys] => P (enumD ys)
  | _ => False
def itZip (ta : DA) : DIt := fun env P => ta env fun us => allD us fun xs => match xs with
  | [.list ys, .list zs] => P (zipD ys zs)
  | _ => False
theorem di_enum {a : Expr} {tpos : Pos} {elts : List Expr} {kk : Nat} (gl : Gl X "enumerate") (gm : X.mg "enumerate" = none) (ha : DPA X w [a] ta) (hs : starEach [a] X.env = [(false, eval a X.env)] := by rfl) : PI X (.Tuple elts kk tpos) (.Call (.Name "enumerate" p) [a] [] pos) (lfI X.K w (itEnum ta)) :=
  pi_weak (pi_enum gl gm ha hs) fun σ H R ⟨env, F, P, r, h, q⟩ => ⟨env, F, _, r, h, fun dvs vs F1 H1 s1 r1 h1 => by
    obtain ⟨xs, ra, h1⟩ := allD_ok r1 h1
    split at h1
    · next ys =>
      cases ra with
      | cons a1 t =>
        cases t
        cases a1 with
        | lst e1 r2 => exact ⟨_, _, rfl, SqL.of (s1.sub _ _ e1), q _ _ F1 H1 s1 (wlk_enum e1 r2) h1⟩
    · exact h1.elim⟩
theorem di_zip {a c : Expr} {tpos : Pos} {elts : List Expr} {kk : Nat} (gl : Gl X "zip") (gm : X.mg "zip" = none) (ha : DPA X w [a, c] ta) (hs : starEach [a, c] X.env = (false, eval a X.env) :: starEach [c] X.env := by rfl) (hpl : (backTo pos (starEach [c] X.env)).any (·.1) = false := by rfl) : PI X (.Tuple elts kk tpos) (.Call (.Name "zip" p) [a, c] [] pos) (lfI X.K w (itZip ta)) :=
  pi_weak (pi_zip gl gm ha hs hpl) fun σ H R ⟨env, F, P, r, h, q⟩ => ⟨env, F, _, r, h, fun dvs vs F1 H1 s1 r1 h1 => by
    obtain ⟨xs, ra, h1⟩ := allD_ok r1 h1
    split at h1
    · next ys zs =>
      cases ra with
      | cons a1 t =>
        cases t with
        | cons a2 t =>
          cases t
          cases a1 with
          | lst e1 r2 =>
            cases a2 with
            | lst e3 r4 => exact ⟨_, _, _, _, rfl, SqL.of (s1.sub _ _ e1), SqL.of (s1.sub _ _ e3), q _ _ F1 H1 s1 (wlk_zip e1 r2 e3 r4) h1⟩
    · exact h1.elim⟩
end
/-! ### targets -/
section
variable {X : Cx} {w : Wn} {e : Expr} {te : DT} {pos : Pos}
theorem pg_weak {tg : Expr} {t u : TG} (h : PG X tg t) (i : ∀ v σ H Q, u v σ H Q → t v σ H Q) : PG X tg u := by
  obtain ⟨h1⟩ := h
  constructor
  intros
  first | exact h1 _ _ _ _ _ _ _ ‹_› ‹_› (i _ _ _ _ ‹_›) | exact h1 _ _ _ _ _ _ _ _ ‹_› ‹_› (i _ _ _ _ ‹_›)
def gnD (i : Nat) : DG := fun x env k => k (env.set i (.d x))
theorem dg_name {i : Nat} {x : Str} (hN : X.N.Nodup) (hi : X.N[i]? = some x) (hx : Loc X.env.scope x) (hf : X.fn x = true ∨ X.env.scope.names.lookup x = some .local := by first | exact .inl rfl | exact .inr rfl) : PG X (.Name x pos) (lfG X.K w (gnD i)) :=
  pg_weak (pg_name hN hi hx hf) fun v σ H Q ⟨env, F, x, k, r, rx, h, q⟩ => q _ _ F H (r.put i (z := .d x) ⟨v, rfl, rx⟩ (fun l xs ys j z => by cases z)) sm0 h
abbrev DGs := List PyData → List Sl → (List Sl → Prop) → Prop
def gnilD : DGs := fun xs env k => xs = [] ∧ k env
def gconsD (g : DG) (gs : DGs) : DGs := fun xs env k => match xs with
  | x :: r => g x env fun e2 => gs r e2 k
  | [] => False
def lfGs (K : PySem.W.Frag) (w : Wn) (g : DGs) : TGs := fun vs σ H Q => ∃ env F xs k, RelW K w env σ F H ∧ RpA K F vs xs ∧ g xs env k ∧ ∀ env' σ' F' H', RelW K w env' σ' F' H' → Same F F' → k env' → Q σ' H'
theorem pgs_weak {tg : List Expr} {t u : TGs} (h : PGs X tg t) (i : ∀ v σ H Q, u v σ H Q → t v σ H Q) : PGs X tg u := by
  obtain ⟨h1⟩ := h
  constructor
  intros
  first | exact h1 _ _ _ _ _ _ _ ‹_› ‹_› (i _ _ _ _ ‹_›) | exact h1 _ _ _ _ _ _ _ _ ‹_› ‹_› (i _ _ _ _ ‹_›)
theorem dgs_nil : PGs X [] (lfGs X.K w gnilD) := pgs_weak pgs_nil fun v σ H Q ⟨env, F, xs, k, r, rx, h, q⟩ => by
  obtain ⟨rfl, h⟩ := h
  cases rx
  exact ⟨rfl, q _ _ F H r sm0 h⟩
theorem dgs_cons {a : Expr} {as : List Expr} {g : DG} {gs : DGs} (h1 : PG X a (lfG X.K w g)) (h2 : PGs X as (lfGs X.K w gs)) (hs : (assignEach (a :: as) X.env).map (fun x => x.snd) = assign a X.env :: (assignEach as X.env).map (fun x => x.snd) := by rfl) : PGs X (a :: as) (lfGs X.K w (gconsD g gs)) :=
  pgs_weak (pgs_cons h1 h2 hs) fun v σ H Q ⟨env, F, xs, k, r, rx, h, q⟩ => by
    cases rx with
    | nil => exact h.elim
    | cons a1 t => exact ⟨_, _, rfl, env, F, _, _, r, a1, h, fun e2 σ2 F2 H2 r2 s2 h2 => ⟨e2, F2, _, k, r2, t.up s2, h2, fun e3 σ3 F3 H3 r3 s3 h3 => q e3 σ3 F3 H3 r3 (s2.trans s3) h3⟩⟩
def gtD (n : Nat) (gs : DGs) : DG := fun x env k => match x with
  | .tuple xs => xs.length = n ∧ gs xs env k
  | _ => False
theorem dg_tup {es : List Expr} {k n : Nat} {gs : DGs} (hc : X.calm = true) (h : PGs X es (lfGs X.K w gs)) (hn : (assignEach es X.env).length = n := by rfl) (hst : (assignEach es X.env).findIdx? (fun x => x.fst) = none := by rfl) : PG X (.Tuple es k pos) (lfG X.K w (gtD n gs)) := by
  refine pg_weak (pg_tup hc h hn hst) fun v σ H Q ⟨env, F, x, k, r, rx, h, q⟩ => ?_
  cases x with
  | tuple xs =>
    cases rx with
    | tup e1 r1 => exact ⟨_, _, rfl, sqt_up r.st.sub e1, by rw [r1.len]; exact h.1, env, F, xs, k, r, r1, h.2, q⟩
  | _ => exact h.elim
/-- target = e -/
def tAsgD (te : DT) (g : DG) : DS := fun d env => te env fun dv => match frz dv with
  | .d x => g x env d.nx
  | _ => False
theorem ds_asg {tg : Expr} {g : DG} (he : DPE X w e te) (hg : PG X tg (lfG X.K w g)) (hs : swapsWithSole [tg] e pos.line X.env = pure false := by rfl) (hw : swappedStores [tg] e X.env = pure none := by rfl) (h1 : (assignEach [tg] X.env).map (fun x => x.snd) = [assign tg X.env] := by rfl) : DPS X w (.Assign [tg] e pos) (tAsgD te g) :=
  ps_weak (ps_asg he hg hs hw h1) fun D σ H ⟨env, F, d, r, h, fit⟩ => ⟨env, F, _, r, h, fun dv v F1 H1 s1 r1 h1 => by
    obtain ⟨F2, s2, a2⟩ := frz_ok s1 r1
    split at h1
    · next x ex =>
      rw [ex] at a2
      exact ⟨env, F2, x, _, r.step s2, a2, h1, fun e3 σ3 F3 H3 r3 s3 h3 => fit.nx e3 σ3 F3 H3 r3 (s2.ex.trans s3) h3⟩
    · exact h1.elim⟩
def tParD (i j : Nat) (ta : DA) : DS := fun d env => ta env fun us => allD us fun xs => match xs with
  | [x, y] => d.nx ((env.set i (.d x)).set j (.d y))
  | _ => False
theorem ds_par {i j : Nat} {x y : Str} {a c : Expr} {ta : DA} {px py pt : Pos} {kt k2 pt2} (hc : X.calm = true) (hN : X.N.Nodup) (hi : X.N[i]? = some x) (hj : X.N[j]? = some y) (hij : i ≠ j)
    (hx : X.env.scope.names.lookup x = some .local) (hy : X.env.scope.names.lookup y = some .local) (ha : DPA X w [a, c] ta)
    (base : PS X (.Assign [.Tuple [.Name x px, .Name y py] kt pt] (.Tuple [a, c] k2 pt2) pos) (tPar i j (lfA X.K w ta))) :
    DPS X w (.Assign [.Tuple [.Name x px, .Name y py] kt pt] (.Tuple [a, c] k2 pt2) pos) (tParD i j ta) :=
  ps_weak base fun D σ H ⟨env, F, d, r, h, fit⟩ => ⟨env, F, _, r, h, fun dvs vs F1 H1 s1 r1 h1 => by
    obtain ⟨xs, ra, h1⟩ := allD_ok r1 h1
    split at h1
    · next x y =>
      cases ra with
      | cons a1 t =>
        cases t with
        | cons a2 t =>
          cases t
          refine ⟨_, _, rfl, fit.nx _ _ F1 H1 ((((r.step s1).put i (z := .d x) ⟨_, rfl, a1⟩ ?_).put j (z := .d y) ⟨_, rfl, a2⟩ ?_)) s1.ex h1⟩
          · intro l xs ys j z; cases z
          · intro l xs ys j z; cases z
    · exact h1.elim⟩
def tAugI (i : Nat) (f : Int → Int → Int) (te : DT) : DS := fun d env => match env[i]? with
  | some (.d (.int x)) => te env fun dv => match dv with
    | .d (.int y) => d.nx (env.set i (.d (.int (f x y))))
    | _ => False
  | _ => False
theorem ds_augI {i : Nat} {x : Str} {op : Operator} {f : Int → Int → Int} {pos' : Pos} (hN : X.N.Nodup) (hi : X.N[i]? = some x) (hx : Loc X.env.scope x) (he : DPE X w e te) (ho : PIp X op (ipI f)) (hf : X.fn x = true ∨ X.env.scope.names.lookup x = some .local := by first | exact .inl rfl | exact .inr rfl)
    (base : PS X (.AugAssign (.Name x pos') op e pos) (tAug i (lf X.K w te) (ipI f))) : DPS X w (.AugAssign (.Name x pos') op e pos) (tAugI i f te) :=
  ps_weak base fun D σ H ⟨env, F, d, r, h, fit⟩ => by
    unfold tAugI at h
    split at h
    · next a ea =>
      obtain ⟨v, e1, r1⟩ := r.at' i _ ea
      cases r1
      refine ⟨_, e1, env, F, _, r, h, fun dv v F1 H1 s1 r1 h1 => ?_⟩
      split at h1
      · next c =>
        obtain rfl := r1.intOf
        refine ⟨_, _, rfl, rfl, fit.nx _ _ F1 H1 ((r.step s1).put i (z := .d (.int (f a c))) ⟨_, rfl, .int _⟩ ?_) s1.ex h1⟩
        intro l xs ys j z; cases z
      · exact h1.elim
    · exact h.elim
end
/-! ### defs -/
def toSl : DV → Sl
  | .d x => .d x
  | .raw v => .raw v
  | .bag => .bag
  | _ => .un
def startD (N : List Str) (dvs : List DV) : List Sl := dvs.map toSl ++ List.replicate (N.length - dvs.length) .un
section
variable {K : PySem.W.Frag} {b : Bg} {F H : Hp}
theorem agr_get {i : Nat} {x : DV} : ∀ {dvs : List DV} {vs : List V} {i : Nat} {x : DV}, Paired (AgR K b F) dvs vs → dvs[i]? = some x → ∃ v, vs[i]? = some v ∧ AgR K b F x v
  | _, _, _, _, .nil, e => by simp at e
  | _, _, 0, _, .cons h _, e => by simp at e; subst e; exact ⟨_, rfl, h⟩
  | _, _, i + 1, x, .cons _ t, e => by
    obtain ⟨v, h1, h2⟩ := agr_get (i := i) (x := x) t (by simpa using e)
    exact ⟨v, by simpa using h1, h2⟩
theorem rel_start {N : List Str} {dvs : List DV} {vs : List V} (w : Wd K b F H) (r : Paired (AgR K b F) dvs vs) : Rel K b F H (startD N dvs) (start N vs) F H := by
  have hl : dvs.length = vs.length := Paired.length r
  refine ⟨by simp [L2.start, startD, hl], w.refl, fun i s e => ?_, fun i j l xs ys e1 e2 => ?_⟩
  · unfold startD at e
    unfold L2.start
    by_cases hi : i < dvs.length
    · rw [List.getElem?_append_left (by simpa using hi), List.getElem?_map] at e
      rw [List.getElem?_append_left (by simpa [← hl] using hi), List.getElem?_map]
      cases ed : dvs[i]? with
      | none => rw [ed] at e; cases e
      | some x =>
        rw [ed] at e
        obtain ⟨v, ev, a⟩ := agr_get (i := i) (x := x) r ed
        rw [ev]
        cases e
        cases x with
        | d x => exact ⟨v, rfl, a⟩
        | raw u => exact congrArg (fun z => some (some z)) a
        | bag => exact congrArg (fun z => some (some z)) a
        | fr xs => exact True.intro
        | ow l xs => exact True.intro
    · rw [List.getElem?_append_right (by simpa using hi), List.getElem?_replicate] at e
      split at e
      · cases e; exact True.intro
      · cases e
  · unfold startD at e1
    by_cases hi : i < dvs.length
    · rw [List.getElem?_append_left (by simpa using hi), List.getElem?_map] at e1
      cases ed : dvs[i]? with
      | none => rw [ed] at e1; cases e1
      | some x => rw [ed] at e1; cases x <;> cases e1
    · rw [List.getElem?_append_right (by simpa using hi), List.getElem?_replicate] at e1
      split at e1 <;> cases e1
end
section
variable {P : Program} {w : World} {K : PySem.W.Frag} {mg : Str → Option Value} {base : Heap} {CX : CXT} {k : Nat} {f : Addr} {fd : FuncData}
theorem guards_in {A : Around} (h : A.guards = some []) (env : Env) : (A.deeper env).guards = some [] := by
  first | exact h | (simp [Around.deeper, h]) | (unfold Around.deeper; exact h)
/-- THE RULE: a def's body, its reading, its promise -/
theorem d_def {ts : List Addr} {x qual : Str} {st : Stmt} {N ps : List Str} (Fn : L2.Fun K x qual st f fd) (S : FnScope N ps (defScope st))
    (hb : ∀ (kV doc pm : Value) (an : Option Addr) (cdv ct : Value) (us : List Value), us.length = ps.length → bindArgs (PySem.W.fnOf x qual (defArgs st) (defBody st) (defScope st) .none kV doc pm an cdv ct) { pos := us, kw := [] } = pure (ps.zip us))
    (sp : DSp) (t : DS)
    (hd : ∀ (cdv : Value) (A : Around) (outer : List Env) (s : Shared) (H : Hp) (E : XK) (wn : Wn), fd.code = cdv → wn.b.ts = ts → (A.deeper (envOfC qual (defScope st) s.heap.objs.size f cdv)).guards = some [] → Room k (A.deeper (envOfC qual (defScope st) s.heap.objs.size f cdv)) →
      DPSs (cxOf CX P w K mg base N qual (defScope st) f cdv A outer s H E).nox wn (defBody st) t)
    (hv : ∀ dvs Q, sp dvs Q → dvs.length = ps.length ∧ t { nx := fun _ => Q (.d .none), rt := Q } (startD N dvs)) : Fg P w K mg base CX (k + 1) f (Pm K ts sp) := by
  intro A outer s H us vs Q E ag room e0 rv want
  obtain ⟨b, F, dvs, R, ht, wd, ar, hsp, q⟩ := want
  obtain ⟨hlen, hread⟩ := hv dvs R hsp
  obtain ⟨oc, od, kV, doc, pm, an, cdv, ct, osl, rfl, lk, hcd⟩ := Fn.ex
  have hvl : vs.length = ps.length := (Paired.length ar).symm.trans hlen
  have hul : us.length = ps.length := rv.length.symm.trans hvl
  refine StX.run_bnd (N := N) (ps := ps) lk hcd S room e0 (G := fun xs H2 => xs = vs ∧ H2 = H) (fun A' Ex Q' h => ?_) fun s2 H2 xs g room2 => ?_
  · rw [hb kV doc pm an cdv ct us hul]
    exact wpAny_pure (h s H vs us e0 Un.refl rfl (fun _ _ z => z) rv hvl ⟨rfl, rfl⟩)
  · obtain ⟨rfl, rfl⟩ := g
    refine ⟨_, PSs.nox (hd cdv A outer s2 _ E ⟨b, F, _⟩ rfl ht (guards_in ag _) room2), startD N dvs, F, _, rel_start wd ar, hread, ?_⟩
    refine ⟨fun env σ F' H' r _ z => ?_, fun env σ F' H' r _ z => z, fun env σ F' H' r _ z => z, fun dv v F' H' st rs z => q dv v F' H' st rs z⟩
    exact q (.d .none) .non F' H' r.st Rp.non z
end
end Dl
namespace Dl
open PySem PySem.Spec PyProof.Rows L2
/-! ### list comprehensions -/
def lcD (g : PyData → List Sl → (List Sl → Prop) → Prop) (tt : DTT) (te : DT) (env : List Sl) : List PyData → List PyData → (DV → Prop) → Prop
  | [], acc, P => P (.fr acc)
  | x :: xs, acc, P => g x env fun e2 => tt e2 fun c => if c = true then te e2 fun dv => match frz dv with
      | .d y => acc.length < 100000 ∧ lcD g tt te env xs (acc ++ [y]) P
      | _ => False
    else lcD g tt te env xs acc P
/-- the target's names, as slots -/
def unS (env : List Sl) : List Nat → List Sl
  | [] => env
  | v :: vs => (unS env vs).set v .un
def tLcD (ti : DIt) (g : PyData → List Sl → (List Sl → Prop) → Prop) (tt : DTT) (te : DT) (vs : List Nat) : DT := fun env P => ti env fun xs => lcD g tt te (unS env vs) xs [] P
section
variable {K : PySem.W.Frag} {b : Bg} {F₀ H₀ F H F' H' : Hp} {env : List Sl} {σ : L2.St}
theorem Rel.forget (r : Rel K b F₀ H₀ env σ F H) (i : Nat) : Rel K b F₀ H₀ (env.set i .un) (σ.set i none) F H := by
  refine ⟨by rw [List.length_set, List.length_set]; exact r.len, r.st, fun j s e => ?_, fun j k l xs ys h1 h2 => ?_⟩
  · rw [List.getElem?_set] at e ⊢
    by_cases h : i = j
    · rw [if_pos h] at e
      split at e
      · cases e; exact True.intro
      · cases e
    · rw [if_neg h] at e ⊢
      exact r.at' j s e
  · rw [List.getElem?_set] at h1 h2
    by_cases c1 : i = j
    · rw [if_pos c1] at h1; split at h1 <;> cases h1
    · by_cases c2 : i = k
      · rw [if_pos c2] at h2; split at h2 <;> cases h2
      · rw [if_neg c1] at h1
        rw [if_neg c2] at h2
        exact r.own j k l xs ys h1 h2
theorem Rel.forgets : ∀ (vs : List Nat) {env : List Sl} {σ : L2.St}, Rel K b F₀ H₀ env σ F H → Rel K b F₀ H₀ (unS env vs) (wipe σ vs) F H
  | [], _, _, r => r
  | v :: vs, _, _, r => (Rel.forgets vs r).forget v
end
/-- what the target does, and that it touches its own names alone -/
structure Tgt (K : PySem.W.Frag) (vs : List Nat) (g : PyData → List Sl → (List Sl → Prop) → Prop) (t : TG) : Prop where
  run : ∀ (b : Bg) (F₀ H₀ : Hp) (env : List Sl) (σ : L2.St) (F H : Hp) (v : V) (x : PyData) (k : List Sl → Prop) (Q : L2.St → Hp → Prop), Rel K b F₀ H₀ (unS env vs) (wipe σ vs) F H → Rp K F v x → g x (unS env vs) k →
    (∀ env' σ', Rel K b F₀ H₀ env' σ' F H → wipe σ' vs = wipe σ vs → k env' → Q σ' H) → t v (wipe σ vs) H Q
theorem set_set_none (σ : L2.St) (i : Nat) (a : Option V) : (σ.set i a).set i none = σ.set i none := by rw [List.set_set]
theorem tgt1 {K : PySem.W.Frag} (i : Nat) : Tgt K [i] (gnD i) (gName i) :=
  ⟨fun b F₀ H₀ env σ F H v x k Q r rx h q => q _ _ (r.put i (z := .d x) ⟨v, rfl, rx⟩ (fun l xs ys j z => by cases z)) (by show ((σ.set i none).set i (some v)).set i none = σ.set i none; rw [List.set_set, List.set_set]) h⟩
theorem tgt2 {K : PySem.W.Frag} (i j : Nat) (hij : i ≠ j) : Tgt K [i, j] (gtD 2 (gconsD (gnD i) (gconsD (gnD j) gnilD))) (gTup K 2 (gCons (gName i) (gCons (gName j) gNil))) :=
  ⟨fun b F₀ H₀ env σ F H v x k Q r rx h q => by
    cases x with
    | tuple xs =>
      obtain ⟨hl, h⟩ := h
      match xs, hl, h with
      | [x, y], _, h =>
        cases rx with
        | tup e1 r1 =>
          cases r1 with
          | cons a1 t =>
            cases t with
            | cons a2 t =>
              cases t
              obtain ⟨_, h⟩ := h
              refine ⟨_, _, rfl, sqt_up r.st.sub e1, rfl, _, _, rfl, _, _, rfl, rfl, q _ _ ((r.put i (z := .d x) ⟨_, rfl, a1⟩ ?_).put j (z := .d y) ⟨_, rfl, a2⟩ ?_) ?_ h⟩
              · intro l xs ys j z; cases z
              · intro l xs ys j z; cases z
              · show ((((((σ.set j none).set i none).set i _).set j _).set j none).set i none) = (σ.set j none).set i none
                rw [List.set_set, List.set_set, List.set_comm _ _ hij, List.set_set, List.set_set]
    | _ => exact h.elim⟩
section
variable {X : Cx} {w : Wn}
theorem pts_nilD : PTs X [] (lfT X.K w fun _ P => P true) := ⟨fun pins s σ H Q I ⟨env, F, P, r, h, q⟩ => pts_nil.run pins s σ H Q I (q true F H r.wd.refl h)⟩
theorem pts_oneD {c : Expr} {tt : DTT} (h : DPT X w c tt) : PTs X [c] (lfT X.K w tt) := pts_one h
theorem lc_go {ti : DIt} {g : PyData → List Sl → (List Sl → Prop) → Prop} {t : TG} {tt : DTT} {te : DT} {vs : List Nat} (tg' : Tgt X.K vs g t) {σ : L2.St} {H : Hp} {Q : VK} (h : lf X.K w (tLcD ti g tt te vs) σ H Q) : tLc (lfI X.K w ti) t (lfT X.K w tt) (lf X.K w te) vs σ H Q := by
  obtain ⟨env, F, P, r, h, q⟩ := h
  exact ⟨env, F, _, r, h, fun xs J F1 H1 s1 wl h1 D hD => by
    obtain ⟨G, Y, wk, hG, hY⟩ := wl.ex
    obtain ⟨us, eb⟩ := s1.bag.lst
    have Db : D ≠ w.b.b := fun e => by rw [e, eb] at hD; cases hD
    have F1D : F1 D = none := by
      cases e : F1 D with
      | none => rfl
      | some o => rw [s1.sub _ _ e] at hD; cases hD
    have r1 := (r.step s1).forgets vs
    refine lc_it wk (fun i H2 => ∃ F2 acc us, Stp X.K w.b F1 H1 F2 H2 ∧ H2 D = some (.lst us) ∧ RpA X.K F2 us acc ∧ F2 D = none ∧ lcD g tt te (unS env vs) (xs.drop i) acc P) ⟨F1, [], [], s1.wd.laidM hD, upd_same, .nil, F1D, h1⟩ (fun i H2 _ ⟨F2, acc, us, st, _⟩ => hG F2 H2 st.ex st.wd) (fun i v H2 H3 hi ⟨F2, acc, us, st, eD, ra, fD, hl⟩ y => ?_) fun H2 ⟨F2, acc, us, st, eD, ra, fD, hl⟩ => ?_
    · obtain ⟨F3, x, s3, ex, rx⟩ := hY i F2 H2 v H3 st.ex st.wd y
      have e1 : xs.drop i = x :: xs.drop (i + 1) := by
        obtain ⟨hl, ex⟩ := List.getElem?_eq_some_iff.mp ex
        rw [List.drop_eq_getElem_cons hl, ex]
      rw [e1] at hl
      have st3 := st.trans s3
      have eD3 := s3.keep D (.lst us) Db (by intro _ z; cases z) eD
      have fD3 : F3 D = none := s3.new D fD (by rw [eD]; exact fun z => nomatch z)
      refine tg'.run w.b w.F w.H env σ F3 H3 v x _ _ (r1.step st3) rx hl fun env' σ' r' wi hl => ⟨wi, env', F3, _, r', hl, fun c F4 H4 s4 h4 => ?_⟩
      have eD4 := s4.keep D (.lst us) Db (by intro _ z; cases z) eD3
      have fD4 : F4 D = none := s4.new D fD3 (by rw [eD3]; exact fun z => nomatch z)
      cases c with
      | false => exact ⟨F4, acc, us, st3.trans s4, eD4, (ra.up s3.ex).up s4.ex, fD4, h4⟩
      | true =>
        refine ⟨env', F4, _, r'.step s4, h4, fun dv v5 F5 H5 s5 r5 h5 => ?_⟩
        obtain ⟨F6, s6, a6⟩ := frz_ok s5 r5
        split at h5
        · next y ey =>
          rw [ey] at a6
          have eD6 := s6.keep D (.lst us) Db (by intro _ z; cases z) eD4
          have fD6 : F6 D = none := s6.new D fD4 (by rw [eD4]; exact fun z => nomatch z)
          have ra6 := ((ra.up s3.ex).up s4.ex).up s6.ex
          have st6 := (st3.trans s4).trans s6
          refine ⟨us, eD6, by rw [ra6.len]; exact lim_lt h5.1, F6, acc ++ [y], us ++ [v5], ⟨fun a o ne nt ha => ?_, st6.bag.up (fun _ _ h => h) (upd_ne (Ne.symm Db)) (fun t _ h1 h2 => ⟨h1, by obtain ⟨ps, z, k⟩ := h2; exact ⟨ps, by rw [upd_ne (fun e => by rw [e, eD6] at z; cases z)]; exact z, k⟩⟩), st6.ex, fun a o ha => ?_, st6.fb, st6.new, fun a ps ne ha => by
            obtain ⟨qs, h1, k⟩ := st6.tab a ps ne ha
            exact ⟨qs, by rw [upd_ne (ne_of_none ha hD)]; exact h1, k⟩⟩, upd_same, ra6.app (.cons a6 .nil), fD6, h5.2⟩
          · rw [upd_ne (ne_of_none ha hD)]
            exact st6.keep a o ne nt ha
          · rw [upd_ne (ne_of_none ha fD6)]
            exact st6.sub a o ha
        · exact h5.elim
    · rw [List.drop_length] at hl
      exact q (.fr acc) _ F2 H2 (s1.trans st) ⟨D, us, rfl, s1.back Db hD, fD, Db, eD, ra⟩ hl⟩
theorem d_lc {elt tg iter : Expr} {ifs : List Expr} {scope : Scope} {own : List (Str × Nat)} {pos : Pos} {ti : DIt} {g : PyData → List Sl → (List Sl → Prop) → Prop} {t : TG} {tt : DTT} {te : DT} (hc : X.calm = true) (hN : X.N.Nodup) (hi : PI X tg iter (lfI X.K w ti)) (ok : BlkOk X.N X.env.scope scope own)
    (tg' : Tgt X.K (own.map (·.2)) g t)
    (hg : ∀ (s : Shared) (H : Hp) (C : Addr) (cl : List (Str × Addr)) (fp : List Addr), PG (X.blk s H scope (compEnvC scope cl C X.env) fp) tg t) (ht : ∀ (s : Shared) (H : Hp) (C : Addr) (cl : List (Str × Addr)) (fp : List Addr), PTs (X.blk s H scope (compEnvC scope cl C X.env) fp) ifs (lfT X.K w tt))
    (he : ∀ (s : Shared) (H : Hp) (C : Addr) (cl : List (Str × Addr)) (fp : List Addr), PE (X.blk s H scope (compEnvC scope cl C X.env) fp) elt (lf X.K w te)) (hs : ∀ x, foldedSetIterable iter X.env x = pure x := by intro _; rfl) :
    DPE X w (.ListComp elt [⟨tg, iter, ifs, 0⟩] scope pos) (tLcD ti g tt te (own.map (·.2))) :=
  pe_weak (pe_lc hc hN hi ok hg ht he hs) fun _ _ _ h => lc_go tg' h
/-- name = [..] -/
theorem ds_setLc {i : Nat} {e : Expr} {tg : Expr} {pos : Pos} {ti : DIt} {g : PyData → List Sl → (List Sl → Prop) → Prop} {t : TG} {tt : DTT} {te : DT} {vs : List Nat} (tg' : Tgt X.K vs g t)
    (base : PS X (.Assign [tg] e pos) (tAsg (tLc (lfI X.K w ti) t (lfT X.K w tt) (lf X.K w te) vs) (gName i))) : DPS X w (.Assign [tg] e pos) (tSetD i (tLcD ti g tt te vs)) :=
  ps_weak base fun D σ H ⟨env, F, d, r, h, fit⟩ => lc_go tg' ⟨env, F, _, r, h, fun dv v F1 H1 s1 r1 h1 => by
    obtain ⟨env', r2, k⟩ := st_ok r s1 r1 h1
    exact fit.nx env' _ F1 H1 r2 s1.ex k⟩
end
end Dl
namespace Dl
open PySem PySem.Spec PyProof.Rows L2
/-! ### a law's end: from the promise of its def -/
/-- cs: the codes of some defs, each with its table, still empty at the entry and no part of K -/
structure Tabs (K : PySem.W.Frag) (h : Heap) (cs : List (Addr × Addr)) : Prop where
  emp : ∀ p ∈ cs, h.get? p.2 = some (PySem.W.tabObj #[])
  head : ∀ p ∈ cs, PySem.W.CodeHd h p.1 p.2
  out : ∀ p ∈ cs, K.lookup p.2 = none
theorem tbl_ne_dict {es : Array DictEntry} {ep : Nat} {o : Obj} (h : o.data = .dict es ep) : o ≠ PySem.W.tabObj #[] := fun z => by rw [z] at h; cases h
theorem opening {P : Program} {w : World} {K : PySem.W.Frag} {mg mb : Str → Option Value} {a : Addr} {st : Shared} {vs : List Value} {ns : List Int} {cs : List (Addr × Addr)}
    (kin : K.In st.heap) (n1 : st.heap.Ns mainGlobals mg) (n2 : st.heap.Ns builtinsNs mb) (n3 : ∀ y : Str, y ≠ "__name__" → mb y = bootBuiltins y) (n4 : st.heap.NoLimit) (n5 : st.gens = #[])
    (hs : st.heap.get? a = some { cls := .type "list", data := .seq vs.toArray }) (iv : IntsAre vs ns) (sz : ns.length ≤ sizeLine)
    (T : Tabs K st.heap cs) (hbm : ∃ (bm : Addr) (ob : Obj), mg "__builtins__" = some (.ref bm) ∧ bm ≠ builtinsNs ∧ st.heap.get? bm = some ob ∧ ob.cls = .type "module" ∧ ob.dict = some builtinsNs ∧ ob.data = .plain) :
    ∃ (H : Hp) (base : Heap), SqL K H a (ns.map V.int) ∧ (∀ p ∈ cs, H p.2 = some (.tbl #[])) ∧ Env0 P w K mg base callerA [] st H ∧ K.In base ∧ base.Ns mainGlobals mg ∧ (∀ p ∈ cs, GxR.TabB base mg p.1 p.2) ∧
      ∀ (H' : Hp) (g : Heap), Un (frs []) [] H H' st.heap g → HOk P w H' g → OldK st.heap g := by
  have rel := vals_ints iv
  have cnt := iv.length
  -- tables aside, the script alone is tracked, if it is no object of the module
  have main : ∀ H : Hp, (∀ p ∈ cs, H p.2 = some (.tbl #[])) → SqL K H a (ns.map V.int) → HOk P w H st.heap → (∀ c u, H c = some u → (c = a ∧ K.lookup a = none ∧ ∃ ob xs, u = .frz ob (.lst xs)) ∨ (u = .tbl #[] ∧ ∃ p ∈ cs, p.2 = c)) →
      ∃ (H : Hp) (base : Heap), SqL K H a (ns.map V.int) ∧ (∀ p ∈ cs, H p.2 = some (.tbl #[])) ∧ Env0 P w K mg base callerA [] st H ∧ K.In base ∧ base.Ns mainGlobals mg ∧ (∀ p ∈ cs, GxR.TabB base mg p.1 p.2) ∧
      ∀ (H' : Hp) (g : Heap), Un (frs []) [] H H' st.heap g → HOk P w H' g → OldK st.heap g := by
    intro H tabs seq ok kind
    -- what is neither a list nor a table stays in the base
    have stay : ∀ {c : Addr} {o : Obj}, st.heap.get? c = some o → o.data ≠ .seq vs.toArray → o ≠ PySem.W.tabObj #[] → (hidT st.heap H).get? c = some o := fun {c o} e d1 d2 => hidT_get e (by
      cases q : H c with
      | none => rfl
      | some u =>
        rcases kind c u q with ⟨rfl, _⟩ | ⟨_, p, hp, rfl⟩
        · rw [hs] at e
          cases e
          exact (d1 rfl).elim
        · rw [T.emp p hp] at e
          cases e
          exact (d2 rfl).elim)
    have out : ∀ {c : Addr} {m : Str → Option Value}, st.heap.Ns c m → (hidT st.heap H).Ns c m := by
      rintro c m ⟨o, es, ep, e, d, rest⟩
      exact ⟨o, es, ep, stay e (fun z => by rw [d] at z; cases z) (tbl_ne_dict d), d, rest⟩
    have kb : K.In (hidT st.heap H) := by
      intro c o e
      refine hidT_get (kin c o e) ?_
      cases q : H c with
      | none => rfl
      | some u =>
        rcases kind c u q with ⟨rfl, no, _⟩ | ⟨_, p, hp, rfl⟩
        · rw [no] at e
          cases e
        · rw [T.out p hp] at e
          cases e
    obtain ⟨mc, c1, c2⟩ := n4
    have md : Mod K mg (hidT st.heap H) := ⟨kb, out n1, ⟨mb, out n2, n3⟩, ⟨mc, out c1, c2⟩⟩
    have isMain : ∀ {b : Addr} {o : Obj}, st.heap.get? b = some o → (∀ es ep, o.data ≠ .dict es ep) → b ≠ mainGlobals := fun {b o} e d z => by
      obtain ⟨o2, es, ep, e2, d2, _⟩ := n1
      rw [z, e2] at e
      cases e
      exact d es ep d2
    have tb : ∀ p ∈ cs, GxR.TabB (hidT st.heap H) mg p.1 p.2 := by
      intro p hp
      obtain ⟨o, us, file, tf, flags, tg, inF, text, tt, e1, e2, e3, rest⟩ := T.head p hp
      obtain ⟨bm, ob, b1, b2, b3, b4, b5, b6⟩ := hbm
      refine ⟨⟨o, us, file, tf, flags, tg, inF, text, tt, stay e1 (fun z => by rw [e3] at z; cases z) (fun z => by rw [z] at e2; cases e2), e2, e3, rest⟩, ⟨bm, ob, b1, b2, isMain b3 (fun es ep z => by rw [b6] at z; cases z), fun z => ?_, stay b3 (fun z => by rw [b6] at z; cases z) (fun z => by rw [z] at b4; cases b4), b4, b5, b6⟩, Ne.symm (isMain (T.emp p hp) fun es ep z => by cases z)⟩
      rw [z, T.emp p hp] at b3
      cases b3
      cases b4
    refine ⟨H, hidT st.heap H, seq, tabs, ⟨rfl, md, fun c o e => of_hidT e, Nat.le_of_eq (hidT_size _ _), True.intro, (fun c hc => by cases hc), ok, .of_eq n5⟩, kb, out n1, tb, fun H' g un ok' => ?_⟩
    have where' : ∀ c o, st.heap.get? c = some o → g.get? c = some o ∨ ∃ p ∈ cs, p.2 = c ∧ ∃ more : Array Value, g.get? c = some (PySem.W.tabObj more) := fun c o e => by
      cases q : H c with
      | none => exact .inl (un.keep c o e q (by intro z; cases z) (by intro z; cases z))
      | some u =>
        rcases kind c u q with ⟨rfl, _, ob, xs, rfl⟩ | ⟨rfl, p, hp, rfl⟩
        · obtain ⟨e1, _⟩ := ok _ _ q
          obtain ⟨e2, _⟩ := ok' _ _ (un.frzs _ ob _ q)
          rw [e] at e1
          cases e1
          exact .inl e2
        · obtain ⟨more, z⟩ := un.tbls p.2 #[] q
          exact .inr ⟨p, hp, rfl, _, ok' _ _ z⟩
    constructor
    · intro c o e
      rcases where' c o e with z | ⟨p, hp, rfl, more, z⟩
      · exact .inl z
      · rw [T.emp p hp] at e
        cases e
        exact .inr (.inl ⟨((T.head p hp).tab (T.emp p hp)).isCodeTable, rfl, #[], more, rfl, by rw [Array.empty_append]; exact z⟩)
    · intro c o e
      rcases where' c o e with z | ⟨_, _, _, _, z⟩
      · exact ⟨_, z⟩
      · exact ⟨_, z⟩
  have noA : ∀ p ∈ cs, p.2 ≠ a := fun p hp e => by
    have z := T.emp p hp
    rw [e, hs] at z
    have z2 : Data.seq vs.toArray _ = Data.fields #[] := congrArg Obj.data (Option.some.inj z)
    cases z2
  let H0 : Hp := fun c => if c ∈ cs.map Prod.snd then some (.tbl #[]) else none
  have h0 : ∀ p ∈ cs, H0 p.2 = some (.tbl #[]) := fun p hp => if_pos (List.mem_map_of_mem hp)
  have h1 : ∀ c u, H0 c = some u → u = .tbl #[] ∧ ∃ p ∈ cs, p.2 = c := fun c u z => by
    by_cases m : c ∈ cs.map Prod.snd
    · have e : H0 c = some (.tbl #[]) := if_pos m
      rw [e] at z
      exact ⟨(Option.some.inj z).symm, List.mem_map.mp m⟩
    · have e : H0 c = none := if_neg m
      rw [e] at z
      cases z
  have ok0 : ∀ c u, H0 c = some u → ObjOk P w H0 st.heap c u := fun c u z => by
    obtain ⟨rfl, p, hp, rfl⟩ := h1 c u z
    exact T.emp p hp
  cases look : K.lookup a with
  | some o =>
    have e := kin a o look
    rw [hs] at e
    cases e
    refine main H0 h0 (.inr ⟨_, vs.toArray, _, look, rfl, rfl, rfl, ?_, ?_⟩) ok0 fun c u z => .inr (h1 c u z)
    · rw [List.size_toArray, cnt]; exact sz
    · simpa using rel
  | none =>
    have at_a : upd H0 a (.frz { cls := .type "list", data := .seq vs.toArray } (.lst (ns.map V.int))) a = some (.frz { cls := .type "list", data := .seq vs.toArray } (.lst (ns.map V.int))) := upd_same
    refine main (upd H0 a (.frz { cls := .type "list", data := .seq vs.toArray } (.lst (ns.map V.int)))) (fun p hp => by rw [upd_ne (noA p hp)]; exact h0 p hp) (.inl (.inr ⟨_, at_a⟩)) (fun c u z => ?_) fun c u z => ?_
    · by_cases hc : c = a
      · rw [hc, upd_same] at z
        rw [hc]
        cases z
        exact ⟨hs, by rw [List.length_map]; exact sz, vs, _, rel, hs⟩
      · rw [upd_ne hc] at z
        obtain ⟨rfl, p, hp, rfl⟩ := h1 c u z
        exact T.emp p hp
    · by_cases hc : c = a
      · rw [hc, upd_same] at z
        cases z
        exact .inl ⟨hc, look, _, _, rfl⟩
      · rw [upd_ne hc] at z
        exact .inr (h1 c u z)
theorem law_end {l : PySem.W.OpenLaw} {k : Nat} {q : Program} {loose : List Str} {XP : (Str → Option Value) → Heap → Prop} {YP : World → Heap → Prop} {d : DefRec} {K : Params → PySem.W.Frag} {sp : PySem.W.Frag → List Addr → Sp}
    (hn : l.most = some 63) (hdf : d.params.defaults = []) (room : Room k callerA) (ag : callerA.guards = some []) (hY : ∀ (w : World) (h : Heap), YP w h → (K w.params).In h)
    (F : ∀ (w : World) (mg mb : Str → Option Value) (lo : List Str) (mean : ExcName → Option Value) (fa : Addr) (h : Heap), (K w.params).In h → PyProof.Rows.Top q lo mean mg mb h → mg d.name = some (.ref fa) →
      ∃ cs : List (Addr × Addr), Tabs (K w.params) h cs ∧ ∀ base : Heap, (K w.params).In base → base.Ns mainGlobals mg → (∀ p ∈ cs, GxR.TabB base mg p.1 p.2) → Fg l.prog w (K w.params) mg base (L2.CX l.prog w) k fa (sp (K w.params) (cs.map Prod.snd)))
    (hsp : ∀ (K : PySem.W.Frag) (H : Hp) (a : Addr) (ns : List Int) (ts : List Addr), ns.length ≤ 63 → (∀ t ∈ ts, GxR.TabG H t) → SqL K H a (ns.map V.int) → sp K ts [.ref a] H (fun v _ => v = .bl true) E0) :
    PySem.W.WalkO q loose XP YP l.row.toRowW d [] (fun f vs => PySem.call f vs) := by
  refine Att.attach_callB hn hdf fun w s0 st mg mb fa o pm cd doc a vs ns G Y ho hd hcd hmg hobj hints hlen hbits hg => ?_
  have kin := hY w _ Y
  obtain ⟨cs, T, fg⟩ := F w mg mb _ _ fa _ kin G.T hmg
  obtain ⟨H, base, seq, tabs, e0, kb, nb, tb, old⟩ := opening (P := l.prog) (w := w) kin G.T.g G.T.b G.T.builtins G.T.nolimit hg hobj hints (Nat.le_trans hlen (by decide)) T G.T.bmain
  have tg : ∀ t ∈ cs.map Prod.snd, GxR.TabG H t := fun t ht => by
    obtain ⟨p, hp, rfl⟩ := List.mem_map.mp ht
    exact ⟨#[], tabs p hp, by simp [TriplesOk]⟩
  refine codeAny_mono (fg base kb nb tb callerA [] st H [.ref a] [.ref a] _ _ ag room e0 (.cons rfl .nil) (hsp _ H a ns _ hlen tg seq)) fun r s2 got => ?_
  match r, got with
  | .error e, got =>
    obtain ⟨_, _, _, _, _, _, _, _, _, _, _, _, z⟩ := got
    exact z.elim
  | .ok (.ret u), got =>
    obtain ⟨v, H', os, bare, un, ok', rv, e⟩ := got
    subst e
    obtain rfl : u = Value.bool true := rv
    exact ⟨rfl, old H' _ un ok', os, bare⟩
end Dl
namespace Dl
open PySem PySem.Spec PyProof.Rows L2
/-! ### and, or, not as values; is None; chains; slices; constants that are tuples -/
section
variable {X : Cx} {w : Wn} {a b c e : Expr} {ta tb tc te : DT} {pos : Pos} {rest : List Expr}
theorem passZ {P : Program} {wd : World} : Passes (L2.CX P wd) X E0 := fun _ _ _ _ _ _ _ h => by
  obtain ⟨_, _, _, _, _, _, _, _, _, _, _, _, z⟩ := h
  exact z.elim
def tAnV (ta tb : DT) : DT := fun env P => ta env fun u => rd u fun x => truOk x ∧ if truD x = true then tb env P else P u
def tOrV' (ta tb : DT) : DT := fun env P => ta env fun u => rd u fun x => truOk x ∧ if truD x = true then P u else tb env P
theorem d_and (ha : DPE X w a ta) (hb : DPE X w (.BoolOp .And (b :: rest) pos) tb) : DPE X w (.BoolOp .And (a :: b :: rest) pos) (tAnV ta tb) :=
  pe_weak (pe_andT ha hb) fun σ H Q ⟨env, F, P, r, h, q⟩ => ⟨env, F, _, r, h, fun dv v F1 H1 s1 r1 h1 => by
    obtain ⟨x, x1, ok, h1⟩ := rd_ok r1 h1
    refine ⟨truD x, tru_of s1.sub x1 ok, ?_⟩
    cases hx : truD x with
    | true =>
      rw [hx] at h1
      exact lf_early s1 r h1 q
    | false =>
      rw [hx] at h1
      exact q dv v F1 H1 s1 r1 h1⟩
theorem d_or (ha : DPE X w a ta) (hb : DPE X w (.BoolOp .Or (b :: rest) pos) tb) : DPE X w (.BoolOp .Or (a :: b :: rest) pos) (tOrV' ta tb) :=
  pe_weak (pe_orT ha hb) fun σ H Q ⟨env, F, P, r, h, q⟩ => ⟨env, F, _, r, h, fun dv v F1 H1 s1 r1 h1 => by
    obtain ⟨x, x1, ok, h1⟩ := rd_ok r1 h1
    refine ⟨truD x, tru_of s1.sub x1 ok, ?_⟩
    cases hx : truD x with
    | true =>
      rw [hx] at h1
      exact q dv v F1 H1 s1 r1 h1
    | false =>
      rw [hx] at h1
      exact lf_early s1 r h1 q⟩
def tNoV (ta : DT) : DT := fun env P => ta env fun u => rd u fun x => truOk x ∧ P (.d (.bool (!truD x)))
theorem d_not (ha : DPE X w a ta) : DPE X w (.UnaryOp .Not a pos) (tNoV ta) :=
  pe_weak (pe_notT ha) fun σ H Q ⟨env, F, P, r, h, q⟩ => ⟨env, F, _, r, h, fun dv v F1 H1 s1 r1 h1 => by
    obtain ⟨x, x1, ok, h1⟩ := rd_ok r1 h1
    exact ⟨truD x, tru_of s1.sub x1 ok, q (.d (.bool _)) _ F1 H1 s1 (.bl _) h1⟩⟩
/-! is None -/
def nonB : DV → (Bool → Prop) → Prop
  | .d .none, k => k true
  | .d _, k => k false
  | .fr _, k => k false
  | .ow _ _, k => k false
  | .raw _, _ => False
  | .bag, k => k false
theorem nonB_ok {K : PySem.W.Frag} {b : Bg} {Hz F H : Hp} {v : V} {dv : DV} {k : Bool → Prop} (r : Res K b Hz F H dv v) (h : nonB dv k) : k (decide (v = .non)) := by
  cases dv with
  | d x =>
    have r' : Rp K F v x := r
    cases x with
    | none => cases r'; exact h
    | bool y => cases r'; rw [decide_eq_false (fun z => by cases z)]; exact h
    | int y => cases r'; rw [decide_eq_false (fun z => by cases z)]; exact h
    | str y => cases r'; rw [decide_eq_false (fun z => by cases z)]; exact h
    | list y => cases r'; rw [decide_eq_false (fun z => by cases z)]; exact h
    | tuple y => cases r'; rw [decide_eq_false (fun z => by cases z)]; exact h
    | dict y =>
      have hn : v ≠ .non := fun z => by
        subst z
        generalize e : PyData.dict y = q at r'
        cases r'
        cases e
      rw [decide_eq_false hn]; exact h
  | fr xs => obtain ⟨p, vs, rfl, _⟩ := r; rw [decide_eq_false (fun z => by cases z)]; exact h
  | ow l xs => obtain ⟨rfl, _⟩ := r; rw [decide_eq_false (fun z => by cases z)]; exact h
  | raw u => exact h.elim
  | bag => cases (show v = V.ref b.b from r); rw [decide_eq_false (fun z => by cases z)]; exact h
def tIsNV (f : Bool → Bool) (ta : DT) : DT := fun env P => ta env fun u => nonB u fun c => P (.d (.bool (f c)))
theorem d_isN {j pos'} (ha : DPE X w a ta) : DPE X w (.Compare a [.Is] [.Constant .none j pos'] pos) (tIsNV id ta) :=
  pe_weak (pe_cmp (pc_isN ha) rfl) fun σ H Q ⟨env, F, P, r, h, q⟩ => ⟨env, F, _, r, h, fun dv v F1 H1 s1 r1 h1 => q (.d (.bool _)) _ F1 H1 s1 (.bl _) (nonB_ok r1 h1)⟩
theorem d_isNN {j pos'} (ha : DPE X w a ta) : DPE X w (.Compare a [.IsNot] [.Constant .none j pos'] pos) (tIsNV not ta) :=
  pe_weak (pe_cmp (pc_notN ha) rfl) fun σ H Q ⟨env, F, P, r, h, q⟩ => ⟨env, F, _, r, h, fun dv v F1 H1 s1 r1 h1 => q (.d (.bool _)) _ F1 H1 s1 (.bl _) (nonB_ok r1 h1)⟩
theorem dt_isN {j pos'} (ha : DPE X w a ta) : DPT X w (.Compare a [.Is] [.Constant .none j pos'] pos) (tTst (tIsNV id ta)) :=
  pt_weak (pt_cmp (pc_isN ha) rfl) fun σ H Q ⟨env, F, P, r, h, q⟩ => ⟨env, F, _, r, h, fun dv v F1 H1 s1 r1 h1 => ⟨_, rfl, q _ F1 H1 s1 (nonB_ok r1 h1)⟩⟩
theorem dt_isNN {j pos'} (ha : DPE X w a ta) : DPT X w (.Compare a [.IsNot] [.Constant .none j pos'] pos) (tTst (tIsNV not ta)) :=
  pt_weak (pt_cmp (pc_notN ha) rfl) fun σ H Q ⟨env, F, P, r, h, q⟩ => ⟨env, F, _, r, h, fun dv v F1 H1 s1 r1 h1 => ⟨_, rfl, q _ F1 H1 s1 (nonB_ok r1 h1)⟩⟩
/-! chains -/
def tChD (g g' : G2) (ta tb tc : DT) : DT := fun env P => ta env fun u => rd u fun x => tb env fun z => rd z fun y => g x y fun c => isB c fun k => if k = true then tc env fun t => rd t fun y2 => g' y y2 P else P (.d (.bool false))
theorem chain_go {g g' : G2} {σ : L2.St} {H : Hp} {Q : VK} (h : lf X.K w (tChD g g' ta tb tc) σ H Q) : tChain (lR X.K w.b g) (lR X.K w.b g') (lf X.K w ta) (lf X.K w tb) (lf X.K w tc) σ H Q := by
  obtain ⟨env, F, P, r, h, q⟩ := h
  refine ⟨env, F, _, r, h, fun dv v F1 H1 s1 r1 h1 => ?_⟩
  obtain ⟨x, x1, h1⟩ := rd_ok r1 h1
  refine ⟨env, F1, _, r.step s1, h1, fun dv2 v2 F2 H2 s2 r2 h2 => ?_⟩
  obtain ⟨y, y1, h2⟩ := rd_ok r2 h2
  refine ⟨F2, x, y, _, s2.wd, x1.step s2, y1, h2, fun dv3 v3 F3 H3 s3 r3 h3 => ?_⟩
  obtain ⟨k, rfl, h3⟩ := isB_ok r3 h3
  refine ⟨k, rfl, ?_⟩
  have s13 := (s1.trans s2).trans s3
  cases k with
  | false => exact q _ _ F3 H3 s13 (res_d (.bl false)) h3
  | true =>
    refine ⟨env, F3, _, ((r.step s1).step s2).step s3, h3, fun dv4 v4 F4 H4 s4 r4 h4 => ?_⟩
    obtain ⟨y2, y3, h4⟩ := rd_ok r4 h4
    exact ⟨F4, y, y2, P, s4.wd, (y1.step s3).step s4, y3, h4, fun dv5 v5 F5 H5 s5 r5 h5 => q dv5 v5 F5 H5 ((s13.trans s4).trans s5) (r5.early (s13.trans s4)) h5⟩
theorem d_chain {op op' : CmpOp} {g g' : G2} (ho : OpR X (compareOp op) (lR X.K w.b g)) (ho' : OpR X (compareOp op') (lR X.K w.b g')) (ha : DPE X w a ta) (hb : DPE X w b tb) (hc : DPE X w c tc)
    (hm : lastMarks [op, op'] [b, c] = false := by with_unfolding_all rfl) : DPE X w (.Compare a [op, op'] [b, c] pos) (tChD g g' ta tb tc) :=
  pe_weak (pe_chain ho ho' ha hb hc hm) fun _ _ _ h => chain_go h
theorem dt_chain {op op' : CmpOp} {g g' : G2} (ho : OpR X (compareOp op) (lR X.K w.b g)) (ho' : OpR X (compareOp op') (lR X.K w.b g')) (ha : DPE X w a ta) (hb : DPE X w b tb) (hc : DPE X w c tc)
    (hm : lastMarks [op, op'] [b, c] = false := by with_unfolding_all rfl) : DPT X w (.Compare a [op, op'] [b, c] pos) (tTst (tChD g g' ta tb tc)) :=
  pt_weak (pt_chain ho ho' ha hb hc hm) fun σ H Q ⟨env, F, P, r, h, q⟩ => chain_go ⟨env, F, _, r, h, fun dv v F1 H1 s1 r1 h1 => by
    obtain ⟨k, rfl, h1⟩ := isB_ok r1 h1
    exact ⟨k, rfl, q k F1 H1 s1 h1⟩⟩
/-! slices -/
abbrev DO := List Sl → (Option Int → Prop) → Prop
def lfO (K : PySem.W.Frag) (w : Wn) (t : DO) : TO := fun σ H Q => ∃ env F P, RelW K w env σ F H ∧ t env P ∧ ∀ o F' H', Stp K w.b F H F' H' → P o → Q o H'
def oNone : DO := fun _ P => P none
def oSome (te : DT) : DO := fun env P => te env fun u => match u with
  | .d (.int i) => P (some i)
  | _ => False
theorem do_none : PO X none (lfO X.K w oNone) := ⟨fun pins s σ H Q I ⟨env, F, P, r, h, q⟩ => po_none.run pins s σ H Q I (q none F H r.wd.refl h)⟩
theorem do_some (he : DPE X w e te) : PO X (some e) (lfO X.K w (oSome te)) := ⟨fun pins s σ H Q I ⟨env, F, P, r, h, q⟩ => (po_some he).run pins s σ H Q I ⟨env, F, _, r, h, fun dv v F1 H1 s1 r1 h1 => by
  split at h1
  · next i => exact ⟨i, r1.intOf, q (some i) F1 H1 s1 h1⟩
  · exact h1.elim⟩⟩
def cutD (xs : List PyData) (lo hi : Option Int) : List PyData := (xs.drop (HT.sIx xs.length 0 lo)).take (HT.sIx xs.length xs.length hi - HT.sIx xs.length 0 lo)
theorem cut_rp {K : PySem.W.Frag} {F : Hp} {vs : List V} {xs : List PyData} (r : RpA K F vs xs) (lo hi : Option Int) : RpA K F (cutV vs lo hi) (cutD xs lo hi) := by
  unfold cutV cutD
  rw [r.len]
  exact (r.drop _).take _
def tSlL (te : DT) (lo hi : DO) : DT := fun env P => te env fun u => rd u fun x => lo env fun l => hi env fun h => match x with
  | .list xs => P (.fr (cutD xs l h))
  | _ => False
theorem d_slL {lo hi : Option Expr} {tl th : DO} {p2 : Pos} (he : DPE X w e te) (hl : PO X lo (lfO X.K w tl)) (hh : PO X hi (lfO X.K w th)) : DPE X w (.Subscript e (.Slice lo hi none p2) pos) (tSlL te tl th) :=
  pe_weak (pe_slice sl_list he hl hh) fun σ H Q ⟨env, F, P, r, h, q⟩ => ⟨env, F, _, r, h, fun dv v F1 H1 s1 r1 h1 => by
    obtain ⟨x, x1, h1⟩ := rd_ok r1 h1
    refine ⟨env, F1, _, r.step s1, h1, fun l F2 H2 s2 h2 => ⟨env, F2, _, (r.step s1).step s2, h2, fun u F3 H3 s3 h3 => ?_⟩⟩
    have s13 := (s1.trans s2).trans s3
    split at h3
    · next xs =>
      obtain ⟨m, vs, rfl, e, ra⟩ := ((x1.step s2).step s3).lst s3.sub
      exact ⟨m, vs, rfl, SqL.of e, res_new s3.wd (cut_rp ra l u) (fun dv v F4 H4 s4 r4 h4 => q dv v F4 H4 (s13.trans s4) (r4.early s13) h4) h3⟩
    · exact h3.elim⟩
end
/-! ### enumerate of a tuple -/
section
set_option maxHeartbeats 1000000 in
theorem enum_made {v : Value} {o : Obj} {Hd : Heap → Prop} (B : PySem.Begins v o Hd) :
    Meets (Builtin.«enumerate.__new__» { pos := [.type "enumerate", v], kw := [] }) (fun _ R st => Hd st.heap ∧
      R (.ok (.ret (.ref (st.heap.push o).objs.size))) { st with heap := (st.heap.push o).push { cls := .type "enumerate", data := .fields #[.none, .bool false, .ref st.heap.objs.size, rawInt 0, .none, .none] } }) :=
  .of_wp fun prog w A R st want => by
    obtain ⟨hp, gs, dr, tk, os⟩ := st
    obtain ⟨h1, want⟩ := want
    have sub := sub_enumerate
    have it : ∀ {A' : Around} {E Q : Value → Shared → Prop}, Q (.ref hp.objs.size) ⟨hp.push o, gs, dr, tk, os⟩ → wpAny (model prog w) A' (pyIter v) Q E ⟨hp, gs, dr, tk, os⟩ :=
      fun q => B.iter prog w _ _ ⟨hp, gs, dr, tk, os⟩ _ h1 q
    wp_walk using it
    refine wpAny_stack_any fun sk => wpAny_pure ?_
    split
    · rename_i c _ _ _ _ _
      cases (c == Value.type "enumerate") <;> (wp_walk using it; exact ⟨_, rfl, want⟩)
    · wp_walk using it
      exact ⟨_, rfl, want⟩
variable {prog : Program} {w : World} {A : Around} {E : Value → Shared → Prop} {s : Shared}
theorem enum_call {v : Value} {o : Obj} {Hd : Heap → Prop} {Q : Value → Shared → Prop} (B : PySem.Begins v o Hd) (h1 : Hd s.heap)
    (want : ∀ h', IsEnum h' (s.heap.objs.size + 1) s.heap.objs.size 0 .none → h'.get? s.heap.objs.size = some o → (∀ c u, s.heap.get? c = some u → h'.get? c = some u) → Q (.ref (s.heap.objs.size + 1)) { s with heap := h' }) :
    wpAny (model prog w) A (call (.type "enumerate") [v]) Q E s := by
  refine callType_new F.called_enumerate (by decide) (F.typeCall_enumerate_1 _) (F.newCall_enumerate_1 _) (fun obj => F.args_object_init_2 obj _) F.entry_enumerate_new (enum_made B) ⟨h1, ?_⟩
  have hz : (s.heap.push o).objs.size = s.heap.objs.size + 1 := Heap.size_push ..
  show _ ∧ _
  rw [hz]
  have he : IsEnum ((s.heap.push o).push { cls := .type "enumerate", data := .fields #[.none, .bool false, .ref s.heap.objs.size, rawInt 0, .none, .none] }) (s.heap.objs.size + 1) s.heap.objs.size 0 .none := by
    have z := Heap.get?_push_size (s.heap.push o) (o := { cls := .type "enumerate", data := .fields #[.none, .bool false, .ref s.heap.objs.size, rawInt 0, .none, .none] }) rfl
    rw [hz] at z
    exact z
  exact ⟨⟨_, he, rfl⟩, want _ he (Heap.get?_push_of_some _ (Heap.get?_push_size _ B.free)) fun c u x => Heap.get?_push_of_some _ (Heap.get?_push_of_some _ x)⟩
end
/-- the tuple at a, each item in a new pair -/
def IteT (K : PySem.W.Frag) (a : Addr) : It :=
  { go := fun i H => ∃ (xs : List V) (x : V), SqT K H a xs ∧ xs[i]? = some x
    yld := fun i H v H' => ∃ T x, v = .ref T ∧ H T = none ∧ H' = upd H T (.tup [.int (i : Nat), x]) ∧ ∀ xs, SqT K H a xs → xs[i]? = some x
    stop := fun i H => ∃ xs : List V, SqT K H a xs ∧ xs.length = i }
theorem enumT_turn {P : Program} {w : World} {K : PySem.W.Frag} {elts : List Expr} {kk : Nat} {tpos : Pos} (a e it : Addr) :
    Turn P w K (.Tuple elts kk tpos) (IteT K a) [e, it] e (fun i h => (∃ old, IsEnum h e it ((i : Nat) : Int) old) ∧ h.IsTupleIter it a i ∧ e ≠ it ∧ a ≠ it ∧ a ≠ e) where
  mem := by simp
  obj := fun i h st c hc => by
    obtain ⟨⟨old, he⟩, ⟨o, ho, _, hd⟩, _⟩ := st
    rcases (show c = e ∨ c = it by simpa using hc) with rfl | rfl
    · exact ⟨_, he, fun v q => nomatch q⟩
    · exact ⟨o, ho, fun v q => by rw [hd] at q; cases q⟩
  keep := fun i h h' st k => by
    obtain ⟨⟨old, he⟩, hi, r⟩ := st
    exact ⟨⟨old, k e (by simp) _ he⟩, hi.at fun o q => k it (by simp) o q, r⟩
  item := by
    intro X hP hw hK hc i pins s σ H E I hf st hg
    subst hP hw hK
    obtain ⟨⟨old, he⟩, hit, hne, nai, nae⟩ := st
    obtain ⟨xs, x, hq, hx⟩ := hg
    obtain ⟨its, rv, tp, hz⟩ := I.tuple hq
    obtain ⟨u, hu, ru⟩ := rv.get hx
    have hel : e < s.heap.objs.size := Heap.lt_size he
    have hil : it < s.heap.objs.size := by obtain ⟨_, q, _⟩ := hit; exact Heap.lt_size q
    have D := Draws.tuple (prog := X.prog) (w := X.w) (A := X.A.in1) (I.ok.hd hc) it a nai its.toArray
    have hlt : i < its.toArray.size := by
      obtain ⟨hl, _⟩ := List.getElem?_eq_some_iff.mp hu
      simpa using hl
    refine wpAny_pyNext_enum_itemD D he ⟨hit, tp⟩ hlt hne (by simpa [hne] using nae.symm) fun z h' tk hz2 ho hst hT hsz hk => ?_
    have ez : z = u := by
      have q : its.toArray[i]? = some z := hz2
      rw [List.getElem?_toArray, hu] at q
      exact (Option.some.inj q).symm
    subst ez
    refine ⟨_, rfl, wpAny_letOwnedTupleGo_enum (s := { s with heap := h', toks := tk + 1 }) ho fun h2 he2 sb => ?_⟩
    have hT2 : h2.get? s.heap.objs.size = some { cls := .type "tuple", data := .seq #[.int i tk, z] } := (sb.2 _ (Nat.ne_of_gt hel)).trans hT
    have new : ObjOk X.prog X.w (upd H s.heap.objs.size (.tup [.int (i : Nat), x])) h2 s.heap.objs.size (.tup [.int (i : Nat), x]) :=
      ⟨by show 2 ≤ sizeLine; decide, [.int i tk, z], .cons ⟨_, rfl⟩ (.cons ru .nil), ⟨_, hT2, rfl, _, rfl⟩⟩
    have J : L2.Inv X pins σ (upd H s.heap.objs.size (.tup [.int (i : Nat), x])) { s with heap := h2, toks := tk + 1 } :=
      I.turnedNew (ch := [e, it]) (fun c ob hc2 q => (sb.2 c (fun z => hc2 (by simp [z]))).trans (hk c ob (fun z => hc2 (by simp [z])) (fun z => hc2 (by simp [z])) q)) hf (Nat.le_refl _) new
    refine ⟨.ref s.heap.objs.size, _, J, rfl, ⟨_, x, rfl, I.hok.fresh (Nat.le_refl _), rfl, fun ys hy => by rw [I.tuple_inj hy hq]; exact hx⟩, ⟨⟨z, ?_⟩, hst.1.at fun o q => (sb.2 it (Ne.symm hne)).trans q, hne, nai, nae⟩, fun c hc2 => ?_⟩
    · rw [show ((i + 1 : Nat) : Int) = (i : Int) + 1 by omega]
      exact he2
    · have lt : c < s.heap.objs.size := by
        rcases (show c = e ∨ c = it by simpa using hc2) with rfl | rfl
        · exact hel
        · exact hil
      rw [upd_ne (Nat.ne_of_lt lt)]
      exact (hf c hc2).1
  done := by
    intro X hP hw hK hc i pins s σ H E I hf st hg
    subst hP hw hK
    obtain ⟨⟨old, he⟩, hit, hne, nai, nae⟩ := st
    obtain ⟨xs, hq, hx⟩ := hg
    obtain ⟨its, rv, tp, hz⟩ := I.tuple hq
    obtain ⟨f0, f1, f2, f3, f4, f5⟩ := hf it (by simp)
    have hl := rv.length
    have D := Draws.tuple (prog := X.prog) (w := X.w) (A := X.A.in1) (I.ok.hd hc) it a nai its.toArray
    have hi : i = its.toArray.size := by rw [List.size_toArray, ← hl]; exact hx.symm
    subst hi
    exact wpAny_pyNext_enum_endD D he ⟨hit, tp⟩ fun h' eb => ⟨rfl, I.turned (t' := s.toks) (fun c o hc2 q => eb c o hc2 q) f0 f1 f3 f4 f5⟩
  self := fun A i s Q E st h => by
    obtain ⟨⟨_, he⟩, _⟩ := st
    exact wpAny_pyIter_enum he h
end Dl
namespace Dl
open PySem PySem.Spec PyProof.Rows L2
def iEnumT (K : PySem.W.Frag) (ta : TA) : TI := fun σ H R => ta σ H fun vs H1 => ∃ a xs, vs = [.ref a] ∧ SqT K H1 a xs ∧ R (IteT K a) H1
theorem pi_enumT {X : Cx} {e : Expr} {ta : TA} {p pos tpos : Pos} {elts : List Expr} {kk : Nat} (gl : Gl X "enumerate") (gm : X.mg "enumerate" = none) (ha : PA X [e] ta) (hs : starEach [e] X.env = [(false, eval e X.env)] := by rfl) :
    PI X (.Tuple elts kk tpos) (.Call (.Name "enumerate" p) [e] [] pos) (iEnumT X.K ta) := by
  refine ⟨fun pins s σ H R I want => ?_⟩
  have w2 : ta σ H fun vs H1 => ∃ a xs, vs = [.ref a] ∧ SqT X.K H1 a xs ∧ R (IteT X.K a) H1 := want
  have run := ha.run pos pins s σ H _ I w2
  refine Call_ (ld_blt I gl gm boot_enumerate (PyProof.Rows.callWith_type1 (thn run ?_) hs rfl))
  intro us st got
  obtain ⟨vs, H1, J, rv, q⟩ := got
  obtain ⟨a, xs, rfl, hq, q⟩ := q
  match us, rv with
  | [_], .cons r .nil =>
    cases r
    obtain ⟨its, rv, tp, hz⟩ := J.tuple hq
    have la : a < st.heap.objs.size := tp.lt
    refine enum_call (begins_tuple a its.toArray) tp fun h' he hit hk => wpAny_pyIter_enum he ?_
    have J2 : L2.Inv X pins σ H1 { st with heap := h' } := J.kept (t' := st.toks) hk
    refine ⟨st.heap.objs.size + 1, [st.heap.objs.size + 1, st.heap.objs.size], _, _, H1, rfl, J2, enumT_turn a (st.heap.objs.size + 1) st.heap.objs.size, ⟨⟨.none, he⟩, ⟨_, hit, rfl, rfl⟩, Nat.succ_ne_self _, Nat.ne_of_lt la, Nat.ne_of_lt (Nat.lt_succ_of_lt la)⟩, fun c hc => ?_, q⟩
    have le : st.heap.objs.size ≤ c := by
      rcases (show c = st.heap.objs.size + 1 ∨ c = st.heap.objs.size by simpa using hc) with z | z
      · rw [z]; exact Nat.le_succ _
      · rw [z]; exact Nat.le_refl _
    exact J.fpOk le (J.hok.fresh le)
theorem wlk_enumT {K : PySem.W.Frag} {b : Bg} {F : Hp} {a : Addr} {vs : List V} {xs : List PyData} (h : SqT K F a vs) (r : RpA K F vs xs) : Wlk K b F (IteT K a) (enumD xs) :=
  ⟨⟨fun H => SqT K H a vs, YPair (fun i => some (.int (i : Nat))) (fun i => vs[i]?), ⟨fun i H hi q => by
      have hl : i < vs.length := by rw [r.len]; simpa [enumD] using hi
      exact ⟨vs, vs[i], q, List.getElem?_eq_getElem hl⟩, fun H q => ⟨vs, q, by rw [enumD_len, r.len]⟩, fun i H v H2 hi q y => by
      obtain ⟨T, x, e1, hT, e2, hx⟩ := y
      exact ⟨T, .int (i : Nat), x, e1, hT, e2, rfl, hx vs q⟩⟩, fun F' H' s w => sqt_up w.sub (sqt_up s h), fun i F' H' v H2 s w y => by
    obtain ⟨T, x, y, rfl, hT, rfl, e1, e2⟩ := y
    cases e1
    obtain ⟨z, e3, r1⟩ := r.getV e2
    obtain ⟨F2, st, rp⟩ := pair_new w hT (Rp.int (i : Nat)) (r1.up s)
    refine ⟨F2, _, st, ?_, rp⟩
    unfold enumD
    rw [List.getElem?_map, List.getElem?_zipIdx, e3]
    simp⟩⟩
def itEnumT (ta : DA) : DIt := fun env P => ta env fun us => allD us fun xs => match xs with
  | [.tuple ys] => P (enumD ys)
  | _ => False
theorem di_enumT {X : Cx} {w : Wn} {ta : DA} {p pos tpos : Pos} {a : Expr} {elts : List Expr} {kk : Nat} (gl : Gl X "enumerate") (gm : X.mg "enumerate" = none) (ha : DPA X w [a] ta) (hs : starEach [a] X.env = [(false, eval a X.env)] := by rfl) : PI X (.Tuple elts kk tpos) (.Call (.Name "enumerate" p) [a] [] pos) (lfI X.K w (itEnumT ta)) :=
  pi_weak (pi_enumT gl gm ha hs) fun σ H R ⟨env, F, P, r, h, q⟩ => ⟨env, F, _, r, h, fun dvs vs F1 H1 s1 r1 h1 => by
    obtain ⟨xs, ra, h1⟩ := allD_ok r1 h1
    split at h1
    · next ys =>
      cases ra with
      | cons a1 t =>
        cases t
        cases a1 with
        | tup e1 r2 => exact ⟨_, _, rfl, sqt_up s1.sub e1, q _ _ F1 H1 s1 (wlk_enumT e1 r2) h1⟩
    · exact h1.elim⟩
/-! ### a def that takes any number of arguments -/
theorem d_star {ts : List Addr} {P : Program} {w : World} {K : PySem.W.Frag} {mg : Str → Option Value} {base : Heap} {k : Nat} {f : Addr} {fd : FuncData} {x qual pv : Str} {st : Stmt} {N : List Str} (Fn : L2.Fun K x qual st f fd) (S : FnScope N [pv] (defScope st))
    (hb : ∀ (kV doc pm : Value) (an : Option Addr) (cdv ct : Value) (us : List Value), bindArgs (PySem.W.fnOf x qual (defArgs st) (defBody st) (defScope st) .none kV doc pm an cdv ct) { pos := us, kw := [] } = (newTuple us >>= fun t => pure [(pv, t)]))
    (sp : DSp) (t : DS)
    (hd : ∀ (cdv : Value) (A : Around) (outer : List Env) (s : Shared) (H : Hp) (E : XK) (wn : Wn), fd.code = cdv → wn.b.ts = ts → (A.deeper (envOfC qual (defScope st) s.heap.objs.size f cdv)).guards = some [] → Room k (A.deeper (envOfC qual (defScope st) s.heap.objs.size f cdv)) →
      DPSs (cxOf (L2.CX P w) P w K mg base N qual (defScope st) f cdv A outer s H E).nox wn (defBody st) t)
    (hv : ∀ dvs Q, sp dvs Q → allD dvs fun xs => xs.length ≤ 100000 ∧ t { nx := fun _ => Q (.d .none), rt := Q } (startD N [.d (.tuple xs)])) : Fg P w K mg base (L2.CX P w) (k + 1) f (Pm K ts sp) := by
  intro A outer s H us vs Q E ag room e0 rv want
  obtain ⟨b, F, dvs, R, ht, wd, ar, hsp, q⟩ := want
  have ar2 : Paired (ArR K b F H) dvs vs := by
    clear rv hsp q
    induction ar with
    | nil => exact .nil
    | @cons dv v _ _ a t ih =>
      refine .cons ?_ ih
      cases dv with
      | d x => exact a
      | raw u => exact a
      | bag => exact a
      | fr x => exact a.elim
      | ow l x => exact a.elim
  obtain ⟨xs, rx, hz, hread⟩ := allD_ok ar2 (hv dvs R hsp)
  obtain ⟨oc, od, kV, doc, pm, an, cdv, ct, osl, rfl, lk, hcd⟩ := Fn.ex
  have hn : H s.heap.objs.size = none := e0.hok.fresh (Nat.le_refl _)
  have hvl : vs.length ≤ sizeLine := by rw [rx.len]; exact lim_le hz
  have hul : us.length ≤ sizeLine := by rw [← rv.length]; exact hvl
  refine StX.run_bnd (N := N) (ps := [pv]) lk hcd S room e0 (G := fun ys H2 => ∃ p, H p = none ∧ ys = [V.ref p] ∧ H2 = upd H p (.tup vs)) (fun A' Ex Q' h => ?_) fun s2 H2 ys g room2 => ?_
  · rw [hb kV doc pm an cdv ct us]
    refine wpAny_bind (wpAny_newTuple (wpAny_pure ?_) hul)
    have new : ObjOk P w (upd H s.heap.objs.size (.tup vs)) (s.heap.push ({ cls := .type "tuple", data := .seq us.toArray } : Obj)) s.heap.objs.size (.tup vs) := ⟨hvl, us, rv, ⟨_, Heap.get?_push_size _ rfl, rfl, _, rfl⟩⟩
    have un := StX.un_laid (fs := frs outer) (s := s) (o := ({ cls := .type "tuple", data := .seq us.toArray } : Obj)) (u := .tup vs) hn
    exact h _ _ [V.ref s.heap.objs.size] [Value.ref s.heap.objs.size] (StX.env0_laid e0 new) un rfl (fun e s' => StX.cxUp outer s H _ _ E e s' un (fun c o q => Heap.get?_push_of_some _ q) rfl) (.cons rfl .nil) rfl ⟨_, hn, rfl, rfl⟩
  · obtain ⟨p, hp, rfl, rfl⟩ := g
    have stp := wd.laid (o := .tup vs) hp
    have ra : Rp K (upd F p (.tup vs)) (.ref p) (.tuple xs) := Rp.tup (SqT.of upd_same) (rx.up stp.ex)
    refine ⟨_, PSs.nox (hd cdv A outer s2 _ E ⟨b, upd F p (.tup vs), upd H p (.tup vs)⟩ rfl ht (guards_in ag _) room2), startD N [.d (.tuple xs)], upd F p (.tup vs), _, rel_start stp.wd (.cons ra .nil), hread, ?_⟩
    refine ⟨fun env σ F' H' r _ z => ?_, fun env σ F' H' r _ z => z, fun env σ F' H' r _ z => z, fun dv v F' H' st' rs z => q dv v F' H' (stp.trans st') (rs.early stp) z⟩
    exact q (.d .none) .non F' H' (stp.trans r.st) Rp.non z
end Dl
namespace Dl
open PySem PySem.Spec PyProof.Rows L2
/-! ### xs[i] as the first half of xs[i] += e -/
def rGetL : V → V → Hp → VK → Prop := fun o i H Q => ∃ l xs k v, o = .ref l ∧ i = .int (k : Nat) ∧ H l = some (.lst xs) ∧ xs[k]? = some v ∧ Q v H
theorem get_lst {X : Cx} : PGet X rGetL := by
  intro pins s σ H o i ov iv Q I ro ri want
  obtain ⟨l, xs, k, v, rfl, rfl, e, ev, q⟩ := want
  cases ro
  obtain ⟨t, rfl⟩ := ri
  obtain ⟨its, r, pl, hz⟩ := I.list (SqL.of e)
  obtain ⟨u, hu, ru⟩ := r.get ev
  obtain ⟨hl, _⟩ := List.getElem?_eq_some_iff.mp ev
  have hb := line63
  exact wpAny_getItem_list pl.isList (by omega) (by omega) (by simpa using hu) ⟨v, H, I, ru, q⟩
/-! ### defs by a reading over the heap -/
theorem r_def {P : Program} {w : World} {K : PySem.W.Frag} {mg : Str → Option Value} {base : Heap} {CX : CXT} {k : Nat} {f : Addr} {fd : FuncData} {x qual : Str} {st : Stmt} {N ps : List Str} (Fn : L2.Fun K x qual st f fd) (S : FnScope N ps (defScope st))
    (hb : ∀ (kV doc pm : Value) (an : Option Addr) (cdv ct : Value) (us : List Value), us.length = ps.length → bindArgs (PySem.W.fnOf x qual (defArgs st) (defBody st) (defScope st) .none kV doc pm an cdv ct) { pos := us, kw := [] } = pure (ps.zip us))
    (sp : Sp)
    (hd : ∀ (cdv : Value) (A : Around) (outer : List Env) (s : Shared) (H : Hp) (vs : List V) (Q : VK) (E : XK), (A.deeper (envOfC qual (defScope st) s.heap.objs.size f cdv)).guards = some [] → Room k (A.deeper (envOfC qual (defScope st) s.heap.objs.size f cdv)) → sp vs H Q E →
      vs.length = ps.length ∧ ∃ t, PSs (cxOf CX P w K mg base N qual (defScope st) f cdv A outer s H E).nox (defBody st) t ∧ t { nx := fun _ H' => Q .non H', rt := Q } (L2.start N vs) H) : Fg P w K mg base CX (k + 1) f sp := by
  intro A outer s H us vs Q E ag room e0 rv want
  obtain ⟨oc, od, kV, doc, pm, an, cdv, ct, osl, rfl, lk, hcd⟩ := Fn.ex
  have hvl : vs.length = ps.length := (hd cdv A outer s H vs Q E (guards_in ag _) (room.deeper _) want).1
  have hul : us.length = ps.length := rv.length.symm.trans hvl
  refine StX.run_bnd (N := N) (ps := ps) lk hcd S room e0 (G := fun xs H2 => xs = vs ∧ H2 = H) (fun A' Ex Q' h => ?_) fun s2 H2 xs g room2 => ?_
  · rw [hb kV doc pm an cdv ct us hul]
    exact wpAny_pure (h s H vs us e0 Un.refl rfl (fun _ _ z => z) rv hvl ⟨rfl, rfl⟩)
  · obtain ⟨rfl, rfl⟩ := g
    obtain ⟨_, t, ht, q⟩ := hd cdv A outer s2 _ _ Q E (guards_in ag _) room2 want
    exact ⟨t, PSs.nox ht, q⟩
/-! ### a draw -/
def spTake : DSp := fun us P => ∃ m : Int, us = [.bag, .d (.int m)] ∧ 0 < m ∧ m.natAbs.log2 < 9000 ∧ ∀ r : Int, 0 ≤ r → r < m → P (.d (.int r))
abbrev bIx (K : PySem.W.Frag) (k : Int) : TE := tOp (rIxL K) (tVar 0) (tC (.int k))
abbrev bLen (K : PySem.W.Frag) : List V → Hp → VK → Prop := fun xs H Q => ∃ p ys, xs = [.ref p] ∧ (SqL K H p ys ∨ SqT K H p ys) ∧ Q (.int ys.length) H
abbrev bMul : R2 := rI CMul fun i j => .int (i * j)
abbrev bMod : R2 := rI (fun _ j => 0 < j) fun i j => .int (i % j)
abbrev bAdd : R2 := rI0 fun i j => .int (i + j)
/-- the reading of _law_take's body; its slots: the bag, many, cell, value, first, second -/
def tkT (K : PySem.W.Frag) : TS :=
  tSeq (tIfS (tTest (tOp rEq (bIx K 0) (tC (.int 0))))
      (tSeq (tAsg (tC (.int 0)) (gName 2))
      (tSeq (tIfS (tTest (tOp (rI0 fun i j => .bl (decide (i < j))) (bIx K 2) (tCB (bLen K) (tCons (bIx K 3) tNil)))) (tAsg (tOp (rIxL K) (bIx K 3) (bIx K 2)) (gName 2)) tNext)
      (tSeq (tAugS (tVar 0) (tC (.int 2)) (tC (.int 1)) rGetL (ipI fun i j => i + j) rSetL)
      (tSeq (tIfS (tTest (tOp (rI0 fun i j => .bl (decide (j ≤ i))) (tVar 2) (tC (.int 1000000000000000000)))) (tAsg (tVar 2) (gSub (tVar 0) (tC (.int 0)) rSetL)) tNext)
        (tAsg (tOp bMod (tOp bAdd (tOp bAdd (tOp bMul (bIx K 1) (tC (.int 48271))) (tOp bMod (tVar 2) (tC (.int 2147483647)))) (tOp bMul (tC (.int 7919)) (bIx K 2))) (tC (.int 2147483647))) (gSub (tVar 0) (tC (.int 1)) rSetL))))))
      tNext)
  (tSeq (tIfS (tTest (tOp (rI0 fun i j => .bl (decide (j < i))) (bIx K 0) (tC (.int 0))))
      (tSeq (tAsg (tOp bMod (bIx K 0) (tVar 1)) (gName 3))
      (tSeq (tAsg (tOp (rI (fun _ j => j ≠ 0 ∧ j.natAbs.log2 < 9000) fun i j => .int (i.fdiv j)) (bIx K 0) (tVar 1)) (gSub (tVar 0) (tC (.int 0)) rSetL))
        (tRet (tVar 3))))
      tNext)
  (tSeq (tAsg (tOp bMod (tOp bMul (tOp bAdd (bIx K 1) (tC (.int 1))) (tC (.int 39373))) (tC (.int 1000000007))) (gName 4))
  (tSeq (tAsg (tOp bMod (tOp bMul (tOp bMod (tOp bMul (tVar 4) (tVar 4)) (tC (.int 998244353))) (tC (.int 30011))) (tC (.int 998244353))) (gName 5))
  (tSeq (tIfS (tTest (tOp (rI0 fun i j => .bl (decide (j < i))) (tVar 1) (tC (.int 1000000)))) (tRet (tOp bMod (tOp bAdd (tOp bMul (tVar 5) (tC (.int 1000000007))) (tVar 4)) (tVar 1))) tNext)
    (tRet (tOp bMod (tOp (rI CDiv fun i j => .int (i / j)) (tVar 5) (tC (.int 7))) (tVar 1)))))))
section
variable {K : PySem.W.Frag} {b : Bg} {F H : Hp}
/-- the bag holds x y z now -/
structure Bn (b : Bg) (F H H' : Hp) (x y z : Int) : Prop where
  at' : H' b.b = some (.lst [.int x, .int y, .int z, .ref b.c])
  else' : ∀ a, a ≠ b.b → H' a = H a
  x0 : 0 ≤ x
  y0 : 0 ≤ y
  z0 : 0 ≤ z
theorem Bn.cells {H' : Hp} {x y z : Int} (w : Wd K b F H) (n : Bn b F H H' x y z) : H' b.c = some (.lst (b.ns.map V.int)) := by
  have e := w.bag.2.1
  have ne : b.c ≠ b.b := fun q => by rw [q, w.fb] at e; cases e
  rw [n.else' _ ne]
  exact w.sub _ _ e
theorem Bn.put {H' : Hp} {x y z x2 y2 z2 : Int} (n : Bn b F H H' x y z) (h1 : 0 ≤ x2) (h2 : 0 ≤ y2) (h3 : 0 ≤ z2) : Bn b F H (upd H' b.b (.lst [.int x2, .int y2, .int z2, .ref b.c])) x2 y2 z2 :=
  ⟨upd_same, fun a ne => by rw [upd_ne ne]; exact n.else' a ne, h1, h2, h3⟩
theorem Bn.stp {H' : Hp} {x y z : Int} (w : Wd K b F H) (n : Bn b F H H' x y z) : Stp K b F H F H' :=
  ⟨fun a o ne _ h => by rw [n.else' a ne]; exact h, ⟨⟨x, y, z, n.at', n.x0, n.y0, n.z0⟩, w.bag.2.1, w.bag.2.2.1, fun t m => ⟨(w.bag.2.2.2 t m).1, by obtain ⟨ps, q, k⟩ := (w.bag.2.2.2 t m).2; exact ⟨ps, by rw [n.else' t (fun e => by obtain ⟨_, eb⟩ := w.bag.lst; rw [e, eb] at q; cases q)]; exact q, k⟩⟩⟩, fun _ _ h => h, fun a o h => by
    have ne : a ≠ b.b := fun q => by rw [q, w.fb] at h; cases h
    rw [n.else' a ne]; exact w.sub _ _ h, w.fb, fun _ h _ => h, fun a ps ne h => ⟨ps, by rw [n.else' a ne]; exact h, fun q => q⟩⟩
theorem bix0 {σ : L2.St} {H' : Hp} {x y z : Int} {Q : VK} (n : Bn b F H H' x y z) (h0 : σ[0]? = some (some (.ref b.b))) (q : Q (.int x) H') : bIx K 0 σ H' Q :=
  ⟨_, h0, _, _, _, _, rfl, rfl, SqL.of n.at', rfl, q⟩
theorem bix1 {σ : L2.St} {H' : Hp} {x y z : Int} {Q : VK} (n : Bn b F H H' x y z) (h0 : σ[0]? = some (some (.ref b.b))) (q : Q (.int y) H') : bIx K 1 σ H' Q :=
  ⟨_, h0, _, _, _, _, rfl, rfl, SqL.of n.at', rfl, q⟩
theorem bix2 {σ : L2.St} {H' : Hp} {x y z : Int} {Q : VK} (n : Bn b F H H' x y z) (h0 : σ[0]? = some (some (.ref b.b))) (q : Q (.int z) H') : bIx K 2 σ H' Q :=
  ⟨_, h0, _, _, _, _, rfl, rfl, SqL.of n.at', rfl, q⟩
theorem bix3 {σ : L2.St} {H' : Hp} {x y z : Int} {Q : VK} (n : Bn b F H H' x y z) (h0 : σ[0]? = some (some (.ref b.b))) (q : Q (.ref b.c) H') : bIx K 3 σ H' Q :=
  ⟨_, h0, _, _, _, _, rfl, rfl, SqL.of n.at', rfl, q⟩
theorem tk_tail {H' : Hp} {m y : Int} {x z : Int} {D : Ends} {s2 s3 s4 s5 : Option V} (w : Wd K b F H) (n : Bn b F H H' x y z) (hm : 0 < m) (hq : ∀ r : Int, 0 ≤ r → r < m → ∀ H2, Stp K b F H F H2 → D.rt (.int r) H2) :
    (tSeq (tAsg (tOp bMod (tOp bMul (tOp bAdd (bIx K 1) (tC (.int 1))) (tC (.int 39373))) (tC (.int 1000000007))) (gName 4))
  (tSeq (tAsg (tOp bMod (tOp bMul (tOp bMod (tOp bMul (tVar 4) (tVar 4)) (tC (.int 998244353))) (tC (.int 30011))) (tC (.int 998244353))) (gName 5))
  (tSeq (tIfS (tTest (tOp (rI0 fun i j => .bl (decide (j < i))) (tVar 1) (tC (.int 1000000)))) (tRet (tOp bMod (tOp bAdd (tOp bMul (tVar 5) (tC (.int 1000000007))) (tVar 4)) (tVar 1))) tNext)
    (tRet (tOp bMod (tOp (rI CDiv fun i j => .int (i / j)) (tVar 5) (tC (.int 7))) (tVar 1)))))) D [some (.ref b.b), some (.int m), s2, s3, s4, s5] H' := by
  refine bix1 n rfl ⟨_, _, rfl, rfl, _, _, rfl, rfl, .inr ⟨by decide, by decide⟩, _, _, rfl, rfl, (by show (0 : Int) < _; decide), ?_⟩
  have a0 : 0 ≤ (y + 1) * 39373 % 1000000007 := Int.emod_nonneg _ (by decide)
  have a1 : (y + 1) * 39373 % 1000000007 < 1000000007 := Int.emod_lt_of_pos _ (by decide)
  generalize (y + 1) * 39373 % 1000000007 = first at a0 a1
  refine ⟨_, rfl, _, rfl, _, _, rfl, rfl, .inl ⟨by omega, by omega⟩, _, _, rfl, rfl, (by show (0 : Int) < _; decide), ?_⟩
  have c0 : 0 ≤ first * first % 998244353 := Int.emod_nonneg _ (by decide)
  have c1 : first * first % 998244353 < 998244353 := Int.emod_lt_of_pos _ (by decide)
  generalize first * first % 998244353 = sq at c0 c1
  refine ⟨_, _, rfl, rfl, .inl ⟨by omega, by omega⟩, _, _, rfl, rfl, (by show (0 : Int) < _; decide), ?_⟩
  have d0 : 0 ≤ sq * 30011 % 998244353 := Int.emod_nonneg _ (by decide)
  have d1 : sq * 30011 % 998244353 < 998244353 := Int.emod_lt_of_pos _ (by decide)
  generalize sq * 30011 % 998244353 = second at d0 d1
  refine ⟨_, rfl, _, _, rfl, rfl, _, rfl, ite2 (fun _ => ?_) fun _ => ?_⟩
  · refine ⟨_, rfl, _, _, rfl, rfl, .inl ⟨by omega, by omega⟩, _, rfl, _, _, rfl, rfl, _, rfl, _, _, rfl, rfl, hm, ?_⟩
    exact hq _ (Int.emod_nonneg _ (by omega)) (Int.emod_lt_of_pos _ hm) H' (n.stp w)
  · refine ⟨_, rfl, _, _, rfl, rfl, ⟨by decide, by decide⟩, _, rfl, _, _, rfl, rfl, hm, ?_⟩
    exact hq _ (Int.emod_nonneg _ (by omega)) (Int.emod_lt_of_pos _ hm) H' (n.stp w)
theorem tk_mid {H' : Hp} {m y : Int} {x z : Int} {D : Ends} {s2 s3 s4 s5 : Option V} (w : Wd K b F H) (n : Bn b F H H' x y z) (hm : 0 < m) (hs : m.natAbs.log2 < 9000) (hq : ∀ r : Int, 0 ≤ r → r < m → ∀ H2, Stp K b F H F H2 → D.rt (.int r) H2) :
  (tSeq (tIfS (tTest (tOp (rI0 fun i j => .bl (decide (j < i))) (bIx K 0) (tC (.int 0))))
      (tSeq (tAsg (tOp bMod (bIx K 0) (tVar 1)) (gName 3))
      (tSeq (tAsg (tOp (rI (fun _ j => j ≠ 0 ∧ j.natAbs.log2 < 9000) fun i j => .int (i.fdiv j)) (bIx K 0) (tVar 1)) (gSub (tVar 0) (tC (.int 0)) rSetL))
        (tRet (tVar 3))))
      tNext)
  (tSeq (tAsg (tOp bMod (tOp bMul (tOp bAdd (bIx K 1) (tC (.int 1))) (tC (.int 39373))) (tC (.int 1000000007))) (gName 4))
  (tSeq (tAsg (tOp bMod (tOp bMul (tOp bMod (tOp bMul (tVar 4) (tVar 4)) (tC (.int 998244353))) (tC (.int 30011))) (tC (.int 998244353))) (gName 5))
  (tSeq (tIfS (tTest (tOp (rI0 fun i j => .bl (decide (j < i))) (tVar 1) (tC (.int 1000000)))) (tRet (tOp bMod (tOp bAdd (tOp bMul (tVar 5) (tC (.int 1000000007))) (tVar 4)) (tVar 1))) tNext)
    (tRet (tOp bMod (tOp (rI CDiv fun i j => .int (i / j)) (tVar 5) (tC (.int 7))) (tVar 1))))))) D [some (.ref b.b), some (.int m), s2, s3, s4, s5] H' := by
  refine bix0 n rfl ⟨_, _, rfl, rfl, _, rfl, ite2 (fun hx => ?_) fun _ => tk_tail w n hm hq⟩
  refine bix0 n rfl ⟨_, rfl, _, _, rfl, rfl, hm, ?_⟩
  refine bix0 n rfl ⟨_, rfl, _, _, rfl, rfl, ⟨by omega, hs⟩, ?_⟩
  have e : x.fdiv m = x / m := Int.fdiv_eq_ediv_of_nonneg x (by omega)
  refine ⟨_, rfl, b.b, _, 0, 0, rfl, rfl, n.at', rfl, ?_⟩
  refine ⟨_, rfl, hq _ (Int.emod_nonneg _ (by omega)) (Int.emod_lt_of_pos _ hm) _ (Bn.stp w (n.put ?_ n.y0 n.z0))⟩
  rw [e]
  exact Int.ediv_nonneg n.x0 (by omega)
theorem tk_go {m : Int} {D : Ends} {s2 s3 s4 s5 : Option V} (w : Wd K b F H) (hm : 0 < m) (hs : m.natAbs.log2 < 9000) (hq : ∀ r : Int, 0 ≤ r → r < m → ∀ H2, Stp K b F H F H2 → D.rt (.int r) H2) :
    tkT K D [some (.ref b.b), some (.int m), s2, s3, s4, s5] H := by
  obtain ⟨⟨x, y, z, eb, x0, y0, z0⟩, ec, ens, _⟩ := id w.bag
  have n : Bn b F H H x y z := ⟨eb, fun _ _ => rfl, x0, y0, z0⟩
  refine bix0 n rfl ⟨rfl, _, rfl, ite2 (fun hx => ?_) fun _ => tk_mid w n hm hs hq⟩
  -- the cell
  have fin : ∀ cell : Int, 0 ≤ cell → (tSeq (tAugS (tVar 0) (tC (.int 2)) (tC (.int 1)) rGetL (ipI fun i j => i + j) rSetL)
      (tSeq (tIfS (tTest (tOp (rI0 fun i j => .bl (decide (j ≤ i))) (tVar 2) (tC (.int 1000000000000000000)))) (tAsg (tVar 2) (gSub (tVar 0) (tC (.int 0)) rSetL)) tNext)
        (tAsg (tOp bMod (tOp bAdd (tOp bAdd (tOp bMul (bIx K 1) (tC (.int 48271))) (tOp bMod (tVar 2) (tC (.int 2147483647)))) (tOp bMul (tC (.int 7919)) (bIx K 2))) (tC (.int 2147483647))) (gSub (tVar 0) (tC (.int 1)) rSetL))))
      { D with nx := fun σ H => (tSeq (tIfS (tTest (tOp (rI0 fun i j => .bl (decide (j < i))) (bIx K 0) (tC (.int 0))))
      (tSeq (tAsg (tOp bMod (bIx K 0) (tVar 1)) (gName 3))
      (tSeq (tAsg (tOp (rI (fun _ j => j ≠ 0 ∧ j.natAbs.log2 < 9000) fun i j => .int (i.fdiv j)) (bIx K 0) (tVar 1)) (gSub (tVar 0) (tC (.int 0)) rSetL))
        (tRet (tVar 3))))
      tNext)
  (tSeq (tAsg (tOp bMod (tOp bMul (tOp bAdd (bIx K 1) (tC (.int 1))) (tC (.int 39373))) (tC (.int 1000000007))) (gName 4))
  (tSeq (tAsg (tOp bMod (tOp bMul (tOp bMod (tOp bMul (tVar 4) (tVar 4)) (tC (.int 998244353))) (tC (.int 30011))) (tC (.int 998244353))) (gName 5))
  (tSeq (tIfS (tTest (tOp (rI0 fun i j => .bl (decide (j < i))) (tVar 1) (tC (.int 1000000)))) (tRet (tOp bMod (tOp bAdd (tOp bMul (tVar 5) (tC (.int 1000000007))) (tVar 4)) (tVar 1))) tNext)
    (tRet (tOp bMod (tOp (rI CDiv fun i j => .int (i / j)) (tVar 5) (tC (.int 7))) (tVar 1))))))) D σ H } [some (.ref b.b), some (.int m), some (.int cell), s3, s4, s5] H := by
    intro cell c0
    refine ⟨_, rfl, b.b, _, 2, _, rfl, rfl, eb, rfl, _, _, rfl, rfl, b.b, _, 2, 2, rfl, rfl, eb, rfl, ?_⟩
    have n2 : Bn b F H (upd H b.b (.lst [.int x, .int y, .int (z + 1), .ref b.c])) x y (z + 1) := n.put x0 y0 (by omega)
    have last : ∀ (H3 : Hp) (x3 : Int), Bn b F H H3 x3 y (z + 1) → (tAsg (tOp bMod (tOp bAdd (tOp bAdd (tOp bMul (bIx K 1) (tC (.int 48271))) (tOp bMod (tVar 2) (tC (.int 2147483647)))) (tOp bMul (tC (.int 7919)) (bIx K 2))) (tC (.int 2147483647))) (gSub (tVar 0) (tC (.int 1)) rSetL))
      { D with nx := fun σ H => (tSeq (tIfS (tTest (tOp (rI0 fun i j => .bl (decide (j < i))) (bIx K 0) (tC (.int 0))))
      (tSeq (tAsg (tOp bMod (bIx K 0) (tVar 1)) (gName 3))
      (tSeq (tAsg (tOp (rI (fun _ j => j ≠ 0 ∧ j.natAbs.log2 < 9000) fun i j => .int (i.fdiv j)) (bIx K 0) (tVar 1)) (gSub (tVar 0) (tC (.int 0)) rSetL))
        (tRet (tVar 3))))
      tNext)
  (tSeq (tAsg (tOp bMod (tOp bMul (tOp bAdd (bIx K 1) (tC (.int 1))) (tC (.int 39373))) (tC (.int 1000000007))) (gName 4))
  (tSeq (tAsg (tOp bMod (tOp bMul (tOp bMod (tOp bMul (tVar 4) (tVar 4)) (tC (.int 998244353))) (tC (.int 30011))) (tC (.int 998244353))) (gName 5))
  (tSeq (tIfS (tTest (tOp (rI0 fun i j => .bl (decide (j < i))) (tVar 1) (tC (.int 1000000)))) (tRet (tOp bMod (tOp bAdd (tOp bMul (tVar 5) (tC (.int 1000000007))) (tVar 4)) (tVar 1))) tNext)
    (tRet (tOp bMod (tOp (rI CDiv fun i j => .int (i / j)) (tVar 5) (tC (.int 7))) (tVar 1))))))) D σ H } [some (.ref b.b), some (.int m), some (.int cell), s3, s4, s5] H3 := by
      intro H3 x3 n3
      refine bix1 n3 rfl ⟨_, _, rfl, rfl, .inr ⟨by decide, by decide⟩, _, rfl, _, _, rfl, rfl, (by show (0 : Int) < _; decide), _, _, rfl, rfl, ?_⟩
      refine bix2 n3 rfl ⟨_, _, rfl, rfl, .inl ⟨by decide, by decide⟩, _, _, rfl, rfl, _, _, rfl, rfl, (by show (0 : Int) < _; decide), ?_⟩
      refine ⟨_, rfl, b.b, _, 1, 1, rfl, rfl, n3.at', rfl, ?_⟩
      exact tk_mid w (n3.put n3.x0 (Int.emod_nonneg _ (by decide)) n3.z0) hm hs hq
    refine ⟨_, rfl, _, _, rfl, rfl, _, rfl, ite2 (fun _ => ?_) fun _ => last _ x n2⟩
    refine ⟨_, rfl, _, rfl, b.b, _, 0, 0, rfl, rfl, n2.at', rfl, ?_⟩
    exact last _ cell (n2.put c0 y0 (by omega))
  have hc : H b.c = some (.lst (b.ns.map V.int)) := w.sub _ _ ec
  refine bix2 n rfl (bix3 n rfl ⟨b.c, _, rfl, .inl (SqL.of hc), _, _, rfl, rfl, _, rfl, ite2 (fun hz => ?_) fun _ => fin 0 (Int.le_refl _)⟩)
  have hl : z < (b.ns.length : Int) := by
    have := of_decide_eq_true hz
    rwa [List.length_map] at this
  have hz2 : z.toNat < b.ns.length := by omega
  refine bix3 n rfl (bix2 n rfl ⟨b.c, _, z, .int b.ns[z.toNat], rfl, rfl, SqL.of hc, ?_, fin _ (ens _ (List.getElem_mem hz2))⟩)
  refine at_of (j := z.toNat) (by omega) ?_
  rw [List.getElem?_map, List.getElem?_eq_getElem hz2]
  rfl
end
end Dl
namespace Dl
open PySem PySem.Spec PyProof.Rows L2
/-! ### the bag is made -/
abbrev bAbs : List V → Hp → VK → Prop := fun xs H Q => ∃ i : Int, xs = [.int i] ∧ Q (.int (if i < 0 then -i else i)) H
def bgT (K : PySem.W.Frag) : TS := tRet (tLst (tCons (tC (.int 0)) (tCons (tC (.int 1234567891)) (tCons (tC (.int 0)) (tCons
  (tLc (iList K (tSl (rSlL K) (tVar 0) tNoPart (tPart (tC (.int 63))))) (gName 1) tYes (tCB bAbs (tCons (tVar 1) tNil)) [1]) tNil)))))
def spBag (K : PySem.W.Frag) : Sp := fun vs H Q _ => ∃ (a : Addr) (ns : List Int), vs = [.ref a] ∧ SqL K H a (ns.map V.int) ∧ ns.length ≤ 63 ∧
  ∀ (p c : Addr) (H' : Hp), H' p = some (.lst [.int 0, .int 1234567891, .int 0, .ref c]) → H' c = some (.lst ((ns.map fun n => (n.natAbs : Int)).map V.int)) → c ≠ p → (∀ t, GxR.TabG H t → GxR.TabG H' t) → Q (.ref p) H'
theorem cut63 (ns : List Int) (h : ns.length ≤ 63) : cutV (ns.map V.int) none (some 63) = ns.map V.int := by
  unfold cutV
  rw [HT.sIx_none, List.drop_zero, show HT.sIx (ns.map V.int).length (ns.map V.int).length (some 63) = min 63 (ns.map V.int).length from HT.sIx_nat _ _ 63]
  refine List.take_of_length_le ?_
  rw [List.length_map]
  omega
theorem bg_go {K : PySem.W.Frag} {D : Ends} {H : Hp} {a : Addr} {ns : List Int} {s1 : Option V} (seq : SqL K H a (ns.map V.int)) (hl : ns.length ≤ 63)
    (q : ∀ (p c : Addr) (H' : Hp), H' p = some (.lst [.int 0, .int 1234567891, .int 0, .ref c]) → H' c = some (.lst ((ns.map fun n => (n.natAbs : Int)).map V.int)) → c ≠ p → (∀ t, GxR.TabG H t → GxR.TabG H' t) → D.rt (.ref p) H') : bgT K D [some (.ref a), s1] H := by
  refine ⟨_, rfl, 63, rfl, a, _, rfl, seq, fun s hs => ?_⟩
  rw [cut63 ns hl]
  refine ⟨s, rfl, ⟨_, SqL.of upd_same⟩, fun C hC => ?_⟩
  have sC : s ≠ C := ne_of_none upd_same hC
  refine lc_list (K := K) (xs := ns.map V.int) (fun i H' => H' s = some (.lst (ns.map V.int)) ∧ H' C = some (.lst (((ns.take i).map fun n => (n.natAbs : Int)).map V.int)) ∧ ∀ t, GxR.TabG H t → GxR.TabG H' t) ⟨by rw [upd_ne sC, upd_same], by rw [upd_same]; rfl, fun t z => TabG.up (TabG.up z hs) hC⟩ (fun i H' _ h => SqL.of h.1) (fun i x H' hx h => ?_) fun H' h => ?_
  · have hi : i < ns.length := by
      have := (List.getElem?_eq_some_iff.mp hx).1
      rwa [List.length_map] at this
    rw [List.getElem?_map, List.getElem?_eq_getElem hi] at hx
    cases hx
    refine ⟨rfl, _, rfl, _, rfl, _, h.2.1, ?_, ?_, ?_, fun t z => ?_⟩
    · refine lim_lt ?_
      rw [List.length_map, List.length_map, List.length_take]
      omega
    · rw [upd_ne sC]; exact h.1
    · rw [upd_same, List.take_add_one, List.getElem?_eq_getElem hi, List.map_append, List.map_append]
      have e : (if ns[i] < 0 then -ns[i] else ns[i]) = (ns[i].natAbs : Int) := by split <;> omega
      rw [e]
      rfl
    · obtain ⟨ps, z1, z2⟩ := h.2.2 t z
      exact ⟨ps, by rw [upd_ne (fun e => by rw [e, h.2.1] at z1; cases z1)]; exact z1, z2⟩
  · rw [List.length_map, List.take_length] at h
    refine ⟨by show 4 ≤ sizeLine; decide, fun p hp => q p C _ upd_same ?_ (ne_of_none h.2.1 hp) fun t z => TabG.up (h.2.2 t z) hp⟩
    rw [upd_ne (ne_of_none h.2.1 hp)]
    exact h.2.1
/-! ### the law's own def -/
def lfE (K : PySem.W.Frag) (ts : List Addr) (t : DS) : TS := fun D σ H => ∃ w : Wn, w.b.ts = ts ∧ lfS K w t D σ H
theorem pss_any {X : Cx} {ts : List Addr} {sts : List Stmt} {t : DS} (h : ∀ w : Wn, w.b.ts = ts → DPSs X w sts t) : PSs X sts (lfE X.K ts t) := ⟨fun p s σ H D I ⟨w, e, q⟩ => (h w e).run p s σ H D I q⟩
/-- f(e, ..) over the heap -/
theorem g_call {X : Cx} {CX : CXT} {k : Nat} {f : Addr} {sp : Sp} {E : XK} {x : Str} {e : Expr} {es : List Expr} {p pos : Pos} {t : TA} (Fk : Fg X.prog X.w X.K X.mg X.base CX k f sp) (ag : X.A.guards = some []) (room : Room k X.A) (ps : Passes CX X E) (gl : Gl X x) (gm : X.mg x = some (.ref f)) (kp : PySem.W.keepIn X.K (.ref f) = true)
    (ha : PA X (e :: es) t) (db : (x == ("__debug__" : Str)) = false := by decide) (s1 : starEach (e :: es) X.env = (false, eval e X.env) :: starEach es X.env := by rfl) (s2 : (backTo pos (starEach es X.env)).any (·.1) = false := by rfl) :
    PE X (.Call (.Name x p) (e :: es) [] pos) (fun σ H Q => t σ H fun vs H1 => sp vs H1 Q E) := by
  refine ⟨fun pins s σ H Q I want => wpAny_Call_Name_kw (ld_glob I gl gm ?_ db)⟩
  refine PySem.W.callWith_K (h₀ := X.base) I.ok.mod.kin kp ?_ s1 s2
  exact thn (ha.run pos pins s σ H _ I want) fun us st ⟨vs, H1, I1, rv, q⟩ => ⟨I1.kIn, run_g Fk ag room ps I1 rv q⟩
abbrev lawT (K : PySem.W.Frag) (ts : List Addr) (t : DS) : TS := tSeq (tAsg (fun σ H Q => tCons (tVar 0) tNil σ H fun vs H1 => spBag K vs H1 Q E0) (gName 1)) (lfE K ts t)
def spLaw (K : PySem.W.Frag) (ts : List Addr) : Sp := fun vs H Q _ => (∀ t ∈ ts, GxR.TabG H t) ∧ ∃ (a : Addr) (ns : List Int), vs = [.ref a] ∧ SqL K H a (ns.map V.int) ∧ ns.length ≤ 63 ∧ ∀ H', Q (.bl true) H'
theorem law_ok {ts : List Addr} {P : Program} {w : World} {K : PySem.W.Frag} {mg : Str → Option Value} {base : Heap} {k : Nat} {f : Addr} {fd : FuncData} {x qual : Str} {st : Stmt} {N : List Str} {z0 z1 : Str} {n : Nat} (Fn : L2.Fun K x qual st f fd) (S : FnScope N [z0] (defScope st)) (hN : N.length = n + 2)
    (hb : ∀ (kV doc pm : Value) (an : Option Addr) (cdv ct : Value) (us : List Value), us.length = [z0].length → bindArgs (PySem.W.fnOf x qual (defArgs st) (defBody st) (defScope st) .none kV doc pm an cdv ct) { pos := us, kw := [] } = pure ([z0].zip us))
    (t : DS)
    (hd : ∀ (cdv : Value) (A : Around) (outer : List Env) (s : Shared) (H : Hp) (E : XK), (A.deeper (envOfC qual (defScope st) s.heap.objs.size f cdv)).guards = some [] → Room k (A.deeper (envOfC qual (defScope st) s.heap.objs.size f cdv)) →
      PSs (cxOf (L2.CX P w) P w K mg base N qual (defScope st) f cdv A outer s H E).nox (defBody st) (lawT K ts t))
    (hv : t { nx := fun _ => False, rt := fun dv => dv = .d (.bool true) } (.un :: .bag :: List.replicate n .un)) : Fg P w K mg base (L2.CX P w) (k + 1) f (spLaw K ts) := by
  refine r_def Fn S hb (spLaw K ts) fun cdv A outer s H vs Q E ag room want => ?_
  obtain ⟨htab, a, ns, rfl, seq, hl, q⟩ := want
  refine ⟨rfl, _, hd cdv A outer s H E ag room, ?_⟩
  have e0 : L2.start N [V.ref a] = some (V.ref a) :: none :: List.replicate n none := by
    unfold L2.start
    rw [hN]
    rfl
  rw [e0]
  refine ⟨_, rfl, a, ns, rfl, seq, hl, fun p c H' hp hc ne keep => ?_⟩
  have wd : Wd K ⟨p, c, ns.map fun n => (n.natAbs : Int), ts⟩ (upd (fun _ => none) c (.lst ((ns.map fun n => (n.natAbs : Int)).map V.int))) H' := by
    refine ⟨⟨⟨0, 1234567891, 0, hp, by decide, by decide, by decide⟩, upd_same, fun m hm => ?_, fun t m => ⟨?_, keep t (htab t m)⟩⟩, fun b o h => ?_, upd_ne (Ne.symm ne)⟩
    · obtain ⟨j, _, rfl⟩ := List.mem_map.mp hm
      exact Int.natCast_nonneg _
    · refine upd_ne fun e => ?_
      obtain ⟨ps, z, _⟩ := keep t (htab t m)
      rw [e, hc] at z
      cases z
    · by_cases hb : b = c
      · rw [hb, upd_same] at h; rw [hb, hc]; exact h
      · rw [upd_ne hb] at h; cases h
  refine ⟨⟨_, _, H'⟩, rfl, .un :: .bag :: List.replicate n .un, _, _, ⟨by simp, wd.refl, fun i z e => ?_, fun i j l xs ys h1 h2 => ?_⟩, hv, ⟨fun env σ F H _ _ z => z.elim, fun env σ F H _ _ z => z.elim, fun env σ F H _ _ z => z.elim, fun dv v F H2 _ rs z => ?_⟩⟩
  · match i, e with
    | 0, e => cases e; exact True.intro
    | 1, e => cases e; rfl
    | i + 2, e =>
      have e : (List.replicate n Sl.un)[i]? = some z := e
      rw [List.getElem?_replicate] at e
      split at e
      · cases e; exact True.intro
      · cases e
  · match i, h1 with
    | 0, h1 => cases h1
    | 1, h1 => cases h1
    | i + 2, h1 =>
      have h1 : (List.replicate n Sl.un)[i]? = some _ := h1
      rw [List.getElem?_replicate] at h1
      split at h1 <;> cases h1
  · subst z
    obtain rfl := rs.blOf
    exact q H2
abbrev sp__law_take : DSp := spTake
end Dl
namespace Dl
open PySem PySem.Spec PyProof.Rows L2
/-! ### loops by what holds of what is left -/
theorem forD_ind {g : DG} {tb : DS} {d : DK} (I : List PyData → List Sl → Prop) (hn : ∀ env, I [] env → d.nx env)
    (hc : ∀ (x : PyData) (xs : List PyData) (env : List Sl) (R : List Sl → Prop), I (x :: xs) env → (∀ e, I xs e → R e) → g x env fun e2 => tb { nx := R, rt := d.rt, bk := d.nx, ct := R } e2) :
    ∀ (xs : List PyData) (env : List Sl), I xs env → forD g tb d xs env
  | [], env, h => hn env h
  | x :: xs, env, h => hc x xs env (forD g tb d xs) h fun e h' => forD_ind I hn hc xs e h'
theorem whD_ind {tc : DTT} {tb : DS} {d : DK} (I : List Sl → Prop) (μ : List Sl → Nat)
    (hs : ∀ (env : List Sl) (R : List Sl → Prop), I env → (∀ e, I e → μ e < μ env → R e) → tc env fun k => if k = true then tb { nx := R, rt := d.rt, bk := d.nx, ct := R } env else d.nx env) {env : List Sl} (h : I env) : tWhD tc tb d env := by
  have main : ∀ (n : Nat) (env : List Sl), μ env < n → I env → whD tc tb d n env := by
    intro n
    induction n with
    | zero => intro env h; omega
    | succ n ih => intro env hm hi; exact hs env (whD tc tb d n) hi fun e he hl => ih e (by omega) he
  exact ⟨μ env + 1, main _ env (Nat.lt_succ_self _) h⟩
theorem lcD_ind {g : DG} {tt : DTT} {te : DT} {env : List Sl} {P : DV → Prop} (I : List PyData → List PyData → Prop) (hn : ∀ acc, I [] acc → P (.fr acc))
    (hc : ∀ (x : PyData) (xs acc : List PyData) (R : List PyData → Prop), I (x :: xs) acc → (∀ a, I xs a → R a) → g x env fun e2 => tt e2 fun c => if c = true then te e2 fun dv => match frz dv with
      | .d y => acc.length < 100000 ∧ R (acc ++ [y])
      | _ => False
    else R acc) : ∀ (xs acc : List PyData), I xs acc → lcD g tt te env xs acc P
  | [], acc, h => hn acc h
  | x :: xs, acc, h => by
    have q := hc x xs acc (fun a => lcD g tt te env xs a P) h fun a h' => lcD_ind I hn hc xs a h'
    exact q
theorem atD {α : Type} {xs : List α} {z : Int} {j : Nat} {v : α} (e : z = (j : Int)) (h : xs[j]? = some v) : atI xs z = some v := by
  subst e
  exact atI_nat h
theorem pick {xs : List PyData} {r : Int} {P : DV → Prop} (h0 : 0 ≤ r) (h1 : r < xs.length) (h : ∀ z, z ∈ xs → P (.d z)) : gIx (.list xs) (.int r) P := by
  have hr : r.toNat < xs.length := by omega
  have ez : r = ((r.toNat : Nat) : Int) := by omega
  have e : atI xs r = some xs[r.toNat] := atD ez (List.getElem?_eq_getElem hr)
  show (match atI xs r with
    | some z => P (.d z)
    | none => False)
  rw [e]
  exact h _ (List.getElem_mem hr)
theorem pickT {xs : List PyData} {r : Int} {P : DV → Prop} (h0 : 0 ≤ r) (h1 : r < xs.length) (h : ∀ z, z ∈ xs → P (.d z)) : gIx (.tuple xs) (.int r) P := by
  have hr : r.toNat < xs.length := by omega
  have ez : r = ((r.toNat : Nat) : Int) := by omega
  have e : atI xs r = some xs[r.toNat] := atD ez (List.getElem?_eq_getElem hr)
  show (match atI xs r with
    | some z => P (.d z)
    | none => False)
  rw [e]
  exact h _ (List.getElem_mem hr)
theorem at0 {α : Type} (x : α) (xs : List α) : atI (x :: xs) 0 = some x := atI_nat (j := 0) rfl
theorem at1 {α : Type} (x y : α) (xs : List α) : atI (x :: y :: xs) 1 = some y := atI_nat (j := 1) rfl
theorem at2 {α : Type} (x y z : α) (xs : List α) : atI (x :: y :: z :: xs) 2 = some z := atI_nat (j := 2) rfl
def isWh : PyData → Bool
  | .int _ => true
  | _ => false
end Dl
namespace Dl
open PySem PySem.Spec PyProof.Rows L2
/-! ### whole numbers and fractions -/
theorem gcd_turn (a b : Int) (ha : 0 ≤ a) (hb : 0 < b) : Int.gcd b (a.fmod b) = Int.gcd a b ∧ 0 ≤ a.fmod b ∧ a.fmod b < b := by
  rw [Int.fmod_eq_emod_of_nonneg a (Int.le_of_lt hb)]
  refine ⟨?_, Int.emod_nonneg _ (by omega), Int.emod_lt_of_pos _ hb⟩
  obtain ⟨m, rfl⟩ := Int.eq_ofNat_of_zero_le ha
  obtain ⟨n, rfl⟩ := Int.eq_ofNat_of_zero_le (Int.le_of_lt hb)
  show Nat.gcd n (m % n) = Nat.gcd m n
  rw [Nat.gcd_comm, ← Nat.gcd_rec, Nat.gcd_comm]
theorem log_lt {n k : Nat} (hk : 0 < k) (h : n < 2 ^ k) : n.log2 < k := by
  rcases Nat.eq_zero_or_pos n with z | z
  · subst z; simpa using hk
  · exact (Nat.log2_lt (by omega)).mpr h
theorem lt_two {n k : Nat} (h : n.log2 < k) : n < 2 ^ k := by
  rcases Nat.eq_zero_or_pos n with z | z
  · subst z; exact Nat.two_pow_pos _
  · exact (Nat.log2_lt (by omega)).mp h
theorem log_le {n k : Nat} (h : n < 2 ^ k) (hk : 0 < k) (hm : k ≤ 9000) : n.log2 < 9000 := Nat.lt_of_lt_of_le (log_lt hk h) hm
theorem two_le {n k m : Nat} (h : n < 2 ^ k) (hk : k ≤ m) : n < 2 ^ m := Nat.lt_of_lt_of_le h (Nat.pow_le_pow_right (by decide) hk)
theorem allD_rep (n : Nat) {k : List PyData → Prop} (h : k (List.replicate n (.bool true))) : allD (List.replicate n (.d (.bool true))) k := by
  induction n generalizing k with
  | zero => exact h
  | succ n ih => exact ih (k := fun xs => k (.bool true :: xs)) h
theorem gcd_pos {t b : Int} (hb : b ≠ 0) : 0 < Int.gcd t b := Int.gcd_pos_of_ne_zero_right _ hb
theorem gcd_le {t b : Int} (hb : b ≠ 0) : Int.gcd t b ≤ b.natAbs := Nat.le_of_dvd (by omega) (Nat.gcd_dvd_right _ _)
theorem mul_log {a b : Int} {m n : Nat} (ha : a.natAbs < 2 ^ m) (hb : b.natAbs < 2 ^ n) (hm : 0 < m) (hn : 0 < n) (h : m + n < 1000000) : a.natAbs.log2 + b.natAbs.log2 < 1000000 := by
  have h1 := log_lt hm ha
  have h2 := log_lt hn hb
  omega
theorem natAbs_mul_lt {a b : Int} {m n : Nat} (ha : a.natAbs < 2 ^ m) (hb : b.natAbs < 2 ^ n) : (a * b).natAbs < 2 ^ (m + n) := by
  rw [Int.natAbs_mul, Nat.pow_add]
  exact Nat.mul_lt_mul'' ha hb
theorem natAbs_add_lt {a b : Int} {m : Nat} (ha : a.natAbs < 2 ^ m) (hb : b.natAbs < 2 ^ m) : (a + b).natAbs < 2 ^ (m + 1) := by
  rw [Nat.pow_succ]
  omega
theorem sgn {z : PyData} (h : z ∈ [PyData.int 1, PyData.int (-1)]) : ∃ s : Int, z = .int s ∧ s.natAbs = 1 := by
  simp only [List.mem_cons, List.not_mem_nil, or_false] at h
  rcases h with rfl | rfl
  · exact ⟨1, rfl, rfl⟩
  · exact ⟨-1, rfl, rfl⟩
theorem small2 (a b : Int) : SeqAt.shaped (.tuple [.int a, .int b]) = true := by
  simp [SeqAt.shaped, PyData.canLay0, PyData.canLayAll0, PyData.depth, PyData.depthAll]
theorem eqv2 (a b c d : Int) : (PyData.tuple [.int a, .int b]).eqv (.tuple [.int c, .int d]) = (decide (a = c) && decide (b = d)) := by
  simp [PyData.eqv, PyData.eqvAll, Bool.beq_eq_decide_eq]
theorem same2 (a b : Int) : (PyData.tuple [.int a, .int b]).eqv (.tuple [.int a, .int b]) = true := by
  simp [PyData.eqv, PyData.eqvAll]
/-- p / q in lowest terms -/
structure Frac (p q : Int) : Prop where
  pos : 0 < q
  low : Int.gcd p q = 1
/-- only one fraction in lowest terms is as much -/
theorem Frac.one {p q u v : Int} (f : Frac p q) (g : Frac u v) (h : p * v = u * q) : p = u ∧ q = v := by
  have hq := f.pos
  have hv := g.pos
  have n1 : p.natAbs * v.natAbs = u.natAbs * q.natAbs := by rw [← Int.natAbs_mul, ← Int.natAbs_mul, h]
  have d1 : q.natAbs ∣ v.natAbs := by
    have z : q.natAbs ∣ p.natAbs * v.natAbs := ⟨u.natAbs, by rw [n1, Nat.mul_comm]⟩
    exact Nat.Coprime.dvd_of_dvd_mul_left (by rw [Nat.Coprime, Nat.gcd_comm]; exact f.low) z
  have d2 : v.natAbs ∣ q.natAbs := by
    have z : v.natAbs ∣ u.natAbs * q.natAbs := ⟨p.natAbs, by rw [← n1, Nat.mul_comm]⟩
    exact Nat.Coprime.dvd_of_dvd_mul_left (by rw [Nat.Coprime, Nat.gcd_comm]; exact g.low) z
  have e : q.natAbs = v.natAbs := Nat.dvd_antisymm d1 d2
  have e2 : q = v := by omega
  subst e2
  exact ⟨Int.eq_of_mul_eq_mul_right (by omega) h, rfl⟩
/-- the parts of a fraction in lowest terms divide those of any that is as much -/
theorem Frac.le {p q t b : Int} (f : Frac p q) (hb : b ≠ 0) (h : t * q = b * p) : q.natAbs ≤ b.natAbs ∧ p.natAbs ≤ t.natAbs := by
  have hq := f.pos
  have n1 : t.natAbs * q.natAbs = b.natAbs * p.natAbs := by rw [← Int.natAbs_mul, ← Int.natAbs_mul, h]
  have d1 : q.natAbs ∣ b.natAbs := by
    have z : q.natAbs ∣ p.natAbs * b.natAbs := ⟨t.natAbs, by rw [Nat.mul_comm p.natAbs, ← n1, Nat.mul_comm]⟩
    exact Nat.Coprime.dvd_of_dvd_mul_left (by rw [Nat.Coprime, Nat.gcd_comm]; exact f.low) z
  refine ⟨Nat.le_of_dvd (by omega) d1, ?_⟩
  obtain ⟨k, hk⟩ := d1
  have e : t.natAbs = k * p.natAbs := by
    refine Nat.eq_of_mul_eq_mul_right (show 0 < q.natAbs by omega) ?_
    rw [n1, hk, Nat.mul_assoc, Nat.mul_comm]
  rw [e]
  refine Nat.le_mul_of_pos_left _ ?_
  rcases Nat.eq_zero_or_pos k with z | z
  · rw [z] at hk; omega
  · exact z
/-- what a top parted by a bottom is, in lowest terms -/
def loT (t b : Int) : Int := if b < 0 then -(t / Int.gcd t b) else t / Int.gcd t b
def loB (t b : Int) : Int := if b < 0 then -(b / Int.gcd t b) else b / Int.gcd t b
theorem lo_ok {t b : Int} (hb : b ≠ 0) : Frac (loT t b) (loB t b) ∧ t * loB t b = b * loT t b := by
  have hp : 0 < Int.gcd t b := gcd_pos hb
  obtain ⟨u, hu⟩ : ((Int.gcd t b : Nat) : Int) ∣ t := Int.gcd_dvd_left _ _
  obtain ⟨v, hv⟩ : ((Int.gcd t b : Nat) : Int) ∣ b := Int.gcd_dvd_right _ _
  have hp' : (0 : Int) < (Int.gcd t b : Nat) := by omega
  have e1 : t / (Int.gcd t b : Nat) = u := Int.ediv_eq_of_eq_mul_right (by omega) hu
  have e2 : b / (Int.gcd t b : Nat) = v := Int.ediv_eq_of_eq_mul_right (by omega) hv
  have co : Int.gcd u v = 1 := by
    have h1 := Nat.coprime_div_gcd_div_gcd (m := t.natAbs) (n := b.natAbs) hp
    have h2 : u.natAbs = t.natAbs / Int.gcd t b := by
      rw [← e1, Int.natAbs_ediv_of_dvd ⟨u, hu⟩, Int.natAbs_natCast]
    have h3 : v.natAbs = b.natAbs / Int.gcd t b := by
      rw [← e2, Int.natAbs_ediv_of_dvd ⟨v, hv⟩, Int.natAbs_natCast]
    show Nat.gcd u.natAbs v.natAbs = 1
    rw [h2, h3]
    exact h1
  have xy : t * v = b * u := by
    conv => lhs; rw [hu]
    conv => rhs; rw [hv]
    rw [Int.mul_assoc, Int.mul_assoc, Int.mul_comm u v]
  unfold loT loB
  rw [e1, e2]
  by_cases hn : b < 0
  · rw [if_pos hn, if_pos hn]
    refine ⟨⟨?_, by rw [Int.neg_gcd, Int.gcd_neg]; exact co⟩, by rw [Int.mul_neg, Int.mul_neg, xy]⟩
    have z : ¬ 0 ≤ v := fun h => by
      have := Int.mul_nonneg (Int.le_of_lt hp') h
      omega
    omega
  · rw [if_neg hn, if_neg hn]
    refine ⟨⟨?_, co⟩, xy⟩
    have z : ¬ v ≤ 0 := fun h => by
      have h2 := Int.mul_nonneg (Int.le_of_lt hp') (show 0 ≤ -v by omega)
      rw [Int.mul_neg] at h2
      omega
    omega
theorem lo_mul {t b p : Int} (hb : b ≠ 0) (hp : p ≠ 0) : loT (t * p) (b * p) = loT t b ∧ loB (t * p) (b * p) = loB t b := by
  obtain ⟨a1, a2⟩ := lo_ok (t := t) hb
  obtain ⟨b1, b2⟩ := lo_ok (t := t * p) (b := b * p) (Int.mul_ne_zero hb hp)
  refine b1.one a1 ?_
  have e : t * loB (t * p) (b * p) = b * loT (t * p) (b * p) := by
    refine Int.eq_of_mul_eq_mul_right hp ?_
    rw [Int.mul_right_comm, b2, Int.mul_right_comm]
  refine Int.eq_of_mul_eq_mul_left hb ?_
  rw [← Int.mul_assoc, ← e, Int.mul_right_comm, a2, Int.mul_assoc]
/-- a fraction, among any data -/
def isFr : PyData → Bool
  | .tuple [.int p, .int q] => decide (0 < q) && decide (Int.gcd p q = 1)
  | _ => false
theorem isFr_of {p q : Int} (f : Frac p q) : isFr (.tuple [.int p, .int q]) = true := by
  simp [isFr, f.pos, f.low]
theorem of_isFr {x : PyData} (h : isFr x = true) : ∃ p q, x = .tuple [.int p, .int q] ∧ Frac p q := by
  unfold isFr at h
  split at h
  · next p q =>
    rw [Bool.and_eq_true, decide_eq_true_eq, decide_eq_true_eq] at h
    exact ⟨p, q, rfl, h.1, h.2⟩
  · cases h
/-- the sum of two fractions, by their bottoms' common part -/
theorem sum_ok {p q u v : Int} (f : Frac p q) (g : Frac u v) {c part top rest : Int} (hc : c = Int.gcd q v) (hpart : part = q / c) (htop : top = p * (v / c) + u * part) (hrest : rest = Int.gcd top c) :
    0 < c ∧ c.natAbs ≤ q.natAbs ∧ c ∣ q ∧ c ∣ v ∧ 0 < rest ∧ rest.natAbs ≤ c.natAbs ∧ rest ∣ top ∧ rest ∣ v ∧ Frac (top / rest) (part * (v / rest)) ∧ (p * v + u * q) * (part * (v / rest)) = (q * v) * (top / rest) := by
  have hq := f.pos
  have hv := g.pos
  have c0 : 0 < Int.gcd q v := gcd_pos (by omega)
  have hcp : 0 < c := by omega
  have dq : c ∣ q := by rw [hc]; exact Int.gcd_dvd_left _ _
  have dv : c ∣ v := by rw [hc]; exact Int.gcd_dvd_right _ _
  have r0 : 0 < Int.gcd top c := gcd_pos (by omega)
  have hrp : 0 < rest := by omega
  have dt : rest ∣ top := by rw [hrest]; exact Int.gcd_dvd_left _ _
  have drc : rest ∣ c := by rw [hrest]; exact Int.gcd_dvd_right _ _
  obtain ⟨a, ha⟩ := dq
  obtain ⟨b, hb⟩ := dv
  obtain ⟨d, hd⟩ := drc
  obtain ⟨e, he⟩ := dt
  have ea : q / c = a := Int.ediv_eq_of_eq_mul_right (by omega) ha
  have eb : v / c = b := Int.ediv_eq_of_eq_mul_right (by omega) hb
  have evr : v / rest = d * b := Int.ediv_eq_of_eq_mul_right (by omega) (by rw [← Int.mul_assoc, ← hd]; exact hb)
  have etr : top / rest = e := Int.ediv_eq_of_eq_mul_right (by omega) he
  rw [eb] at htop
  rw [ea] at hpart
  subst hpart
  have pa : 0 < part := by
    have z : ¬ part ≤ 0 := fun h => by
      have := Int.mul_nonneg (Int.le_of_lt hcp) (show 0 ≤ -part by omega)
      rw [Int.mul_neg] at this
      omega
    omega
  have pb : 0 < b := by
    have z : ¬ b ≤ 0 := fun h => by
      have := Int.mul_nonneg (Int.le_of_lt hcp) (show 0 ≤ -b by omega)
      rw [Int.mul_neg] at this
      omega
    omega
  have pd : 0 < d := by
    have z : ¬ d ≤ 0 := fun h => by
      have := Int.mul_nonneg (Int.le_of_lt hrp) (show 0 ≤ -d by omega)
      rw [Int.mul_neg] at this
      omega
    omega
  -- what has no common part
  have ab : Nat.Coprime part.natAbs b.natAbs := by
    have h1 := Nat.coprime_div_gcd_div_gcd (m := q.natAbs) (n := v.natAbs) c0
    have h2 : q.natAbs / q.natAbs.gcd v.natAbs = part.natAbs := by
      have : q.natAbs = (q.natAbs.gcd v.natAbs) * part.natAbs := by
        conv => lhs; rw [ha, Int.natAbs_mul]
        rw [show c.natAbs = q.natAbs.gcd v.natAbs by rw [hc]; rfl]
      exact Nat.div_eq_of_eq_mul_right c0 this
    have h3 : v.natAbs / q.natAbs.gcd v.natAbs = b.natAbs := by
      have : v.natAbs = (q.natAbs.gcd v.natAbs) * b.natAbs := by
        conv => lhs; rw [hb, Int.natAbs_mul]
        rw [show c.natAbs = q.natAbs.gcd v.natAbs by rw [hc]; rfl]
      exact Nat.div_eq_of_eq_mul_right c0 this
    rw [h2, h3] at h1
    exact h1
  have ap : Nat.Coprime p.natAbs part.natAbs := Nat.Coprime.coprime_dvd_right ⟨c.natAbs, by rw [ha, Int.natAbs_mul, Nat.mul_comm]⟩ (show Nat.Coprime p.natAbs q.natAbs from f.low)
  have ub : Nat.Coprime u.natAbs b.natAbs := Nat.Coprime.coprime_dvd_right ⟨c.natAbs, by rw [hb, Int.natAbs_mul, Nat.mul_comm]⟩ (show Nat.Coprime u.natAbs v.natAbs from g.low)
  have tpart : Int.gcd top part = 1 := by
    rw [htop, Int.gcd_comm, Int.gcd_add_mul_right_right]
    rw [Int.gcd_comm]
    show Nat.gcd (p * b).natAbs part.natAbs = 1
    rw [Int.natAbs_mul]
    exact Nat.Coprime.mul_left ap ab.symm
  have tb : Int.gcd top b = 1 := by
    rw [htop, Int.add_comm, Int.gcd_comm, Int.gcd_add_mul_right_right]
    rw [Int.gcd_comm]
    show Nat.gcd (u * part).natAbs b.natAbs = 1
    rw [Int.natAbs_mul]
    exact Nat.Coprime.mul_left ub ab
  have ed : Nat.Coprime e.natAbs d.natAbs := by
    have h1 := Nat.coprime_div_gcd_div_gcd (m := top.natAbs) (n := c.natAbs) r0
    have er : rest.natAbs = top.natAbs.gcd c.natAbs := by rw [hrest]; rfl
    have h2 : top.natAbs / top.natAbs.gcd c.natAbs = e.natAbs := Nat.div_eq_of_eq_mul_right r0 (by rw [← er]; conv => lhs; rw [he, Int.natAbs_mul])
    have h3 : c.natAbs / top.natAbs.gcd c.natAbs = d.natAbs := Nat.div_eq_of_eq_mul_right r0 (by rw [← er]; conv => lhs; rw [hd, Int.natAbs_mul])
    rw [h2, h3] at h1
    exact h1
  have et : e.natAbs ∣ top.natAbs := ⟨rest.natAbs, by rw [he, Int.natAbs_mul, Nat.mul_comm]⟩
  have ep : Nat.Coprime e.natAbs part.natAbs := Nat.Coprime.coprime_dvd_left et tpart
  have ebb : Nat.Coprime e.natAbs b.natAbs := Nat.Coprime.coprime_dvd_left et tb
  refine ⟨hcp, ?_, ⟨part, ha⟩, ⟨b, hb⟩, hrp, ?_, ⟨e, he⟩, ⟨d * b, by rw [← Int.mul_assoc, ← hd]; exact hb⟩, ⟨?_, ?_⟩, ?_⟩
  · rw [ha, Int.natAbs_mul]
    exact Nat.le_mul_of_pos_right _ (by omega)
  · rw [hd, Int.natAbs_mul]
    exact Nat.le_mul_of_pos_right _ (by omega)
  · rw [evr]
    exact Int.mul_pos pa (Int.mul_pos pd pb)
  · rw [etr, evr]
    show Nat.gcd e.natAbs (part * (d * b)).natAbs = 1
    rw [Int.natAbs_mul, Int.natAbs_mul]
    exact Nat.Coprime.mul_right ep (Nat.Coprime.mul_right ed ebb)
  · rw [etr, evr]
    have h1 : p * v + u * q = c * top := by
      rw [htop, Int.mul_add, hb, ha, ← Int.mul_assoc, ← Int.mul_assoc, ← Int.mul_assoc, Int.mul_comm p c, Int.mul_assoc, Int.mul_comm u c, Int.mul_assoc]
    rw [h1, he]
    have h2 : q * v = (c * part) * (rest * (d * b)) := by
      rw [show rest * (d * b) = v by rw [← Int.mul_assoc, ← hd]; exact hb.symm, ← ha]
    rw [h2]
    simp only [Int.mul_assoc, Int.mul_comm, Int.mul_left_comm]
end Dl
namespace Dl
open PySem PySem.Spec PyProof.Rows L2
/-! ### n.bit_length() -/
def tBitLen (te : DT) : DT := fun env P => te env fun u => rd u fun x => match x with
  | .int i => P (.d (.int (Builtin.Int.intBits i : Nat)))
  | _ => False
theorem d_bitlen {X : Cx} {w : Wn} {e : Expr} {te : DT} {apos pos : Pos} (he : DPE X w e te) (hbase : attributeBase e "bit_length" X.env (eval e X.env) = eval e X.env := by rfl) (hline : (apos.endLine == pos.line) = true := by rfl) : DPE X w (.Call (.Attribute e "bit_length" apos) [] [] pos) (tBitLen te) :=
  pe_weak (pe_bits he hbase hline) fun σ H Q ⟨env, F, P, r, h, q⟩ => ⟨env, F, _, r, h, fun dv v F1 H1 s1 r1 h1 => by
    obtain ⟨x, x1, h1⟩ := rd_ok r1 h1
    split at h1
    · next i => exact ⟨i, x1.int, q (.d (.int _)) _ F1 H1 s1 (.int _) h1⟩
    · exact h1.elim⟩
theorem bits_le {i : Int} {k : Nat} (h : ¬ ((k : Int) < (Builtin.Int.intBits i : Nat))) : i.natAbs < 2 ^ k := by
  unfold Builtin.Int.intBits at h
  split at h
  · next e => rw [show i.natAbs = 0 by simpa using e]; exact Nat.two_pow_pos _
  · exact lt_two (by omega)
/-! ### an index that stands in the text -/
theorem gi0 (x : PyData) (xs : List PyData) (P : DV → Prop) : gIx (.tuple (x :: xs)) (.int 0) P = P (.d x) := by simp only [gIx, at0]
theorem gi1 (x y : PyData) (xs : List PyData) (P : DV → Prop) : gIx (.tuple (x :: y :: xs)) (.int 1) P = P (.d y) := by simp only [gIx, at1]
theorem gi2 (x y z : PyData) (xs : List PyData) (P : DV → Prop) : gIx (.tuple (x :: y :: z :: xs)) (.int 2) P = P (.d z) := by simp only [gIx, at2]
theorem li0 (x : PyData) (xs : List PyData) (P : DV → Prop) : gIx (.list (x :: xs)) (.int 0) P = P (.d x) := by simp only [gIx, at0]
theorem li1 (x y : PyData) (xs : List PyData) (P : DV → Prop) : gIx (.list (x :: y :: xs)) (.int 1) P = P (.d y) := by simp only [gIx, at1]
theorem li2 (x y z : PyData) (xs : List PyData) (P : DV → Prop) : gIx (.list (x :: y :: z :: xs)) (.int 2) P = P (.d z) := by simp only [gIx, at2]
/-- one statement, then the rest: not by reduction, for the kernel's sake -/
theorem sqD (t u : DS) (d : DK) (env : List Sl) : tSeqD t u d env = t { d with nx := u d } env := propext ⟨fun h => h, fun h => h⟩
section
variable (i : Nat) (g1 : G1) (g : G2) (gc : GC) (ta tb te : DT) (t u : DTT) (da : DA) (p q : DS) (d : DK) (env : List Sl) (P : DV → Prop) (B : Bool → Prop)
theorem stE : tSetD i te d env = te env fun dv => stD i dv env d.nx := propext ⟨fun h => h, fun h => h⟩
theorem biE : tBin g ta tb env P = ta env fun u => rd u fun x => tb env fun z => rd z fun y => g x y P := propext ⟨fun h => h, fun h => h⟩
theorem unE : tUnD g1 ta env P = ta env fun u => rd u fun x => g1 x P := propext ⟨fun h => h, fun h => h⟩
theorem caE : tCallD gc da env P = da env fun us => gc us P := propext ⟨fun h => h, fun h => h⟩
theorem tuE : tTupD da env P = da env fun us => allD us fun xs => xs.length ≤ 100000 ∧ P (.d (.tuple xs)) := propext ⟨fun h => h, fun h => h⟩
theorem liE : tLstD da env P = da env fun us => allD us fun xs => xs.length ≤ 100000 ∧ P (.fr xs) := propext ⟨fun h => h, fun h => h⟩
theorem ifE : tIfD t p q d env = t env fun k => if k = true then p d env else q d env := propext ⟨fun h => h, fun h => h⟩
theorem orE : tOrD t u env B = t env fun c => if c = true then B true else u env B := propext ⟨fun h => h, fun h => h⟩
theorem anE : tAndD t u env B = t env fun c => if c = true then u env B else B false := propext ⟨fun h => h, fun h => h⟩
theorem noE : tNotD t env B = t env fun c => B (!c) := propext ⟨fun h => h, fun h => h⟩
theorem tsE : tTst te env B = te env fun u => isB u B := propext ⟨fun h => h, fun h => h⟩
theorem trE : tTru te env B = te env fun u => rd u fun x => truOk x ∧ B (truD x) := propext ⟨fun h => h, fun h => h⟩
theorem itE : tIteD t ta tb env P = t env fun c => if c = true then ta env P else tb env P := propext ⟨fun h => h, fun h => h⟩
theorem cdE (x : PyData) : tCD x env P = P (.d x) := propext ⟨fun h => h, fun h => h⟩
theorem nlE (R : List DV → Prop) : tNilD env R = R [] := propext ⟨fun h => h, fun h => h⟩
theorem coE (tr : DA) (R : List DV → Prop) : tConsD te tr env R = te env fun u => tr env fun us => R (frz u :: us) := propext ⟨fun h => h, fun h => h⟩
theorem usE (sp : DSp) : tUse sp da env P = da env fun us => sp (us.map dat) fun r => okR us r ∧ P r := propext ⟨fun h => h, fun h => h⟩
theorem foE (gg : DG) (ti : DIt) : tForD gg ti p d env = ti env fun xs => forD gg p d xs env := propext ⟨fun h => h, fun h => h⟩
theorem rdE (x : PyData) (R : PyData → Prop) : rd (.d x) R = R x := propext ⟨fun h => h, fun h => h⟩
theorem re1 (x : PyData) : tRetD (fun _ P => P (.d x)) d env = d.rt (.d x) := propext ⟨fun h => h, fun h => h⟩
theorem sdE (x : PyData) (k : List Sl → Prop) : stD i (.d x) env k = k (env.set i (.d x)) := propext ⟨fun h => h, fun h => h⟩
end
theorem reE (te : DT) (d : DK) (env : List Sl) : tRetD te d env = te env fun dv => match dv with
  | .ow _ _ => False
  | x => d.rt x := propext ⟨fun h => h, fun h => h⟩
theorem vaE (i : Nat) (env : List Sl) (P : DV → Prop) : tVarD i env P = match env[i]? with
  | some (.d x) => P (.d x)
  | some (.ow l xs) => P (.ow l xs)
  | some (.raw v) => P (.raw v)
  | some .bag => P .bag
  | _ => False := propext ⟨fun h => h, fun h => h⟩
end Dl
namespace Dl
open PySem PySem.Spec PyProof.Rows L2
/-! ### an empty dict, repr, str -/
section
variable {X : Cx} {w : Wn} {pos : Pos}
def tEmp : DT := fun _ P => P (.d (.dict []))
theorem d_emp : DPE X w (.Dict [] [] pos) tEmp := pe_weak pe_dnewK fun σ H Q ⟨env, F, P, r, h, q⟩ => fun p hp =>
  q (.d (.dict [])) _ _ _ (r.wd.laid hp) (res_d (Rp.dct (kvs := []) upd_same .nil .nil)) h
end
mutual
/-- data without objects of classes -/
def realD : PyData → Bool
  | .none => true
  | .bool _ => true
  | .int _ => true
  | .str _ => true
  | .list xs => realA xs
  | .tuple xs => realA xs
  | .dict kvs => realK kvs
def realA : List PyData → Bool
  | [] => true
  | x :: xs => realD x && realA xs
def realK : List (PyData × PyData) → Bool
  | [] => true
  | (k, x) :: r => (match k with | .int _ => true | .str _ => true | _ => false) && realD x && realK r
end
section
variable {X : Cx} {pins : List (Addr × Obj)} {σ : L2.St} {H : Hp} {s : Shared}
theorem keys_read {h : Heap} {P : Program} {w : World} {K : PySem.W.Frag} {F : Hp} {kvs : List (Key × V)} {vs : List (Key × Value)} (t : KV kvs vs) : ∀ {es : List DictEntry} {ks : List PyData}, Pairs (mixKind P w) es vs → RpA K F (kvs.map fun p => kV p.1) ks → ReadsAll h (es.map (·.key)) ks [] ∧ Vals (kvs.map Prod.snd) (es.map (·.val)) ∧
    ∀ (P : Program) (w : World), PyData.showableAll ks = true → (∀ t ∈ PyData.shownAll ks, t.length ≤ sizeLine) → ∃ bs, ReadAtMost h (PyData.depthAll ks) bs ∧ ReprAllK P w bs h (PyData.depthAll ks) (es.map (·.key)) (PyData.shownAll ks) := by
  induction t with
  | nil =>
    intro es ks p a
    cases p
    cases a
    refine ⟨.nil, .nil, fun P w _ _ => ⟨[], (fun _ m => nomatch m), ?_⟩⟩
    simp only [PyData.shownAll]
    exact .nil
  | @cons x y kvs vs c t ih =>
    intro es ks p a
    obtain ⟨k, v⟩ := x
    obtain ⟨ck, cv⟩ := c
    cases es with
    | nil => cases p
    | cons en es =>
      cases p with
      | cons p1 p2 p3 =>
        cases a with
        | cons a r =>
          obtain ⟨q1, q2, q3⟩ := ih p3 r
          rw [← ck] at p1
          rw [List.map_cons]
          have a : Rp K F (kV k) _ := a
          rcases keyIs_shape p1 with ⟨i, tk, e1, e2⟩ | ⟨z, tk, e1, e2⟩
          · have e1 : k = .inl i := e1
            subst e1
            cases a
            rw [e2]
            refine ⟨.cons (as := []) (Reads.int i tk) q1, .cons (show RelV v en.val by rw [p2]; exact cv) q2, fun P w c z => ?_⟩
            simp only [PyData.showableAll, Bool.and_eq_true] at c
            obtain ⟨bs, b1, b2⟩ := q3 P w c.2 (fun t ht => z t (by simp only [PyData.shownAll]; exact List.mem_cons_of_mem _ ht))
            refine ⟨bs, b1.mono (by simp only [PyData.depthAll]; omega), ?_⟩
            simp only [PyData.depthAll, PyData.shownAll]
            refine .cons ?_ (b2.more_le (fun _ m => m) (Nat.le_max_right _ _))
            simp only [PyData.shown]
            exact .of_is (ReprIs.int tk (by simpa [PyData.showable] using c.1)) _ _ _
          · have e1 : k = .inr z := e1
            subst e1
            cases a
            rw [e2]
            refine ⟨.cons (as := []) (Reads.str z tk) q1, .cons (show RelV v en.val by rw [p2]; exact cv) q2, fun P w c l => ?_⟩
            simp only [PyData.showableAll, Bool.and_eq_true] at c
            obtain ⟨bs, b1, b2⟩ := q3 P w c.2 (fun t ht => l t (by simp only [PyData.shownAll]; exact List.mem_cons_of_mem _ ht))
            refine ⟨bs, b1.mono (by simp only [PyData.depthAll]; omega), ?_⟩
            simp only [PyData.depthAll, PyData.shownAll]
            refine .cons ?_ (b2.more_le (fun _ m => m) (Nat.le_max_right _ _))
            have l0 := l _ (by simp only [PyData.shownAll]; exact List.mem_cons_self ..)
            simp only [PyData.shown] at l0 ⊢
            exact .of_is (ReprIs.str z tk l0) _ _ _
theorem zip_keys {α β : Type} : ∀ {ks : List α} {xs : List β}, ks.length = xs.length → (ks.zip xs).map (·.1) = ks ∧ (ks.zip xs).map (·.2) = xs
  | [], [], _ => ⟨rfl, rfl⟩
  | k :: ks, x :: xs, h => by
    obtain ⟨a, b⟩ := zip_keys (ks := ks) (xs := xs) (by simpa using h)
    exact ⟨by rw [List.zip_cons_cons, List.map_cons, a], by rw [List.zip_cons_cons, List.map_cons, b]⟩
theorem real_zip {ks : List PyData} : ∀ {xs : List PyData}, ks.length = xs.length → realK (ks.zip xs) = true → realA xs = true := by
  induction ks with
  | nil => intro xs h _; cases xs with | nil => rfl | cons => simp at h
  | cons k ks ih =>
    intro xs h e
    cases xs with
    | nil => simp at h
    | cons x xs =>
      simp only [List.zip_cons_cons, realK, Bool.and_eq_true] at e
      simp only [realA, Bool.and_eq_true]
      exact ⟨e.1.2, ih (by simpa using h) e.2⟩
/-! the text of data, from what is tracked -/
mutual
theorem rk_of (I : Inv X pins σ H s) : ∀ {v : V} {d : PyData} {u : Value}, Rp X.K H v d → realD d = true → RelV v u → d.showable = true → d.shown.length ≤ sizeLine →
    ∃ as bs, Reads s.heap u d as ∧ ReadAtMost s.heap d.depth bs ∧ ReprK X.prog X.w bs s.heap d.depth u d.shown
  | _, _, _, .non, _, r, _, _ => by
    cases r
    refine ⟨_, [], .none, (fun _ m => nomatch m), ?_⟩
    simp only [PyData.shown]
    exact .of_is ReprIs.none _ _ _
  | _, _, _, .bl b, _, r, _, _ => by
    cases r
    refine ⟨_, [], .bool b, (fun _ m => nomatch m), ?_⟩
    simp only [PyData.shown]
    exact .of_is (ReprIs.bool b) _ _ _
  | _, _, _, .int i, _, r, c, _ => by
    obtain ⟨t, rfl⟩ := r
    refine ⟨_, [], .int i t, (fun _ m => nomatch m), ?_⟩
    simp only [PyData.shown]
    exact .of_is (ReprIs.int t (by simpa [PyData.showable] using c)) _ _ _
  | _, _, _, .str i, _, r, _, z => by
    obtain ⟨t, rfl⟩ := r
    refine ⟨_, [], .str i t, (fun _ m => nomatch m), ?_⟩
    simp only [PyData.shown] at z ⊢
    exact .of_is (ReprIs.str i t z) _ _ _
  | _, _, _, .lst (a := a) (xs := xs) hs ha, f, r, c, z => by
    cases r
    obtain ⟨its, rv, ⟨o, n, ho, hc, _, hd⟩, _⟩ := I.list (SqL.of hs)
    simp only [PyData.shown] at z
    obtain ⟨as, bs, q1, q2, q3⟩ := rka_of I ha (by simpa only [realD] using f) rv (by simpa [PyData.showable] using c) (fun t ht => Nat.le_trans (listText_mem_le ht) z)
    have rd : Reads s.heap (.ref a) (.list xs) _ := .list ho hc hd q1
    have na : a ∉ bs := not_mem_of_deeper rd (by simp only [PyData.depth]; omega) q2
    refine ⟨_, a :: bs, rd, ReadAtMost.cons rd (by simp only [PyData.depth]; omega) q2, ?_⟩
    simp only [PyData.depth, PyData.shown]
    cases its with
    | nil =>
      cases q1
      simp only [PyData.shownAll, listText_nil]
      exact ReprK.listEmpty ho hc hd
    | cons x l => exact ReprK.list ho hc hd na (by simpa using q3.length_eq) fun i y e => q3.item i y (by simpa using e)
  | _, _, _, .tup (a := a) (xs := xs) hs ha, f, r, c, z => by
    cases r
    obtain ⟨its, rv, ⟨o, ho, hc, n, hd⟩, _⟩ := I.tuple hs
    simp only [PyData.shown] at z
    obtain ⟨as, bs, q1, q2, q3⟩ := rka_of I ha (by simpa only [realD] using f) rv (by simpa [PyData.showable] using c) (fun t ht => Nat.le_trans (tupleText_mem_le ht) z)
    have rd : Reads s.heap (.ref a) (.tuple xs) _ := .tuple ho hc hd q1
    have na : a ∉ bs := not_mem_of_deeper rd (by simp only [PyData.depth]; omega) q2
    refine ⟨_, a :: bs, rd, ReadAtMost.cons rd (by simp only [PyData.depth]; omega) q2, ?_⟩
    simp only [PyData.depth, PyData.shown]
    exact ReprK.tuple ho hc hd na q3
  | _, _, _, .dct (a := a) (kvs := kvs) (ks := ks) (xs := xs) h r1 q1, f, r, c, z => by
    obtain ⟨_, hs, vs, kv, o, es, ep, ho, hc, hd, _, hp, _⟩ := dk_of I.hok h
    cases r
    obtain ⟨k1, k2, k3⟩ := keys_read (h := s.heap) kv hp r1
    have le : ks.length = xs.length := by rw [← r1.len, ← q1.len, List.length_map, List.length_map]
    obtain ⟨z1, z2⟩ := zip_keys le
    simp only [PyData.shown] at z
    obtain ⟨c1, c2⟩ := PyData.showableKv_split (ks.zip xs) (by simpa [PyData.showable] using c)
    obtain ⟨as, b2, m1, m2, m3⟩ := rka_of I q1 (real_zip le (by simpa only [realD] using f)) k2 (by rw [z2] at c2; exact c2) (fun t ht => by
      obtain ⟨p, hp, hl⟩ := PyData.shownKv_val_le (ks.zip xs) t (by rw [z2]; exact ht)
      exact Nat.le_trans hl (Nat.le_trans (dictText_mem_le hp) z))
    obtain ⟨b1, n2, n3⟩ := k3 X.prog X.w (by rw [z1] at c1; exact c1) (fun t ht => by
      obtain ⟨p, hp, hl⟩ := PyData.shownKv_key_le (ks.zip xs) t (by rw [z1]; exact ht)
      exact Nat.le_trans hl (Nat.le_trans (dictText_mem_le hp) z))
    have rd : Reads s.heap (.ref a) (.dict (ks.zip xs)) _ := .dict ho hc.1 hd (by rw [z1]; exact k1) (by rw [z2]; exact m1)
    have e1 : PyData.depthAll ks ≤ PyData.depthKv (ks.zip xs) := by have := PyData.depthAll_keys_le (ks.zip xs); rw [z1] at this; exact this
    have e2 : PyData.depthAll xs ≤ PyData.depthKv (ks.zip xs) := by have := PyData.depthAll_vals_le (ks.zip xs); rw [z2] at this; exact this
    have hb : ReadAtMost s.heap (PyData.depthKv (ks.zip xs)) (b1 ++ b2) := (n2.mono e1).append (m2.mono e2)
    have na : a ∉ b1 ++ b2 := not_mem_of_deeper rd (by simp only [PyData.depth]; omega) hb
    refine ⟨_, a :: (b1 ++ b2), rd, ReadAtMost.cons rd (by simp only [PyData.depth]; omega) hb, ?_⟩
    simp only [PyData.depth, PyData.shown, PyData.shownKv_eq]
    rw [z1, z2]
    exact ReprK.dict ho hc.1 hd hs na (ReprEntriesK.of_two es.toList _ _ (n3.more_le (fun _ m => List.mem_append.mpr (.inl m)) e1) (m3.more_le (fun _ m => List.mem_append.mpr (.inr m)) e2))
  | _, _, _, .obj _ _ _ _ _, f, _, _, _ => by simp [obD, realD, realK] at f
theorem rka_of (I : Inv X pins σ H s) : ∀ {vs : List V} {ds : List PyData} {us : List Value}, RpA X.K H vs ds → realA ds = true → Vals vs us → PyData.showableAll ds = true → (∀ t ∈ PyData.shownAll ds, t.length ≤ sizeLine) →
    ∃ as bs, ReadsAll s.heap us ds as ∧ ReadAtMost s.heap (PyData.depthAll ds) bs ∧ ReprAllK X.prog X.w bs s.heap (PyData.depthAll ds) us (PyData.shownAll ds)
  | _, _, _, .nil, _, r, _, _ => by
    cases r
    refine ⟨_, [], .nil, (fun _ m => nomatch m), ?_⟩
    simp only [PyData.shownAll]
    exact .nil
  | _, _, _, .cons (x := d) (xs := ds) h t, f, r, c, z => by
    cases r with
    | cons r1 r2 =>
      rw [realA, Bool.and_eq_true] at f
      have c' : d.showable = true ∧ PyData.showableAll ds = true := by simpa [PyData.showableAll] using c
      obtain ⟨a1, b1, q1, q2, q3⟩ := rk_of I h f.1 r1 c'.1 (z _ (by simp only [PyData.shownAll]; exact List.mem_cons_self ..))
      obtain ⟨a2, b2, p1, p2, p3⟩ := rka_of I t f.2 r2 c'.2 (fun t ht => z t (by simp only [PyData.shownAll]; exact List.mem_cons_of_mem _ ht))
      refine ⟨_, b1 ++ b2, .cons q1 p1, ?_, ?_⟩
      · simp only [PyData.depthAll]
        exact (q2.mono (Nat.le_max_left _ _)).append (p2.mono (Nat.le_max_right _ _))
      · simp only [PyData.depthAll, PyData.shownAll]
        exact .cons ((q3.more fun _ m => List.mem_append.mpr (.inl m)).level_le (Nat.le_max_left _ _)) (p3.more_le (fun _ m => List.mem_append.mpr (.inr m)) (Nat.le_max_right _ _))
end
end
section
variable {X : Cx} {w : Wn} {pos : Pos}
/-- data whose text may be asked for -/
structure Sh (x : PyData) : Prop where
  real : realD x = true
  show_ : x.showable = true
  deep : x.depth ≤ 63
  len : x.shown.length ≤ 100000
def cRepr : GC := fun us P => one us fun u => rd u fun x => Sh x ∧ P (.d (.str x.shown))
theorem k_repr (ag : X.A.guards = some []) (hu : X.A.units + 64 < cLine) : CallR X (.builtin "repr") (lC X.K w.b cRepr) := by
  intro pins s σ H vs us Q I r h
  obtain ⟨F, dvs, P, wd, ar, g, q⟩ := h
  obtain ⟨u, v, rfl, a, g⟩ := one_ok ar g
  obtain ⟨x, hx, sh, g⟩ := arr_rr a g
  obtain ⟨t, rfl, hr⟩ := vals1 r
  have done : ∀ h' (tk tt : Tok), (∀ b o, s.heap.get? b = some o → h'.get? b = some o) → EP X pins σ Q (.str x.shown tt) { s with heap := h', toks := tk } := fun h' tk tt hk =>
    ⟨.str _, H, I.kept hk, ⟨_, rfl⟩, q _ _ F H wd.refl (res_d (.str _)) g⟩
  have hall := hx.all wd.sub
  have z := lim_le sh.len
  have dp := sh.deep
  have real := sh.real
  have show_ := sh.show_
  clear sh g q hx
  cases hall with
  | non => cases hr; exact PySem.P.repr_of_none (done s.heap _ _ fun _ _ e => e)
  | bl b => cases hr; exact PySem.P.repr_of_bool (done s.heap _ _ fun _ _ e => e)
  | int i => obtain ⟨tk, rfl⟩ := hr; exact PySem.P.repr_of_int (by simpa [PyData.showable] using show_) (done s.heap _ _ fun _ _ e => e)
  | str y => obtain ⟨tk, rfl⟩ := hr; exact PySem.P.repr_of_str (done s.heap _ _ fun _ _ e => e) z
  | @lst p vs xs hs ha =>
    cases hr
    obtain ⟨its, rv, ⟨o, n, ho, hc, _, hd⟩, _⟩ := I.list (SqL.of hs)
    simp only [PyData.shown] at z done
    simp only [PyData.depth] at dp
    obtain ⟨as, bs, q1, q2, q3⟩ := rka_of I ha (by simpa only [realD] using real) rv (by simpa [PyData.showable] using show_) (fun t ht => Nat.le_trans (listText_mem_le ht) z)
    have na : p ∉ bs := not_mem_of_deeper (.list ho hc hd q1) (by simp only [PyData.depth]; omega) q2
    refine call_repr_slot (by omega) ⟨o, ho, hc⟩ PySem.F.slot_list_repr.toG ?_
    cases its with
    | nil =>
      cases q1
      simp only [PyData.shownAll, listText_nil] at done
      exact call_list_repr_empty ⟨o, ho, hc⟩ ho hd ⟨_, _, rfl, done s.heap _ _ fun _ _ e => e⟩
    | cons y l =>
      exact call_list_reprK ho hc hd na (by simpa using q3.length_eq) (fun i y e => q3.item i y (by simpa using e)) ag (fun b _ => Clear.nil b) (by show X.A.units + 1 + _ < cLine; omega) (fun _ _ e => e) (fun h' u tk hk => ⟨_, _, rfl, done h' tk u hk⟩) z
  | @tup p vs xs hs ha =>
    cases hr
    obtain ⟨its, rv, ⟨o, ho, hc, n, hd⟩, _⟩ := I.tuple hs
    simp only [PyData.shown] at z done
    simp only [PyData.depth] at dp
    obtain ⟨as, bs, q1, q2, q3⟩ := rka_of I ha (by simpa only [realD] using real) rv (by simpa [PyData.showable] using show_) (fun t ht => Nat.le_trans (tupleText_mem_le ht) z)
    have na : p ∉ bs := not_mem_of_deeper (.tuple ho hc hd q1) (by simp only [PyData.depth]; omega) q2
    refine call_repr_slot (by omega) ⟨o, ho, hc⟩ PySem.F.slot_tuple_repr ?_
    exact call_tuple_reprK ho hc hd na q3 ag (fun b _ => Clear.nil b) (by show X.A.units + 1 + _ < cLine; omega) (fun _ _ e => e) (fun h' u tk hk => ⟨_, _, rfl, done h' tk u hk⟩) z
  | @dct p kvs ks xs h r1 q1 =>
    cases hr
    obtain ⟨_, hs, vs, kv, o, es, ep, ho, hc, hd, _, hp, _⟩ := dk_of I.hok h
    obtain ⟨k1, k2, k3⟩ := keys_read (h := s.heap) kv hp r1
    have le : ks.length = xs.length := by rw [← r1.len, ← q1.len, List.length_map, List.length_map]
    obtain ⟨z1, z2⟩ := zip_keys le
    simp only [PyData.shown] at z done
    simp only [PyData.depth] at dp
    obtain ⟨c1, c2⟩ := PyData.showableKv_split (ks.zip xs) (by simpa [PyData.showable] using show_)
    obtain ⟨as, b2, m1, m2, m3⟩ := rka_of I q1 (real_zip le (by simpa only [realD] using real)) k2 (by rw [z2] at c2; exact c2) (fun t ht => by
      obtain ⟨p, hp, hl⟩ := PyData.shownKv_val_le (ks.zip xs) t (by rw [z2]; exact ht)
      exact Nat.le_trans hl (Nat.le_trans (dictText_mem_le hp) z))
    obtain ⟨b1, n2, n3⟩ := k3 X.prog X.w (by rw [z1] at c1; exact c1) (fun t ht => by
      obtain ⟨p, hp, hl⟩ := PyData.shownKv_key_le (ks.zip xs) t (by rw [z1]; exact ht)
      exact Nat.le_trans hl (Nat.le_trans (dictText_mem_le hp) z))
    have rd : Reads s.heap (.ref p) (.dict (ks.zip xs)) _ := .dict ho hc.1 hd (by rw [z1]; exact k1) (by rw [z2]; exact m1)
    have e1 : PyData.depthAll ks ≤ PyData.depthKv (ks.zip xs) := by have := PyData.depthAll_keys_le (ks.zip xs); rw [z1] at this; exact this
    have e2 : PyData.depthAll xs ≤ PyData.depthKv (ks.zip xs) := by have := PyData.depthAll_vals_le (ks.zip xs); rw [z2] at this; exact this
    have hb : ReadAtMost s.heap (PyData.depthKv (ks.zip xs)) (b1 ++ b2) := (n2.mono e1).append (m2.mono e2)
    have na : p ∉ b1 ++ b2 := not_mem_of_deeper rd (by simp only [PyData.depth]; omega) hb
    simp only [PyData.shownKv_eq] at z done
    rw [z1, z2] at z done
    refine call_repr_slot (by omega) ⟨o, ho, hc.1⟩ PySem.F.slot_dict_repr ?_
    exact call_dict_reprK ho hc.1 hd hs na (ReprEntriesK.of_two es.toList _ _ (n3.more_le (fun _ m => List.mem_append.mpr (.inl m)) e1) (m3.more_le (fun _ m => List.mem_append.mpr (.inr m)) e2)) ag (fun b _ => Clear.nil b) (by show X.A.units + 1 + _ < cLine; omega) (fun _ _ e => e) (fun h' u tk hk => ⟨_, _, rfl, done h' tk u hk⟩) z
  | obj => simp [obD, realD, realK] at real
def cStr : GC := fun us P => one us fun u => rd u fun x => match x with
  | .int i => i.natAbs.log2 < 1920 ∧ P (.d (.str (toString i)))
  | .str z => P (.d (.str z))
  | _ => False
theorem k_str : CallR X (.type "str") (lC X.K w.b cStr) := by
  intro pins s σ H vs us Q I r h
  obtain ⟨F, dvs, P, wd, ar, g, q⟩ := h
  obtain ⟨u, v, rfl, a, g⟩ := one_ok ar g
  obtain ⟨x, hx, g⟩ := arr_rr a g
  split at g
  · cases hx.int
    exact call_str_int pins s σ H _ us Q I r ⟨_, rfl, g.1, q _ _ F H wd.refl (res_d (.str _)) g.2⟩
  · cases hx.str
    exact SkE.call_str_str pins s σ H _ us Q I r ⟨_, rfl, q _ _ F H wd.refl (res_d (.str _)) g⟩
  · exact g.elim
end
/-! ### data whose text is short -/
structure Sn (n k : Nat) (x : PyData) : Prop where
  real : realD x = true
  show_ : x.showable = true
  deep : x.depth ≤ n
  len : x.shown.length ≤ k
theorem Sn.sh {n k : Nat} {x : PyData} (h : Sn n k x) (hn : n ≤ 63 := by decide) (hk : k ≤ 100000 := by decide) : Sh x := ⟨h.real, h.show_, Nat.le_trans h.deep hn, Nat.le_trans h.len hk⟩
theorem Sn.up {n k m l : Nat} {x : PyData} (h : Sn n k x) (hn : n ≤ m := by decide) (hk : k ≤ l := by decide) : Sn m l x := ⟨h.real, h.show_, Nat.le_trans h.deep hn, Nat.le_trans h.len hk⟩
theorem sn_int {i : Int} {j : Nat} (h : i.natAbs < 2 ^ j) (hj : 0 < j := by decide) (hk : j < 1920 := by decide) : Sn 0 (j + 1) (.int i) := by
  have l := log_lt hj h
  refine ⟨by simp only [realD], by simp only [PyData.showable, decide_eq_true_eq]; omega, by simp [PyData.depth], ?_⟩
  show (Str.ofString (toString i)).length ≤ j + 1
  rw [PySem.ofString_length]; exact PySem.int_text_length_le hj l
theorem sn_all {n k : Nat} : ∀ {xs : List PyData}, (∀ x ∈ xs, Sn n k x) → realA xs = true ∧ PyData.showableAll xs = true ∧ PyData.depthAll xs ≤ n ∧ ((PyData.shownAll xs).map (·.length)).sum ≤ xs.length * k ∧ (PyData.shownAll xs).length = xs.length
  | [], _ => by simp [realA, PyData.showableAll, PyData.depthAll, PyData.shownAll]
  | x :: xs, h => by
    obtain ⟨a, b, c, d, e⟩ := sn_all (xs := xs) fun y hy => h y (List.mem_cons_of_mem _ hy)
    have z := h x (List.mem_cons_self ..)
    refine ⟨by rw [realA, z.real, a]; rfl, by rw [PyData.showableAll, z.show_, b]; rfl, ?_, ?_, ?_⟩
    · have := z.deep
      simp only [PyData.depthAll]; omega
    · have := z.len
      simp only [PyData.shownAll, List.map_cons, List.sum_cons, List.length_cons, Nat.add_mul]; omega
    · simp only [PyData.shownAll, List.length_cons, e]
theorem sn_tup {n k m : Nat} {xs : List PyData} (h : ∀ x ∈ xs, Sn n k x) (hm : xs.length ≤ m := by simp) : Sn (n + 1) (m * (k + 2) + 3) (.tuple xs) := by
  obtain ⟨a, b, c, d, e⟩ := sn_all h
  refine ⟨by rw [realD, a], by rw [PyData.showable, b], by simp only [PyData.depth]; omega, ?_⟩
  have q := tupleText_len_le (PyData.shownAll xs)
  have r : xs.length * (k + 2) ≤ m * (k + 2) := Nat.mul_le_mul_right _ hm
  rw [Nat.mul_add] at r
  show (tupleText (PyData.shownAll xs)).length ≤ _
  omega
theorem sn_lst {n k m : Nat} {xs : List PyData} (h : ∀ x ∈ xs, Sn n k x) (hm : xs.length ≤ m := by simp) : Sn (n + 1) (m * (k + 2) + 3) (.list xs) := by
  obtain ⟨a, b, c, d, e⟩ := sn_all h
  refine ⟨by rw [realD, a], by rw [PyData.showable, b], by simp only [PyData.depth]; omega, ?_⟩
  have q := listText_len_le (PyData.shownAll xs)
  have r : xs.length * (k + 2) ≤ m * (k + 2) := Nat.mul_le_mul_right _ hm
  rw [Nat.mul_add] at r
  show (listText (PyData.shownAll xs)).length ≤ _
  omega
theorem sn_bool (b : Bool) : Sn 0 5 (.bool b) := by cases b <;> exact ⟨by simp only [realD], by simp only [PyData.showable], by simp [PyData.depth], by decide⟩
theorem sn_none : Sn 0 4 .none := ⟨by simp only [realD], by simp only [PyData.showable], by simp [PyData.depth], by decide⟩
theorem sn_str {x : Str} {k : Nat} (h : (reprText x).length ≤ k) : Sn 0 k (.str x) := ⟨by simp only [realD], by simp only [PyData.showable], by simp [PyData.depth], h⟩
theorem sh_emp : Sh (.dict []) := ⟨by decide, by decide, by decide, by decide⟩
end Dl
namespace Dl
open PySem PySem.Spec PyProof.Rows L2
/-! ### what no run takes back: a relation of states that every single step keeps -/
structure Kept (r : Shared → Shared → Prop) : Prop where
  same : ∀ s, r s s
  thn : ∀ {a b c}, r a b → r b c → r a c
  heap : ∀ s (h : Heap), r s { s with heap := h }
  toks : ∀ s (n : Tok), r s { s with toks := n }
  drawn : ∀ s (d : Drawn), r s { s with drawn := d }
  os : ∀ s (o : OsState), r s { s with os := o }
  more : ∀ s (x : GenState), r s { s with gens := s.gens.push x }
  put : ∀ s (g : Nat) (x : GenState), r s (s.setGen g x)
section
variable {r : Shared → Shared → Prop} {M : Model} {Γ : PySem.Ctx} {p : Pos} {s s' : Shared}
theorem kept_run (k : Kept r) {t : Sem Fin} {fs : List Frame} {e : End} (h : Runs M Γ p t fs s e s') : r s s' := by
  induction h
  case done => exact k.same _
  case raise => exact k.same _
  case yield => exact k.same _
  case update ih => exact k.thn (k.heap _ _) ih
  case alloc ih => exact k.thn (k.heap _ _) ih
  case fresh ih => exact k.thn (k.toks _ _) ih
  case choose ih => exact k.thn (k.drawn _ _) ih
  case os ih => exact k.thn (k.os _ _) ih
  case newGen ih => exact k.thn (k.more _ _) ih
  case call i1 i2 => exact k.thn i1 i2
  case resumeFresh i1 i2 => exact k.thn (k.thn (k.put _ _ _) i1) (k.thn (k.put _ _ _) i2)
  case resumeSuspended i1 i2 => exact k.thn (k.thn (k.put _ _ _) i1) (k.thn (k.put _ _ _) i2)
  case resumeThrowFresh ih => exact k.thn (k.put _ _ _) ih
  case segRet i1 i2 => exact k.thn i1 i2
  case segGen i1 i2 => exact k.thn i1 (k.thn (k.put _ _ _) i2)
  case segSuspGen i1 i2 => exact k.thn i1 (k.thn (k.put _ _ _) i2)
  all_goals assumption
theorem kept_wake (k : Kept r) {g : Nat} {q : Resume} {res : GenResult} (h : Wakes M Γ p g q s res s') : r s s' := by
  unfold Wakes at h
  split at h
  · exact h.elim
  · split at h
    · obtain ⟨e₁, s₁, hr, _, _, rfl⟩ := h
      exact k.thn (k.thn (k.put _ _ _) (kept_run k hr)) (k.put _ _ _)
    · rw [h.2]; exact k.same _
    · rw [h.2]; exact k.put _ _ _
  · obtain ⟨e₁, s₁, hr, _, _, rfl⟩ := h
    exact k.thn (k.thn (k.put _ _ _) (kept_run k hr)) (k.put _ _ _)
  · rw [h.2]; exact k.same _
  · rw [h.2]; exact k.same _
theorem kept_wp {α : Type} (k : Kept r) (s₀ : Shared) (t : Sem α) : ∀ {Q : α → Pos → Shared → Prop} {E : Value → Pos → Shared → Prop} {p : Pos} {s : Shared}, r s₀ s → Sem.wp M Γ t Q E p s → Sem.wp M Γ t (fun a p' s' => r s₀ s' ∧ Q a p' s') (fun e p' s' => r s₀ s' ∧ E e p' s') p s := by
  induction t <;> intro Q E p s hr h
  case pure => exact ⟨hr, h⟩
  case raise => exact ⟨hr, h⟩
  case load ih => exact let ⟨o, ho, h⟩ := h; ⟨o, ho, ih o hr h⟩
  case update ih => exact ⟨h.1, ih () (k.thn hr (k.heap _ _)) h.2⟩
  case alloc ih => exact ih _ (k.thn hr (k.heap _ _)) h
  case fresh ih => exact ih _ (k.thn hr (k.toks _ _)) h
  case choose ih => exact ⟨h.1, ih _ (k.thn hr (k.drawn _ _)) h.2⟩
  case os ih => exact ih _ (k.thn hr (k.os _ _)) h
  case call ih => exact let ⟨x, s', hx, h⟩ := h; ⟨x, s', hx, ih x (k.thn hr (kept_run k hx)) h⟩
  case genState ih => exact let ⟨x, hx, h⟩ := h; ⟨x, hx, ih _ hr h⟩
  case newGen ih => exact ih _ (k.thn hr (k.more _ _)) h
  case resume ih => exact let ⟨x, s', hx, h⟩ := h; ⟨x, s', hx, ih x (k.thn hr (kept_wake k hx)) h⟩
  all_goals first | exact h.elim | (rename_i ih; exact ih _ hr h)
theorem kept_any {α : Type} {A : Around} {t : Sem α} {Q : α → Shared → Prop} {E : Value → Shared → Prop} (k : Kept r) (h : wpAny M A t Q E s) : wpAny M A t (fun a s' => r s s' ∧ Q a s') (fun e s' => r s s' ∧ E e s') s :=
  fun Γ p hΓ => kept_wp k s t (k.same s) (h Γ p hΓ)
end
/-- generators are never taken away -/
theorem kept_gens : Kept fun a b => a.gens.size ≤ b.gens.size where
  same := fun _ => Nat.le_refl _
  thn := Nat.le_trans
  heap := fun _ _ => Nat.le_refl _
  toks := fun _ _ => Nat.le_refl _
  drawn := fun _ _ => Nat.le_refl _
  os := fun _ _ => Nat.le_refl _
  more := fun s x => by
    show s.gens.size ≤ (s.gens.push x).size
    rw [Array.size_push]
    exact Nat.le_succ _
  put := fun s g x => by
    show s.gens.size ≤ (s.gens.setIfInBounds g x).size
    rw [Array.size_setIfInBounds]
    exact Nat.le_refl _
end Dl
namespace Dl
open PySem PySem.Spec PyProof.Rows L2
/-! ### a generator expression whose element may call, walked by all() -/
section
variable {prog : Program} {w : World} {A : Around}
/-- item i is handed out; J stands behind it, whatever the table of generators becomes -/
def gY (n₀ : Nat) (F : Nat → Value → Prop) (J : Nat → Shared → Prop) : Protocol := fun n _ v s k =>
  ∃ i, i < n₀ ∧ n + i + 1 = n₀ ∧ F i v ∧ J (i + 1) s ∧ ∀ gs, AllBare gs → k (.send .none) { s with gens := gs }
def gR (D : Shared → Prop) : GenEnd := fun n _ r s => r = .ok .next ∧ n = 0 ∧ D s
/-- where the element stands -/
abbrev loopA (A : Around) (elt tg iter : Expr) (scope : Scope) (pos : Pos) (I : Addr) (cenv : Env) : Around :=
  A.over (.compLoop (.GeneratorExp elt [⟨tg, iter, [], 0⟩] scope pos) 0 (.ref I) .none cenv) []
structure GLoop (prog : Program) (w : World) (A : Around) (elt tg iter : Expr) (scope : Scope) (pos : Pos) (I : Addr) (cenv : Env) (n₀ : Nat) (F : Nat → Value → Prop) (J : Nat → Shared → Prop) (D : Shared → Prop) : Prop where
  gens : ∀ i s gs, J i s → AllBare gs → J i { s with gens := gs }
  turn : ∀ i s E, i < n₀ → J i s → wpAny (model prog w) (loopA A elt tg iter scope pos I cenv) (pyNext (.ref I)) (fun o s₁ => ∃ v, o = some v ∧
    wpAny (model prog w) (loopA A elt tg iter scope pos I cenv) (letOwnedTupleGo tg (.ref I) v) (fun _ s₂ =>
      wpAny (model prog w) (loopA A elt tg iter scope pos I cenv) (assign tg cenv v) (fun _ s₃ =>
        wpAny (model prog w) (loopA A elt tg iter scope pos I cenv) (eval elt cenv) (fun y s₄ => F i y ∧ J (i + 1) s₄) E s₃) E s₂) E s₁) E s
  done : ∀ s E, J n₀ s → wpAny (model prog w) (loopA A elt tg iter scope pos I cenv) (pyNext (.ref I)) (fun o s₁ => o = none ∧ D s₁) E s
  self : ∀ (A' : Around) s Q E, J 0 s → Q (.ref I) s → wpAny (model prog w) A' (pyIter (.ref I)) Q E s
section
variable {elt tg iter : Expr} {scope : Scope} {pos : Pos} {I : Addr} {cenv : Env} {n₀ : Nat} {F : Nat → Value → Prop} {J : Nat → Shared → Prop} {D : Shared → Prop}
theorem seg_gl (hco : cenv.scope.isCoroutine = false) (L : GLoop prog w A elt tg iter scope pos I cenv n₀ F J D) :
    ∀ (k i : Nat) (s₀ s : Shared), k + i = n₀ → J i s →
      Seg (model prog w) A (gR D) (gY n₀ F J) k s₀ (.compLoop (.GeneratorExp elt [⟨tg, iter, [], 0⟩] scope pos) 0 (.ref I) .none cenv)
        ((model prog w).den (.compLoop (.GeneratorExp elt [⟨tg, iter, [], 0⟩] scope pos) 0 (.ref I) .none cenv)) [] s := by
  intro k
  induction k with
  | zero =>
    intro i s₀ s e j
    have : i = n₀ := by omega
    subst this
    show Seg _ A _ _ _ s₀ _ ((compTurn (.GeneratorExp elt [⟨tg, iter, [], 0⟩] scope pos) 0 (.ref I) .none cenv).onRaise (leaving cenv)) [] s
    rw [compTurn_gen, Sem.onRaise_eq_wrap]
    refine seg_bind_wrap (wpAny_standAt ?_)
    refine seg_bind_wrap (wpAny_mono (L.done s _ j) (fun o s₁ q => ?_) fun _ _ z => z)
    obtain ⟨rfl, q⟩ := q
    exact seg_end (.ok .next) ⟨rfl, rfl, q⟩
  | succ k ih =>
    intro i s₀ s e j
    have hi : i < n₀ := by omega
    show Seg _ A _ _ _ s₀ _ ((compTurn (.GeneratorExp elt [⟨tg, iter, [], 0⟩] scope pos) 0 (.ref I) .none cenv).onRaise (leaving cenv)) [] s
    rw [compTurn_gen, Sem.onRaise_eq_wrap]
    refine seg_bind_wrap (wpAny_standAt ?_)
    refine seg_bind_wrap (wpAny_mono (L.turn i s _ hi j) (fun o s₁ q => ?_) fun _ _ z => z)
    obtain ⟨v, rfl, q⟩ := q
    refine seg_bind_wrap (wpAny_mono q (fun _ s₂ q => ?_) fun _ _ z => z)
    refine seg_bind_wrap (wpAny_mono q (fun _ s₂ q => ?_) fun _ _ z => z)
    refine seg_bind_wrap (wpAny_pure ?_)
    simp only [if_true]
    have hy : ∀ u, yieldOut cenv u = yieldValue u := fun u => by simp only [yieldOut, hco, Bool.false_eq_true, if_false]
    simp only [hy]
    rw [Sem.bind_eq_wrap', Sem.bind_eq_wrap', Sem.wrap_wrap, Sem.wrap_wrap]
    refine seg_wrap (wpAny_mono q (fun y s₃ r => ?_) fun _ _ z => z)
    refine seg_at (seg_yield rfl rfl rfl ⟨i, hi, by omega, r.1, r.2, fun gs hb => ?_⟩)
    exact seg_again rfl (ih (i + 1) _ _ (by omega) (L.gens _ _ gs r.2 hb))
theorem seg_gs (hco : cenv.scope.isCoroutine = false) (L : GLoop prog w A elt tg iter scope pos I cenv n₀ F J D) (s₀ s : Shared) (j : J 0 s) :
    Seg (model prog w) A (gR D) (gY n₀ F J) n₀ s₀ (.compStart (.GeneratorExp elt [⟨tg, iter, [], 0⟩] scope pos) 0 (.ref I) .none cenv)
      ((model prog w).den (.compStart (.GeneratorExp elt [⟨tg, iter, [], 0⟩] scope pos) 0 (.ref I) .none cenv)) [] s := by
  have loop := seg_gl hco L n₀ 0 s₀ s (by omega) j
  show Seg _ A _ _ _ s₀ _ ((compStart (.GeneratorExp elt [⟨tg, iter, [], 0⟩] scope pos) 0 (.ref I) .none cenv).onRaise (leaving cenv)) [] s
  unfold compStart
  rw [Sem.onRaise_eq_wrap]
  refine seg_bind_wrap (wpAny_askSetting ?_)
  split
  · exact seg_again rfl loop
  · first
      | exact seg_bind_wrap (wpAny_rule (seg_bind_wrap (wpAny_standAt (seg_bind_wrap (L.self _ s _ _ j (seg_again rfl loop))))))
      | (refine seg_bind_wrap (wpAny_rule ?_); show Seg _ A _ _ _ s₀ _ ((standAt iter.pos >>= _).wrap _ _ _ _) [] s; exact seg_bind_wrap (wpAny_standAt (seg_bind_wrap (L.self _ s _ _ j (seg_again rfl loop)))))
end
theorem bare_put {s : Shared} {g : Nat} {x : GenState} (h : AllBare s.gens) (hx : x.bare = true) : AllBare (s.setGen g x).gens := fun y hy => by
  rcases Array.mem_or_eq_of_mem_setIfInBounds hy with q | q
  · exact h y q
  · rw [q]; exact hx
theorem put_at {s : Shared} {g : Nat} {x : GenState} (h : g < s.gens.size) : (s.setGen g x).gens[g]? = some x := by
  show (s.gens.setIfInBounds g x)[g]? = some x
  simp [h]
/-- the generator g at a, about to tell its item j; c: how its text is reached -/
structure GAt (prog : Program) (w : World) (A : Around) (a : Addr) (g n₀ : Nat) (F : Nat → Value → Prop) (J : Nat → Shared → Prop) (D : Shared → Prop) (j : Nat) (s : Shared) : Prop where
  inv : J j s
  go : ∃ gs, s.gens[g]? = some gs ∧ ∀ gs', AllBare gs' → gs.Goes (model prog w) A.in1 (gR D) (gY n₀ F J) (n₀ - j) (.send .none) { s with gens := gs' }
/-- what all() has of such a generator -/
structure GAll (A : Around) (a : Addr) (g : Nat) (J : Nat → Shared → Prop) (D : Shared → Prop) : Prop where
  hh : A.handled = none
  room : A.depth < recursionLimit
  obj : ∀ j s, J j s → s.heap.IsGen a g ∧ s.heap.NoLimit ∧ AllBare s.gens
  gens : ∀ j s gs, J j s → AllBare gs → J j { s with gens := gs }
  bare : ∀ s, D s → AllBare s.gens
section
variable {a : Addr} {g n₀ j : Nat} {F : Nat → Value → Prop} {J : Nat → Shared → Prop} {D : Shared → Prop} {s : Shared} {Q : Option Value → Shared → Prop} {E : Value → Shared → Prop}
theorem gnext_item (L : GAll A a g J D) (hj : j < n₀) (h : GAt prog w A a g n₀ F J D j s) (hQ : ∀ v s', F j v → GAt prog w A a g n₀ F J D (j + 1) s' → Q (some v) s') : wpAny (model prog w) A (pyNext (.ref a)) Q E s := by
  obtain ⟨hi, gs, hgs, hgo⟩ := h
  obtain ⟨o1, o2, o3⟩ := L.obj _ _ hi
  have hg : g < s.gens.size := by
    rcases Nat.lt_or_ge g s.gens.size with z | z
    · exact z
    · rw [Array.getElem?_eq_none z] at hgs; cases hgs
  obtain ⟨m, hm⟩ : ∃ m, n₀ - j = m + 1 := ⟨n₀ - j - 1, by omega⟩
  refine wpAny_mono (kept_any (Q := fun o s' => s.gens.size ≤ s'.gens.size → Q o s') (E := E) kept_gens ?_) (fun _ _ x => x.2 x.1) fun _ _ x => x.2
  have hgo1 := hgo (s.setGen g .running).gens (bare_put o3 rfl)
  rw [hm] at hgo1
  refine wpAny_pyNext_genexpQ (P := fun n _ s₁ => n = 0 ∧ D s₁) L.hh o2 L.room o1 hgs hgo1 (fun v s₁ gs' hb hv => ?_) fun s₁ hp h' hk => ?_
  · obtain ⟨i, hi, e, hF, hJ, hk⟩ := hv
    have : i = j := by omega
    subst this
    intro hz
    have hz1 : g < s₁.gens.size := by
      have : (s₁.setGen g gs').gens.size = s₁.gens.size := Array.size_setIfInBounds
      omega
    have b1 := (L.obj _ _ hJ).2.2
    refine hQ v _ hF ⟨L.gens _ _ _ hJ (bare_put b1 hb), gs', put_at hz1, fun gs2 hb2 => ?_⟩
    have q := hk gs2 hb2
    have e2 : n₀ - (i + 1) = m := by omega
    rw [e2]
    exact q
  · exact absurd hp.1 (Nat.succ_ne_zero m)
theorem gnext_done (L : GAll A a g J D) (h : GAt prog w A a g n₀ F J D n₀ s) (hQ : ∀ s₁ gs h', D s₁ → AllBare gs → (∀ b o, s₁.heap.get? b = some o → h'.get? b = some o) → Q none { s₁ with gens := gs, heap := h' }) : wpAny (model prog w) A (pyNext (.ref a)) Q E s := by
  obtain ⟨hi, gs, hgs, hgo⟩ := h
  obtain ⟨o1, o2, o3⟩ := L.obj _ _ hi
  have hgo1 := hgo (s.setGen g .running).gens (bare_put o3 rfl)
  rw [Nat.sub_self] at hgo1
  refine wpAny_pyNext_genexpQ (P := fun n _ s₁ => n = 0 ∧ D s₁) L.hh o2 L.room o1 hgs hgo1 (fun v s₁ gs' hb hv => ?_) fun s₁ hp h' hk => ?_
  · obtain ⟨i, hi, e, _, _, hk⟩ := hv
    exact (hk _ AllBare.empty : False).elim
  · exact hQ s₁ _ h' hp.2 (bare_put (L.bare _ hp.2) rfl) hk
/-- all(): to the end, or to the first item that is false -/
theorem gall_loop {tr : Nat → Bool} {R : Result → Shared → Prop} (L : GAll A.in1 a g J D) (hF : ∀ i v, F i v → v = .bool (tr i)) : ∀ (k i : Nat) (s : Shared), n₀ - i = k → i ≤ n₀ → GAt prog w A.in1 a g n₀ F J D i s →
    (∀ j s', i ≤ j → j < n₀ → tr j = false → J (j + 1) s' → R (.ok (.ret (.bool false))) s') → ((∀ j, i ≤ j → j < n₀ → tr j = true) → ∀ s₁ gs h', D s₁ → AllBare gs → (∀ b o, s₁.heap.get? b = some o → h'.get? b = some o) → R (.ok (.ret (.bool true))) { s₁ with gens := gs, heap := h' }) →
    codeAny (model prog w) A (.builtin "all.loop" ⟨[.ref a], []⟩) R s := by
  intro k
  induction k with
  | zero =>
    intro i s hk hi h _ hT
    have hin : i = n₀ := by omega
    subst hin
    refine codeAny_builtin PySem.F.entry_all_loop ?_
    rw [Around.under_plainId PySem.F.plain_all_loop _]
    show wpAny _ A.in1 (pyNext (.ref a) >>= _) _ _ s
    refine wpAny_bind (gnext_done L h fun s₁ gs h' hd hb hk => ?_)
    refine wpAny_bind (wpAny_rule (wpAny_pure ?_))
    exact hT (fun j h1 h2 => absurd h2 (Nat.not_lt.mpr h1)) s₁ gs h' hd hb hk
  | succ k ih =>
    intro i s hk hi h hN hT
    have hlt : i < n₀ := by omega
    refine codeAny_builtin PySem.F.entry_all_loop ?_
    rw [Around.under_plainId PySem.F.plain_all_loop _]
    show wpAny _ A.in1 (pyNext (.ref a) >>= _) _ _ s
    refine wpAny_bind (gnext_item L hlt h fun v s' hv h' => ?_)
    have := hF i v hv
    subst this
    refine wpAny_bind (wpAny_holding (wpAny_truthy_bool ?_))
    refine wpAny_bind (wpAny_letGo ?_)
    cases hb : tr i with
    | true =>
      simp only [if_true]
      refine wpAny_pure ⟨plainId_quiet PySem.F.plain_all_loop _, ih (i + 1) _ (by omega) hlt h' (fun j s'' h1 h2 => hN j s'' (by omega) h2) fun q s₁ gs hh hd hbb hkk => ?_⟩
      refine hT (fun j h1 h2 => ?_) s₁ gs hh hd hbb hkk
      by_cases e : j = i
      · rw [e]; exact hb
      · exact q j (by omega) h2
    | false =>
      simp only [Bool.false_eq_true, if_false]
      refine wpAny_bind (wpAny_rule (wpAny_pure ?_))
      exact hN i s' (Nat.le_refl _) hlt hb h'.inv
theorem gall_call {tr : Nat → Bool} {Q : Value → Shared → Prop} (L : GAll A.in1 a g J D) (hF : ∀ i v, F i v → v = .bool (tr i)) (h : GAt prog w A.in1 a g n₀ F J D 0 s)
    (hN : ∀ j s', j < n₀ → tr j = false → J (j + 1) s' → Q (.bool false) s') (hT : (∀ j, j < n₀ → tr j = true) → ∀ s₁ gs h', D s₁ → AllBare gs → (∀ b o, s₁.heap.get? b = some o → h'.get? b = some o) → Q (.bool true) { s₁ with gens := gs, heap := h' }) :
    wpAny (model prog w) A (call (.builtin "all") [.ref a]) Q E s := by
  refine call_function_tree PySem.F.kind_all PySem.F.plain_all PySem.F.entry_all (PySem.F.args_all1 _) ?_
  unfold Builtin.«all»
  refine wpAny_bind (m := oneArg "all" _) (wpAny_pure ?_)
  refine wpAny_bind (wpAny_pyIter_gen (L.obj _ _ h.inv).1 ?_)
  exact wpAny_pure ⟨plainId_quiet PySem.F.plain_all_loop _, gall_loop L hF n₀ 0 s rfl (Nat.zero_le _) h (fun j s' _ h2 h3 h4 => hN j s' h2 h3 h4) fun q => hT fun j h2 => q j (Nat.zero_le _) h2⟩
end
end
end Dl
namespace Dl
open PySem PySem.Spec PyProof.Rows L2
/-! ### the frame of a generator expression -/
abbrev gEnv (X : Cx) (s : Shared) (scope : Scope) (code : Value) (bi : Addr) : Env := genEnv scope (cloFrom X.env.cells scope.names []) s.heap.objs.size code bi X.env
abbrev gCx (X : Cx) (s : Shared) (H : Hp) (N : List Str) (scope : Scope) (code : Value) (bi : Addr) (A' : Around) (fp : List Addr) : Cx :=
  { X with A := A', N := N, s_0 := s, H_0 := H, env := gEnv X s scope code bi, outer := X.stack, stack := gEnv X s scope code bi :: X.stack, ex := fp, fn := fun _ => false, calm := true, pn := [], xe := fun _ _ => False }
section
variable {X : Cx} {pins : List (Addr × Obj)} {σ : L2.St} {H : Hp} {s : Shared}
theorem gen_start {A' : Around} {fp : List Addr} {N : List Str} {σ' : L2.St} {scope : Scope} {code : Value} {bi : Addr} {h5 : Heap} {gs : Array GenState} {tk : Tok} {m : Str → Option Value} {pins2 : List (Addr × Obj)}
    (I : Inv X pins σ H s) (hk : scope.kind = .function) (hcell : ∀ y ∈ scope.names, y.2 ≠ .cell) (hfree : ∀ y ∈ scope.names, y.2 = .free → ∃ c, X.env.cells.lookup y.1 = some c)
    (hbi : bi = builtinsNs) (hA : A'.handled = none) (hf : A'.frames = some (gEnv X s scope code bi :: X.stack)) (hfp : ∀ b ∈ fp, FpOk X pins H b ∧ b < s.heap.objs.size)
    (kp : ∀ b o, s.heap.get? b = some o → h5.get? b = some o) (hns : h5.Ns s.heap.objs.size m) (hb : AllBare gs) (hlen : σ'.length = N.length)
    (hσ : ∀ (i : Nat) (y : Str) (v : V), N[i]? = some y → σ'[i]? = some (some v) → scope.names.lookup y = some .free ∧ ∃ c u, X.env.cells.lookup y = some c ∧ s.heap.IsCell c (some u) ∧ RelV v u)
    (hp : ∀ p ∈ pins2, h5.get? p.1 = some p.2 ∧ H p.1 = none ∧ p.1 ≠ s.heap.objs.size ∧ p.1 ∉ frs X.stack ∧ ∀ v, p.2.data ≠ .cell v) :
    Inv (gCx X s H N scope code bi A' fp) pins2 σ' H { s with heap := h5, gens := gs, toks := tk } := by
  have cm : ∀ {y c}, (y, c) ∈ cloFrom X.env.cells scope.names [] → X.env.cells.lookup y = some c ∧ c < s.heap.objs.size := fun {y c} hm => by
    rcases cloFrom_mem hm with hm | ⟨h1, rfl⟩
    · cases hm
    · obtain ⟨c, hc⟩ := hfree _ h1 rfl
      rw [hc]
      obtain ⟨w, z⟩ := I.cell _ _ hc
      exact ⟨rfl, z.lt⟩
  have mem : ∀ {y c}, (cloFrom X.env.cells scope.names []).lookup y = some c → X.env.cells.lookup y = some c ∧ c < s.heap.objs.size := fun {y c} e => cm (PySem.mem_of_lookup e)
  have look : ∀ {y}, scope.names.lookup y = some .free → ∃ c, (cloFrom X.env.cells scope.names []).lookup y = some c ∧ X.env.cells.lookup y = some c := fun {y} hl => by
    obtain ⟨c', e'⟩ := mem_lookup (cloFrom_has (cells := X.env.cells) (acc := []) (PySem.mem_of_lookup hl))
    exact ⟨c', e', (mem e').1⟩
  have ok : (gCx X s H N scope code bi A' fp).Ok := by
    refine ⟨I.ok.mod, hk, I.ok.glob, hbi, Nat.le_refl _, fun y z c e1 e2 => I.ok.inj y z c (mem e1).1 (mem e2).1, fun y hy => ?_, fun y c z _ => (Bool.false_ne_true z).elim, fun _ => hA, hf, .inr ⟨rfl, rfl⟩, fun b hb => ⟨?_, fun y c e z => ?_⟩, I.bs, Nat.le_trans I.ok.bsz I.sz, fun b o e hb => ?_, fun b hb z => ?_, I.stack, I.stkFree⟩
    · rcases hy with hy | hy
      · exact absurd rfl (hcell _ (PySem.mem_of_lookup (show scope.names.lookup y = some .cell from hy)))
      · obtain ⟨c, h1, _⟩ := look (show scope.names.lookup y = some .free from hy)
        exact ⟨c, h1⟩
    · exact Nat.ne_of_lt (hfp b hb).2
    · exact (hfp b hb).1.2.2.2.2.1 y c (mem e).1 z
    · rcases (hfp b hb).1.2.2.2.1 with z | z
      · exact I.ok.noex b o e z
      · exact absurd (Nat.lt_of_lt_of_le (Heap.lt_size e) (Nat.le_trans I.ok.bsz z)) (Nat.lt_irrefl _)
    · rcases List.mem_cons.mp (I.stkSub b z) with z | z
      · exact (hfp b hb).1.2.1 z
      · exact (hfp b hb).1.2.2.1 z
  refine ⟨ok, rfl, hb, Un.kept kp, ⟨m, hns, fun i y v e1 e2 e3 => ?_⟩, fun y c e => ?_, I.hok.fresh (Nat.le_refl _), fun y c e => I.freeC y c (mem e).1, fun p hq => hp p (by simpa using hq), I.hok.kept kp, hlen⟩
  · obtain ⟨q, c, u, h1, ⟨o, h2, h3⟩, h4⟩ := hσ i y v e1 e2
    obtain ⟨c', g1, g2⟩ := look q
    rw [h1] at g2; cases g2
    exact ⟨u, h4, .inr ⟨.inr q, c, g1, o, kp _ _ h2, h3⟩⟩
  · obtain ⟨w, o, h2, h3⟩ := I.cell y c (mem e).1
    exact ⟨w, o, kp _ _ h2, h3⟩
/-- what the frame of a generator expression leaves to the def that made it -/
theorem gen_back {A' : Around} {fp : List Addr} {N : List Str} {σ' : L2.St} {scope : Scope} {code : Value} {bi : Addr} {pins2 : List (Addr × Obj)} {H' : Hp} {s' : Shared}
    (I : Inv X pins σ H s) (hfp : ∀ b ∈ fp, FpOk X pins H b) (J : Inv (gCx X s H N scope code bi A' fp) pins2 σ' H' s') : Inv X pins σ H' s' :=
  I.call' (ch := fp) J.os J.base J.hok J.bare fun b hb => ⟨(hfp b hb).2.2.2.1, (hfp b hb).2.1, (hfp b hb).2.2.2.2.1, (hfp b hb).2.2.2.2.2⟩
end
end Dl
namespace Dl
open PySem PySem.Spec PyProof.Rows L2
/-! ### a generator expression's loop, by the words of its frame -/
section
variable {X : Cx} {P : Program} {w : World} {K : PySem.W.Frag}
/-- between two items: the frame stands, the iterator's own objects are pinned, W is what is known -/
def GJ (X : Cx) (p₀ : List (Addr × Obj)) (fp : List Addr) (tn : Nat → Heap → Prop) (W : Nat → L2.St → Hp → Prop) (i : Nat) (s : Shared) : Prop :=
  ∃ σ H, Inv X p₀ σ H s ∧ (∀ b ∈ fp, FpOk X p₀ H b) ∧ tn i s.heap ∧ W i σ H
def GD (X : Cx) (p₀ : List (Addr × Obj)) (W : Nat → L2.St → Hp → Prop) (n₀ : Nat) (s : Shared) : Prop := ∃ σ H, Inv X p₀ σ H s ∧ W n₀ σ H
theorem inv_gens {pins : List (Addr × Obj)} {σ : L2.St} {H : Hp} {s : Shared} (I : Inv X pins σ H s) {gs : Array GenState} (h : AllBare gs) : Inv X pins σ H { s with gens := gs } :=
  ⟨I.ok, I.os, h, I.base, I.loc, I.cell, I.free, I.freeC, I.pin, I.hok, I.len⟩
theorem gx_loop {A : Around} {elt tg iter : Expr} {scope : Scope} {pos : Pos} {it : Addr} {n₀ : Nat} {tr : Nat → Bool} {p₀ : List (Addr × Obj)} {fp : List Addr} {tn : Nat → Heap → Prop} {J : It} {W : Nat → L2.St → Hp → Prop} {g : TG} {te : TE}
    (hA : X.A = loopA A elt tg iter scope pos it X.env) (hc : X.calm = true) (T : Turn X.prog X.w X.K tg J fp it tn) (hxe : ∀ e s, ¬ X.xe e s) (hg : PG X tg g) (he : PE X elt te) (hex : ∀ b ∈ fp, b ∈ X.ex)
    (hgo : ∀ i σ H, i < n₀ → W i σ H → J.go i H) (hstop : ∀ σ H, W n₀ σ H → J.stop n₀ H)
    (hstep : ∀ i σ H x H2, i < n₀ → W i σ H → J.yld i H x H2 → g x σ H2 fun σ' H3 => te σ' H3 fun v H4 => v = .bl (tr i) ∧ W (i + 1) σ' H4) :
    GLoop X.prog X.w A elt tg iter scope pos it X.env n₀ (fun i v => v = .bool (tr i)) (GJ X p₀ fp tn W) (GD X p₀ W n₀) where
  gens := fun i s gs ⟨σ, H, I, f, t, k⟩ hb => ⟨σ, H, inv_gens I hb, f, t, k⟩
  turn := fun i s E hi ⟨σ, H, I, f, t, k⟩ => by
    rw [← hA]
    refine wpAny_mono (T.item X rfl rfl rfl hc i p₀ s σ H E I f t (hgo i σ H hi k)) (fun o s1 q => ?_) fun _ _ z => z
    obtain ⟨u, rfl, q⟩ := q
    refine ⟨u, rfl, wpAny_mono q (fun _ s2 q => ?_) fun _ _ z => z⟩
    obtain ⟨x, H2, I2, rx, hy, t2, hn⟩ := q
    have f2 : ∀ b ∈ fp, FpOk X p₀ H2 b := fun b hb => ⟨hn b hb, (f b hb).2⟩
    have I3 := Inv.pinned I2 f2 (T.obj _ _ t2)
    refine wpAny_mono (hg.run _ _ _ _ x u _ I3 rx (hstep i σ H x H2 hi k hy)) (fun _ s3 q => ?_) fun e s' z => (hxe e s' z).elim
    obtain ⟨σ', H3, I4, q⟩ := q
    refine wpAny_mono (he.run _ _ _ _ _ I4 q) (fun y s4 q => ?_) fun e s' z => (hxe e s' z).elim
    obtain ⟨v, H4, I5, ry, rfl, k4⟩ := q
    have at_ : ∀ b ∈ fp, ∀ o, s2.heap.get? b = some o → s4.heap.get? b = some o ∧ H4 b = none := fun b hb o e => by
      obtain ⟨h1, h2, _⟩ := I5.pin (b, o) (List.mem_append_right _ (List.mem_append_right _ (mem_pinsAt hb e)))
      exact ⟨h1, h2⟩
    refine ⟨ry, σ', H4, I5.unpinned, fun b hb => ⟨?_, (f b hb).2⟩, T.keep _ _ _ t2 fun b hb o e => (at_ b hb o e).1, k4⟩
    obtain ⟨o, e, _⟩ := T.obj _ _ t2 b hb
    exact (at_ b hb o e).2
  done := fun s E ⟨σ, H, I, f, t, k⟩ => by
    rw [← hA]
    refine wpAny_mono (T.done X rfl rfl rfl hc n₀ p₀ s σ H E I f t (hstop σ H k)) (fun o s1 q => ?_) fun _ _ z => z
    exact ⟨q.1, σ, H, q.2, k⟩
  self := fun A' s Q E ⟨σ, H, I, f, t, k⟩ hq => T.self A' 0 s Q E t hq
end
end Dl
namespace Dl
open PySem PySem.Spec PyProof.Rows L2
/-! ### all(element for target in source), the element may call -/
section
variable {X : Cx} {pins : List (Addr × Obj)} {σ : L2.St} {H : Hp} {s : Shared}
/-- what a generator expression's words come to -/
structure GWords (X : Cx) (N : List Str) (elt tg : Expr) (scope : Scope) (n₀ : Nat) (tr : Nat → Bool) (J : It) (W : Nat → L2.St → Hp → Prop) (g : TG) (te : TE) : Prop where
  go : ∀ i σ H, i < n₀ → W i σ H → J.go i H
  stop : ∀ σ H, W n₀ σ H → J.stop n₀ H
  step : ∀ i σ H x H2, i < n₀ → W i σ H → J.yld i H x H2 → g x σ H2 fun σ' H3 => te σ' H3 fun v H4 => v = .bl (tr i) ∧ W (i + 1) σ' H4
/-- the generator g has been made at a, in the state s5; what stands behind all() of it -/
def GReady (X : Cx) (pins : List (Addr × Obj)) (σ : L2.St) (n₀ : Nat) (tr : Nat → Bool) (W : Nat → L2.St → Hp → Prop) (a : Addr) (s5 : Shared) : Prop :=
  ∃ (g : Nat) (J : Nat → Shared → Prop) (D : Shared → Prop), GAll X.A.in1 a g J D ∧ GAt X.prog X.w X.A.in1 a g n₀ (fun i v => v = .bool (tr i)) J D 0 s5 ∧
    (∀ j s', J j s' → ∃ σ' H', Inv X pins σ H' s' ∧ W j σ' H') ∧ (∀ s', D s' → ∃ σ' H', Inv X pins σ H' s' ∧ W n₀ σ' H')
theorem gen_made {N : List Str} {σ' : L2.St} {elt tg iter : Expr} {scope : Scope} {pos : Pos} {code : Value} {it : Addr} {fp : List Addr} {tn : Nat → Heap → Prop} {J : It} {n₀ : Nat} {tr : Nat → Bool} {W : Nat → L2.St → Hp → Prop} {g : TG} {te : TE} {h' : Heap} {k : Nat}
    (hr : Room k X.A) (I : Inv X pins σ H s) (hkind : scope.kind = .function) (hco : scope.isCoroutine = false) (hcell : ∀ y ∈ scope.names, y.2 ≠ .cell) (hfree : ∀ y ∈ scope.names, y.2 = .free → ∃ c, X.env.cells.lookup y.1 = some c)
    (hlen : σ'.length = N.length) (hσ : ∀ (i : Nat) (y : Str) (v : V), N[i]? = some y → σ'[i]? = some (some v) → scope.names.lookup y = some .free ∧ ∃ c u, X.env.cells.lookup y = some c ∧ s.heap.IsCell c (some u) ∧ RelV v u)
    (T : Turn X.prog X.w X.K tg J fp it tn) (st : tn 0 s.heap) (hf : ∀ b ∈ fp, FpOk X pins H b) (hw : W 0 σ' H) (G : GWords X N elt tg scope n₀ tr J W g te)
    (hbody : ∀ (A' : Around), A' = loopA X.A.in1.in1 elt tg iter scope pos it (gEnv X s scope code builtinsNs) → PG (gCx X s H N scope code builtinsNs A' fp) tg g ∧ PE (gCx X s H N scope code builtinsNs A' fp) elt te)
    (hns : h'.Ns s.heap.objs.size (fun y => if y = ".0" then some (.ref it) else none)) (hsb : Heap.SameBut s.heap.objs.size (s.heap.push { cls := .type "frame", data := .dict #[] }) h') :
    GReady X pins σ n₀ tr W h'.objs.size { s with
      gens := s.gens.push (.fresh (.compStart (.GeneratorExp elt [⟨tg, iter, [], 0⟩] scope pos) 0 (.ref it) .none (gEnv X s scope code builtinsNs))),
      toks := s.toks + 1 + 1 + 1,
      heap := h'.push { cls := .type "generator", data := .fields #[.int s.gens.size 0, .str "<genexpr>" (s.toks + 1), .str (X.env.qual ++ "<genexpr>") (s.toks + 1 + 1)] } } := by
  have kp1 : ∀ b o, s.heap.get? b = some o → h'.get? b = some o := fun b o e => hsb.extBut b o (Nat.ne_of_lt (Heap.lt_size e)) (Heap.get?_push_of_some _ e)
  have sz : h'.objs.size = s.heap.objs.size + 1 := by rw [hsb.1, Heap.size_push]
  generalize hgo : ({ cls := .type "generator", data := .fields #[.int s.gens.size 0, .str "<genexpr>" (s.toks + 1), .str (X.env.qual ++ "<genexpr>") (s.toks + 1 + 1)] } : Obj) = go
  have kp : ∀ b o, s.heap.get? b = some o → (h'.push go).get? b = some o := fun b o e => Heap.get?_push_of_some _ (kp1 b o e)
  have lt : ∀ b ∈ fp, b < s.heap.objs.size := fun b hb => by
    obtain ⟨o, e, _⟩ := T.obj _ _ st b hb
    exact Heap.lt_size e
  have ha : (h'.push go).get? h'.objs.size = some go := Heap.get?_push_size _ (by rw [← hgo]; rfl)
  obtain ⟨A', hA⟩ : ∃ A', A' = loopA X.A.in1.in1 elt tg iter scope pos it (gEnv X s scope code builtinsNs) := ⟨_, rfl⟩
  have hA1 : A'.handled = none := by rw [hA]; exact hr.hd
  have hA2 : A'.frames = some (gEnv X s scope code builtinsNs :: X.stack) := by
    have e : X.A.in1.in1.frames = some X.stack := I.ok.frames
    rw [hA]
    simp [loopA, Around.over, I.ok.frames, pushEnvs, Code.envs, Code.isFrame, Code.env?, envsOf]
  have hst : h'.objs.size ∉ frs X.stack := fun z => by
    obtain ⟨_, o, ho, _⟩ := I.stack.mem z
    exact absurd (Heap.lt_size ho) (by rw [sz]; exact Nat.not_lt.mpr (Nat.le_succ _))
  have I2 := gen_start (σ' := σ') (N := N) (code := code) (pins2 := [(h'.objs.size, go)]) (gs := s.gens.push (.fresh (.compStart (.GeneratorExp elt [⟨tg, iter, [], 0⟩] scope pos) 0 (.ref it) .none (gEnv X s scope code builtinsNs)))) (tk := s.toks + 1 + 1 + 1)
    I hkind hcell hfree rfl hA1 hA2 (fun b hb => ⟨hf b hb, lt b hb⟩) kp (hns.push _) (I.bare.push rfl) hlen hσ (fun p hp => by
      have e : p = (h'.objs.size, go) := by simpa using hp
      subst e
      exact ⟨ha, I.hok.fresh (by rw [sz]; exact Nat.le_succ _), by rw [sz]; exact Nat.succ_ne_self _, hst, fun v z => by rw [← hgo] at z; cases z⟩)
  obtain ⟨hg, he⟩ := hbody A' hA
  have hp : ∀ b ∈ fp, b ≠ h'.objs.size := fun b hb => Nat.ne_of_lt (by rw [sz]; exact Nat.lt_succ_of_lt (lt b hb))
  have f2 : ∀ b ∈ fp, FpOk (gCx X s H N scope code builtinsNs A' fp) [(h'.objs.size, go)] H b := fun b hb => by
    refine ⟨(hf b hb).1, Nat.ne_of_lt (lt b hb), fun z => ?_, .inl hb, fun x c e => ?_, fun p hq => ?_⟩
    · rcases List.mem_cons.mp (I.stkSub b z) with z | z
      · exact (hf b hb).2.1 z
      · exact (hf b hb).2.2.1 z
    · refine (hf b hb).2.2.2.2.1 x c ?_
      have e : (cloFrom X.env.cells scope.names []).lookup x = some c := e
      rcases cloFrom_mem (PySem.mem_of_lookup e) with hm | ⟨h1, rfl⟩
      · cases hm
      · obtain ⟨c, hc⟩ := hfree _ h1 rfl
        rw [hc]
        rfl
    · have e : p = (h'.objs.size, go) := by simpa using hq
      rw [e]
      exact Ne.symm (hp b hb)
  have L := gx_loop (X := gCx X s H N scope code builtinsNs A' fp) (A := X.A.in1.in1) (tr := tr) (p₀ := [(h'.objs.size, go)]) (scope := scope) (pos := pos) (iter := iter) hA rfl T (fun _ _ z => z) hg he (fun b hb => hb) G.go G.stop G.step
  refine ⟨s.gens.size, _, _, ⟨hr.hd, ?_, fun j s' q => ?_, L.gens, fun s' q => ?_⟩, ⟨⟨σ', H, I2, f2, T.keep _ _ _ st fun b hb o e => kp b o e, hw⟩, _, Array.getElem?_push_size .., fun gs' hb => ⟨rfl, seg_gs hco L _ _ ⟨σ', H, inv_gens I2 hb, f2, T.keep _ _ _ st fun b hb o e => kp b o e, hw⟩⟩⟩, fun j s' q => ?_, fun s' q => ?_⟩
  · have := hr.dp
    show X.A.depth < _
    omega
  · obtain ⟨σ1, H1, I1, _⟩ := q
    obtain ⟨e, _⟩ := I1.pin (h'.objs.size, go) (by simp)
    refine ⟨?_, I1.nolimit, I1.bare⟩
    subst hgo
    exact ⟨_, _, _, e, rfl, rfl, rfl⟩
  · obtain ⟨σ1, H1, I1, _⟩ := q
    exact I1.bare
  · obtain ⟨σ1, H1, I1, _, _, k1⟩ := q
    exact ⟨σ1, H1, gen_back I hf I1, k1⟩
  · obtain ⟨σ1, H1, I1, k1⟩ := q
    exact ⟨σ1, H1, gen_back I hf I1, k1⟩
end
end Dl
namespace Dl
open PySem PySem.Spec PyProof.Rows L2 GxR
section
variable {X : Cx}
/-- what the frame's slots are at first: the targets' are free, the others hold what is captured -/
def capS (n : Nat) (σ : L2.St) (caps : List Nat) : L2.St := List.replicate n none ++ caps.map fun j => (σ[j]?).getD none
def isFree (sc : Scope) (y : Str) : Bool := match sc.names.lookup y with
  | some .free => true
  | _ => false
def isCell (sc : Scope) (y : Str) : Bool := match sc.names.lookup y with
  | some .cell => true
  | _ => false
theorem isFree_of {sc : Scope} {y : Str} (h : isFree sc y = true) : sc.names.lookup y = some .free := by
  unfold isFree at h
  split at h
  · assumption
  · cases h
theorem isCell_of {sc : Scope} {y : Str} (h : isCell sc y = true) : sc.names.lookup y = some .cell := by
  unfold isCell at h
  split at h
  · assumption
  · cases h
/-- the captured names: in the frame behind the targets, in the def at caps -/
def capOk (N M : List Str) (n : Nat) (caps : List Nat) (sc so : Scope) : Bool :=
  decide (N.length = n + caps.length) && (List.range caps.length).all fun i => match N[n + i]?, caps[i]? with
    | some y, some j => (match M[j]? with
      | some z => z == y
      | none => false) && isFree sc y && isCell so y
    | _, _ => false
/-- all(element for target in source); behind it the def's table of codes may have grown -/
def tAllX (X : Cx) (N : List Str) (n : Nat) (caps : List Nat) (P : Addr) (elt tg : Expr) (scope : Scope) (g : TG) (te : TE) (wi : TI) : TE := fun σ H Q => wi σ H fun J H1 => TabG H1 P ∧ ∀ H2, Tabbed P H1 H2 →
  ∃ (n₀ : Nat) (tr : Nat → Bool) (W : Nat → L2.St → Hp → Prop), W 0 (capS n σ caps) H2 ∧ GWords X N elt tg scope n₀ tr J W g te ∧
    (∀ j σ' H', j < n₀ → tr j = false → W (j + 1) σ' H' → Q (.bl false) H') ∧ ((∀ j, j < n₀ → tr j = true) → ∀ σ' H', W n₀ σ' H' → Q (.bl true) H')
theorem cap_cells {pins : List (Addr × Obj)} {σ : L2.St} {H : Hp} {s : Shared} {N : List Str} {n : Nat} {caps : List Nat} {scope : Scope} (I : Inv X pins σ H s) (hc : capOk N X.N n caps scope X.env.scope = true) :
    (capS n σ caps).length = N.length ∧ ∀ (i : Nat) (y : Str) (v : V), N[i]? = some y → (capS n σ caps)[i]? = some (some v) → scope.names.lookup y = some .free ∧ ∃ c u, X.env.cells.lookup y = some c ∧ s.heap.IsCell c (some u) ∧ RelV v u := by
  unfold capOk at hc
  rw [Bool.and_eq_true] at hc
  have hl := of_decide_eq_true hc.1
  refine ⟨by simp [capS, hl], fun i y v e1 e2 => ?_⟩
  unfold capS at e2
  by_cases hi : i < n
  · rw [List.getElem?_append_left (by simpa using hi), List.getElem?_replicate, if_pos hi] at e2
    cases e2
  · rw [List.getElem?_append_right (by simp; omega), List.length_replicate, List.getElem?_map] at e2
    cases hj : caps[i - n]? with
    | none => rw [hj] at e2; cases e2
    | some j =>
      rw [hj, Option.map_some] at e2
      have hlt := (List.getElem?_eq_some_iff.mp hj).1
      have q := List.all_eq_true.mp hc.2 (i - n) (List.mem_range.mpr hlt)
      rw [show n + (i - n) = i by omega, e1, hj] at q
      simp only [Bool.and_eq_true] at q
      obtain ⟨⟨q1, q2⟩, q3⟩ := q
      have e3 : σ[j]? = some (some v) := by
        cases z : σ[j]? with
        | none => rw [z] at e2; cases e2
        | some o => rw [z] at e2; cases e2; rfl
      have e4 : X.N[j]? = some y := by
        cases z : X.N[j]? with
        | none => rw [z] at q1; cases q1
        | some z' => rw [z] at q1; rw [eq_of_beq q1]
      obtain ⟨m, _, h2⟩ := I.loc
      obtain ⟨u, ru, look⟩ := h2 j y v e4 e3 (.inr (.inl (isCell_of q3)))
      refine ⟨isFree_of q2, ?_⟩
      rcases look with ⟨k, _⟩ | ⟨_, c, k1, k2⟩
      · have k : X.env.scope.names.lookup y = some .local := k
        rw [isCell_of q3] at k
        cases k
      · exact ⟨c, u, k1, k2, ru⟩
theorem pe_allX {c P : Addr} {elt tg iter : Expr} {p pos gpos : Pos} {scope : Scope} {N : List Str} {n : Nat} {caps : List Nat} {wi : TI} {k : Nat} {g : TG} {te : TE}
    (hr : Room k X.A) (hg : Gl X "all") (hm : X.mg "all" = none) (hb : bootBuiltins "all" = some (.builtin "all")) (TB : TabB X.base X.mg c P) (hcode : X.env.code = .ref c)
    (hkind : scope.kind = .function) (hco : scope.isCoroutine = false) (hcell : ∀ y ∈ scope.names, y.2 ≠ .cell) (hdot : scope.names.lookup (".0" : Str) = some NameKind.local) (hfree : ∀ y ∈ scope.names, y.2 = .free → ∃ c, X.env.cells.lookup y.1 = some c)
    (hcap : capOk N X.N n caps scope X.env.scope = true) (hi : PI X tg iter wi) (hs : ∀ v, genFold iter X.env v = pure v)
    (hbody : ∀ (s : Shared) (H : Hp) (code : Value) (it : Addr) (fp : List Addr) (A' : Around), A' = loopA X.A.in1.in1 elt tg iter scope gpos it (gEnv X s scope code builtinsNs) → PG (gCx X s H N scope code builtinsNs A' fp) tg g ∧ PE (gCx X s H N scope code builtinsNs A' fp) elt te)
    (he : starEach [.GeneratorExp elt [⟨tg, iter, [], 0⟩] scope gpos] X.env = (false, eval (.GeneratorExp elt [⟨tg, iter, [], 0⟩] scope gpos) X.env) :: starEach [] X.env := by rfl) :
    PE X (.Call (.Name "all" p) [.GeneratorExp elt [⟨tg, iter, [], 0⟩] scope gpos] [] pos) (tAllX X N n caps P elt tg scope g te wi) := by
  refine ⟨fun pins s σ H Q I h => ?_⟩
  refine wpAny_Call_Name_kw (ld_blt I hg hm hb ?_)
  refine PyProof.Rows.callWith_builtin1 ?_ he (by rfl)
  rw [he]
  show wpAny _ _ (spliced ((false, eval (.GeneratorExp elt [⟨tg, iter, [], 0⟩] scope gpos) X.env) :: backTo pos (starEach [] X.env))) _ _ s
  refine Calls.spliced_cons ?_
  refine wpAny_GeneratorExp_make hco (closure_ok hfree) hcell hdot hkind (by have := hr.dp; omega) ?_ hs
  refine wpAny_mono (hi.run pins s σ H _ I h) (fun xv s1 q => ?_) fun _ _ z => z
  refine wpAny_mono q (fun itv s2 q => ?_) fun _ _ z => z
  obtain ⟨it, fp, tn, J, H1, rfl, I1, T, st, hf, ⟨ps, hP, ht⟩, q⟩ := q
  refine ⟨I1.nolimit, ?_⟩
  have hPs : s2.heap.get? P = some { cls := .none, data := .fields ps } := I1.hok P _ hP
  have cd : PySem.W.CodeHd s2.heap c P := TB.code.keeps fun b u e => I1.bk b u e
  have cont : ∀ (code : Value) (h3 : Heap) (tk : Nat) (ps' : Array Value), Heap.ExtBut P s2.heap h3 → h3.get? P = some { cls := .none, data := .fields ps' } → (∃ more, ps' = ps ++ more) → TriplesOk ps'.toList →
      wpAny (model X.prog X.w) X.A (builtinsFor X.env.globals X.env.builtins) (fun bi s₄ => ∀ h' : Heap, h'.Ns s₄.heap.objs.size (fun y => if y = ".0" then some (.ref it) else none) → Heap.SameBut s₄.heap.objs.size (s₄.heap.push { cls := .type "frame", data := .dict #[] }) h' →
          wpAny (model X.prog X.w) X.A (spliced (backTo pos (starEach [] X.env)) >>= fun x => pure (Value.ref h'.objs.size :: x)) (fun us s' => wpAny (model X.prog X.w) X.A (call (.builtin "all") us) (EP X pins σ Q) X.xe s') X.xe { s₄ with
            gens := s₄.gens.push (.fresh (.compStart (.GeneratorExp elt [⟨tg, iter, [], 0⟩] scope gpos) 0 (.ref it) .none (genEnv scope (cloFrom X.env.cells scope.names []) s₄.heap.objs.size code bi X.env))),
            toks := s₄.toks + 1 + 1 + 1,
            heap := h'.push { cls := .type "generator", data := .fields #[.int s₄.gens.size 0, .str "<genexpr>" (s₄.toks + 1), .str (X.env.qual ++ "<genexpr>") (s₄.toks + 1 + 1)] } }) X.xe { s2 with heap := h3, toks := tk } := by
    intro code h3 tk ps' hx hP3 hmore ht3
    obtain ⟨more, em⟩ := hmore
    obtain ⟨bm, ob, e1, e2, e3, e4, e5, e6, e7, e8⟩ := TB.bm
    have keep3 : ∀ b u, b ≠ P → s2.heap.get? b = some u → h3.get? b = some u := fun b u hb e => hx b u hb e
    refine wpAny_builtinsFor (m := X.mg) (by rw [I1.ok.glob]; exact (I1.mod.glob.keeps I1.bk).extBut hx TB.gP) e1 e2 (keep3 _ _ e4 (I1.bk _ _ e5)) e6 e7 e8 ?_
    intro h' hns hsb
    have I3 := inv_tab (more := more) (h' := h3) (g' := s2.gens) (d' := s2.drawn) (t' := tk) I1 hP (fun b o hb e => keep3 b o hb e) (by rw [← em]; exact hP3) I1.bare
    have tabd : Tabbed P H1 (upd H1 P (.tbl (ps ++ more))) := ⟨⟨ps ++ more, upd_same, by rw [← em]; exact ht3⟩, fun b hb => upd_ne hb⟩
    obtain ⟨n₀, tr, W, w0, G, qf, qt⟩ := q _ tabd
    have ne : ∀ b ∈ fp, b ≠ P := fun b hb z => by
      have := (hf b hb).1
      rw [z, hP] at this
      cases this
    have f3 : ∀ b ∈ fp, FpOk X pins (upd H1 P (.tbl (ps ++ more))) b := fun b hb => ⟨by rw [upd_ne (ne b hb)]; exact (hf b hb).1, (hf b hb).2⟩
    have st3 : tn 0 h3 := T.keep _ _ _ st fun b hb o e => keep3 b o (ne b hb) e
    have R := gen_made (pos := gpos) (iter := iter) (code := code) (σ' := capS n σ caps) hr I3 hkind hco hcell hfree (cap_cells I3 hcap).1 (cap_cells I3 hcap).2 T st3 f3 w0 G (fun A' hA => hbody _ _ _ _ _ A' hA) hns hsb
    obtain ⟨g', J', D', L, Gt, bj, bd⟩ := R
    refine wpAny_bind (Calls.spliced_nil (wpAny_pure ?_))
    refine gall_call L (fun i v e => e) Gt (fun j s' hj ht' hJ => ?_) fun hall s1' gs h2 hD hb2 hk2 => ?_
    · obtain ⟨σ', H', I', w'⟩ := bj _ _ hJ
      exact ⟨.bl false, H', I', rfl, qf j σ' H' hj ht' w'⟩
    · obtain ⟨σ', H', I', w'⟩ := bd _ hD
      exact ⟨.bl true, H', inv_gens (I'.kept hk2) hb2, rfl, qt hall σ' H' w'⟩
  cases hcf : codeAmong gpos ps.toList with
  | none =>
    refine wpAny_genexprCodeX hcode (cd.code hPs ht) (cd.tab hPs) hcf fun c' h' tk hx hge hlt hco' _ htab' _ => ?_
    obtain ⟨o1, vs, f1, tf, fl, tg', inF, tx, tt, op, _, _, _, _, _, _, _, _, _, htr, _⟩ := hco'
    exact cont _ h' tk _ hx htab'.2 ⟨_, rfl⟩ htr
  | some cv =>
    refine wpAny_genexprCode_hit hcode (cd.code hPs ht) hcf ?_
    exact cont cv s2.heap s2.toks ps (Heap.ExtBut.refl _ _) hPs ⟨#[], by simp⟩ ht
end
end Dl
namespace Dl
open PySem PySem.Spec PyProof.Rows L2
/-! ### fractions with bounds -/
/-- a fraction in lowest terms whose parts are below 2 ^ k -/
structure Fk (k : Nat) (p q : Int) : Prop where
  f : Frac p q
  t : p.natAbs < 2 ^ k
  b : q.natAbs < 2 ^ k
theorem Fk.up {k m : Nat} {p q : Int} (h : Fk k p q) (hk : k ≤ m := by decide) : Fk m p q := ⟨h.f, two_le h.t hk, two_le h.b hk⟩
theorem Fk.pos {k : Nat} {p q : Int} (h : Fk k p q) : 0 < q := h.f.pos
theorem sum_lt {k m : Nat} {p q u v : Int} (p1 : p.natAbs < 2 ^ k) (q1 : q.natAbs < 2 ^ k) (u1 : u.natAbs < 2 ^ m) (v1 : v.natAbs < 2 ^ m) : (p * v + u * q).natAbs < 2 ^ (k + m + 1) := by
  have h1 := natAbs_mul_lt p1 v1
  have h2 := natAbs_mul_lt u1 q1
  rw [Nat.add_comm m k] at h2
  exact natAbs_add_lt h1 h2
theorem dif_lt {k m : Nat} {p q u v : Int} (p1 : p.natAbs < 2 ^ k) (q1 : q.natAbs < 2 ^ k) (u1 : u.natAbs < 2 ^ m) (v1 : v.natAbs < 2 ^ m) : (p * v - u * q).natAbs < 2 ^ (k + m + 1) := by
  rw [Int.sub_eq_add_neg, ← Int.neg_mul]
  exact sum_lt p1 q1 (by rw [Int.natAbs_neg]; exact u1) v1
/-- a fraction that is another one in lowest terms -/
theorem fk_of {k : Nat} {t b s r : Int} (f : Frac s r) (hb : b ≠ 0) (e : t * r = b * s) (ht : t.natAbs < 2 ^ k) (hb2 : b.natAbs < 2 ^ k) : Fk k s r := by
  obtain ⟨l1, l2⟩ := f.le hb e
  exact ⟨f, Nat.lt_of_le_of_lt l2 ht, Nat.lt_of_le_of_lt l1 hb2⟩
theorem frac_same {t b s r s' r' : Int} (k : Frac s r) (k' : Frac s' r') (hb : b ≠ 0) (h : t * r = b * s) (h' : t * r' = b * s') : s' = s ∧ r' = r := by
  refine k'.one k (Int.eq_of_mul_eq_mul_left hb ?_)
  rw [← Int.mul_assoc, ← h', ← Int.mul_assoc, ← h, Int.mul_right_comm]
theorem mul_ne {q v : Int} (h : 0 < q) (g : 0 < v) : q * v ≠ 0 := Int.ne_of_gt (Int.mul_pos h g)
/-- the order of two fractions: -1, 0, 1 -/
def cmpT (p q u v : Int) : Int := if p * v < u * q then -1 else if u * q < p * v then 1 else 0
/-- data that is itself when asked by == -/
def selfEq : PyData → Prop
  | .int _ => True
  | .str _ => True
  | .bool _ => True
  | x => SeqAt.shaped x = true ∧ x.eqv x = true
theorem gEqv_self {x : PyData} {P : DV → Prop} (h : selfEq x) (q : P (.d (.bool true))) : gEqv id x x P := by
  cases x with
  | int i => simpa [gEqv] using q
  | str i => simpa [gEqv] using q
  | bool i => simpa [gEqv] using q
  | none => obtain ⟨a, b⟩ := h; exact ⟨a, a, by rw [b]; exact q⟩
  | list xs => obtain ⟨a, b⟩ := h; exact ⟨a, a, by rw [b]; exact q⟩
  | tuple xs => obtain ⟨a, b⟩ := h; exact ⟨a, a, by rw [b]; exact q⟩
  | dict xs => obtain ⟨a, b⟩ := h; exact ⟨a, a, by rw [b]; exact q⟩
theorem self2 (a b : Int) : selfEq (.tuple [.int a, .int b]) := ⟨small2 a b, same2 a b⟩
theorem sh2 {a b : Int} {j : Nat} (ha : a.natAbs < 2 ^ j) (hb : b.natAbs < 2 ^ j) (h0 : 0 < j := by decide) (hj : j < 1920 := by decide) : Sh (.tuple [.int a, .int b]) :=
  (sn_tup (m := 2) fun z hz => by
    simp only [List.mem_cons, List.not_mem_nil, or_false] at hz
    rcases hz with rfl | rfl
    · exact sn_int (j := j) ha h0 hj
    · exact sn_int (j := j) hb h0 hj).sh (by decide) (by omega)
/-! ### xs[::-1] of a list -/
section
variable {X : Cx} {w : Wn} {e : Expr} {te : DT}
theorem RpA.rev {K : PySem.W.Frag} {F : Hp} {vs : List V} {xs : List PyData} (r : RpA K F vs xs) : RpA K F vs.reverse xs.reverse := by
  induction vs generalizing xs with
  | nil => cases r; exact .nil
  | cons v vs ih =>
    cases r with
    | cons h t =>
      rw [List.reverse_cons, List.reverse_cons]
      exact (ih t).app (.cons h .nil)
def tRevD (te : DT) : DT := fun env P => te env fun u => rd u fun x => match x with
  | .list xs => P (.fr xs.reverse)
  | _ => False
theorem d_rev {k p1 p2 p3 pos} (he : DPE X w e te) : DPE X w (.Subscript e (.Slice none none (some (.UnaryOp .USub (.Constant (.int 1) k p1) p2)) p3) pos) (tRevD te) :=
  pe_weak (pe_revL he) fun σ H Q ⟨env, F, P, r, h, q⟩ => ⟨env, F, _, r, h, fun dv v F1 H1 s1 r1 h1 => by
    obtain ⟨x, x1, h1⟩ := rd_ok r1 h1
    split at h1
    · next xs =>
      obtain ⟨m, vs, rfl, e, ra⟩ := x1.lst s1.sub
      exact ⟨m, vs, rfl, SqL.of e, res_new s1.wd ra.rev (fun dv v F4 H4 s4 r4 h4 => q dv v F4 H4 (s1.trans s4) (r4.early s1) h4) h1⟩
    · exact h1.elim⟩
theorem rvE (te : DT) (env : List Sl) (P : DV → Prop) : tRevD te env P = te env fun u => rd u fun x => match x with
  | .list xs => P (.fr xs.reverse)
  | _ => False := propext ⟨fun h => h, fun h => h⟩
end
end Dl
namespace Dl
open PySem PySem.Spec PyProof.Rows L2 GxR
/-! ### all(element for x in source) as a reading -/
theorem loop_guards {A : Around} {elt tg iter : Expr} {scope : Scope} {pos : Pos} {I : Addr} {cenv : Env} (h : A.guards = some []) : (loopA A.in1.in1 elt tg iter scope pos I cenv).guards = some [] := by
  have e : A.in1.in1.guards = some [] := h
  simp [loopA, Around.over, e, pushGuards, Code.guards, Code.isGuard, guardsOf]
theorem loop_room {A : Around} {k : Nat} {elt tg iter : Expr} {scope : Scope} {pos : Pos} {I : Addr} {cenv : Env} (h : Room (k + 1) A) : Room k (loopA A.in1.in1 elt tg iter scope pos I cenv) := by
  obtain ⟨hd, dp, un⟩ := h
  refine ⟨hd, ?_, ?_⟩
  · have e : (loopA A.in1.in1 elt tg iter scope pos I cenv).depth ≤ A.depth + 3 := by
      simp [loopA, Around.over, frameCount, Code.weight, Code.isFrame, Code.frames, Around.in1, Code.isCreation, Code.isGuard, Code.isCaller]
      try omega
    omega
  · have e : (loopA A.in1.in1 elt tg iter scope pos I cenv).units ≤ A.units + 16 := by
      simp [loopA, Around.over, unitsOf, Code.cUnits, Code.isFrame, Code.frames, Around.in1]
      try omega
    omega
def capSl : Option Sl → Sl
  | some (.d x) => .d x
  | some (.raw v) => .raw v
  | some .bag => .bag
  | _ => .un
def capD (env : List Sl) (caps : List Nat) : List Sl := caps.map fun j => capSl env[j]?
def tAll1 (it : DIt) (te : DT) (caps : List Nat) : DT := fun env P => it env fun xs => ∃ f : PyData → Bool, (∀ x ∈ xs, te (.d x :: capD env caps) fun dv => dv = .d (.bool (f x))) ∧ P (.d (.bool (xs.all f)))
def lfF (K : PySem.W.Frag) (ts : List Addr) (t : DT) : TE := fun σ H Q => ∃ w : Wn, w.b.ts = ts ∧ lf K w t σ H Q
def lfH (K : PySem.W.Frag) (ts : List Addr) (g : DG) : TG := fun v σ H Q => ∃ w : Wn, w.b.ts = ts ∧ lfG K w g v σ H Q
theorem pe_F {Y : Cx} {ts : List Addr} {e : Expr} {t : DT} (h : ∀ w : Wn, w.b.ts = ts → DPE Y w e t) : PE Y e (lfF Y.K ts t) := ⟨fun p s σ H Q I ⟨w, q, z⟩ => (h w q).run p s σ H Q I z⟩
theorem pg_H {Y : Cx} {ts : List Addr} {tg : Expr} {g : DG} (h : ∀ w : Wn, w.b.ts = ts → PG Y tg (lfG Y.K w g)) : PG Y tg (lfH Y.K ts g) := by
  constructor
  intros
  obtain ⟨w, q, z⟩ := ‹lfH _ _ _ _ _ _ _›
  obtain ⟨h1⟩ := h w q
  first | exact h1 _ _ _ _ _ _ _ ‹_› ‹_› z | exact h1 _ _ _ _ _ _ _ _ ‹_› ‹_› z
def trD (xs : List PyData) (f : PyData → Bool) (i : Nat) : Bool := match xs[i]? with
  | some x => f x
  | none => false
section
variable {X : Cx} {w : Wn}
theorem cap_rel {K : PySem.W.Frag} {b : Bg} {F₀ H₀ F H F1 H1 : Hp} {env : List Sl} {σ : L2.St} {caps : List Nat} (r : Rel K b F₀ H₀ env σ F H) (w1 : Wd K b F1 H1) (e1 : Same F F1) : Rel K b F1 H1 (.un :: capD env caps) (capS 1 σ caps) F1 H1 := by
  refine ⟨by simp [capS, capD], w1.refl, fun i s h => ?_, fun i j l xs ys h1 _ => ?_⟩
  · cases i with
    | zero => cases h; exact True.intro
    | succ i =>
      rw [List.getElem?_cons_succ] at h
      unfold capD at h
      rw [List.getElem?_map] at h
      have eS : (capS 1 σ caps)[i + 1]? = (caps[i]?).map fun j => (σ[j]?).getD none := by simp [capS]
      rw [eS]
      cases hj : caps[i]? with
      | none => rw [hj] at h; cases h
      | some j =>
        rw [hj, Option.map_some] at h
        rw [Option.map_some]
        unfold capSl at h
        split at h
        · next x ex =>
          cases h
          obtain ⟨v, e, q⟩ := r.at' j _ ex
          exact ⟨v, by rw [e]; rfl, q.up e1⟩
        · next v ex =>
          cases h
          have e := r.at' j _ ex
          show some _ = some (some v)
          rw [show σ[j]? = some (some v) from e]; rfl
        · next ex =>
          cases h
          have e := r.at' j _ ex
          show some _ = some (some (V.ref b.b))
          rw [show σ[j]? = some (some (V.ref b.b)) from e]; rfl
        · cases h; exact True.intro
  · cases i with
    | zero => cases h1
    | succ i =>
      rw [List.getElem?_cons_succ] at h1
      unfold capD at h1
      rw [List.getElem?_map] at h1
      cases hj : caps[i]? with
      | none => rw [hj] at h1; cases h1
      | some j =>
        rw [hj, Option.map_some] at h1
        unfold capSl at h1
        split at h1 <;> cases h1
theorem tab_stp {K : PySem.W.Frag} {b : Bg} {F H H2 : Hp} {P : Addr} (w1 : Wd K b F H) (hP : P ∈ b.ts) (t : Tabbed P H H2) : Stp K b F H F H2 := by
  obtain ⟨⟨qs, e2, k2⟩, rest⟩ := t
  have fP := (w1.bag.2.2.2 P hP).1
  obtain ⟨ps, e1, k1⟩ := (w1.bag.2.2.2 P hP).2
  obtain ⟨vs, eb⟩ := w1.bag.lst
  have nb : b.b ≠ P := fun z => by rw [z, e1] at eb; cases eb
  refine ⟨fun a o _ nt h => ?_, w1.bag.up (fun _ _ h => h) (rest _ nb) (fun t _ h1 h2 => ⟨h1, ?_⟩), fun _ _ h => h, fun a o h => ?_, w1.fb, fun _ h _ => h, fun a rs ne h => ?_⟩
  · rw [rest a (fun z => by rw [z, e1] at h; exact nt ps (Option.some.inj h).symm)]; exact h
  · by_cases z : t = P
    · rw [z]; exact ⟨qs, e2, k2⟩
    · obtain ⟨rs, z1, z2⟩ := h2
      exact ⟨rs, by rw [rest t z]; exact z1, z2⟩
  · rw [rest a (fun z => by rw [z, fP] at h; cases h)]; exact w1.sub a o h
  · by_cases z : a = P
    · rw [z]; exact ⟨qs, e2, fun _ => k2⟩
    · exact ⟨rs, by rw [rest a z]; exact h, fun q => q⟩
theorem d_all1 {ts : List Addr} {c P : Addr} {elt iter : Expr} {x : Str} {p pos gpos px : Pos} {scope : Scope} {N : List Str} {caps : List Nat} {it : DIt} {te : DT} {k : Nat}
    (ht : w.b.ts = ts) (hr : Room k X.A) (hg : Gl X "all") (hm : X.mg "all" = none) (TB : TabB X.base X.mg c P) (hcode : X.env.code = .ref c) (hP : P ∈ ts)
    (hkind : scope.kind = .function) (hco : scope.isCoroutine = false) (hcell : ∀ y ∈ scope.names, y.2 ≠ .cell) (hdot : scope.names.lookup (".0" : Str) = some NameKind.local) (hfree : ∀ y ∈ scope.names, y.2 = .free → ∃ c, X.env.cells.lookup y.1 = some c)
    (hcap : capOk N X.N 1 caps scope X.env.scope = true) (hN : N.Nodup) (hx : N[0]? = some x) (hl : scope.names.lookup x = some .local)
    (hi : PI X (.Name x px) iter (lfI X.K w it)) (hs : ∀ v, genFold iter X.env v = pure v)
    (hbody : ∀ (s : Shared) (H : Hp) (code : Value) (I : Addr) (fp : List Addr) (A' : Around), A' = loopA X.A.in1.in1 elt (.Name x px) iter scope gpos I (gEnv X s scope code builtinsNs) → ∀ w' : Wn, w'.b.ts = ts → DPE (gCx X s H N scope code builtinsNs A' fp) w' elt te)
    (hb : bootBuiltins "all" = some (.builtin "all") := by decide +kernel)
    (he : starEach [.GeneratorExp elt [⟨.Name x px, iter, [], 0⟩] scope gpos] X.env = (false, eval (.GeneratorExp elt [⟨.Name x px, iter, [], 0⟩] scope gpos) X.env) :: starEach [] X.env := by rfl) :
    DPE X w (.Call (.Name "all" p) [.GeneratorExp elt [⟨.Name x px, iter, [], 0⟩] scope gpos] [] pos) (tAll1 it te caps) := by
  refine pe_weak (pe_allX (N := N) (n := 1) (caps := caps) (g := lfH X.K ts (gnD 0)) (te := lfF X.K ts te) hr hg hm hb TB hcode hkind hco hcell hdot hfree hcap hi hs (fun s H code I fp A' hA => ⟨pg_H fun w' _ => dg_name (X := gCx X s H N scope code builtinsNs A' fp) hN hx (.inl hl) (.inr hl), pe_F fun w' hw => hbody s H code I fp A' hA w' hw⟩) he) fun σ H Q ⟨env, F, R, r, h, q⟩ => ?_
  refine ⟨env, F, _, r, h, fun xs J F1 H1 s1 wl h1 => ?_⟩
  obtain ⟨f, hf, hR⟩ := h1
  have pt : P ∈ w.b.ts := by rw [ht]; exact hP
  refine ⟨(s1.bag.2.2.2 P pt).2, fun H2 tb => ?_⟩
  have s2 := tab_stp s1.wd pt tb
  obtain ⟨G, Y, wk, hG, hY⟩ := wl.ex
  refine ⟨xs.length, trD xs f, fun _ σ' H' => ∃ s0 F', RelW X.K ⟨w.b, F1, H2⟩ (s0 :: capD env caps) σ' F' H', ⟨.un, F1, cap_rel r s2.wd s1.ex⟩, ⟨fun i σ' H' hi' k => ?_, fun σ' H' k => ?_, fun i σ' H' v H3 hi' k y => ?_⟩, fun j σ' H' hj hf' k => ?_, fun hall σ' H' k => ?_⟩
  · obtain ⟨s0, F', rel⟩ := k
    exact wk.goes i H' hi' (hG F' H' rel.st.ex rel.st.wd)
  · obtain ⟨s0, F', rel⟩ := k
    exact wk.stops H' (hG F' H' rel.st.ex rel.st.wd)
  · obtain ⟨s0, F', rel⟩ := k
    have yy := wk.yields i H' v H3 hi' (hG F' H' rel.st.ex rel.st.wd) y
    obtain ⟨F3, x', s3, ex, rx⟩ := hY i F' H' v H3 rel.st.ex rel.st.wd yy
    refine ⟨⟨w.b, F1, H2⟩, ht, _, F3, x', fun e => e = .d x' :: capD env caps, rel.step s3, rx, rfl, fun env' σ2 F4 H4 rel2 _ he2 => ?_⟩
    subst he2
    have hx' : x' ∈ xs := List.mem_of_getElem? ex
    refine ⟨⟨w.b, F1, H2⟩, ht, _, F4, _, rel2, hf x' hx', fun dv v5 F5 H5 s5 r5 h5 => ?_⟩
    subst h5
    refine ⟨?_, .d x', F5, rel2.step s5⟩
    rw [r5.blOf]
    unfold trD
    rw [ex]
  · obtain ⟨s0, F', rel⟩ := k
    have e : xs.all f = false := by
      rw [List.all_eq_false]
      unfold trD at hf'
      rw [List.getElem?_eq_getElem hj] at hf'
      exact ⟨xs[j], List.getElem_mem hj, by simp only at hf'; simp [hf']⟩
    rw [e] at hR
    exact q (.d (.bool false)) (.bl false) F' H' ((s1.trans s2).trans rel.st) (Rp.bl false) hR
  · obtain ⟨s0, F', rel⟩ := k
    have e : xs.all f = true := by
      rw [List.all_eq_true]
      intro x' hx'
      obtain ⟨j, hj, rfl⟩ := List.getElem_of_mem hx'
      have := hall j hj
      unfold trD at this
      rw [List.getElem?_eq_getElem hj] at this
      exact this
    rw [e] at hR
    exact q (.d (.bool true)) (.bl true) F' H' ((s1.trans s2).trans rel.st) (Rp.bl true) hR
end
theorem alE {it : DIt} {te : DT} {caps : List Nat} {env : List Sl} {P : DV → Prop} : tAll1 it te caps env P = it env fun xs => ∃ f : PyData → Bool, (∀ x ∈ xs, te (.d x :: capD env caps) fun dv => dv = .d (.bool (f x))) ∧ P (.d (.bool (xs.all f))) := propext ⟨fun h => h, fun h => h⟩
/-! ### the top's tables -/
section
variable {K : PySem.W.Frag} {h : Heap} {cs : List (Addr × Addr)}
theorem tabs_nil : Tabs K h [] := ⟨fun _ z => absurd z List.not_mem_nil, fun _ z => absurd z List.not_mem_nil, fun _ z => absurd z List.not_mem_nil⟩
theorem tabs_cons {q : Program} {lo : List Str} {mean : ExcName → Option Value} {mg mb : Str → Option Value} {d : DefRec} {x : Str} {f c P : Addr} {oc oq : Value} {od oe : Option Addr} {fd : FuncData} {sl sk : Array (Option Value)} {vs : Array Value}
    (T : PyProof.Rows.Top q lo mean mg mb h) (X : K.In h) (nt : PySem.W.noTabs K = true) (hr : (recsOf q).find? (fun e => e.name == x) = some d)
    (a : PySem.W.nsIn K mainGlobals x = some (some (.ref f))) (l : K.lookup f = some ⟨oc, od, .func fd, sl⟩) (r : fd.code = .ref c) (k : K.lookup c = some ⟨oq, oe, .fields vs, sk⟩) (v : vs[11]? = some (.ref P)) (t : Tabs K h cs) : Tabs K h ((c, P) :: cs) := by
  have ti : PySem.W.tabIn K x = some (c, P) := by
    unfold PySem.W.tabIn
    rw [a]
    simp only [l, r, k, v]
  obtain ⟨hd, em⟩ := PySem.W.tab_of T X hr ti
  have no : K.lookup P = none := by
    cases e : K.lookup P with
    | none => rfl
    | some o =>
      have z := X _ _ e
      rw [em] at z
      cases z
      have q2 := List.all_eq_true.mp nt _ (PySem.W.mem_of_lookupK e)
      cases q2
  refine ⟨fun p hp => ?_, fun p hp => ?_, fun p hp => ?_⟩
  · rcases List.mem_cons.mp hp with rfl | hp
    · exact em
    · exact t.emp p hp
  · rcases List.mem_cons.mp hp with rfl | hp
    · exact hd
    · exact t.head p hp
  · rcases List.mem_cons.mp hp with rfl | hp
    · exact no
    · exact t.out p hp
end
end Dl
namespace Dl
open PySem PySem.Spec PyProof.Rows L2 GxR
def noFree (sc : Scope) : Bool := sc.names.all fun y => match y.2 with
  | .free => false
  | _ => true
theorem hfree0 {sc : Scope} {cells : List (Str × Addr)} (h : noFree sc = true) : ∀ y ∈ sc.names, y.2 = .free → ∃ c, cells.lookup y.1 = some c := fun y hy e => by
  have q := List.all_eq_true.mp h y hy
  rw [e] at q
  cases q
/-! ### one statement by itself: what is behind it stays a name -/
theorem seqG {t u : DS} {d : DK} {env : List Sl} (h : ∀ R : List Sl → Prop, (∀ e, u d e → R e) → t { d with nx := R } env) : tSeqD t u d env := h (u d) fun _ z => z
/-! ### data that may be asked by == -/
structure Ly (n : Nat) (x : PyData) : Prop where
  lay : x.canLay0 = true
  deep : x.depth ≤ n
theorem Ly.up {n m : Nat} {x : PyData} (h : Ly n x) (hn : n ≤ m := by decide) : Ly m x := ⟨h.lay, Nat.le_trans h.deep hn⟩
theorem ly_int (i : Int) : Ly 0 (.int i) := ⟨by simp only [PyData.canLay0], by simp [PyData.depth]⟩
theorem ly_bool (i : Bool) : Ly 0 (.bool i) := ⟨by simp only [PyData.canLay0], by simp [PyData.depth]⟩
theorem ly_none : Ly 0 .none := ⟨by simp only [PyData.canLay0], by simp [PyData.depth]⟩
theorem ly_str {x : Str} (h : x.cps.all (fun c => decide (c < 0x110000)) = true := by decide +kernel) (e : (PyData.str x).canLay0 = true := by decide +kernel) : Ly 0 (.str x) := ⟨e, by simp [PyData.depth]⟩
theorem ly_all {n : Nat} : ∀ {xs : List PyData}, (∀ x ∈ xs, Ly n x) → PyData.canLayAll0 xs = true ∧ PyData.depthAll xs ≤ n
  | [], _ => by simp [PyData.canLayAll0, PyData.depthAll]
  | x :: xs, h => by
    obtain ⟨a, b⟩ := ly_all (xs := xs) fun y hy => h y (List.mem_cons_of_mem _ hy)
    have z := h x (List.mem_cons_self ..)
    refine ⟨by rw [PyData.canLayAll0, z.lay, a]; rfl, ?_⟩
    have := z.deep
    simp only [PyData.depthAll]; omega
theorem ly_lst {n : Nat} {xs : List PyData} (h : ∀ x ∈ xs, Ly n x) : Ly (n + 1) (.list xs) := by
  obtain ⟨a, b⟩ := ly_all h
  exact ⟨by rw [PyData.canLay0, a], by simp only [PyData.depth]; omega⟩
theorem ly_tup {n : Nat} {xs : List PyData} (h : ∀ x ∈ xs, Ly n x) : Ly (n + 1) (.tuple xs) := by
  obtain ⟨a, b⟩ := ly_all h
  exact ⟨by rw [PyData.canLay0, a], by simp only [PyData.depth]; omega⟩
theorem Ly.shaped {n : Nat} {x : PyData} (h : Ly n x) (hn : n ≤ 64 := by decide) : SeqAt.shaped x = true := by
  have := h.deep
  simp only [SeqAt.shaped, h.lay, Bool.true_and, decide_eq_true_eq]; omega
theorem Ly.self {n : Nat} {x : PyData} (h : Ly n x) : x.eqv x = true := SeqAt.eqv_refl x h.lay
theorem Ly.selfEq {n : Nat} {x : PyData} (h : Ly n x) (hn : n ≤ 64 := by decide) : selfEq x := by
  cases x <;> first | exact True.intro | exact ⟨h.shaped hn, h.self⟩
theorem ly2 (a b : Int) : Ly 1 (.tuple [.int a, .int b]) := ly_tup fun z hz => by
  simp only [List.mem_cons, List.not_mem_nil, or_false] at hz
  rcases hz with rfl | rfl <;> exact ly_int _
/-! ### x in ys, of flat things -/
def toV : PyData → V
  | .bool b => .bl b
  | .int i => .int i
  | .str x => .str x
  | _ => .non
def flP : PyData → Bool
  | .none => true
  | .bool _ => true
  | .int _ => true
  | .str _ => true
  | _ => false
def gMemF (f : Bool → Bool) : G2 := fun x y P => match y with
  | .list ys => flP x = true ∧ ys.all flP = true ∧ P (.d (.bool (f (inV (toV x) (ys.map toV)))))
  | .tuple ys => flP x = true ∧ ys.all flP = true ∧ P (.d (.bool (f (inV (toV x) (ys.map toV)))))
  | _ => False
abbrev gMem : G2 := gMemF id
abbrev gNMem : G2 := gMemF not
section
variable {X : Cx} {w : Wn}
theorem flat_v {K : PySem.W.Frag} {F : Hp} {v : V} {x : PyData} (h : Rp K F v x) (f : flP x = true) : v = toV x ∧ flatV v = true := by
  cases h <;> first | exact ⟨rfl, rfl⟩ | (simp only [flP] at f; cases f)
theorem flat_vs {K : PySem.W.Frag} {F : Hp} : ∀ {vs : List V} {xs : List PyData}, RpA K F vs xs → xs.all flP = true → vs = xs.map toV ∧ vs.all flatV = true
  | _, _, .nil, _ => ⟨rfl, rfl⟩
  | _, _, .cons h t, f => by
    rw [List.all_cons, Bool.and_eq_true] at f
    obtain ⟨a, b⟩ := flat_v h f.1
    obtain ⟨c, d⟩ := flat_vs t f.2
    exact ⟨by rw [List.map_cons, ← a, ← c], by rw [List.all_cons, b, d]; rfl⟩
theorem Rr.flat {K : PySem.W.Frag} {b : Bg} {F H : Hp} {v : V} {x : PyData} (h : Rr K b F H v x) (f : flP x = true) : v = toV x ∧ flatV v = true := by
  cases h with
  | d h => exact flat_v h f
  | o => simp only [flP] at f; cases f
theorem o_in : OpR X (compareOp .In) (lR X.K w.b gMem) := by
  intro pins s σ H x y v u Q I rx ry h
  obtain ⟨F, dx, dy, P, wd, hx, hy, g, q⟩ := h
  unfold gMem gMemF at g
  split at g
  · obtain ⟨l, vs, rfl, e1, r1⟩ := hy.lst wd.sub
    obtain ⟨rfl, f1⟩ := hx.flat g.1
    obtain ⟨rfl, f2⟩ := flat_vs r1 g.2.1
    exact op_in_seq pins s σ H _ _ v u Q I rx ry ⟨l, _, rfl, .inl (SqL.of e1), f1, f2, q _ _ F H wd.refl (res_d (.bl _)) g.2.2⟩
  · obtain ⟨l, vs, rfl, e1, r1⟩ := hy.tup wd.sub
    obtain ⟨rfl, f1⟩ := hx.flat g.1
    obtain ⟨rfl, f2⟩ := flat_vs r1 g.2.1
    exact op_in_seq pins s σ H _ _ v u Q I rx ry ⟨l, _, rfl, .inr e1, f1, f2, q _ _ F H wd.refl (res_d (.bl _)) g.2.2⟩
  · exact g.elim
theorem o_nin : OpR X (compareOp .NotIn) (lR X.K w.b gNMem) := by
  intro pins s σ H x y v u Q I rx ry h
  obtain ⟨F, dx, dy, P, wd, hx, hy, g, q⟩ := h
  unfold gNMem gMemF at g
  split at g
  · obtain ⟨l, vs, rfl, e1, r1⟩ := hy.lst wd.sub
    obtain ⟨rfl, f1⟩ := hx.flat g.1
    obtain ⟨rfl, f2⟩ := flat_vs r1 g.2.1
    exact op_notIn_seq pins s σ H _ _ v u Q I rx ry ⟨l, _, rfl, .inl (SqL.of e1), f1, f2, q _ _ F H wd.refl (res_d (.bl _)) g.2.2⟩
  · obtain ⟨l, vs, rfl, e1, r1⟩ := hy.tup wd.sub
    obtain ⟨rfl, f1⟩ := hx.flat g.1
    obtain ⟨rfl, f2⟩ := flat_vs r1 g.2.1
    exact op_notIn_seq pins s σ H _ _ v u Q I rx ry ⟨l, _, rfl, .inr e1, f1, f2, q _ _ F H wd.refl (res_d (.bl _)) g.2.2⟩
  · exact g.elim
/-! ### tuple(xs) -/
def cTuple : GC := fun us P => one us fun u => rd u fun x => match x with
  | .list xs => P (.d (.tuple xs))
  | .tuple xs => P (.d (.tuple xs))
  | _ => False
theorem k_tuple : CallR X (.type "tuple") (lC X.K w.b cTuple) := by
  intro pins s σ H vs us Q I r h
  obtain ⟨F, dvs, P, wd, ar, g, q⟩ := h
  obtain ⟨u, v, rfl, a, g⟩ := one_ok ar g
  obtain ⟨x, hx, g⟩ := arr_rr a g
  split at g
  · obtain ⟨l, vs, rfl, e, r1⟩ := hx.lst wd.sub
    exact call_tuple_of pins s σ H _ us Q I r ⟨l, vs, rfl, .inl ⟨SqL.of e, res_newT wd r1 q g⟩⟩
  · obtain ⟨l, vs, rfl, e, r1⟩ := hx.tup wd.sub
    refine call_tuple_of pins s σ H _ us Q I r ⟨l, vs, rfl, .inr ⟨e, ?_⟩⟩
    cases hx with
    | d h => exact q _ _ F H wd.refl (res_d h) g
  · exact g.elim
end
/-! ### xs[i], i from either end -/
theorem pickN {xs : List PyData} {r : Int} {P : DV → Prop} (h0 : -(xs.length : Int) ≤ r) (h1 : r < xs.length) (h : ∀ z, z ∈ xs → P (.d z)) : gIx (.list xs) (.int r) P := by
  by_cases hr : 0 ≤ r
  · exact pick hr h1 h
  · have e : ixN xs.length r = some (r + xs.length).toNat := by
      unfold ixN
      rw [if_neg hr, if_pos (by omega)]
      try (congr 1; omega)
    have hl : (r + xs.length).toNat < xs.length := by omega
    have e2 : atI xs r = some xs[(r + xs.length).toNat] := by
      unfold atI
      rw [e]
      exact List.getElem?_eq_getElem hl
    show (match atI xs r with
      | some z => P (.d z)
      | none => False)
    rw [e2]
    exact h _ (List.getElem_mem hl)
/-! ### slices -/
theorem mem_cut {x : PyData} {xs : List PyData} {lo hi : Option Int} (h : x ∈ cutD xs lo hi) : x ∈ xs := List.mem_of_mem_drop (List.mem_of_mem_take h)
theorem cut_from (xs : List PyData) (j : Nat) : cutD xs (some (j : Int)) none = xs.drop j := by
  unfold cutD
  rw [HT.sIx_none, HT.sIx_nat]
  by_cases h : j ≤ xs.length
  · rw [Nat.min_eq_left h, List.take_of_length_le (by simp)]
  · rw [Nat.min_eq_right (by omega), List.drop_of_length_le (Nat.le_refl _), List.drop_of_length_le (by omega), List.take_nil]
theorem cut_to (xs : List PyData) (j : Nat) : cutD xs none (some (j : Int)) = xs.take j := by
  unfold cutD
  rw [HT.sIx_none, HT.sIx_nat, List.drop_zero, Nat.sub_zero]
  by_cases h : j ≤ xs.length
  · rw [Nat.min_eq_left h]
  · rw [Nat.min_eq_right (by omega), List.take_of_length_le (Nat.le_refl _), List.take_of_length_le (by omega)]
end Dl
namespace Dl
open PySem PySem.Spec PyProof.Rows L2
/-! ### fractions over one bottom -/
/-- p / q, in lowest terms, is n / D -/
structure Nu (D n p q : Int) : Prop where
  f : Frac p q
  e : n * q = D * p
theorem Nu.one {D n p q u v : Int} (hD : D ≠ 0) (a : Nu D n p q) (b : Nu D n u v) : p = u ∧ q = v := by
  refine a.f.one b.f (Int.eq_of_mul_eq_mul_left hD ?_)
  rw [← Int.mul_assoc, ← a.e, ← Int.mul_assoc, ← b.e, Int.mul_right_comm]
theorem Nu.le {D n p q : Int} (hD : D ≠ 0) (a : Nu D n p q) : q.natAbs ≤ D.natAbs ∧ p.natAbs ≤ n.natAbs := a.f.le hD a.e
theorem Nu.dvd {D n p q : Int} (a : Nu D n p q) : q ∣ D := by
  have h : q ∣ D * p := ⟨n, by rw [← a.e, Int.mul_comm]⟩
  have h2 : q.natAbs ∣ D.natAbs * p.natAbs := by rw [← Int.natAbs_mul]; exact Int.natAbs_dvd_natAbs.mpr h
  have c : Nat.Coprime q.natAbs p.natAbs := by
    have := a.f.low
    rw [Int.gcd_comm] at this
    exact this
  exact Int.natAbs_dvd_natAbs.mp (Nat.Coprime.dvd_of_dvd_mul_right c h2)
theorem Nu.of {D p q : Int} (f : Frac p q) (h : q ∣ D) : Nu D (p * (D / q)) p q := by
  refine ⟨f, ?_⟩
  obtain ⟨c, rfl⟩ := h
  rw [Int.mul_ediv_cancel_left _ (Int.ne_of_gt f.pos), Int.mul_right_comm, Int.mul_comm p q, Int.mul_right_comm]
/-- a sum of two, of any bottoms -/
theorem nu_sum {D n m p q u v s r : Int} (hq : 0 < q) (hv : 0 < v) (a : n * q = D * p) (b : m * v = D * u) (f : Frac s r) (h : (p * v + u * q) * r = (q * v) * s) : Nu D (n + m) s r := by
  refine ⟨f, Int.eq_of_mul_eq_mul_left (mul_ne hq hv) ?_⟩
  have e1 : q * v * ((n + m) * r) = (n * q) * (v * r) + (m * v) * (q * r) := by
    rw [Int.add_mul, Int.mul_add]
    congr 1 <;> ac_rfl
  have e2 : q * v * (D * s) = D * ((q * v) * s) := by ac_rfl
  rw [e1, e2, ← h, a, b, Int.add_mul, Int.mul_add]
  congr 1 <;> ac_rfl
theorem Nu.plus {D n m p q u v s r : Int} (a : Nu D n p q) (b : Nu D m u v) (f : Frac s r) (h : (p * v + u * q) * r = (q * v) * s) : Nu D (n + m) s r := nu_sum a.f.pos b.f.pos a.e b.e f h
theorem nu_low {D n p q s r : Int} (hq : 0 < q) (a : n * q = D * p) (f : Frac s r) (h : p * r = q * s) : Nu D n s r := by
  refine ⟨f, Int.eq_of_mul_eq_mul_left (Int.ne_of_gt hq) ?_⟩
  have e1 : q * (n * r) = (n * q) * r := by ac_rfl
  have e2 : q * (D * s) = D * (q * s) := by ac_rfl
  rw [e1, e2, ← h, a, Int.mul_assoc]
theorem nu_zero {D : Int} : Nu D 0 0 1 := ⟨⟨by decide, by decide⟩, by simp⟩
/-- fractions, as data, by what they are over one bottom -/
inductive NuL (D : Int) : List Int → List PyData → Prop
  | nil : NuL D [] []
  | cons {n p q : Int} {ns : List Int} {xs : List PyData} (a : Nu D n p q) (t : NuL D ns xs) : NuL D (n :: ns) (.tuple [.int p, .int q] :: xs)
namespace NuL
variable {D : Int}
theorem len : ∀ {ns : List Int} {xs : List PyData}, NuL D ns xs → ns.length = xs.length
  | _, _, .nil => rfl
  | _, _, .cons _ t => congrArg (· + 1) (len t)
theorem take : ∀ (k : Nat) {ns : List Int} {xs : List PyData}, NuL D ns xs → NuL D (ns.take k) (xs.take k)
  | 0, _, _, _ => .nil
  | _ + 1, _, _, .nil => .nil
  | k + 1, _, _, .cons a t => .cons a (take k t)
theorem drop : ∀ (k : Nat) {ns : List Int} {xs : List PyData}, NuL D ns xs → NuL D (ns.drop k) (xs.drop k)
  | 0, _, _, h => h
  | _ + 1, _, _, .nil => .nil
  | k + 1, _, _, .cons _ t => drop k t
theorem app : ∀ {ns ms : List Int} {xs ys : List PyData}, NuL D ns xs → NuL D ms ys → NuL D (ns ++ ms) (xs ++ ys)
  | _, _, _, _, .nil, h => h
  | _, _, _, _, .cons a t, h => .cons a (app t h)
theorem fr : ∀ {ns : List Int} {xs : List PyData}, NuL D ns xs → ∀ x ∈ xs, isFr x = true
  | _, _, .nil, _, h => absurd h List.not_mem_nil
  | _, _, .cons a t, x, h => by
    rcases List.mem_cons.mp h with rfl | h
    · exact isFr_of a.f
    · exact fr t x h
end NuL
/-- how far all of them go together -/
def aS : List Int → Nat
  | [] => 0
  | n :: ns => n.natAbs + aS ns
theorem aS_app (a b : List Int) : aS (a ++ b) = aS a + aS b := by
  induction a with
  | nil => simp [aS]
  | cons n a ih => simp only [List.cons_append, aS, ih]; omega
theorem aS_mem {n : Int} : ∀ {ns : List Int}, n ∈ ns → n.natAbs ≤ aS ns
  | [], h => absurd h List.not_mem_nil
  | m :: ns, h => by
    rcases List.mem_cons.mp h with rfl | h
    · simp only [aS]; omega
    · have := aS_mem h; simp only [aS]; omega
theorem aS_sum : ∀ (ns : List Int), ns.sum.natAbs ≤ aS ns
  | [] => by simp [aS]
  | n :: ns => by
    have := aS_sum ns
    simp only [List.sum_cons, aS]; omega
theorem aS_le {b : Nat} : ∀ {ns : List Int}, (∀ n ∈ ns, n.natAbs ≤ b) → aS ns ≤ ns.length * b
  | [], _ => by simp [aS]
  | n :: ns, h => by
    have h1 := h n (List.mem_cons_self ..)
    have h2 := aS_le (ns := ns) fun m hm => h m (List.mem_cons_of_mem _ hm)
    simp only [aS, List.length_cons, Nat.add_mul]; omega
/-- the sums of two lists, place by place -/
def addZ : List Int → List Int → List Int
  | a :: as, b :: bs => (a + b) :: addZ as bs
  | _, _ => []
theorem addZ_sum : ∀ {as bs : List Int}, as.length ≤ bs.length → (addZ as bs).sum + (bs.drop as.length).sum = as.sum + bs.sum
  | [], bs, _ => by cases bs <;> simp [addZ]
  | a :: as, [], h => by simp at h
  | a :: as, b :: bs, h => by
    have := addZ_sum (as := as) (bs := bs) (by simpa using h)
    simp only [addZ, List.sum_cons, List.length_cons, List.drop_succ_cons]
    omega
theorem addZ_aS : ∀ {as bs : List Int}, as.length ≤ bs.length → aS (addZ as bs) + aS (bs.drop as.length) ≤ aS as + aS bs
  | [], bs, _ => by cases bs <;> simp [addZ, aS]
  | a :: as, [], h => by simp at h
  | a :: as, b :: bs, h => by
    have := addZ_aS (as := as) (bs := bs) (by simpa using h)
    simp only [addZ, aS, List.length_cons, List.drop_succ_cons]
    omega
/-! ### what a fraction is over D, as data -/
def numD (D : Int) : PyData → Int
  | .tuple [.int p, .int q] => p * (D / q)
  | _ => 0
def totD (D : Int) : List PyData → Int
  | [] => 0
  | x :: xs => numD D x + totD D xs
theorem totD_map (D : Int) : ∀ xs, (xs.map (numD D)).sum = totD D xs
  | [] => rfl
  | x :: xs => by simp only [List.map_cons, List.sum_cons, totD, totD_map D xs]
theorem totD_app (D : Int) : ∀ xs ys, totD D (xs ++ ys) = totD D xs + totD D ys
  | [], ys => by simp [totD]
  | x :: xs, ys => by simp only [List.cons_append, totD, totD_app D xs ys]; omega
theorem totD_rev (D : Int) : ∀ xs, totD D xs.reverse = totD D xs
  | [] => rfl
  | x :: xs => by simp only [List.reverse_cons, totD_app, totD, totD_rev D xs]; omega
/-- a fraction whose bottom divides D, its top not too far -/
def FrD (k : Nat) (D : Int) (x : PyData) : Prop := ∃ p q : Int, x = .tuple [.int p, .int q] ∧ Frac p q ∧ q ∣ D ∧ p.natAbs < 2 ^ k
theorem FrD.nu {k : Nat} {D : Int} : ∀ {xs : List PyData}, (∀ x ∈ xs, FrD k D x) → NuL D (xs.map (numD D)) xs
  | [], _ => .nil
  | x :: xs, h => by
    obtain ⟨p, q, rfl, f, d, _⟩ := h x (List.mem_cons_self ..)
    exact .cons (Nu.of f d) (FrD.nu fun y hy => h y (List.mem_cons_of_mem _ hy))
theorem FrD.num {k m : Nat} {D : Int} {x : PyData} (h : FrD k D x) (hD : D.natAbs < 2 ^ m) : (numD D x).natAbs < 2 ^ (k + m) := by
  obtain ⟨p, q, rfl, f, d, hp⟩ := h
  have hq := f.pos
  refine natAbs_mul_lt hp (Nat.lt_of_le_of_lt ?_ hD)
  obtain ⟨c, rfl⟩ := d
  rw [Int.mul_ediv_cancel_left _ (Int.ne_of_gt hq), Int.natAbs_mul]
  exact Nat.le_mul_of_pos_left _ (by omega)
theorem FrD.up {k m : Nat} {D E : Int} {x : PyData} (h : FrD k D x) (hk : k ≤ m) (hD : D ∣ E) : FrD m E x := by
  obtain ⟨p, q, e, f, d, hp⟩ := h
  exact ⟨p, q, e, f, Int.dvd_trans d hD, two_le hp hk⟩
theorem FrD.fk {k : Nat} {D : Int} {x : PyData} (h : FrD k D x) (hD0 : D ≠ 0) (hD : D.natAbs < 2 ^ k) : ∃ p q : Int, x = .tuple [.int p, .int q] ∧ Fk k p q := by
  obtain ⟨p, q, e, f, d, hp⟩ := h
  exact ⟨p, q, e, f, hp, Nat.lt_of_le_of_lt (Nat.le_of_dvd (by omega) (Int.natAbs_dvd_natAbs.mpr d)) hD⟩
end Dl
namespace Dl
open PySem PySem.Spec PyProof.Rows L2
/-! ### a constant of the module that is data -/
theorem d_globC {X : Cx} {w : Wn} {pos : Pos} {x : Str} {u : Value} {v : V} {d : PyData} (hg : Gl X x) (hm : X.mg x = some u) (r : RelV v u) (e : ∀ F, Rp X.K F v d) (hd : (x == ("__debug__" : Str)) = false := by decide) : DPE X w (.Name x pos) (tCD d) :=
  pe_weak (pe_glob hg hm r hd) fun σ H Q ⟨env, F, P, rl, h, q⟩ => q (.d d) _ F H rl.wd.refl (e F) h
theorem con_tup {K : PySem.W.Frag} {a : Addr} {od : Option Addr} {its : Array Value} {n : Nat} {sl : Array (Option Value)} {vs : List V} {xs : List PyData} (l : K.lookup a = some ⟨.type "tuple", od, .seq its n, sl⟩) (z : its.size ≤ 100000) (v : Vals vs its.toList) (r : ∀ F, RpA K F vs xs) : ∀ F, Rp K F (.ref a) (.tuple xs) :=
  fun F => .tup (.inr ⟨_, its, n, l, rfl, rfl, lim_le z, v⟩) (r F)
/-! ### an if by itself: what is in its branches stays a name -/
theorem ifG {t : DTT} {p q : DS} {d : DK} {env : List Sl} (h : ∀ A B : Prop, (p d env → A) → (q d env → B) → t env fun k => if k = true then A else B) : tIfD t p q d env := h _ _ (fun z => z) fun z => z
end Dl
namespace Dl
open PySem PySem.Spec PyProof.Rows L2
/-! ### more of fractions over one bottom -/
theorem nu_scale {c Q p s r : Int} (f : Frac s r) (h : p * r = Q * s) : Nu (c * Q) (c * p) s r := ⟨f, by rw [Int.mul_assoc, h, Int.mul_assoc]⟩
theorem Nu.cast {D D' n n' s r : Int} (a : Nu D n s r) (h1 : D = D') (h2 : n = n') : Nu D' n' s r := h1 ▸ h2 ▸ a
theorem nu_le {D n m p q u v : Int} (hD : 0 < D) (a : Nu D n p q) (b : Nu D m u v) (h : n ≤ m) : p * v ≤ u * q := by
  refine Int.le_of_mul_le_mul_left ?_ hD
  have e1 : D * (p * v) = n * (q * v) := by rw [← Int.mul_assoc, ← a.e, Int.mul_assoc]
  have e2 : D * (u * q) = m * (q * v) := by rw [← Int.mul_assoc, ← b.e, Int.mul_assoc, Int.mul_comm v q]
  rw [e1, e2]
  exact Int.mul_le_mul_of_nonneg_right h (Int.le_of_lt (Int.mul_pos a.f.pos b.f.pos))
theorem frac_abs {p q : Int} (f : Frac p q) : Frac (p.natAbs : Int) q := ⟨f.pos, by have := f.low; unfold Int.gcd at this ⊢; rw [Int.natAbs_natCast]; exact this⟩
/-- a fraction, bounds of its top and its bottom -/
structure Fb (k m : Nat) (p q : Int) : Prop where
  f : Frac p q
  t : p.natAbs < 2 ^ k
  b : q.natAbs < 2 ^ m
theorem Fb.fk {k m j : Nat} {p q : Int} (h : Fb k m p q) (h1 : k ≤ j := by decide) (h2 : m ≤ j := by decide) : Fk j p q := ⟨h.f, two_le h.t h1, two_le h.b h2⟩
theorem Fb.up {k m j i : Nat} {p q : Int} (h : Fb k m p q) (h1 : k ≤ j := by decide) (h2 : m ≤ i := by decide) : Fb j i p q := ⟨h.f, two_le h.t h1, two_le h.b h2⟩
theorem fb_of {k m : Nat} {t b s r : Int} (f : Frac s r) (hb : b ≠ 0) (e : t * r = b * s) (ht : t.natAbs < 2 ^ k) (hb2 : b.natAbs < 2 ^ m) : Fb k m s r := by
  obtain ⟨l1, l2⟩ := f.le hb e
  exact ⟨f, Nat.lt_of_le_of_lt l2 ht, Nat.lt_of_le_of_lt l1 hb2⟩
theorem sum_ltb {k m i j : Nat} {p q u v : Int} (p1 : p.natAbs < 2 ^ k) (q1 : q.natAbs < 2 ^ i) (u1 : u.natAbs < 2 ^ m) (v1 : v.natAbs < 2 ^ j) (n : Nat) (h1 : k + j ≤ n := by decide) (h2 : m + i ≤ n := by decide) : (p * v + u * q).natAbs < 2 ^ (n + 1) :=
  natAbs_add_lt (two_le (natAbs_mul_lt p1 v1) h1) (two_le (natAbs_mul_lt u1 q1) h2)
/-- a worth between two ends: k sixteenths of the way -/
def midT (X Y k : Int) : Int := 16 * X + (Y - X) * k
theorem mid_le {X Y k : Int} (h : X ≤ Y) (k0 : 0 ≤ k) (k1 : k ≤ 16) : 16 * X ≤ midT X Y k ∧ midT X Y k ≤ 16 * Y := by
  have h1 : 0 ≤ (Y - X) * k := Int.mul_nonneg (by omega) k0
  have h2 : (Y - X) * k ≤ (Y - X) * 16 := Int.mul_le_mul_of_nonneg_left k1 (by omega)
  unfold midT
  omega
end Dl
namespace Dl
open PySem PySem.Spec PyProof.Rows L2
/-! ### a, b, c = x, y, z -/
theorem hu65 {k : Nat} {A : Around} (r : Room k A) : A.units + 65 < cLine := by have := r.un; omega
section
variable {X : Cx} {w : Wn} {pos : Pos}
def tPar3D (i j l : Nat) (ta : DA) : DS := fun d env => ta env fun us => allD us fun xs => match xs with
  | [x, y, z] => d.nx (((env.set i (.d x)).set j (.d y)).set l (.d z))
  | _ => False
theorem ds_par3 {i j l : Nat} {x y z : Str} {a b c : Expr} {ta : DA} {px py pz pt : Pos} {kt k2 pt2}
    (base : PS X (.Assign [.Tuple [.Name x px, .Name y py, .Name z pz] kt pt] (.Tuple [a, b, c] k2 pt2) pos) (tPar3 i j l (lfA X.K w ta))) :
    DPS X w (.Assign [.Tuple [.Name x px, .Name y py, .Name z pz] kt pt] (.Tuple [a, b, c] k2 pt2) pos) (tPar3D i j l ta) :=
  ps_weak base fun D σ H ⟨env, F, d, r, h, fit⟩ => ⟨env, F, _, r, h, fun dvs vs F1 H1 s1 r1 h1 => by
    obtain ⟨xs, ra, h1⟩ := allD_ok r1 h1
    split at h1
    · next x y z =>
      cases ra with
      | cons a1 t =>
        cases t with
        | cons a2 t =>
          cases t with
          | cons a3 t =>
            cases t
            refine ⟨_, _, _, rfl, fit.nx _ _ F1 H1 (((((r.step s1).put i (z := .d x) ⟨_, rfl, a1⟩ ?_).put j (z := .d y) ⟨_, rfl, a2⟩ ?_)).put l (z := .d z) ⟨_, rfl, a3⟩ ?_) s1.ex h1⟩
            · intro l xs ys j z; cases z
            · intro l xs ys j z; cases z
            · intro l xs ys j z; cases z
    · exact h1.elim⟩
/-! ### xs.index(y) -/
mutual
theorem dp_of {K : PySem.W.Frag} {H : Hp} : ∀ (x : PyData) (v : V), flatD x = true → Rp K H v x → Dp K H v x
  | .none, _, _, h => by cases h; exact .non
  | .bool b, _, _, h => by cases h; exact .bl _
  | .int b, _, _, h => by cases h; exact .int _
  | .str b, _, _, h => by cases h; exact .str _
  | .list xs, _, f, h => by
    cases h with
    | lst e r => exact .lst (SqL.of e) (dpa_of xs _ (by simpa only [flatD] using f) r)
  | .tuple xs, _, f, h => by
    cases h with
    | tup e r => exact .tup e (dpa_of xs _ (by simpa only [flatD] using f) r)
  | .dict _, _, f, _ => by simp only [flatD] at f; cases f
theorem dpa_of {K : PySem.W.Frag} {H : Hp} : ∀ (xs : List PyData) (vs : List V), flatA xs = true → RpA K H vs xs → DpAll K H vs xs
  | [], _, _, h => by cases h; exact .nil
  | x :: xs, _, f, h => by
    cases h with
    | cons a t =>
      rw [flatA, Bool.and_eq_true] at f
      exact .cons (dp_of x _ f.1 a) (dpa_of xs _ f.2 t)
end
def tIdxD (te : DT) (ta : DA) : DT := fun env P => te env fun u => rd u fun x => match x with
  | .list xs => ta env fun us => one us fun z => rd z fun y => SeqAt.shaped (.list xs) = true ∧ SeqAt.shaped y = true ∧ ∃ (j : Nat) (z : PyData), xs[j]? = some z ∧ z.eqv y = true ∧ (∀ m z', m < j → xs[m]? = some z' → z'.eqv y = false) ∧ P (.d (.int (j : Nat)))
  | _ => False
theorem d_index {o e : Expr} {te : DT} {ta : DA} {apos : Pos} (he : DPE X w o te) (ha : DPA X w [e] ta)
    (base : ∀ {to : TE} {t : TA}, PE X o to → PA X [e] t → PE X (.Call (.Attribute o "index" apos) [e] [] pos) (tBM X.K "list" (rIndexD X.K) to t)) : DPE X w (.Call (.Attribute o "index" apos) [e] [] pos) (tIdxD te ta) :=
  pe_weak (base he ha) fun σ H Q ⟨env, F, P, r, h, q⟩ => ⟨env, F, _, r, h, fun dv v F1 H1 s1 r1 h1 => by
    obtain ⟨x, x1, h1⟩ := rd_ok r1 h1
    split at h1
    · next xs =>
      obtain ⟨l, vs, rfl, e1, ra⟩ := x1.lst s1.sub
      refine ⟨.inl ⟨rfl, vs, SqL.of e1⟩, env, F1, _, r.step s1, h1, fun dvs us F2 H2 s2 ar h2 => ?_⟩
      obtain ⟨z, u, rfl, a, h2⟩ := one_ok ar h2
      obtain ⟨y, hy, g1, g2, j, z, g3, g4, g5, g6⟩ := arr_rr a h2
      have x2 := (x1.step s2).all s2.sub
      exact ⟨l, u, y, xs, j, z, rfl, rfl, dp_of _ _ (flat_of_can _ (SeqAt.canLay_of_shaped g1)) x2, dp_of _ _ (flat_of_can _ (SeqAt.canLay_of_shaped g2)) (hy.all s2.sub), g1, g2, g3, g4, g5, q (.d (.int (j : Nat))) _ F2 H2 (s1.trans s2) (Rp.int _) g6⟩
    · exact h1.elim⟩
/-! ### xs.insert(i, y) -/
abbrev rInsert : V → List V → Hp → VK → Prop := fun x vs H Q => ∃ (l : Addr) (xs : List V) (i : Int) (y : V), x = .ref l ∧ vs = [.int i, y] ∧ H l = some (.lst xs) ∧ xs.length < sizeLine ∧ 0 ≤ i ∧ i < 2 ^ 63 ∧ Q .non (upd H l (.lst (xs.take i.toNat ++ [y] ++ xs.drop i.toNat)))
def tInsD (i : Nat) (ta tb : DT) : DS := fun d env => match env[i]? with
  | some (.ow l xs) => xs.length < 100000 ∧ ta env fun u => match u with
    | .d (.int k) => (0 ≤ k ∧ k < 100000) ∧ tb env fun dv => match frz dv with
      | .d x => d.nx (env.set i (.ow l (xs.take k.toNat ++ [x] ++ xs.drop k.toNat)))
      | _ => False
    | _ => False
  | _ => False
theorem ds_ins {i : Nat} {e : Expr} {ta tb : DT} (base : PE X e (tBM X.K "list" rInsert (tVar i) (tCons (lf X.K w ta) (tCons (lf X.K w tb) tNil)))) (hs : swapsWith e none pos.line X.env = pure false := by rfl) : DPS X w (.Expr e pos) (tInsD i ta tb) :=
  ps_weak (ps_expr base hs) fun D σ H ⟨env, F, d, r, h, fit⟩ => by
    unfold tInsD at h
    split at h
    · next l xs ei =>
      obtain ⟨e1, _, _, _, vs, hl, _⟩ := r.at' i _ ei
      obtain ⟨hz, h⟩ := h
      refine ⟨_, e1, .inl ⟨rfl, vs, SqL.of hl⟩, env, F, _, r, h, fun dv v F1 H1 s1 r1 h1 => ?_⟩
      split at h1
      · next k =>
        obtain ⟨⟨k0, k1⟩, h1⟩ := h1
        have ev := r1.intOf
        subst ev
        refine ⟨env, F1, _, r.step s1, h1, fun dv v F2 H2 s2 r2 h2 => ?_⟩
        obtain ⟨F3, s3, a3⟩ := frz_ok s2 r2
        have r3 := (r.step s1).step s3
        obtain ⟨_, _, _, _, us, hl2, q2⟩ := r3.at' i _ ei
        split at h2
        · next x ex =>
          rw [ex] at a3
          refine ⟨l, us, k, v, rfl, rfl, hl2, by rw [q2.len]; exact lim_lt hz, k0, by omega, ?_⟩
          exact fit.nx _ _ F3 _ (r3.wrt ei (((q2.take _).app (.cons a3 .nil)).app (q2.drop _))) (s1.ex.trans s3.ex) h2
        · exact h2.elim
      · exact h1.elim
    · exact h.elim
theorem ixE (te : DT) (ta : DA) (env : List Sl) (P : DV → Prop) : tIdxD te ta env P = te env fun u => rd u fun x => match x with
  | .list xs => ta env fun us => one us fun z => rd z fun y => SeqAt.shaped (.list xs) = true ∧ SeqAt.shaped y = true ∧ ∃ (j : Nat) (z : PyData), xs[j]? = some z ∧ z.eqv y = true ∧ (∀ m z', m < j → xs[m]? = some z' → z'.eqv y = false) ∧ P (.d (.int (j : Nat)))
  | _ => False := propext ⟨fun h => h, fun h => h⟩
end
end Dl
namespace Dl
open PySem PySem.Spec PyProof.Rows L2
/-! ### a generator expression's captured names -/
def freeIn (sc so : Scope) : Bool := sc.names.all fun y => match y.2 with
  | .free => isCell so y.1
  | _ => true
theorem hfreeC {sc so : Scope} {qual : Str} {L f : Addr} {cd : Value} (h : freeIn sc so = true) : ∀ y ∈ sc.names, y.2 = .free → ∃ c, (envOfC qual so L f cd).cells.lookup y.1 = some c := fun y hy e => by
  have q := List.all_eq_true.mp h y hy
  rw [e] at q
  have z := PySem.W.cellsFrom_some so.names (L + 1) [] (.inl (isCell_of q))
  exact Option.isSome_iff_exists.mp z
section
variable {X : Cx} {w : Wn} {e : Expr} {te : DT} {pos : Pos}
/-! ### slices of tuples and of texts -/
def tSlT (te : DT) (lo hi : DO) : DT := fun env P => te env fun u => rd u fun x => lo env fun l => hi env fun h => match x with
  | .tuple xs => P (.d (.tuple (cutD xs l h)))
  | _ => False
theorem cut_all {xs : List PyData} {lo hi : Option Int} (h : HT.sIx xs.length 0 lo = 0 ∧ HT.sIx xs.length xs.length hi = xs.length) : cutD xs lo hi = xs := by
  unfold cutD
  rw [h.1, h.2, List.drop_zero, Nat.sub_zero, List.take_length]
theorem d_slT {lo hi : Option Expr} {tl th : DO} {p2 : Pos} (he : DPE X w e te) (hl : PO X lo (lfO X.K w tl)) (hh : PO X hi (lfO X.K w th)) : DPE X w (.Subscript e (.Slice lo hi none p2) pos) (tSlT te tl th) :=
  pe_weak (pe_slice sl_tupA he hl hh) fun σ H Q ⟨env, F, P, r, h, q⟩ => ⟨env, F, _, r, h, fun dv v F1 H1 s1 r1 h1 => by
    obtain ⟨x, x1, h1⟩ := rd_ok r1 h1
    refine ⟨env, F1, _, r.step s1, h1, fun l F2 H2 s2 h2 => ⟨env, F2, _, (r.step s1).step s2, h2, fun u F3 H3 s3 h3 => ?_⟩⟩
    have s13 := (s1.trans s2).trans s3
    split at h3
    · next xs =>
      have x3 := (x1.step s2).step s3
      obtain ⟨m, vs, rfl, e, ra⟩ := x3.tup s3.sub
      refine ⟨m, vs, rfl, e, fun hz => ?_, fun hz => res_newT s3.wd (cut_rp ra l u) (fun dv v F4 H4 s4 r4 h4 => q dv v F4 H4 (s13.trans s4) (r4.early s13) h4) h3⟩
      rw [ra.len] at hz
      rw [cut_all hz] at h3
      cases x3 with
      | d x3 => exact q (.d (.tuple xs)) _ F3 H3 s13 x3 h3
    · exact h3.elim⟩
def tSlS (te : DT) (lo hi : DO) : DT := fun env P => te env fun u => rd u fun x => lo env fun l => hi env fun h => match x with
  | .str z => z.length ≤ 100000 ∧ P (.d (.str (cutS z l h)))
  | _ => False
theorem d_slS {lo hi : Option Expr} {tl th : DO} {p2 : Pos} (he : DPE X w e te) (hl : PO X lo (lfO X.K w tl)) (hh : PO X hi (lfO X.K w th)) : DPE X w (.Subscript e (.Slice lo hi none p2) pos) (tSlS te tl th) :=
  pe_weak (pe_slice sl_str he hl hh) fun σ H Q ⟨env, F, P, r, h, q⟩ => ⟨env, F, _, r, h, fun dv v F1 H1 s1 r1 h1 => by
    obtain ⟨x, x1, h1⟩ := rd_ok r1 h1
    refine ⟨env, F1, _, r.step s1, h1, fun l F2 H2 s2 h2 => ⟨env, F2, _, (r.step s1).step s2, h2, fun u F3 H3 s3 h3 => ?_⟩⟩
    split at h3
    · next z =>
      cases x1.str
      exact ⟨z, rfl, lim_le h3.1, q (.d (.str _)) _ F3 H3 ((s1.trans s2).trans s3) (Rp.str _) h3.2⟩
    · exact h3.elim⟩
/-! ### sorted of numbers -/
def cSorted : GC := fun us P => one us fun u => rd u fun x => match x with
  | .list xs => ∃ ns : List Int, xs = ns.map PyData.int ∧ ∀ ms : List Int, ms.Perm ns → ms.Pairwise (· ≤ ·) → P (.fr (ms.map PyData.int))
  | _ => False
theorem k_sorted : CallR X (.builtin "sorted") (lC X.K w.b cSorted) := by
  intro pins s σ H vs us Q I r h
  obtain ⟨F, dvs, P, wd, ar, g, q⟩ := h
  obtain ⟨u, v, rfl, a, g⟩ := one_ok ar g
  obtain ⟨x, hx, g⟩ := arr_rr a g
  split at g
  · obtain ⟨ns, rfl, g⟩ := g
    obtain ⟨l, vs, rfl, e, r1⟩ := hx.lst wd.sub
    have ev := r1.ofInts
    subst ev
    exact cr_sortedI pins s σ H _ us Q I r ⟨l, ns, rfl, SqL.of e, fun ms p h1 h2 hp => res_new wd (RpA.ints ms) q (g ms h1 h2) p hp⟩
  · exact g.elim
/-! ### tuples of numbers by < -/
def gLtT : G2 := fun x y P => match x, y with
  | .tuple xs, .tuple ys => ∃ ns ms : List Int, xs = ns.map PyData.int ∧ ys = ms.map PyData.int ∧ P (.d (.bool (HT.lexLt ns ms)))
  | _, _ => False
theorem o_ltT (hu : X.A.units < cLine) : OpR X (compareOp .Lt) (lR X.K w.b gLtT) := by
  intro pins s σ H x y v u Q I rx ry h
  obtain ⟨F, dx, dy, P, wd, hx, hy, g, q⟩ := h
  unfold gLtT at g
  split at g
  · obtain ⟨ns, ms, rfl, rfl, g⟩ := g
    obtain ⟨l, vs, rfl, e1, r1⟩ := hx.tup wd.sub
    obtain ⟨m, us, rfl, e2, r2⟩ := hy.tup wd.sub
    have z1 := r1.ofInts
    have z2 := r2.ofInts
    subst z1 z2
    exact op_ltT hu pins s σ H _ _ v u Q I rx ry ⟨l, m, ns, ms, rfl, rfl, e1, e2, q _ _ F H wd.refl (res_d (.bl _)) g⟩
  · exact g.elim
/-! ### x in ys, of nested data -/
def gMemD : G2 := fun x y P => match y with
  | .list ys => SeqAt.shaped x = true ∧ SeqAt.shaped (.list ys) = true ∧ P (.d (.bool (ys.any fun z => z.eqv x)))
  | _ => False
theorem o_inD (hu : X.A.units + 65 < cLine) : OpR X (compareOp .In) (lR X.K w.b gMemD) := by
  intro pins s σ H x y v u Q I rx ry h
  obtain ⟨F, dx, dy, P, wd, hx, hy, g, q⟩ := h
  unfold gMemD at g
  split at g
  · obtain ⟨g1, g2, g3⟩ := g
    exact op_inD hu pins s σ H _ _ v u Q I rx ry ⟨_, _, dp_of _ _ (flat_of_can _ (SeqAt.canLay_of_shaped g1)) (hx.all wd.sub), dp_of _ _ (flat_of_can _ (SeqAt.canLay_of_shaped g2)) (hy.all wd.sub), g1, g2, q _ _ F H wd.refl (res_d (.bl _)) g3⟩
  · exact g.elim
end
end Dl
namespace Dl
open PySem PySem.Spec PyProof.Rows L2
section
variable {X : Cx} {w : Wn} {pos : Pos}
/-! ### {'a': 1} -/
def tDict1 (s : Str) (i : Int) : DT := fun _ P => P (.d (.dict [(.str s, .int i)]))
theorem d_dict1 {s : Str} {i : Int} {j1 j2} {p1 p2 : Pos} : DPE X w (.Dict [some (.Constant (.str s) j1 p1)] [.Constant (.int i) j2 p2] pos) (tDict1 s i) :=
  pe_weak (pe_disp (pps_cons pe_str pe_int pps_nil) rfl rfl (by simp) (by simp)) fun σ H Q ⟨env, F, P, r, h, q⟩ => fun p hp => by
    refine ⟨upd_same, [(Sum.inr s, V.int i)], rfl, by simp, ?_⟩
    have e : ∀ o2 : HO, upd (upd H p (.dK [])) p o2 = upd H p o2 := fun o2 => by
      funext a
      by_cases z : a = p
      · rw [z, upd_same, upd_same]
      · rw [upd_ne z, upd_ne z, upd_ne z]
    rw [e]
    have st := r.wd.laid (o := .dK (mergeK [] [(Sum.inr s, V.int i)])) hp
    refine q (.d (.dict [(.str s, .int i)])) _ _ _ st ?_ h
    exact Rp.dct (kvs := [(Sum.inr s, V.int i)]) (ks := [.str s]) (xs := [.int i]) upd_same (.cons (.str s) .nil) (.cons (.int i) .nil)
/-! ### sep.join(xs) -/
theorem RpA.ofStrs {K : PySem.W.Frag} {F : Hp} : ∀ {vs : List V} {ns : List Str}, RpA K F vs (ns.map PyData.str) → vs = ns.map V.str
  | _, [], .nil => rfl
  | _, n :: ns, .cons h t => by
    cases h
    rw [RpA.ofStrs t]
    rfl
def tJoin (to te : DT) : DT := fun env P => to env fun u => rd u fun x => match x with
  | .str a => te env fun v => rd v fun y => match y with
    | .list zs => ∃ ys : List Str, zs = ys.map PyData.str ∧ (ys.map (·.length)).sum + ys.length * a.length ≤ 100000 ∧ P (.d (.str (Txt.join a ys)))
    | _ => False
  | _ => False
theorem d_join {o e : Expr} {to te : DT} {apos : Pos} (ho : DPE X w o to) (he : DPE X w e te)
    (base : ∀ {t1 t2 : TE}, PE X o t1 → PE X e t2 → PE X (.Call (.Attribute o "join" apos) [e] [] pos) (tM1 (fun x xs H Q => ∃ a p, ∃ ys : List Str, x = .str a ∧ xs = [.ref p] ∧ (SqL X.K H p (ys.map V.str) ∨ SqT X.K H p (ys.map V.str)) ∧ (ys.map (·.length)).sum + ys.length * a.length ≤ 16777216 ∧ Q (.str (Txt.join a ys)) H) t1 t2)) :
    DPE X w (.Call (.Attribute o "join" apos) [e] [] pos) (tJoin to te) :=
  pe_weak (base ho he) fun σ H Q ⟨env, F, P, r, h, q⟩ => ⟨env, F, _, r, h, fun dv v F1 H1 s1 r1 h1 => by
    obtain ⟨x, x1, h1⟩ := rd_ok r1 h1
    split at h1
    · next a =>
      cases x1.str
      refine ⟨⟨a, rfl⟩, env, F1, _, r.step s1, h1, fun dv2 v2 F2 H2 s2 r2 h2 => ?_⟩
      obtain ⟨y, y1, h2⟩ := rd_ok r2 h2
      split at h2
      · next zs =>
        obtain ⟨ys, rfl, g1, g2⟩ := h2
        obtain ⟨l, vs, rfl, e1, ra⟩ := y1.lst s2.sub
        have ev := ra.ofStrs
        subst ev
        exact ⟨a, l, ys, rfl, rfl, .inl (SqL.of e1), by omega, q (.d (.str _)) _ F2 H2 (s1.trans s2) (Rp.str _) g2⟩
      · exact h2.elim
    · exact h1.elim⟩
theorem pickS {z : Str} {r : Int} {P : DV → Prop} (hz : z.length ≤ 100000) (h0 : 0 ≤ r) (h1 : r < z.cps.toList.length) (h : ∀ c, c ∈ z.cps.toList → P (.d (.str ⟨#[c]⟩))) : gIx (.str z) (.int r) P := by
  have hr : r.toNat < z.cps.toList.length := by omega
  have ez : r = ((r.toNat : Nat) : Int) := by omega
  have e : atI z.cps.toList r = some z.cps.toList[r.toNat] := atD ez (List.getElem?_eq_getElem hr)
  refine ⟨hz, ?_⟩
  rw [e]
  exact h _ (List.getElem_mem hr)
end
end Dl
namespace Dl
open PySem PySem.Spec PyProof.Rows L2
/-! ### refusals: a promise with two ends -/
/-- what is wished of an exception: its class by its name in the module, its one field's name and datum -/
abbrev XD := Str → Str → PyData → Prop
abbrev DSpX := List DV → (DV → Prop) → XD → Prop
/-- what leaves a def by an exception, in the data's words -/
def XEnd (mg : Str → Option Value) (K : PySem.W.Frag) (b : Bg) (F H : Hp) (E : XK) (R : XD) : Prop := ∀ c C n x v d F' H', mg c = some (.ref C) → Stp K b F H F' H' → H' d = some (.xd [(n, v)]) → Rp K F' v x → R c n x → E (.ref C) (some d) H'
/-- the same at the caller's slots -/
def XEnS (mg : Str → Option Value) (K : PySem.W.Frag) (w : Wn) (E : L2.St → XK) (R : List Sl → XD) : Prop := ∀ env σ F H, RelW K w env σ F H → XEnd mg K w.b F H (E σ) (R env)
theorem XEnd.at {mg : Str → Option Value} {K : PySem.W.Frag} {w : Wn} {E : XK} {R : XD} (h : XEnd mg K w.b w.F w.H E R) : XEnS mg K w (fun _ => E) fun _ => R := fun env σ F H r c C n x v d F' H' hc s hd rp hr => h c C n x v d F' H' hc (r.st.trans s) hd rp hr
def PmX (mg : Str → Option Value) (K : PySem.W.Frag) (ts : List Addr) (sp : DSpX) : Sp := fun vs H Q E => ∃ b F dvs P R, b.ts = ts ∧ Wd K b F H ∧ Paired (AgR K b F) dvs vs ∧ sp dvs P R ∧ (∀ dv v F' H', Stp K b F H F' H' → Res K b H F' H' dv v → P dv → Q v H') ∧ XEnd mg K b F H E R
def tUseX (sp : DSpX) (R : List Sl → XD) (t : DA) : DT := fun env P => t env fun us => anyOw us = [] ∧ sp (us.map dat) P (R env)
section
variable {X : Cx} {w : Wn} {CX : CXT} {k : Nat} {f : Addr} {E : L2.St → XK} {R : List Sl → XD} {ds : DSpX} {x : Str} {p pos : Pos} {e : Expr} {es : List Expr} {t : DA}
theorem d_useX {ts : List Addr} (Fk : Fg X.prog X.w X.K X.mg X.base (L2.CX X.prog X.w) k f (PmX X.mg X.K ts ds)) (ht : w.b.ts = ts) (ag : X.A.guards = some []) (room : Room k X.A) (ps : ∀ σ, PassesAt (L2.CX X.prog X.w) X σ (E σ)) (hE : XEnS X.mg X.K w E R) (gl : Gl X x) (gm : X.mg x = some (.ref f)) (kp : PySem.W.keepIn X.K (.ref f) = true)
    (ha : DPA X w (e :: es) t) (db : (x == ("__debug__" : Str)) = false := by decide) (s1 : starEach (e :: es) X.env = (false, eval e X.env) :: starEach es X.env := by rfl) (s2 : (backTo pos (starEach es X.env)).any (·.1) = false := by rfl) :
    DPE X w (.Call (.Name x p) (e :: es) [] pos) (tUseX ds R t) := by
  have base : PE X (.Call (.Name x p) (e :: es) [] pos) (fun σ H Q => lfA X.K w t σ H fun vs H1 => PmX X.mg X.K ts ds vs H1 Q (E σ)) := by
    refine ⟨fun pins s σ H Q I want => wpAny_Call_Name_kw (ld_glob I gl gm ?_ db)⟩
    refine PySem.W.callWith_K (h₀ := X.base) I.ok.mod.kin kp ?_ s1 s2
    exact thn (ha.run pos pins s σ H _ I want) fun us st ⟨vs, H1, I1, rv, q⟩ => ⟨I1.kIn, wpAny_call (codeAny_mono (Fk X.A X.stack st H1 us vs Q (E σ) ag room I1.env0 rv q) fun res s2 got => by
      match res, got with
      | .error u, got => exact ps σ pins H1 st u s2 I1 got
      | .ok (.ret u), got => exact I1.after got)⟩
  refine pe_weak base fun σ H Q ⟨env, F, P, r, h, q⟩ => ⟨env, F, _, r, h, fun dvs vs F1 H1 st ar h1 => ?_⟩
  obtain ⟨em, h1⟩ := h1
  have e1 : opn (anyOw dvs) F1 H1 = F1 := by
    funext a
    unfold opn
    rw [em, if_neg (by simp)]
  have hs : Same F1 (opn (anyOw dvs) F1 H1) := by rw [e1]; exact fun _ _ z => z
  have ad := args_dat ar hs (fun l hl => hl)
  rw [e1] at ad
  exact ⟨w.b, F1, _, _, _, ht, st.wd, ad, h1, fun dv v F2 H2 s2 rs hp => q dv v F2 H2 (st.trans s2) (rs.early st) hp, fun c C n y v d F' H' hc s3 h3 rp hr => hE env σ F H r c C n y v d F' H' hc (st.trans s3) h3 rp hr⟩
/-- raise C(e), C the class of name c in the module, of one field n -/
def tRaiseX (R : List Sl → XD) (c n : Str) (te : DT) : DS := fun _ env => te env fun u => match u with
  | .d x => R env c n x
  | _ => False
end
/-! ### a def that may refuse -/
section
variable {P : Program} {w : World} {K : PySem.W.Frag} {mg : Str → Option Value} {base : Heap} {k : Nat} {f : Addr} {fd : FuncData}
theorem d_defX {ts : List Addr} {x qual : Str} {st : Stmt} {N ps : List Str} (Fn : L2.Fun K x qual st f fd) (S : FnScope N ps (defScope st))
    (hb : ∀ (kV doc pm : Value) (an : Option Addr) (cdv ct : Value) (us : List Value), us.length = ps.length → bindArgs (PySem.W.fnOf x qual (defArgs st) (defBody st) (defScope st) .none kV doc pm an cdv ct) { pos := us, kw := [] } = pure (ps.zip us))
    (sp : DSpX) (t : XD → DS)
    (hd : ∀ (cdv : Value) (A : Around) (outer : List Env) (s : Shared) (H : Hp) (E : XK) (R : XD) (wn : Wn), fd.code = cdv → wn.b.ts = ts → XEnd mg K wn.b wn.F wn.H E R → (A.deeper (envOfC qual (defScope st) s.heap.objs.size f cdv)).guards = some [] → Room k (A.deeper (envOfC qual (defScope st) s.heap.objs.size f cdv)) →
      Takes (cxOf (L2.CX P w) P w K mg base N qual (defScope st) f cdv A outer s H E) (fun cls d _ H => E cls d H) → DPSs (cxOf (L2.CX P w) P w K mg base N qual (defScope st) f cdv A outer s H E) wn (defBody st) (t R))
    (hv : ∀ dvs Q R, sp dvs Q R → dvs.length = ps.length ∧ t R { nx := fun _ => Q (.d .none), rt := Q } (startD N dvs)) : Fg P w K mg base (L2.CX P w) (k + 1) f (PmX mg K ts sp) := by
  intro A outer s H us vs Q E ag room e0 rv want
  obtain ⟨b, F, dvs, R0, R, ht, wd, ar, hsp, q, hE⟩ := want
  obtain ⟨hlen, hread⟩ := hv dvs R0 R hsp
  obtain ⟨oc, od, kV, doc, pm, an, cdv, ct, osl, rfl, lk, hcd⟩ := Fn.ex
  have hvl : vs.length = ps.length := (Paired.length ar).symm.trans hlen
  have hul : us.length = ps.length := rv.length.symm.trans hvl
  refine StX.run_bnd (N := N) (ps := ps) lk hcd S room e0 (G := fun xs H2 => xs = vs ∧ H2 = H) (fun A' Ex Q' h => ?_) fun s2 H2 xs g room2 => ?_
  · rw [hb kV doc pm an cdv ct us hul]
    exact wpAny_pure (h s H vs us e0 Un.refl rfl (fun _ _ z => z) rv hvl ⟨rfl, rfl⟩)
  · obtain ⟨rfl, rfl⟩ := g
    refine ⟨_, hd cdv A outer s2 _ E R ⟨b, F, _⟩ rfl ht hE (guards_in ag _) room2 (takes_of rfl rfl rfl rfl), startD N dvs, F, _, rel_start wd ar, hread, ?_⟩
    refine ⟨fun env σ F' H' r _ z => ?_, fun env σ F' H' r _ z => z, fun env σ F' H' r _ z => z, fun dv v F' H' st rs z => q dv v F' H' st rs z⟩
    exact q (.d .none) .non F' H' r.st Rp.non z
end
end Dl
namespace Dl
open PySem PySem.Spec PyProof.Rows L2
/-! ### a refusal of one field made, and raised -/
def spIni (C : Addr) (n : Str) : Sp := fun vs H Q _ => ∃ a y, vs = [.ref a, y] ∧ H a = some (exo a C none) ∧ ∀ dx, H dx = none → dx ≠ a → Q .non (upd (upd H dx (exd dx [(n, y)])) a (exo a C (some dx)))
section
variable {P : Program} {w : World} {K : PySem.W.Frag} {mg : Str → Option Value} {base : Heap} {f C : Addr} {fd : FuncData}
theorem ini_ok {n qual : Str} {st : Stmt} {p1 p2 p3 p4 : Pos} (Fn : L2.Fun K "__init__" qual st f fd) (S : FnScope ["self", n] ["self", n] (defScope st)) (T : OexC K C) (hno : PySem.W.findIn K (.ref C) n = some none) (hne : n ≠ "self") (hn2 : (n == ("__debug__" : Str)) = false) (hn3 : (n == ("__classdict__" : Str)) = false)
    (hv0 : Vis (defScope st) ("self" : Str)) (hv1 : Vis (defScope st) n) (hb : defBody st = [.Assign [.Attribute (.Name "self" p1) n p2] (.Name n p3) p4]) :
    FnOk P w K mg base (L2.CX P w) 1 f fd ["self", n] (spIni C n) := by
  refine Fn.okX S (fun vs H Q E ⟨a, y, e, _⟩ => by rw [e]; rfl) fun cdv A outer s H vs Q E hr hsp => ?_
  obtain ⟨a, y, rfl, ha, q⟩ := hsp
  rw [hb]
  refine ⟨_, pss_one (ps_ost (pv 0 (hv := hv0)) (pv 1 (hv := hv1) (hd := hn2) (hcd := hn3))), ?_⟩
  exact ⟨y, rfl, .ref a, rfl, a, C, rfl, T, hno, .inl ⟨ha, q⟩⟩
end
section
variable {X : Cx} {w : Wn} {E : L2.St → XK} {R : List Sl → XD} {C fI : Addr} {fd : FuncData} {n x : Str} {a : Expr} {te : DT} {p pos pos2 : Pos} {k : Nat}
/-- raise C(e) -/
theorem ds_raise1 (hc : X.calm = true) (tk : Takes X (fun cls d σ H => E σ cls d H)) (T : OexC X.K C) (iC : PySem.W.findIn X.K (.ref C) "__init__" = some (some (.ref fI))) (tI : PySem.W.typeIn X.K (.ref fI) = some (.type "function"))
    (F1 : FnOk X.prog X.w X.K X.mg X.base (L2.CX X.prog X.w) k fI fd ["self", n] (spIni C n)) (hr : Room (k + 1) X.A) (hb : Binds X.K fd ["self", n] []) (hg : Gl X x) (hm : X.mg x = some (.ref C)) (he : DPE X w a te) (hE : XEnS X.mg X.K w E R)
    (hps : Passes (L2.CX X.prog X.w) X (fun _ _ _ => False)) (hdb : (x == ("__debug__" : Str)) = false := by decide) (hs : starEach [a] X.env = [(false, eval a X.env)] := by rfl) (hpl : (backTo pos (starEach [] X.env)).any (·.1) = false := by rfl) :
    DPS X w (.Raise (some (.Call (.Name x p) [a] [] pos)) none pos2) (tRaiseX R x n te) :=
  ps_weak (L2.ps_raise hc tk (pmk_oex T iC tI F1 hr hb .nil hps hg hm (pa_cons he pa_nil hs) hdb hs hpl)) fun D σ H ⟨env, F, d, r, h, fit⟩ => ⟨env, F, _, r, h, fun dv v F1 H1 s1 r1 h1 => by
    split at h1
    · next y =>
      refine ⟨by simp, fun a ha => ⟨a, v, rfl, upd_same, fun dx hd ne => ⟨rfl, dx, [(n, v)], upd_same, ?_, ?_, ?_⟩⟩⟩
      · rw [upd_ne ne]; exact upd_same
      · rw [upd_ne ne] at hd; exact hd
      · have hd1 : H1 dx = none := by rw [upd_ne ne] at hd; exact hd
        have e : upd (del (upd (upd (upd H1 a (exo a C none)) dx (exd dx [(n, v)])) a (exo a C (some dx))) a) dx (.xd [(n, v)]) = upd H1 dx (.xd [(n, v)]) := by
          funext z
          by_cases z1 : z = dx
          · rw [z1, upd_same, upd_same]
          · rw [upd_ne z1, upd_ne z1]
            by_cases z2 : z = a
            · rw [z2, del_same, ha]
            · rw [del_ne z2, upd_ne z2, upd_ne z1, upd_ne z2]
        rw [e]
        exact hE env σ F H r x C n y v dx F1 _ hm (s1.trans (s1.wd.laidM (o := .xd [(n, v)]) hd1)) upd_same r1 h1
    · exact h1.elim⟩
end
end Dl
namespace Dl
open PySem PySem.Spec PyProof.Rows L2
/-! ### a def that takes any number of arguments and may refuse -/
theorem d_starX {ts : List Addr} {P : Program} {w : World} {K : PySem.W.Frag} {mg : Str → Option Value} {base : Heap} {k : Nat} {f : Addr} {fd : FuncData} {x qual pv : Str} {st : Stmt} {N : List Str} (Fn : L2.Fun K x qual st f fd) (S : FnScope N [pv] (defScope st))
    (hb : ∀ (kV doc pm : Value) (an : Option Addr) (cdv ct : Value) (us : List Value), bindArgs (PySem.W.fnOf x qual (defArgs st) (defBody st) (defScope st) .none kV doc pm an cdv ct) { pos := us, kw := [] } = (newTuple us >>= fun t => pure [(pv, t)]))
    (sp : DSpX) (t : XD → DS)
    (hd : ∀ (cdv : Value) (A : Around) (outer : List Env) (s : Shared) (H : Hp) (E : XK) (R : XD) (wn : Wn), fd.code = cdv → wn.b.ts = ts → XEnd mg K wn.b wn.F wn.H E R → (A.deeper (envOfC qual (defScope st) s.heap.objs.size f cdv)).guards = some [] → Room k (A.deeper (envOfC qual (defScope st) s.heap.objs.size f cdv)) →
      Takes (cxOf (L2.CX P w) P w K mg base N qual (defScope st) f cdv A outer s H E) (fun cls d _ H => E cls d H) → DPSs (cxOf (L2.CX P w) P w K mg base N qual (defScope st) f cdv A outer s H E) wn (defBody st) (t R))
    (hv : ∀ dvs Q R, sp dvs Q R → allD dvs fun xs => xs.length ≤ 100000 ∧ t R { nx := fun _ => Q (.d .none), rt := Q } (startD N [.d (.tuple xs)])) : Fg P w K mg base (L2.CX P w) (k + 1) f (PmX mg K ts sp) := by
  intro A outer s H us vs Q E ag room e0 rv want
  obtain ⟨b, F, dvs, R0, R, ht, wd, ar, hsp, q, hE⟩ := want
  have ar2 : Paired (ArR K b F H) dvs vs := by
    clear rv hsp q hE
    induction ar with
    | nil => exact .nil
    | @cons dv v _ _ a t ih =>
      refine .cons ?_ ih
      cases dv with
      | d x => exact a
      | raw u => exact a
      | bag => exact a
      | fr x => exact a.elim
      | ow l x => exact a.elim
  obtain ⟨xs, rx, hz, hread⟩ := allD_ok ar2 (hv dvs R0 R hsp)
  obtain ⟨oc, od, kV, doc, pm, an, cdv, ct, osl, rfl, lk, hcd⟩ := Fn.ex
  have hn : H s.heap.objs.size = none := e0.hok.fresh (Nat.le_refl _)
  have hvl : vs.length ≤ sizeLine := by rw [rx.len]; exact lim_le hz
  have hul : us.length ≤ sizeLine := by rw [← rv.length]; exact hvl
  refine StX.run_bnd (N := N) (ps := [pv]) lk hcd S room e0 (G := fun ys H2 => ∃ p, H p = none ∧ ys = [V.ref p] ∧ H2 = upd H p (.tup vs)) (fun A' Ex Q' h => ?_) fun s2 H2 ys g room2 => ?_
  · rw [hb kV doc pm an cdv ct us]
    refine wpAny_bind (wpAny_newTuple (wpAny_pure ?_) hul)
    have new : ObjOk P w (upd H s.heap.objs.size (.tup vs)) (s.heap.push ({ cls := .type "tuple", data := .seq us.toArray } : Obj)) s.heap.objs.size (.tup vs) := ⟨hvl, us, rv, ⟨_, Heap.get?_push_size _ rfl, rfl, _, rfl⟩⟩
    have un := StX.un_laid (fs := frs outer) (s := s) (o := ({ cls := .type "tuple", data := .seq us.toArray } : Obj)) (u := .tup vs) hn
    exact h _ _ [V.ref s.heap.objs.size] [Value.ref s.heap.objs.size] (StX.env0_laid e0 new) un rfl (fun e s' => StX.cxUp outer s H _ _ E e s' un (fun c o q => Heap.get?_push_of_some _ q) rfl) (.cons rfl .nil) rfl ⟨_, hn, rfl, rfl⟩
  · obtain ⟨p, hp, rfl, rfl⟩ := g
    have stp := wd.laid (o := .tup vs) hp
    have ra : Rp K (upd F p (.tup vs)) (.ref p) (.tuple xs) := Rp.tup (SqT.of upd_same) (rx.up stp.ex)
    refine ⟨_, hd cdv A outer s2 _ E R ⟨b, upd F p (.tup vs), upd H p (.tup vs)⟩ rfl ht (fun c C n x v d F' H' hc s h rp hr => hE c C n x v d F' H' hc (stp.trans s) h rp hr) (guards_in ag _) room2 (takes_of rfl rfl rfl rfl), startD N [.d (.tuple xs)], upd F p (.tup vs), _, rel_start stp.wd (.cons ra .nil), hread, ?_⟩
    refine ⟨fun env σ F' H' r _ z => ?_, fun env σ F' H' r _ z => z, fun env σ F' H' r _ z => z, fun dv v F' H' st' rs z => q dv v F' H' (stp.trans st') (rs.early stp) z⟩
    exact q (.d .none) .non F' H' (stp.trans r.st) Rp.non z
end Dl
namespace Dl
open PySem PySem.Spec PyProof.Rows L2
/-! ### try .. except C as n -/
def noOw (env : List Sl) : Prop := ∀ (i : Nat) (l : Addr) (xs : List PyData), env[i]? ≠ some (.ow l xs)
section
variable {K : PySem.W.Frag} {b : Bg} {F₀ H₀ F₁ H₁ F H : Hp} {env : List Sl} {σ : L2.St}
theorem Rel.reroot (r : Rel K b F₀ H₀ env σ F H) (no : noOw env) : Rel K b F H env σ F H := by
  refine ⟨r.len, r.st.wd.refl, fun i s h => ?_, fun i j l xs ys h1 _ => absurd h1 (no i l xs)⟩
  have q := r.at' i s h
  cases s with
  | ow l xs => exact absurd h (no i l xs)
  | _ => exact q
theorem Rel.unroot (s : Stp K b F₀ H₀ F₁ H₁) (r : Rel K b F₁ H₁ env σ F H) : Rel K b F₀ H₀ env σ F H := by
  refine ⟨r.len, s.trans r.st, fun i z h => ?_, r.own⟩
  have q := r.at' i z h
  cases z with
  | ow l xs =>
    obtain ⟨q1, q2, q3, q4, q5⟩ := q
    refine ⟨q1, ?_, q3, q4, q5⟩
    cases e : H₀ l with
    | none => rfl
    | some o =>
      by_cases z : ∃ ps, o = .tbl ps
      · obtain ⟨ps, rfl⟩ := z
        obtain ⟨qs, z, _⟩ := s.tab l ps q4 e
        rw [q2] at z; cases z
      · have := s.keep l o q4 (fun ps z2 => z ⟨ps, z2⟩) e
        rw [q2] at this; cases this
  | _ => exact q
end
theorem Fit.root {K : PySem.W.Frag} {w : Wn} {F₁ H₁ : Hp} {d : DK} {D : Ends} (st : Stp K w.b w.F w.H F₁ H₁) (f : Fit K w F₁ d D) : Fit K ⟨w.b, F₁, H₁⟩ F₁ d D :=
  ⟨fun env σ F H r z => f.nx env σ F H (Rel.unroot st r) z, fun env σ F H r z => f.bk env σ F H (Rel.unroot st r) z, fun env σ F H r z => f.ct env σ F H (Rel.unroot st r) z, fun dv v F H s r z => f.rt dv v F H (st.trans s) (Res.early st r) z⟩
/-- the ends behind a suite: the exception's name is forgotten -/
def forgotD (i : Nat) (d : DK) : DK := { nx := fun e => d.nx (e.set i .un), rt := d.rt, bk := fun e => d.bk (e.set i .un), ct := fun e => d.ct (e.set i .un) }
def forgotE (i : Nat) (D : Ends) : Ends := { nx := fun σ' H' => D.nx (σ'.set i none) H', rt := D.rt, bk := fun σ' H' => D.bk (σ'.set i none) H', ct := fun σ' H' => D.ct (σ'.set i none) H' }
theorem Fit.forget {K : PySem.W.Frag} {w : Wn} {F₁ : Hp} {d : DK} {D : Ends} (i : Nat) (f : Fit K w F₁ d D) : Fit K w F₁ (forgotD i d) (forgotE i D) :=
  ⟨fun env σ F H r z h => f.nx _ _ F H (r.forget i) z h, fun env σ F H r z h => f.bk _ _ F H (r.forget i) z h, fun env σ F H r z h => f.ct _ _ F H (r.forget i) z h, f.rt⟩
abbrev DSuite := Addr → Str → Str → PyData → DS
/-- what the body's exceptions are wished -/
def rIn (i : Nat) (cs : List (Str × Str)) (exm : Str → Bool) (tS : DSuite) (R : List Sl → XD) (d : DK) : List Sl → XD := fun env c n x => (c, n) ∈ cs ∧ (exm c = true → noOw env ∧ ∀ a, tS a c n x (forgotD i d) (env.set i (.raw (.ref a)))) ∧ (exm c = false → R env c n x)
def tTryAs (i : Nat) (cs : List (Str × Str)) (exm : Str → Bool) (tS : DSuite) (R : List Sl → XD) (tB : (List Sl → XD) → DS) : DS := fun d env => noOw env ∧ tB (rIn i cs exm tS R d) d env
section
variable {X : Cx} {w : Wn} {E : L2.St → XK} {R : List Sl → XD} {x n : Str} {cv : Value} {i : Nat} {body suite : List Stmt} {b₀ : Stmt} {np pos pos' : Pos}
def sufT (X : Cx) (w : Wn) (cs : List (Str × Str)) (tS : DSuite) : Addr → Value → Option Addr → TS := fun a cls d D σ H => ∃ c C nf y v dd F, Wd X.K w.b F H ∧ (c, nf) ∈ cs ∧ cls = .ref C ∧ X.mg c = some (.ref C) ∧ d = some dd ∧ H dd = some (.xd [(nf, v)]) ∧ Rp X.K F v y ∧ lfS X.K ⟨w.b, F, H⟩ (tS a c nf y) D σ H
theorem ds_tryAs {cs : List (Str × Str)} {exm : Str → Bool} {tS : DSuite} {tB : (List Sl → XD) → DS}
    (hs : X.stack = X.env :: X.outer) (hf : X.env.frame = some X.env.locals) (hN : X.N.Nodup) (hi : X.N[i]? = some n) (hln : X.env.kindOf n = some .local) (hc : Names X x cv) (tk : Takes X (fun cls d σ H => E σ cls d H)) (hE : XEnS X.mg X.K w E R)
    (hexm : ∀ q ∈ cs, ∀ C, X.mg q.1 = some (.ref C) → PySem.W.exmOne X.K (.ref C) cv = some (exm q.1))
    (hb : ∀ (pn : List (Addr × Obj)) (xe : Value → Shared → Prop) (E' : L2.St → XK) (Rin : List Sl → XD) (w' : Wn), w'.b = w.b → Takes (X.tr pn xe) (fun cls d σ H => E' σ cls d H) → XEnS X.mg X.K w' E' Rin → DPSs (X.tr pn xe) w' body (tB Rin))
    (hsu : ∀ (a : Addr) (oe : Obj) (pn : List (Addr × Obj)) (c : Str) (C : Addr) (nf : Str) (y : PyData) (v : V) (dd : Addr) (w' : Wn), w'.b = w.b → (c, nf) ∈ cs → X.mg c = some (.ref C) → Wd X.K w'.b w'.F w'.H → w'.H dd = some (.xd [(nf, v)]) → Rp X.K w'.F v y → Zc (.ref C) (some dd) oe → (∃ vs, oe.data = .fields vs) → DPSs (X.suite a ((a, oe) :: pn)) w' (b₀ :: suite) (tS a c nf y)) :
    DPS X w (.Try body [.ExceptHandler (some (.Name x np)) (some n) (b₀ :: suite) pos'] [] [] pos) (tTryAs i cs exm tS R tB) := by
  refine ps_weak (L2.ps_try_as (tb := fun W D σ H => ∃ w' Rin, w'.b = w.b ∧ XEnS X.mg X.K w' (fun σ cls d H => W cls d σ H) Rin ∧ lfS X.K w' (tB Rin) D σ H) (ts := sufT X w cs tS) hs hf hN hi hln hc tk (fun W pn xe tkW _ => ⟨fun p s σ H D I ⟨w', Rin, e, hx, q⟩ => (hb pn xe _ Rin w' e tkW hx).run p s σ H D I q⟩)
    (fun a oe cls d pn hz hfl => ⟨fun p s σ H D I ⟨c, C, nf, y, v, dd, F, ew, e0, e1, e2, e3, e4, e5, q⟩ => by
      subst e1 e3
      exact (hsu a oe pn c C nf y v dd ⟨w.b, F, H⟩ rfl e0 e2 ew e4 e5 hz hfl).run p s σ H D I q⟩)) fun D σ H ⟨env, F, d, r, ⟨no, h⟩, fit⟩ => ?_
  refine ⟨⟨w.b, F, H⟩, rIn i cs exm tS R d, rfl, fun env2 σ2 F2 H2 r2 c C nf y v dd F3 H3 hc3 s3 h3 rp ⟨hcs, q1, q2⟩ => ?_, env, F, d, r.reroot no, h, fit.root r.st⟩
  refine ⟨exm c, hexm (c, nf) hcs C hc3, fun hb1 a ha => ?_, fun hb1 => ?_⟩
  · obtain ⟨no2, q⟩ := q1 hb1
    refine ⟨c, C, nf, y, v, dd, F3, s3.wd, hcs, rfl, hc3, rfl, h3, rp, env2.set i (.raw (.ref a)), F3, forgotD i d, ?_, q a, ?_⟩
    · have z := (r2.step s3).reroot no2
      exact z.put i (z := .raw (.ref a)) (v := .ref a) rfl (fun l xs ys j e => by cases e)
    · have st2 : Stp X.K w.b w.F w.H F3 H3 := (r.st.trans r2.st).trans s3
      exact ((fit.up (r2.st.trans s3).ex).root st2).forget i
  · exact hE env2 σ2 F2 H2 (Rel.unroot r.st r2) c C nf y v dd F3 H3 hc3 s3 h3 rp (q2 hb1)
end
end Dl
namespace Dl
open PySem PySem.Spec PyProof.Rows L2
/-! ### in an except suite: e.f and isinstance(e, C) -/
section
variable {X : Cx} {w : Wn} {a C dd : Addr} {oe : Obj} {pn : List (Addr × Obj)} {n x : Str} {i : Nat} {y : PyData} {v : V} {p pos p2 : Pos} {e2 : Expr}
theorem xd_stays {K : PySem.W.Frag} {b : Bg} {F₀ H₀ F H : Hp} {fs : List (Str × V)} (st : Stp K b F₀ H₀ F H) (wd : Wd K b F₀ H₀) (h : H₀ dd = some (.xd fs)) : H dd = some (.xd fs) := by
  refine st.keep dd _ (fun e => ?_) (fun ps e => by cases e) h
  obtain ⟨vs, eb⟩ := wd.bag.lst
  rw [e, eb] at h; cases h
def tAtX (i : Nat) (a : Addr) (y : PyData) : DT := fun env P => env[i]? = some (.raw (.ref a)) ∧ P (.d y)
theorem d_atX (T : XfC X.K C) (hno : PySem.W.findIn X.K (.ref C) n = some none) (hz : Zc (.ref C) (some dd) oe) (hf : ∃ vs, oe.data = .fields vs) (wd : Wd X.K w.b w.F w.H) (hd : w.H dd = some (.xd [(n, v)])) (rp : Rp X.K w.F v y)
    (he : PE (X.suite a ((a, oe) :: pn)) e2 (tVar i)) (hb : attributeBase e2 n X.env (eval e2 X.env) = eval e2 X.env := by rfl) : DPE (X.suite a ((a, oe) :: pn)) w (.Attribute e2 n pos) (tAtX i a y) :=
  pe_weak (pe_xf T hno hz hf he hb) fun σ H Q ⟨env, F, P, r, ⟨e, h⟩, q⟩ => ⟨.ref a, r.at' i _ e, rfl, rfl, dd, [(n, v)], v, rfl, xd_stays r.st wd hd, by simp [List.lookup], q (.d y) v F H r.wd.refl (rp.up r.st.ex) h⟩
def rIsX (K : PySem.W.Frag) (D a dd : Addr) : List V → Hp → VK → Prop := fun xs H Q => ∃ (fs : List (Str × V)) (c : V) (cv : Value) (b : Bool), H dd = some (.xd fs) ∧ xs = [.ref a, c] ∧ (∀ u, RelV c u → u = cv) ∧ PySem.W.kitOne K (.ref D) cv = some b ∧ Q (.bl b) H
theorem call_isX (T : ExcC X.K C) (hz : Zc (.ref C) (some dd) oe) (hf : ∃ vs, oe.data = .fields vs) : CallR (X.suite a ((a, oe) :: pn)) (.builtin "isinstance") (rIsX X.K C a dd) := by
  intro pins s σ H xs us Q I r h
  obtain ⟨fs, c, cv, b, hdd, rfl, hcv, e, q⟩ := h
  cases r with
  | cons rx rr =>
    cases rr with
    | cons rt rr =>
      cases rr
      cases rx
      have ec := hcv _ rt
      subst ec
      obtain ⟨hget, _⟩ := I.pin (a, oe) (List.mem_append.mpr (.inl List.mem_cons_self))
      obtain ⟨vs, hv⟩ := hf
      have hx : ObjOk X.prog X.w H s.heap dd (.xd fs) := I.hok dd _ hdd
      obtain ⟨mA, hns, hr⟩ := hx
      obtain ⟨od, ho, hl⟩ := lookIn_ns hns
      have J : PySem.W.InstAt s.heap a oe C (some od) := ⟨hget, hz.1, by unfold PySem.W.notCls; rw [hv] <;> rfl, by rw [hz.2]; exact ho⟩
      have hcl : (PySem.W.clsIn X.K C).isSome = true := by
        obtain ⟨cd, hc, _⟩ := PySem.W.any_some T.hd
        rw [hc]; rfl
      exact PySem.W.kia_one (PySem.W.kitx_exc hcl T.hg T.hk T.hs T.ha T.hn T.ht T.hm) I.kIn J e (fun z => nomatch z) fun tk => ⟨.bl b, H, I.kept (t' := tk) fun _ _ z => z, rfl, q⟩
def tIsX (i : Nat) (a : Addr) (b : Bool) : DT := fun env P => env[i]? = some (.raw (.ref a)) ∧ P (.d (.bool b))
theorem d_isX {c : V} {cv : Value} {b : Bool} {x1 x2 : Str} {p1 p3 : Pos} (T : ExcC X.K C) (hz : Zc (.ref C) (some dd) oe) (hf : ∃ vs, oe.data = .fields vs) (wd : Wd X.K w.b w.F w.H) {fs : List (Str × V)} (hd : w.H dd = some (.xd fs))
    (gl : Gl (X.suite a ((a, oe) :: pn)) "isinstance") (gm : X.mg "isinstance" = none) (he : PE (X.suite a ((a, oe) :: pn)) (.Name x1 p1) (tVar i)) (hc : PE (X.suite a ((a, oe) :: pn)) (.Name x2 p3) (tC c)) (hcv : ∀ u, RelV c u → u = cv) (hk : PySem.W.kitOne X.K (.ref C) cv = some b) : DPE (X.suite a ((a, oe) :: pn)) w (.Call (.Name "isinstance" p) [.Name x1 p1, .Name x2 p3] [] pos) (tIsX i a b) := by
  refine pe_weak (pe_callB (call_isX T hz hf) gl gm (by decide +kernel) (pa_cons he (pa_cons hc pa_nil))) fun σ H Q ⟨env, F, P, r, ⟨e, h⟩, q⟩ => ?_
  exact ⟨.ref a, r.at' i _ e, fs, c, cv, b, xd_stays r.st wd hd, rfl, hcv, hk, q (.d (.bool b)) (.bl b) F H r.wd.refl (Rp.bl b) h⟩
end
end Dl
namespace Dl
open PySem PySem.Spec PyProof.Rows L2
/-! ### readings of what may refuse, for the walk -/
section
variable {sp : DSpX} {R : List Sl → XD} {t : DA} {env : List Sl} {P : DV → Prop} {c n : Str} {te : DT} {d : DK}
theorem uxE : tUseX sp R t env P = t env fun us => anyOw us = [] ∧ sp (us.map dat) P (R env) := propext ⟨fun h => h, fun h => h⟩
theorem raE : tRaiseX R c n te d env = te env fun u => match u with
  | .d x => R env c n x
  | _ => False := propext ⟨fun h => h, fun h => h⟩
theorem isE (i : Nat) (a : Addr) (b : Bool) : tIsX i a b env P = (env[i]? = some (.raw (.ref a)) ∧ P (.d (.bool b))) := propext ⟨fun h => h, fun h => h⟩
theorem axE (i : Nat) (a : Addr) (y : PyData) : tAtX i a y env P = (env[i]? = some (.raw (.ref a)) ∧ P (.d y)) := propext ⟨fun h => h, fun h => h⟩
end
theorem noOw_ok (env : List Sl) (h : env.all (fun s => match s with | .ow _ _ => false | _ => true) = true) : noOw env := fun i l xs e => by
  have m := List.mem_of_getElem? e
  have := List.all_eq_true.mp h _ m
  simp at this
/-- a list taken apart into names -/
def gtLD (n : Nat) (gs : DGs) : DG := fun x env k => match x with
  | .list xs => xs.length = n ∧ gs xs env k
  | _ => False
theorem dg_lst {X : Cx} {w : Wn} {pos : Pos} {es : List Expr} {k n : Nat} {gs : DGs} (hc : X.calm = true) (h : PGs X es (lfGs X.K w gs)) (hn : (assignEach es X.env).length = n := by rfl) (hst : (assignEach es X.env).findIdx? (fun x => x.fst) = none := by rfl) : PG X (.Tuple es k pos) (lfG X.K w (gtLD n gs)) := by
  refine pg_weak (pg_lst hc h hn hst) fun v σ H Q ⟨env, F, x, k, r, rx, h, q⟩ => ?_
  cases x with
  | list xs =>
    cases rx with
    | lst e1 r1 => exact ⟨_, _, rfl, SqL.of (r.st.sub _ _ e1), by rw [r1.len]; exact h.1, env, F, xs, k, r, r1, h.2, q⟩
  | _ => exact h.elim
/-- enumerate of truths, from k on -/
def enumF (k : Nat) : List Bool → List PyData
  | [] => []
  | b :: bs => .tuple [.int (k : Nat), .bool b] :: enumF (k + 1) bs
/-- the first that is False -/
def fstF (k : Nat) : List Bool → Option Nat
  | [] => none
  | b :: bs => if b then fstF (k + 1) bs else some k
theorem enumF_from : ∀ (k : Nat) (bs : List Bool), ((bs.map PyData.bool).zipIdx k).map (fun p => PyData.tuple [.int (p.2 : Nat), p.1]) = enumF k bs
  | _, [] => rfl
  | k, b :: bs => by
    rw [List.map_cons, List.zipIdx_cons, List.map_cons, enumF_from (k + 1) bs]
    rfl
theorem enumF_eq (bs : List Bool) : enumD (bs.map PyData.bool) = enumF 0 bs := enumF_from 0 bs
theorem allD_bools (bs : List Bool) {k : List PyData → Prop} (h : k (bs.map .bool)) : allD (bs.map fun b => DV.d (.bool b)) k := by
  induction bs generalizing k with
  | nil => exact h
  | cons b bs ih =>
    rw [List.map_cons]
    unfold allD
    refine ih (k := fun xs => k (.bool b :: xs)) ?_
    exact h
theorem mem_rngD {lo : Int} {n : Nat} {x : PyData} (h : x ∈ rngD lo n) : ∃ i : Nat, i < n ∧ x = .int (lo + (i : Nat)) := by
  unfold rngD at h
  obtain ⟨j, hj, rfl⟩ := List.mem_map.mp h
  exact ⟨j, List.mem_range.mp hj, rfl⟩
/-- a list comprehension without a condition: what holds of each item -/
theorem lc_all {g : DG} {te : DT} {env : List Sl} {P : DV → Prop} (Pr : PyData → Prop) {xs : List PyData} (hl : xs.length ≤ 100000)
    (hend : ∀ ys : List PyData, ys.length = xs.length → (∀ y ∈ ys, Pr y) → P (.fr ys))
    (hstep : ∀ x ∈ xs, ∀ R : PyData → Prop, (∀ y, Pr y → R y) → g x env fun e2 => te e2 fun dv => match frz dv with
      | .d y => R y
      | _ => False) : lcD g (fun _ P => P true) te env xs [] P := by
  refine lcD_ind (fun zs acc => (∀ z ∈ zs, z ∈ xs) ∧ (∀ y ∈ acc, Pr y) ∧ acc.length + zs.length = xs.length) (fun acc hI => ?_) (fun x zs acc R hI hR => ?_) _ _ ⟨fun _ z => z, fun _ h => absurd h List.not_mem_nil, by simp⟩
  · obtain ⟨_, ha, e⟩ := hI
    exact hend acc (by simpa using e) ha
  · obtain ⟨hz, ha, e⟩ := hI
    rw [List.length_cons] at e
    refine hstep x (hz x (List.mem_cons_self ..)) (fun y => acc.length < 100000 ∧ R (acc ++ [y])) fun y hy => ⟨by omega, hR _ ⟨fun z hm => hz z (List.mem_cons_of_mem _ hm), fun z hm => ?_, by rw [List.length_append, List.length_singleton]; omega⟩⟩
    rcases List.mem_append.mp hm with hm | hm
    · exact ha z hm
    · rw [List.mem_singleton.mp hm]; exact hy
/-- .. where the items' values are known -/
theorem lc_map {g : DG} {te : DT} {env : List Sl} {P : DV → Prop} (f : PyData → PyData) {xs : List PyData} (hl : xs.length ≤ 100000)
    (hend : P (.fr (xs.map f)))
    (hstep : ∀ x ∈ xs, ∀ R : PyData → Prop, R (f x) → g x env fun e2 => te e2 fun dv => match frz dv with
      | .d y => R y
      | _ => False) : lcD g (fun _ P => P true) te env xs [] P := by
  refine lcD_ind (fun zs acc => (∀ z ∈ zs, z ∈ xs) ∧ acc ++ zs.map f = xs.map f) (fun acc hI => ?_) (fun x zs acc R hI hR => ?_) _ _ ⟨fun _ z => z, rfl⟩
  · obtain ⟨_, e⟩ := hI
    rw [List.map_nil, List.append_nil] at e
    rw [e]; exact hend
  · obtain ⟨hz, e⟩ := hI
    have e2 := congrArg List.length e
    simp only [List.length_append, List.length_map, List.length_cons] at e2
    refine hstep x (hz x (List.mem_cons_self ..)) (fun y => acc.length < 100000 ∧ R (acc ++ [y])) ⟨by omega, hR _ ⟨fun z hm => hz z (List.mem_cons_of_mem _ hm), ?_⟩⟩
    rw [← e, List.map_cons, List.append_assoc]
    rfl
theorem sn_emp : Sn 1 2 (.dict []) := ⟨by decide, by decide, by decide, by decide⟩
end Dl
set_option exponentiation.threshold 100000
namespace Lk
open PySem PySem.Spec PyProof.Rows L2 Dl
def topS (i : Nat) : Stmt := PySem.Challenge.pw_truechain_k18_fractions_refused.main.body.getD i (.Pass ⟨0, 0, 0, 0⟩)
def inS (s : Stmt) (j : Nat) : Stmt := match s with | .ClassDef _ _ _ b _ _ _ _ _ _ _ => b.getD j (.Pass ⟨0, 0, 0, 0⟩) | _ => s
local macro_rules | `(tactic| walk_at "dl") => `(tactic| simp only [↓sqD, ↓alE, ↓rvE, capD, capSl, ↓stE, ↓reE, tRetVD, ↓ifE, tDropD, tParD, tAsgD, tAppD, tInsD, tDict1, tJoin, tSlT, tSlS, cSorted, cTuple, gLtT, tPar3D, ↓ixE, tSetI, tAugI, ↓vaE, ↓cdE, tRaw, ↓biE, ↓rdE, rd, gAdd, gMinus, gMul, gFdiv, gMod, gPow, gIn, gEqv, id,
  isB, ↓tsE, ↓unE, gNeg, ↓anE, ↓orE, ↓noE, ↓uxE, ↓raE, ↓isE, ↓axE, ↓trE, truOk, truD, ↓itE, tAnV, tOrV', tNoV, tIsNV, nonB, tChD, ↓nlE, ↓coE, frz, allD, ↓liE, ↓tuE, ↓caE, one, two, cLen, cAbs, cMin, cInt, cGcd, cList, cIsi, isA, cRepr, cStr, tEmp,
  ↓usE, dat, okR, anyOw, owA, ↓sdE, stD, unS, gnD, gtD, gtLD, gconsD, gnilD, itR1, itR2, itLst, itTup, itEnum, itEnumT, itZip, itStr, ↓foE, startD, toSl, frzS, tSlL, oNone, oSome, List.flatMap_cons, List.flatMap_nil, List.nil_append, List.append_nil, List.cons_append,
  List.map_cons, List.map_nil, List.length_cons, List.length_nil, List.replicate, Nat.reduceAdd, Nat.reduceSub, List.getElem?_cons_zero, List.getElem?_cons_succ, List.set_cons_zero, List.set_cons_succ, at0, at1, at2, ↓gi0, ↓gi1, ↓gi2, ↓li0, ↓li1, ↓li2, tBitLen, true_or, or_true, true_and, and_true, Bool.not_true, Bool.not_false, String.reduceBEq, Bool.or_true, Bool.true_or, Bool.or_false, Bool.false_or, Bool.and_true, Bool.true_and, Bool.and_false, Bool.false_and, Bool.false_eq_true, if_true, if_false, reduceCtorEq, ↓reduceIte])
/-- a fraction in lowest terms, as data -/
def FrL (x : PyData) : Prop := ∃ p q : Int, x = .tuple [.int p, .int q] ∧ Fk 210 p q
theorem FrL.isFr {x : PyData} (h : FrL x) : isFr x = true := by
  obtain ⟨p, q, rfl, f⟩ := h
  exact isFr_of f.f
theorem FrL.noL {x : PyData} (h : FrL x) : noL x = true := by
  obtain ⟨p, q, rfl, f⟩ := h
  rfl
theorem FrL.sh {x : PyData} (h : FrL x) : Sh x := by
  obtain ⟨p, q, rfl, f⟩ := h
  exact sh2 f.t f.b
theorem FrL.ly {x : PyData} (h : FrL x) : Ly 1 x := by
  obtain ⟨p, q, rfl, f⟩ := h
  exact ly2 p q
/-- the order of two fractions, as data -/
def cmpF : PyData → PyData → Int
  | .tuple [.int p, .int q], .tuple [.int u, .int v] => cmpT p q u v
  | _, _ => 0
/-- the outermost fraction to a side -/
def sel (s : Int) : List PyData → PyData → PyData
  | [], a => a
  | x :: xs, a => sel s xs (if cmpF x a = s then x else a)
theorem sel_fr {s : Int} : ∀ {xs : List PyData} {a : PyData}, (∀ x ∈ xs, FrL x) → FrL a → FrL (sel s xs a)
  | [], _, _, h => h
  | x :: xs, a, hx, h => by
    unfold sel
    refine sel_fr (fun y hy => hx y (List.mem_cons_of_mem _ hy)) ?_
    split
    · exact hx x (List.mem_cons_self ..)
    · exact h
theorem fr_sh {k : Nat} {D : Int} {x : PyData} (h : FrD k D x) (hD0 : D ≠ 0) (hD : D.natAbs < 2 ^ k) (h0 : 0 < k := by decide) (hk : k < 1920 := by decide) : Sh x := by
  obtain ⟨p, q, rfl, f⟩ := h.fk hD0 hD
  exact sh2 f.t f.b h0 hk
theorem fr_ly {k : Nat} {D : Int} {x : PyData} (h : FrD k D x) : Ly 1 x := by
  obtain ⟨p, q, rfl, _⟩ := h
  exact ly2 p q
theorem tot_lt {D : Int} {xs : List PyData} (hl : xs.length ≤ 1000) (hx : ∀ x ∈ xs, FrD 600 D x) (hD : D.natAbs < 2 ^ 200) : aS (xs.map (numD D)) < 2 ^ 810 := by
  have h : aS (xs.map (numD D)) ≤ (xs.map (numD D)).length * 2 ^ 800 := aS_le fun n hn => by
    obtain ⟨x, hx2, rfl⟩ := List.mem_map.mp hn
    exact Nat.le_of_lt ((hx x hx2).num hD)
  rw [List.length_map] at h
  have h2 : xs.length * 2 ^ 800 ≤ 1000 * 2 ^ 800 := Nat.mul_le_mul_right _ hl
  exact Nat.lt_of_le_of_lt (Nat.le_trans h h2) (by decide)
theorem q_le {D n b t : Int} (hD : 0 < D) (hb : 0 < b) (d : b ∣ D) (e : n * b = D * t) : t.natAbs ≤ n.natAbs := by
  have h1 : b.natAbs ≤ D.natAbs := Nat.le_of_dvd (by omega) (Int.natAbs_dvd_natAbs.mpr d)
  have h2 : n.natAbs * b.natAbs = D.natAbs * t.natAbs := by rw [← Int.natAbs_mul, e, Int.natAbs_mul]
  have h3 : D.natAbs * t.natAbs ≤ D.natAbs * n.natAbs := by rw [← h2, Nat.mul_comm]; exact Nat.mul_le_mul_right _ h1
  exact Nat.le_of_mul_le_mul_left h3 (by omega)
theorem nu_fr {D n s r : Int} {k : Nat} (h : Nu D n s r) (hD : D ≠ 0) (hn : n.natAbs < 2 ^ k) : FrD k D (.tuple [.int s, .int r]) := ⟨s, r, rfl, h.f, h.dvd, Nat.lt_of_le_of_lt (h.le hD).2 hn⟩
theorem nu_num {D n s r : Int} (h : Nu D n s r) : numD D (.tuple [.int s, .int r]) = n := by
  show s * (D / r) = n
  obtain ⟨c, hc⟩ := h.dvd
  have hr := h.f.pos
  have e := h.e
  rw [hc, Int.mul_ediv_cancel_left _ (Int.ne_of_gt hr)]
  rw [hc] at e
  refine Int.eq_of_mul_eq_mul_right (Int.ne_of_gt hr) ?_
  rw [e]
  ac_rfl
/-- isinstance of a refusal of class c, asked for class d -/
def isx (c d : Str) : Bool := c == d || d == ("ChainError" : Str) || d == ("ValueError" : Str)
/-- a small fraction in lowest terms, as data -/
def FrG (x : PyData) : Prop := ∃ p q : Int, x = .tuple [.int p, .int q] ∧ Fk 12 p q
theorem FrG.isFr {x : PyData} (h : FrG x) : isFr x = true := by
  obtain ⟨p, q, rfl, f⟩ := h
  exact isFr_of f.f
theorem FrG.frl {x : PyData} (h : FrG x) : FrL x := by
  obtain ⟨p, q, rfl, f⟩ := h
  exact ⟨p, q, rfl, f.up⟩
theorem FrG.sn {x : PyData} (h : FrG x) : Sn 1 33 x := by
  obtain ⟨p, q, rfl, f⟩ := h
  refine sn_tup (n := 0) (k := 13) (m := 2) fun z hz => ?_
  simp only [List.mem_cons, List.not_mem_nil, or_false] at hz
  rcases hz with rfl | rfl
  · exact sn_int f.t
  · exact sn_int f.b
/-- the fraction that a top parted by a bottom is -/
def fr (t b : Int) : PyData := .tuple [.int (loT t b), .int (loB t b)]
theorem fr_eq {t b s r : Int} (hb : b ≠ 0) (f : Frac s r) (e : t * r = b * s) : (.tuple [.int s, .int r] : PyData) = fr t b := by
  obtain ⟨k1, k2⟩ := lo_ok (t := t) hb
  obtain ⟨e1, e2⟩ := frac_same k1 f hb k2 e
  rw [e1, e2]
  rfl
theorem fr_neg (t b : Int) (hb : b ≠ 0) : fr (-t) (-b) = fr t b := by
  obtain ⟨k1, k2⟩ := lo_ok (t := -t) (b := -b) (by omega)
  have := fr_eq (t := t) (b := b) hb k1 (by rw [Int.neg_mul, Int.neg_mul] at k2; omega)
  rw [← this]
  rfl
/-- the product of all bottoms -/
def prodB : List PyData → Int
  | .tuple [.int _, .int q] :: xs => q * prodB xs
  | _ => 1
theorem prodB_pos : ∀ {xs : List PyData}, (∀ x ∈ xs, FrG x) → 0 < prodB xs ∧ (prodB xs).natAbs < 2 ^ (12 * xs.length + 1)
  | [], _ => ⟨by decide, by decide⟩
  | x :: xs, h => by
    obtain ⟨p, q, rfl, f⟩ := h x (List.mem_cons_self ..)
    obtain ⟨a, b⟩ := prodB_pos (xs := xs) fun y hy => h y (List.mem_cons_of_mem _ hy)
    refine ⟨Int.mul_pos f.pos a, ?_⟩
    have := natAbs_mul_lt f.b b
    rw [show 12 + (12 * xs.length + 1) = 12 * (xs.length + 1) + 1 by omega] at this
    exact this
theorem prodB_frd : ∀ {xs : List PyData}, (∀ x ∈ xs, FrG x) → ∀ x ∈ xs, FrD 600 (prodB xs) x
  | [], _, x, hx => absurd hx List.not_mem_nil
  | y :: xs, h, x, hx => by
    obtain ⟨p, q, rfl, f⟩ := h y (List.mem_cons_self ..)
    rcases List.mem_cons.mp hx with rfl | hx
    · exact ⟨p, q, rfl, f.f, Int.dvd_mul_right _ _, two_le f.t (by decide)⟩
    · exact (prodB_frd (fun y hy => h y (List.mem_cons_of_mem _ hy)) x hx).up (by decide) (Int.dvd_mul_left _ _)
def dueV (w : Int) (some : List PyData) : PyData := match some with
  | [.int t, .int b] => fr t b
  | [.tuple [.int p, .int q], .tuple [.int u, .int v]] => if w = 1 then fr (p * v + u * q) (q * v) else if w = 2 then fr (p * v - u * q) (q * v) else if w = 3 then fr (p * u) (q * v) else .int (cmpT p q u v)
  | [.list (a :: xs)] => if w = 5 then fr (totD (prodB (a :: xs)) (a :: xs)) (prodB (a :: xs)) else if w = 6 then sel (-1) (a :: xs) a else sel 1 (a :: xs) a
  | _ => .none
def Good (w : Int) (some : List PyData) : Prop := (w = 0 ∧ ∃ t b : Int, some = [.int t, .int b] ∧ b ≠ 0 ∧ t.natAbs < 2 ^ 70 ∧ b.natAbs < 2 ^ 70) ∨ (1 ≤ w ∧ w ≤ 4 ∧ ∃ x y, some = [x, y] ∧ FrG x ∧ FrG y) ∨ (5 ≤ w ∧ w ≤ 7 ∧ ∃ a xs, some = [.list (a :: xs)] ∧ xs.length < 6 ∧ ∀ x ∈ a :: xs, FrG x)
/-- a list of so many fractions -/
def isFrL (m : Int) : PyData → Bool
  | .list xs => decide (m ≤ xs.length) && decide (xs.length ≤ 1000) && xs.all isFr
  | _ => false
def Bd (w k : Int) (some : List PyData) : Prop := (w = 0 ∧ ∃ x y, some = [x, y] ∧ ((k = 0 ∧ isWh x = false) ∨ (k = 1 ∧ isWh x = true ∧ (isWh y = false ∨ y = .int 0)))) ∨
  (1 ≤ w ∧ w ≤ 4 ∧ ∃ x y, some = [x, y] ∧ ((k = 0 ∧ isFr x = false) ∨ (k = 1 ∧ isFr x = true ∧ isFr y = false))) ∨
  (5 ≤ w ∧ w ≤ 7 ∧ k = 0 ∧ ∃ x, some = [x] ∧ isFrL (if w = 5 then 0 else 1) x = false)
theorem sn2 {a b : PyData} {k : Nat} (ha : Sn 1 k a) (hb : Sn 1 k b) : Sn 2 (2 * (k + 2) + 3) (.tuple [a, b]) := sn_tup (n := 1) (k := k) (m := 2) fun z hz => by
  simp only [List.mem_cons, List.not_mem_nil, or_false] at hz
  rcases hz with rfl | rfl
  · exact ha
  · exact hb
theorem sn2l {a b : PyData} {k : Nat} (ha : Sn 1 k a) (hb : Sn 1 k b) : Sn 2 (2 * (k + 2) + 3) (.list [a, b]) := sn_lst (n := 1) (k := k) (m := 2) fun z hz => by
  simp only [List.mem_cons, List.not_mem_nil, or_false] at hz
  rcases hz with rfl | rfl
  · exact ha
  · exact hb
/-! _law_bag -/
abbrev s__law_bag : Stmt := topS 40
abbrev N__law_bag : List Str := ["_law_script", "_law_cell"]
theorem sc__law_bag : FnScope N__law_bag ["_law_script"] (defScope s__law_bag) := ⟨rfl, rfl, rfl, by decide +kernel, rfl, by decide +kernel, by decide +kernel⟩
section
variable {ts : List Addr} {P : Program} {w : World} {K : PySem.W.Frag} {mg : Str → Option Value} {base : Heap}
theorem ok__law_bag {f : Addr} {fd : FuncData} (Fn : L2.Fun K "_law_bag" "_law_bag" s__law_bag f fd) (z_abs : mg "abs" = none) : Fg P w K mg base (L2.CX P w) 1 f (spBag K) := by
  refine r_def Fn sc__law_bag (fun _ _ _ _ _ _ us hl => match us, hl with | [_], _ => rfl) (spBag K) fun cdv A outer s H vs Q E ag hr want => ?_
  obtain ⟨a, ns, rfl, seq, hl, q⟩ := want
  have S := sc__law_bag
  refine ⟨rfl, bgT K, pss_one (ps_ret (pe_lst (pa_cons pe_int (pa_cons pe_int (pa_cons pe_int (pa_cons (pe_lc (own := [("_law_cell", 1)]) rfl S.nd (pi_list (pe_slice sl_list (pv 0) po_none (po_some pe_int))) (blkOk_by (N := N__law_bag) (sc := defScope s__law_bag) (by decide +kernel)) (fun _ _ _ _ _ => pg_name (i := 1) S.nd rfl (Or.inl rfl)) (fun _ _ _ _ _ => pts_nil) (fun _ _ _ _ _ => pe_callB call_abs (by rfl) z_abs (by decide +kernel) (pa_cons (pv 1) pa_nil))) pa_nil)))))), ?_⟩
  exact bg_go seq hl q
end
/-! _law_take -/
abbrev s__law_take : Stmt := topS 41
abbrev N__law_take : List Str := ["_law_bag_here", "_law_many", "_law_cell", "_law_value", "_law_first", "_law_second"]
theorem sc__law_take : FnScope N__law_take ["_law_bag_here", "_law_many"] (defScope s__law_take) := ⟨rfl, rfl, rfl, by decide +kernel, rfl, by decide +kernel, by decide +kernel⟩
section
variable {ts : List Addr} {P : Program} {w : World} {K : PySem.W.Frag} {mg : Str → Option Value} {base : Heap}
theorem ok__law_take {f : Addr} {fd : FuncData} (Fn : L2.Fun K "_law_take" "_law_take" s__law_take f fd) (z_len : mg "len" = none) : Fg P w K mg base (L2.CX P w) 1 f (Pm K ts sp__law_take) := by
  refine r_def Fn sc__law_take (fun _ _ _ _ _ _ us hl => match us, hl with | [_, _], _ => rfl) (Pm K ts sp__law_take) fun cdv A outer s H vs Q E ag hr want => ?_
  obtain ⟨b, F, dvs, R, _, wd, ar, ⟨m, rfl, hm, hs, hR⟩, q⟩ := want
  match vs, ar with
  | [_, _], .cons a1 (.cons a2 .nil) =>
  cases a1
  cases a2
  have S := sc__law_take
  refine ⟨rfl, tkT K, pss_cons (ps_if (pt_cmpR op_eq (pe_ix ix_list (pv 0) pe_int (fun _ _ => rfl)) pe_int (nomark _))
      (pss_cons (ps_set (i := 2) S.nd rfl (.inl rfl) pe_int)
      (pss_cons (ps_if (pt_cmpR op_lt (pe_ix ix_list (pv 0) pe_int (fun _ _ => rfl)) (pe_callB call_len_seq (by rfl) z_len PySem.boot_len (pa_cons (pe_ix ix_list (pv 0) pe_int (fun _ _ => rfl)) pa_nil)) (nomark _))
        (pss_one (ps_set (i := 2) S.nd rfl (.inl rfl) (pe_ix ix_list (pe_ix ix_list (pv 0) pe_int (fun _ _ => rfl)) (pe_ix ix_list (pv 0) pe_int (fun _ _ => rfl)) (fun _ _ => rfl)))) pss_nil)
      (pss_cons (ps_augS (pv 0) pe_int get_lst pe_int ip_add set_list)
      (pss_cons (ps_if (pt_cmpR op_ge (pv 2) pe_int (nomark _)) (pss_one (ps_asg (pv 2) (pg_sub (pv 0) pe_int set_list))) pss_nil)
      (pss_one (ps_asg (pe_op op_mod (pe_op op_add (pe_op op_add (pe_op op_mul (pe_ix ix_list (pv 0) pe_int (fun _ _ => rfl)) pe_int) (pe_op op_mod (pv 2) pe_int)) (pe_op op_mul pe_int (pe_ix ix_list (pv 0) pe_int (fun _ _ => rfl)))) pe_int) (pg_sub (pv 0) pe_int set_list))))))) pss_nil)
    (pss_cons (ps_if (pt_cmpR op_gt (pe_ix ix_list (pv 0) pe_int (fun _ _ => rfl)) pe_int (nomark _))
      (pss_cons (ps_set (i := 3) S.nd rfl (.inl rfl) (pe_op op_mod (pe_ix ix_list (pv 0) pe_int (fun _ _ => rfl)) (pv 1)))
      (pss_cons (ps_asg (pe_op op_fdivX (pe_ix ix_list (pv 0) pe_int (fun _ _ => rfl)) (pv 1)) (pg_sub (pv 0) pe_int set_list))
      (pss_one (ps_ret (pv 3))))) pss_nil)
    (pss_cons (ps_set (i := 4) S.nd rfl (.inl rfl) (pe_op op_mod (pe_op op_mul (pe_op op_add (pe_ix ix_list (pv 0) pe_int (fun _ _ => rfl)) pe_int) pe_int) pe_int))
    (pss_cons (ps_set (i := 5) S.nd rfl (.inl rfl) (pe_op op_mod (pe_op op_mul (pe_op op_mod (pe_op op_mul (pv 4) (pv 4)) pe_int) pe_int) pe_int))
    (pss_cons (ps_if (pt_cmpR op_gt (pv 1) pe_int (nomark _)) (pss_one (ps_ret (pe_op op_mod (pe_op op_add (pe_op op_mul (pv 5) pe_int) (pv 4)) (pv 1)))) pss_nil)
    (pss_one (ps_ret (pe_op op_mod (pe_op op_fdiv (pv 5) pe_int) (pv 1)))))))), ?_⟩
  exact tk_go wd hm hs fun r r0 r1 H2 st => q (.d (.int r)) _ F H2 st (.int r) (hR r r0 r1)
end
/-! _law_number -/
abbrev s__law_number : Stmt := topS 46
abbrev N__law_number : List Str := ["_law_bag_here", "_law_spoilt"]
theorem sc__law_number : FnScope N__law_number ["_law_bag_here", "_law_spoilt"] (defScope s__law_number) := ⟨rfl, rfl, rfl, by decide +kernel, rfl, by decide +kernel, by decide +kernel⟩
def rd__law_number : DS := (tSeqD (tIfD (tTru (tVarD 1)) (tRetD (tBin gIx (tLstD (tConsD (tCD .none) (tConsD (tCD (.bool true)) (tConsD (tCD (.bool false)) (tConsD (tCD (.str "3")) (tConsD (tTupD (tConsD (tCD (.int 1)) (tConsD (tCD (.int 2)) tNilD))) (tConsD (tLstD (tConsD (tCD (.int 3)) tNilD)) (tConsD tEmp (tConsD (tTupD (tConsD (tCD (.int 4)) tNilD)) tNilD))))))))) (tUse sp__law_take (tConsD (tVarD 0) (tConsD (tCD (.int 8)) tNilD))))) (fun d env => d.nx env))
    (tRetD (tBin gMul (tBin gIx (tLstD (tConsD (tCD (.int 1)) (tConsD (tUnD gNeg (tCD (.int 1))) tNilD))) (tUse sp__law_take (tConsD (tVarD 0) (tConsD (tCD (.int 2)) tNilD)))) (tBin gAdd (tCD (.int 1)) (tUse sp__law_take (tConsD (tVarD 0) (tConsD (tBin gPow (tCD (.int 10)) (tCD (.int 20))) tNilD)))))))
def sp__law_number : DSp := fun us P => ∃ b, us = [.bag, .d (.bool b)] ∧ (b = true → ∀ x, isWh x = false → Sn 2 200 x → P (.d x)) ∧ (b = false → ∀ i : Int, i ≠ 0 → i.natAbs < 2 ^ 68 → P (.d (.int i)))
theorem vc__law_number : ∀ dvs Q, sp__law_number dvs Q → dvs.length = 2 ∧ rd__law_number { nx := fun _ => Q (.d .none), rt := Q } (startD N__law_number dvs) := by
  rintro dvs Q ⟨b, rfl, h1, h2⟩
  refine ⟨rfl, ?_⟩
  unfold rd__law_number
  refine seqG fun R hR => ?_
  walk_at "dl"
  cases b with
  | true =>
    have h := h1 rfl
    simp only [if_true]
    refine ⟨by decide, by decide, by decide, by decide, 8, rfl, by decide, by decide, fun w w0 w1 => ?_⟩
    walk_at "dl"
    refine pick w0 (by simpa using w1) fun z hz => ?_
    have i1 : ∀ j : Int, j.natAbs < 2 ^ 12 → Sn 0 13 (.int j) := fun j hj => sn_int hj
    simp only [List.mem_cons, List.not_mem_nil, or_false] at hz
    rcases hz with rfl | rfl | rfl | rfl | rfl | rfl | rfl | rfl
    · exact h _ rfl sn_none.up
    · exact h _ rfl (sn_bool true).up
    · exact h _ rfl (sn_bool false).up
    · exact h _ rfl ((sn_str (k := 40) (by decide +kernel)).up)
    · exact h _ rfl (sn2 ((i1 1 (by decide)).up (k := 13) (l := 40)) ((i1 2 (by decide)).up (k := 13) (l := 40))).up
    · exact h _ rfl ((sn_lst (n := 0) (k := 13) (m := 1) fun z hz => by rw [List.mem_singleton.mp hz]; exact i1 3 (by decide)).up)
    · exact h _ rfl sn_emp.up
    · exact h _ rfl ((sn_tup (n := 0) (k := 13) (m := 1) fun z hz => by rw [List.mem_singleton.mp hz]; exact i1 4 (by decide)).up)
  | false =>
    have h := h2 rfl
    simp only [Bool.false_eq_true, if_false]
    refine hR _ ?_
    walk_at "dl"
    refine ⟨by decide, 2, rfl, by decide, by decide, fun w w0 w1 => ?_⟩
    walk_at "dl"
    refine pick w0 (by simpa using w1) fun z hz => ?_
    obtain ⟨s, rfl, hs⟩ := sgn hz
    walk_at "dl"
    refine ⟨by decide, 10 ^ (20 : Nat), rfl, by decide, by decide, fun r a b => ?_⟩
    have big : (10 : Int) ^ 20 < 2 ^ 67 := by decide
    have e1 : (1 + r).natAbs < 2 ^ 67 := by omega
    walk_at "dl"
    refine ⟨mul_log (m := 2) (n := 67) (by omega) e1 (by decide) (by decide) (by decide), h _ ?_ ?_⟩
    · exact Int.mul_ne_zero (by omega) (by omega)
    · rw [Int.natAbs_mul, hs, Nat.one_mul]; exact two_le e1 (by decide)
section
variable {ts : List Addr} {P : Program} {w : World} {K : PySem.W.Frag} {mg : Str → Option Value} {base : Heap}
theorem ok__law_number {f : Addr} {fd : FuncData} (Fn : L2.Fun K "_law_number" "_law_number" s__law_number f fd) {f__law_take : Addr} (g__law_take : Fg P w K mg base (L2.CX P w) 1 f__law_take (Pm K ts sp__law_take)) (m__law_take : mg "_law_take" = some (.ref f__law_take)) (p__law_take : PySem.W.keepIn K (.ref f__law_take) = true) : Fg P w K mg base (L2.CX P w) 2 f (Pm K ts sp__law_number) := d_def Fn sc__law_number (fun _ _ _ _ _ _ us hl => match us, hl with | [_, _], _ => rfl) sp__law_number rd__law_number (fun cdv A outer s H E wn hcd ht ag hr => by
  have S := sc__law_number
  have hu := hr.units
  exact (dss_cons (ds_if (dt_e (d_var 1)) (dss_one (ds_ret (d_ix (d_lst (da_cons d_non (da_cons d_bl (da_cons d_bl (da_cons d_str (da_cons (d_tup (da_cons d_int (da_cons d_int da_nil))) (da_cons (d_lst (da_cons d_int da_nil)) (da_cons d_emp (da_cons (d_tup (da_cons d_int da_nil)) da_nil))))))))) (d_use g__law_take ht ag (hr.mono (by decide)) passZ (by rfl) m__law_take p__law_take (da_cons (d_var 0) (da_cons d_int da_nil)))))) dss_nil)
    (dss_one (ds_ret (d_bin o_mul (d_ix (d_lst (da_cons d_int (da_cons (d_neg d_int) da_nil))) (d_use g__law_take ht ag (hr.mono (by decide)) passZ (by rfl) m__law_take p__law_take (da_cons (d_var 0) (da_cons d_int da_nil)))) (d_bin o_add d_int (d_use g__law_take ht ag (hr.mono (by decide)) passZ (by rfl) m__law_take p__law_take (da_cons (d_var 0) (da_cons (d_bin o_pow d_int d_int) da_nil))))))))) vc__law_number
end
/-! _law_low -/
abbrev s__law_low : Stmt := topS 43
abbrev N__law_low : List Str := ["_law_top", "_law_bottom", "_law_one", "_law_other"]
theorem sc__law_low : FnScope N__law_low ["_law_top", "_law_bottom"] (defScope s__law_low) := ⟨rfl, rfl, rfl, by decide +kernel, rfl, by decide +kernel, by decide +kernel⟩
def rd__law_low : DS := (tSeqD (tParD 2 3 (tConsD (tCallD cAbs (tConsD (tVarD 0) tNilD)) (tConsD (tVarD 1) tNilD)))
    (tSeqD (tWhD (tTst (tBin (gIn (fun i j => decide (j < i)) fun i j => decide (j.cps.toList < i.cps.toList)) (tVarD 3) (tCD (.int 0)))) (tParD 2 3 (tConsD (tVarD 3) (tConsD (tBin gMod (tVarD 2) (tVarD 3)) tNilD))))
    (tRetD (tTupD (tConsD (tBin gFdiv (tVarD 0) (tVarD 2)) (tConsD (tBin gFdiv (tVarD 1) (tVarD 2)) tNilD))))))
def sp__law_low : DSp := fun us P => ∃ t b : Int, us = [.d (.int t), .d (.int b)] ∧ 0 < b ∧ b.natAbs.log2 < 9000 ∧ ∀ s r, Frac s r → t * r = b * s → P (.d (.tuple [.int s, .int r]))
theorem vc__law_low : ∀ dvs Q, sp__law_low dvs Q → dvs.length = 2 ∧ rd__law_low { nx := fun _ => Q (.d .none), rt := Q } (startD N__law_low dvs) := by
  rintro dvs Q ⟨t, b, rfl, b0, bs, h⟩
  refine ⟨rfl, ?_⟩
  have hb : b ≠ 0 := Int.ne_of_gt b0
  have hbn : ¬ b < 0 := Int.not_lt.mpr (Int.le_of_lt b0)
  have gp := gcd_pos (t := t) hb
  have gn : ((Int.gcd t b : Nat) : Int) ≠ 0 := Int.ne_of_gt (Int.natCast_pos.mpr gp)
  have gl : ((Int.gcd t b : Nat) : Int).natAbs.log2 < 9000 := by
    rw [Int.natAbs_natCast]
    exact log_lt (by decide) (Nat.lt_of_le_of_lt (gcd_le hb) (lt_two bs))
  obtain ⟨k1, k2⟩ := lo_ok (t := t) hb
  have h := h _ _ k1 k2
  rw [loT, loB, if_neg hbn, if_neg hbn] at h
  clear k1 k2
  unfold rd__law_low
  walk_at "dl"
  refine whD_ind (fun env => ∃ x y : Int, env = [.d (.int t), .d (.int b), .d (.int x), .d (.int y)] ∧ 0 ≤ x ∧ 0 ≤ y ∧ Int.gcd x y = Int.gcd t b) (fun env => match env with | [_, _, _, .d (.int y)] => y.toNat | _ => 0) (fun env R hI hR => ?_) ⟨_, _, rfl, by omega, by omega, by simp [Int.gcd]⟩
  obtain ⟨x, y, rfl, hx, hy, hg⟩ := hI
  walk_at "dl"
  by_cases hp : 0 < y
  · simp only [hp, decide_true, if_true]
    obtain ⟨g1, g2, g3⟩ := gcd_turn x y hx hp
    exact ⟨by omega, hR _ ⟨_, _, rfl, hy, g2, g1.trans hg⟩ (by show (x.fmod y).toNat < y.toNat; omega)⟩
  · have : y = 0 := by omega
    subst this
    simp only [Int.lt_irrefl, decide_false, Bool.false_eq_true, if_false]
    have e : x = (Int.gcd t b : Int) := by
      rw [← hg, Int.gcd_zero]; omega
    subst e
    refine ⟨gn, gl, gn, gl, by decide, ?_⟩
    rw [Int.fdiv_eq_ediv_of_dvd (Int.gcd_dvd_left _ _), Int.fdiv_eq_ediv_of_dvd (Int.gcd_dvd_right _ _)]
    exact h
section
variable {ts : List Addr} {P : Program} {w : World} {K : PySem.W.Frag} {mg : Str → Option Value} {base : Heap}
theorem ok__law_low {f : Addr} {fd : FuncData} (Fn : L2.Fun K "_law_low" "_law_low" s__law_low f fd) (z_abs : mg "abs" = none) : Fg P w K mg base (L2.CX P w) 1 f (Pm K ts sp__law_low) := d_def Fn sc__law_low (fun _ _ _ _ _ _ us hl => match us, hl with | [_, _], _ => rfl) sp__law_low rd__law_low (fun cdv A outer s H E wn hcd ht ag hr => by
  have S := sc__law_low
  have hu := hr.units
  exact (dss_cons (ds_par (i := 2) (j := 3) rfl S.nd rfl rfl (by decide) rfl rfl (da_cons (d_callB k_abs (by rfl) z_abs (by decide +kernel) (da_cons (d_var 0) da_nil)) (da_cons (d_var 1) da_nil)) (ps_par (i := 2) (j := 3) rfl S.nd rfl rfl (by decide) rfl rfl (da_cons (d_callB k_abs (by rfl) z_abs (by decide +kernel) (da_cons (d_var 0) da_nil)) (da_cons (d_var 1) da_nil)) (by rfl)))
    (dss_cons (ds_while PassesOwn.never (dt_cmp o_gt (d_var 3) d_int) (dss_one (ds_par (i := 2) (j := 3) rfl S.nd rfl rfl (by decide) rfl rfl (da_cons (d_var 3) (da_cons (d_bin o_mod (d_var 2) (d_var 3)) da_nil)) (ps_par (i := 2) (j := 3) rfl S.nd rfl rfl (by decide) rfl rfl (da_cons (d_var 3) (da_cons (d_bin o_mod (d_var 2) (d_var 3)) da_nil)) (by rfl)))))
    (dss_one (ds_ret (d_tup (da_cons (d_bin o_fdiv (d_var 0) (d_var 2)) (da_cons (d_bin o_fdiv (d_var 1) (d_var 2)) da_nil)))))))) vc__law_low
end
/-! _law_good -/
abbrev s__law_good : Stmt := topS 44
abbrev N__law_good : List Str := ["_law_bag_here"]
theorem sc__law_good : FnScope N__law_good ["_law_bag_here"] (defScope s__law_good) := ⟨rfl, rfl, rfl, by decide +kernel, rfl, by decide +kernel, by decide +kernel⟩
def rd__law_good : DS := (tRetD (tUse sp__law_low (tConsD (tBin gMinus (tUse sp__law_take (tConsD (tVarD 0) (tConsD (tCD (.int 2001)) tNilD))) (tCD (.int 1000))) (tConsD (tBin gAdd (tCD (.int 1)) (tUse sp__law_take (tConsD (tVarD 0) (tConsD (tCD (.int 1000)) tNilD)))) tNilD))))
def sp__law_good : DSp := fun us P => us = [.bag] ∧ ∀ p q : Int, Fk 12 p q → P (.d (.tuple [.int p, .int q]))
theorem vc__law_good : ∀ dvs Q, sp__law_good dvs Q → dvs.length = 1 ∧ rd__law_good { nx := fun _ => Q (.d .none), rt := Q } (startD N__law_good dvs) := by
  rintro dvs Q ⟨rfl, h⟩
  refine ⟨rfl, ?_⟩
  unfold rd__law_good
  walk_at "dl"
  refine ⟨2001, rfl, by decide, by decide, fun r1 a1 b1 => ?_⟩
  walk_at "dl"
  refine ⟨1000, rfl, by decide, by decide, fun r2 a2 b2 => ?_⟩
  walk_at "dl"
  have e1 : (r1 - 1000).natAbs < 2 ^ 12 := by omega
  have e2 : (1 + r2).natAbs < 2 ^ 12 := by omega
  exact ⟨_, _, rfl, by omega, log_le e2 (by decide) (by decide), fun s r f e => h s r (fk_of f (by omega) e e1 e2)⟩
section
variable {ts : List Addr} {P : Program} {w : World} {K : PySem.W.Frag} {mg : Str → Option Value} {base : Heap}
theorem ok__law_good {f : Addr} {fd : FuncData} (Fn : L2.Fun K "_law_good" "_law_good" s__law_good f fd) {f__law_low : Addr} (g__law_low : Fg P w K mg base (L2.CX P w) 1 f__law_low (Pm K ts sp__law_low)) (m__law_low : mg "_law_low" = some (.ref f__law_low)) (p__law_low : PySem.W.keepIn K (.ref f__law_low) = true) {f__law_take : Addr} (g__law_take : Fg P w K mg base (L2.CX P w) 1 f__law_take (Pm K ts sp__law_take)) (m__law_take : mg "_law_take" = some (.ref f__law_take)) (p__law_take : PySem.W.keepIn K (.ref f__law_take) = true) : Fg P w K mg base (L2.CX P w) 2 f (Pm K ts sp__law_good) := d_def Fn sc__law_good (fun _ _ _ _ _ _ us hl => match us, hl with | [_], _ => rfl) sp__law_good rd__law_good (fun cdv A outer s H E wn hcd ht ag hr => by
  have S := sc__law_good
  have hu := hr.units
  exact (dss_one (ds_ret (d_use g__law_low ht ag (hr.mono (by decide)) passZ (by rfl) m__law_low p__law_low (da_cons (d_bin o_sub (d_use g__law_take ht ag (hr.mono (by decide)) passZ (by rfl) m__law_take p__law_take (da_cons (d_var 0) (da_cons d_int da_nil))) d_int) (da_cons (d_bin o_add d_int (d_use g__law_take ht ag (hr.mono (by decide)) passZ (by rfl) m__law_take p__law_take (da_cons (d_var 0) (da_cons d_int da_nil)))) da_nil)))))) vc__law_good
end
/-! _law_bad -/
abbrev s__law_bad : Stmt := topS 45
abbrev N__law_bad : List Str := ["_law_bag_here", "_law_by", "_law_top", "_law_bottom", "_law_way"]
theorem sc__law_bad : FnScope N__law_bad ["_law_bag_here"] (defScope s__law_bad) := ⟨rfl, rfl, rfl, by decide +kernel, rfl, by decide +kernel, by decide +kernel⟩
def rd__law_bad : DS := (tSeqD (tSetD 1 (tBin gAdd (tCD (.int 2)) (tUse sp__law_take (tConsD (tVarD 0) (tConsD (tCD (.int 30)) tNilD)))))
    (tSeqD (tAsgD (tUse sp__law_good (tConsD (tVarD 0) tNilD)) (gtD 2 (gconsD (gnD 2) (gconsD (gnD 3) gnilD))))
    (tSeqD (tSetD 4 (tUse sp__law_take (tConsD (tVarD 0) (tConsD (tCD (.int 18)) tNilD))))
    (tSeqD (tIfD (tTst (tBin gLt (tVarD 4) (tCD (.int 6)))) (tRetD (tBin gIx (tLstD (tConsD (tTupD (tConsD (tBin gMul (tVarD 2) (tVarD 1)) (tConsD (tBin gMul (tVarD 3) (tVarD 1)) tNilD))) (tConsD (tTupD (tConsD (tVarD 2) (tConsD (tCD (.int 0)) tNilD))) (tConsD (tTupD (tConsD (tVarD 2) (tConsD (tUnD gNeg (tVarD 3)) tNilD))) (tConsD (tLstD (tConsD (tVarD 2) (tConsD (tVarD 3) tNilD))) (tConsD (tTupD (tConsD (tVarD 2) tNilD)) (tConsD (tTupD (tConsD (tVarD 2) (tConsD (tVarD 3) (tConsD (tCD (.int 1)) tNilD)))) tNilD))))))) (tVarD 4))) (fun d env => d.nx env))
    (tSeqD (tIfD (tTst (tBin gLt (tVarD 4) (tCD (.int 12)))) (tRetD (tBin gIx (tLstD (tConsD (tTupD (tConsD (tCD (.bool true)) (tConsD (tVarD 3) tNilD))) (tConsD (tTupD (tConsD (tVarD 2) (tConsD (tCD (.bool true)) tNilD))) (tConsD (tTupD (tConsD (tCD .none) (tConsD (tVarD 3) tNilD))) (tConsD (tTupD (tConsD (tVarD 2) (tConsD (tCD .none) tNilD))) (tConsD (tTupD (tConsD (tCD (.str "3")) (tConsD (tVarD 3) tNilD))) (tConsD (tTupD (tConsD (tTupD (tConsD (tVarD 2) tNilD)) (tConsD (tVarD 3) tNilD))) tNilD))))))) (tBin gMinus (tVarD 4) (tCD (.int 6))))) (fun d env => d.nx env))
    (tRetD (tBin gIx (tLstD (tConsD (tVarD 2) (tConsD (tCD (.str "1/2")) (tConsD (tCD .none) (tConsD tEmp (tConsD (tCD (.bool true)) (tConsD (tLstD tNilD) tNilD))))))) (tBin gMinus (tVarD 4) (tCD (.int 12))))))))))
def sp__law_bad : DSp := fun us P => us = [.bag] ∧ ∀ x, isFr x = false → Sn 2 50 x → P (.d x)
theorem isFr_no {p q : Int} (h : q < 1 ∨ Int.gcd p q ≠ 1) : isFr (.tuple [.int p, .int q]) = false := by
  unfold isFr
  rcases h with h | h
  · simp; omega
  · simp [h]
theorem vc__law_bad : ∀ dvs Q, sp__law_bad dvs Q → dvs.length = 1 ∧ rd__law_bad { nx := fun _ => Q (.d .none), rt := Q } (startD N__law_bad dvs) := by
  rintro dvs Q ⟨rfl, h⟩
  refine ⟨rfl, ?_⟩
  unfold rd__law_bad
  refine seqG fun R hR => ?_
  walk_at "dl"
  refine ⟨30, rfl, by decide, by decide, fun r a b => ?_⟩
  obtain ⟨by_, eb⟩ : ∃ y, y = 2 + r := ⟨_, rfl⟩
  walk_at "dl"
  rw [← eb]
  have y0 : 2 ≤ by_ := by omega
  have y1 : by_.natAbs < 2 ^ 5 := by omega
  clear eb a b
  refine hR _ (seqG fun R hR => ?_)
  walk_at "dl"
  refine ⟨rfl, fun t bo f => ?_⟩
  have q0 := f.pos
  have it : Sn 1 18 (.int t) := (sn_int f.t).up
  have ib : Sn 1 18 (.int bo) := (sn_int f.b).up
  have i1 : Sn 1 18 (.int 1) := (sn_int (j := 12) (by decide)).up
  have i0 : Sn 1 18 (.int 0) := (sn_int (j := 12) (by decide)).up
  have s3 : Sn 1 18 (.str "3") := (sn_str (k := 18) (by decide +kernel)).up
  have s12 : Sn 2 50 (.str "1/2") := (sn_str (k := 18) (by decide +kernel)).up
  walk_at "dl"
  refine hR _ (seqG fun R hR => ?_)
  walk_at "dl"
  refine ⟨18, rfl, by decide, by decide, fun w w0 w1 => ?_⟩
  walk_at "dl"
  refine hR _ (seqG fun R hR => ?_)
  walk_at "dl"
  by_cases h6 : w < 6
  · simp only [h6, decide_true, if_true]
    have m1 := natAbs_mul_lt f.t y1
    have m2 := natAbs_mul_lt f.b y1
    refine ⟨mul_log f.t y1 (by decide) (by decide) (by decide), mul_log f.b y1 (by decide) (by decide) (by decide), by decide, by decide, by decide, by decide, by decide, by decide, by decide, ?_⟩
    refine pick w0 (by simpa using h6) fun z hz => ?_
    simp only [List.mem_cons, List.not_mem_nil, or_false] at hz
    rcases hz with rfl | rfl | rfl | rfl | rfl | rfl
    · refine h _ (isFr_no (.inr fun e => ?_)) (sn2 ((sn_int m1).up (k := 18) (l := 18)) ((sn_int m2).up (k := 18) (l := 18))).up
      rw [Int.gcd_mul_right] at e
      have := Nat.eq_one_of_mul_eq_one_left e
      omega
    · exact h _ (isFr_no (.inl (by decide))) (sn2 it i0).up
    · exact h _ (isFr_no (.inl (by omega))) (sn2 it ((sn_int (j := 12) (by rw [Int.natAbs_neg]; exact f.b)).up)).up
    · exact h _ rfl (sn2l it ib).up
    · exact h _ rfl ((sn_tup (n := 1) (k := 18) (m := 1) fun z hz => by rw [List.mem_singleton.mp hz]; exact it).up)
    · refine h _ rfl ((sn_tup (n := 0) (k := 13) (m := 3) fun z hz => ?_).up)
      simp only [List.mem_cons, List.not_mem_nil, or_false] at hz
      rcases hz with rfl | rfl | rfl
      · exact sn_int f.t
      · exact sn_int f.b
      · exact sn_int (j := 12) (by decide)
  · simp only [h6, decide_false, Bool.false_eq_true, if_false]
    refine hR _ (seqG fun R hR => ?_)
    walk_at "dl"
    by_cases h12 : w < 12
    · simp only [h12, decide_true, if_true]
      refine ⟨by decide, by decide, by decide, by decide, by decide, by decide, by decide, by decide, ?_⟩
      refine pick (by omega) (by simp; omega) fun z hz => ?_
      have bt : Sn 1 18 (.bool true) := (sn_bool true).up
      have no : Sn 1 18 .none := sn_none.up
      simp only [List.mem_cons, List.not_mem_nil, or_false] at hz
      rcases hz with rfl | rfl | rfl | rfl | rfl | rfl
      · exact h _ rfl (sn2 bt ib).up
      · exact h _ rfl (sn2 it bt).up
      · exact h _ rfl (sn2 no ib).up
      · exact h _ rfl (sn2 it no).up
      · exact h _ rfl (sn2 s3 ib).up
      · exact h _ rfl (sn2 ((sn_tup (n := 0) (k := 13) (m := 1) fun z hz => by rw [List.mem_singleton.mp hz]; exact sn_int f.t).up (k := 18) (l := 18)) ib).up
    · simp only [h12, decide_false, Bool.false_eq_true, if_false]
      refine hR _ ?_
      walk_at "dl"
      refine ⟨by decide, by decide, ?_⟩
      refine pick (by omega) ?_ fun z hz => ?_
      · simp only [List.length_cons, List.length_nil]; omega
      simp only [List.mem_cons, List.not_mem_nil, or_false] at hz
      rcases hz with rfl | rfl | rfl | rfl | rfl | rfl
      · exact h _ rfl it.up
      · exact h _ rfl s12
      · exact h _ rfl sn_none.up
      · exact h _ rfl sn_emp.up
      · exact h _ rfl (sn_bool true).up
      · exact h _ rfl ((sn_lst (n := 0) (k := 0) (m := 0) fun z hz => absurd hz List.not_mem_nil).up)
section
variable {ts : List Addr} {P : Program} {w : World} {K : PySem.W.Frag} {mg : Str → Option Value} {base : Heap}
theorem ok__law_bad {f : Addr} {fd : FuncData} (Fn : L2.Fun K "_law_bad" "_law_bad" s__law_bad f fd) {f__law_take : Addr} (g__law_take : Fg P w K mg base (L2.CX P w) 1 f__law_take (Pm K ts sp__law_take)) (m__law_take : mg "_law_take" = some (.ref f__law_take)) (p__law_take : PySem.W.keepIn K (.ref f__law_take) = true) {f__law_good : Addr} (g__law_good : Fg P w K mg base (L2.CX P w) 2 f__law_good (Pm K ts sp__law_good)) (m__law_good : mg "_law_good" = some (.ref f__law_good)) (p__law_good : PySem.W.keepIn K (.ref f__law_good) = true) : Fg P w K mg base (L2.CX P w) 3 f (Pm K ts sp__law_bad) := d_def Fn sc__law_bad (fun _ _ _ _ _ _ us hl => match us, hl with | [_], _ => rfl) sp__law_bad rd__law_bad (fun cdv A outer s H E wn hcd ht ag hr => by
  have S := sc__law_bad
  have hu := hr.units
  exact (dss_cons (ds_set (i := 1) S.nd rfl (by first | exact Or.inl rfl | exact Or.inr rfl) (d_bin o_add d_int (d_use g__law_take ht ag (hr.mono (by decide)) passZ (by rfl) m__law_take p__law_take (da_cons (d_var 0) (da_cons d_int da_nil)))))
    (dss_cons (ds_asg (d_use g__law_good ht ag (hr.mono (by decide)) passZ (by rfl) m__law_good p__law_good (da_cons (d_var 0) da_nil)) (dg_tup rfl (dgs_cons (dg_name (i := 2) S.nd rfl (by first | exact Or.inl rfl | exact Or.inr rfl)) (dgs_cons (dg_name (i := 3) S.nd rfl (by first | exact Or.inl rfl | exact Or.inr rfl)) dgs_nil))))
    (dss_cons (ds_set (i := 4) S.nd rfl (by first | exact Or.inl rfl | exact Or.inr rfl) (d_use g__law_take ht ag (hr.mono (by decide)) passZ (by rfl) m__law_take p__law_take (da_cons (d_var 0) (da_cons d_int da_nil))))
    (dss_cons (ds_if (dt_cmp o_lt (d_var 4) d_int) (dss_one (ds_ret (d_ix (d_lst (da_cons (d_tup (da_cons (d_bin o_mul (d_var 2) (d_var 1)) (da_cons (d_bin o_mul (d_var 3) (d_var 1)) da_nil))) (da_cons (d_tup (da_cons (d_var 2) (da_cons d_int da_nil))) (da_cons (d_tup (da_cons (d_var 2) (da_cons (d_neg (d_var 3)) da_nil))) (da_cons (d_lst (da_cons (d_var 2) (da_cons (d_var 3) da_nil))) (da_cons (d_tup (da_cons (d_var 2) da_nil)) (da_cons (d_tup (da_cons (d_var 2) (da_cons (d_var 3) (da_cons d_int da_nil)))) da_nil))))))) (d_var 4)))) dss_nil)
    (dss_cons (ds_if (dt_cmp o_lt (d_var 4) d_int) (dss_one (ds_ret (d_ix (d_lst (da_cons (d_tup (da_cons d_bl (da_cons (d_var 3) da_nil))) (da_cons (d_tup (da_cons (d_var 2) (da_cons d_bl da_nil))) (da_cons (d_tup (da_cons d_non (da_cons (d_var 3) da_nil))) (da_cons (d_tup (da_cons (d_var 2) (da_cons d_non da_nil))) (da_cons (d_tup (da_cons d_str (da_cons (d_var 3) da_nil))) (da_cons (d_tup (da_cons (d_tup (da_cons (d_var 2) da_nil)) (da_cons (d_var 3) da_nil))) da_nil))))))) (d_bin o_sub (d_var 4) d_int)))) dss_nil)
    (dss_one (ds_ret (d_ix (d_lst (da_cons (d_var 2) (da_cons d_str (da_cons d_non (da_cons d_emp (da_cons d_bl (da_cons (d_lst da_nil) da_nil))))))) (d_bin o_sub (d_var 4) d_int)))))))))) vc__law_bad
end
/-! _law_list -/
abbrev s__law_list : Stmt := topS 47
abbrev N__law_list : List Str := ["_law_bag_here", "_law_spoilt", "_law_empty", "_law_way", "_law_size", "_law_many", "_law_some", "_law_k", "_law_at", "_law_bad_here"]
theorem sc__law_list : FnScope N__law_list ["_law_bag_here", "_law_spoilt", "_law_empty"] (defScope s__law_list) := ⟨rfl, rfl, rfl, by decide +kernel, rfl, by decide +kernel, by decide +kernel⟩
def rd__law_list : DS := (tSeqD (tSetD 3 (tUse sp__law_take (tConsD (tVarD 0) (tConsD (tCD (.int 8)) tNilD))))
    (tSeqD (tSetD 4 (tUse sp__law_take (tConsD (tVarD 0) (tConsD (tCD (.int 12)) tNilD))))
    (tSeqD (tSetD 5 (tBin gIx (tLstD (tConsD (tBin gAdd (tCD (.int 1)) (tUse sp__law_take (tConsD (tVarD 0) (tConsD (tCD (.int 6)) tNilD)))) (tConsD (tCD (.int 60)) (tConsD (tCD (.int 1000)) tNilD)))) (tBin gMul (tCallD cInt (tConsD (tVarD 1) tNilD)) (tBin gAdd (tCallD cInt (tConsD (tBin (gEqv id) (tVarD 4) (tCD (.int 5))) tNilD)) (tBin gMul (tCD (.int 2)) (tCallD cInt (tConsD (tBin (gEqv id) (tVarD 4) (tCD (.int 7))) tNilD)))))))
    (tSeqD (tSetD 6 (tLcD (itR1 (tConsD (tCallD (cMin min) (tConsD (tVarD 5) (tConsD (tCD (.int 6)) tNilD))) tNilD)) (gnD 7) (fun _ P => P true) (tUse sp__law_good (tConsD (tVarD 0) tNilD)) [7]))
    (tSeqD (tSetD 6 (tBin gAdd (tVarD 6) (tLcD (itR1 (tConsD (tBin gMinus (tVarD 5) (tCallD cLen (tConsD (tVarD 6) tNilD))) tNilD)) (gnD 7) (fun _ P => P true) (tUse sp__law_low (tConsD (tBin gMinus (tBin gMod (tBin gMul (tVarD 7) (tCD (.int 7919))) (tCD (.int 997))) (tCD (.int 498))) (tConsD (tBin gAdd (tCD (.int 1)) (tBin gMod (tVarD 7) (tCD (.int 7)))) tNilD))) [7])))
    (tSeqD (tSetD 8 (tBin gIx (tLstD (tConsD (tCD (.int 0)) (tConsD (tBin gMinus (tVarD 5) (tCD (.int 1))) (tConsD (tUse sp__law_take (tConsD (tVarD 0) (tConsD (tVarD 5) tNilD))) tNilD)))) (tUse sp__law_take (tConsD (tVarD 0) (tConsD (tCD (.int 3)) tNilD)))))
    (tSeqD (tSetD 9 (tUse sp__law_bad (tConsD (tVarD 0) tNilD)))
    (tSeqD (tIfD (tNotD (tTru (tVarD 1))) (tRetVD 6) (fun d env => d.nx env))
    (tSeqD (tIfD (tOrD (tTst (tBin gLt (tVarD 3) (tCD (.int 4)))) (tAndD (tTst (tBin (gEqv id) (tVarD 3) (tCD (.int 7)))) (tTru (tVarD 2)))) (tSeqD (tSetI 6 (tVarD 8) (tVarD 9))
        (tSeqD (tIfD (tTst (tBin (gEqv id) (tVarD 3) (tCD (.int 3)))) (tSetI 6 (tUse sp__law_take (tConsD (tVarD 0) (tConsD (tVarD 5) tNilD))) (tVarD 9)) (fun d env => d.nx env))
        (tRetVD 6))) (fun d env => d.nx env))
    (tSeqD (tIfD (tTst (tBin (gEqv id) (tVarD 3) (tCD (.int 4)))) (tRetD (tLcD (itR1 (tConsD (tBin gAdd (tCD (.int 1000)) (tBin gFdiv (tVarD 3) (tCD (.int 4)))) tNilD)) (gnD 7) (fun _ P => P true) (tTupD (tConsD (tVarD 7) (tConsD (tCD (.int 1)) tNilD))) [7])) (fun d env => d.nx env))
    (tRetD (tBin gIx (tLstD (tConsD (tCD .none) (tConsD (tCallD cTuple (tConsD (tVarD 6) tNilD)) (tConsD (tTupD (tConsD (tBin gIx (tVarD 6) (tCD (.int 0))) (tConsD (tCD (.int 1)) tNilD))) (tConsD (tLstD tNilD) tNilD))))) (tBin gIx (tLstD (tConsD (tCD (.int 1)) (tConsD (tBin gIx (tLstD (tConsD (tCD (.int 0)) (tConsD (tCD (.int 2)) tNilD))) (tBin gMod (tVarD 5) (tCD (.int 2)))) (tConsD (tCD (.int 3)) tNilD)))) (tBin gMinus (tVarD 3) (tCD (.int 5))))))))))))))))
def BadL (e : Bool) (x : PyData) : Prop := isFrL (if e = true then 0 else 1) x = false ∧ Sn 3 60000 x
def sp__law_list : DSp := fun us P => ∃ s e, us = [.bag, .d (.bool s), .d (.bool e)] ∧ (s = true → (∀ x, BadL e x → P (.d x)) ∧ ∀ xs, BadL e (.list xs) → P (.fr xs)) ∧ (s = false → ∀ a xs, xs.length < 6 → (∀ x ∈ a :: xs, FrG x) → P (.fr (a :: xs)))
theorem vc__law_list : ∀ dvs Q, sp__law_list dvs Q → dvs.length = 3 ∧ rd__law_list { nx := fun _ => Q (.d .none), rt := Q } (startD N__law_list dvs) := by
  rintro dvs Q ⟨sp, em, rfl, h1, h2⟩
  refine ⟨rfl, ?_⟩
  unfold rd__law_list
  refine seqG fun R hR => ?_
  walk_at "dl"
  refine ⟨8, rfl, by decide, by decide, fun way w0 w1 => ?_⟩
  walk_at "dl"
  refine hR _ (seqG fun R hR => ?_)
  walk_at "dl"
  refine ⟨12, rfl, by decide, by decide, fun size s0 s1 => ?_⟩
  walk_at "dl"
  refine hR _ (seqG fun R hR => ?_)
  walk_at "dl"
  refine ⟨6, rfl, by decide, by decide, fun r r0 r1 => ?_⟩
  walk_at "dl"
  have rest : ∀ many : Int, 1 ≤ many → many ≤ 1000 → (sp = false → many ≤ 6) → R [.bag, .d (.bool sp), .d (.bool em), .d (.int way), .d (.int size), .d (.int many), .un, .un, .un, .un] := fun many m0 m1 m6 => by
    refine hR _ (seqG fun R hR => ?_)
    walk_at "dl"
    refine ⟨⟨by omega, by omega⟩, ?_⟩
    refine lc_all FrG (by rw [rngD_len]; omega) (fun acc la ha => ?_) fun x hx R2 hR2 => ?_
    rotate_left
    · walk_at "dl"
      refine ⟨rfl, fun p q f => ?_⟩
      walk_at "dl"
      exact hR2 _ ⟨p, q, rfl, f⟩
    rw [rngD_len] at la
    walk_at "dl"
    intro l6
    refine hR _ (seqG fun R hR => ?_)
    walk_at "dl"
    refine ⟨⟨by omega, by omega⟩, ?_⟩
    refine lc_all FrG (by rw [rngD_len]; omega) (fun bs lb hb => ?_) fun x hx R2 hR2 => ?_
    rotate_left
    · obtain ⟨i, hi, rfl⟩ := mem_rngD hx
      rw [Int.zero_add]
      walk_at "dl"
      have z1 : ((i : Int) * 7919).fmod 997 = ((i : Int) * 7919) % 997 := Int.fmod_eq_emod_of_nonneg _ (by decide)
      have z2 : (i : Int).fmod 7 = (i : Int) % 7 := Int.fmod_eq_emod_of_nonneg _ (by decide)
      have y1 : (((i : Int) * 7919).fmod 997 - 498).natAbs < 2 ^ 12 := by omega
      have y2 : (1 + (i : Int).fmod 7).natAbs < 2 ^ 12 := by omega
      have y3 : 0 < 1 + (i : Int).fmod 7 := by omega
      refine ⟨mul_log (m := 10) (n := 13) (by omega) (by decide) (by decide) (by decide) (by decide), by decide, by decide, _, _, rfl, y3, log_le y2 (by decide) (by decide), fun p q f e => ?_⟩
      walk_at "dl"
      exact hR2 _ ⟨p, q, rfl, fk_of f (Int.ne_of_gt y3) e y1 y2⟩
    rw [rngD_len] at lb
    obtain ⟨some, es⟩ : ∃ some, some = acc ++ bs := ⟨_, rfl⟩
    have ls : some.length = many.toNat := by rw [es, List.length_append]; omega
    have hs : ∀ x ∈ some, FrG x := fun x hx => by
      rw [es] at hx
      rcases List.mem_append.mp hx with hx | hx
      · exact ha x hx
      · exact hb x hx
    walk_at "dl"
    rw [← es]
    refine ⟨by rw [← List.length_append, ← es]; omega, fun l => hR _ (seqG fun R hR => ?_)⟩
    clear es la lb ha hb acc bs
    walk_at "dl"
    refine ⟨many, rfl, by omega, log_le (k := 10) (by omega) (by decide) (by decide), fun c c0 c1 => ?_⟩
    walk_at "dl"
    refine ⟨by decide, 3, rfl, by decide, by decide, fun d d0 d1 => ?_⟩
    walk_at "dl"
    refine pick d0 (by simpa using d1) fun z hz => ?_
    obtain ⟨at_, rfl, a0, a1⟩ : ∃ j : Int, z = .int j ∧ 0 ≤ j ∧ j < many := by
      simp only [List.mem_cons, List.not_mem_nil, or_false] at hz
      rcases hz with rfl | rfl | rfl
      · exact ⟨_, rfl, by omega, by omega⟩
      · exact ⟨_, rfl, by omega, by omega⟩
      · exact ⟨_, rfl, by omega, by omega⟩
    clear hz
    walk_at "dl"
    refine hR _ (seqG fun R hR => ?_)
    walk_at "dl"
    refine ⟨rfl, fun bad hbad sbad => ?_⟩
    walk_at "dl"
    refine hR _ (seqG fun R hR => ?_)
    walk_at "dl"
    cases sp with
    | false =>
      simp only [Bool.not_false, if_true]
      cases some with
      | nil => rw [List.length_nil] at ls; omega
      | cons a xs => exact h2 rfl a xs (by rw [List.length_cons] at ls; have := m6 rfl; omega) hs
    | true =>
      obtain ⟨k1, k2⟩ := h1 rfl
      simp only [Bool.not_true, Bool.false_eq_true, if_false]
      refine hR _ (seqG fun R hR => ?_)
      have sb : Sn 2 50 bad := sbad
      have snL : ∀ ys : List PyData, ys.length ≤ 1000 → (∀ y ∈ ys, Sn 2 36 y) → Sn 3 60000 (.list ys) := fun ys hl hy => (sn_lst (n := 2) (k := 36) (m := 1000) hy hl).up
      have out : ∀ ys : List PyData, ys.length = many.toNat → bad ∈ ys → (∀ y ∈ ys, y = bad ∨ FrG y) → BadL em (.list ys) := fun ys ly hb hy => by
        refine ⟨?_, ?_⟩
        · have e : ys.all isFr = false := by
            cases e : ys.all isFr with
            | false => rfl
            | true =>
              have := List.all_eq_true.mp e bad hb
              rw [hbad] at this
              cases this
          simp only [isFrL, e, Bool.and_false]
        · refine (sn_lst (n := 2) (k := 50) (m := 1000) (fun y hm => ?_) (by omega)).up
          rcases hy y hm with rfl | f
          · exact sb
          · exact f.sn.up
      have ix : ixN some.length at_ = Option.some at_.toNat := by
        unfold ixN
        rw [if_pos (by omega), if_pos (by omega)]
      walk_at "dl"
      have setin : (some.set at_.toNat bad).length = many.toNat ∧ bad ∈ some.set at_.toNat bad ∧ ∀ y ∈ some.set at_.toNat bad, y = bad ∨ FrG y := by
        refine ⟨by rw [List.length_set]; exact ls, List.mem_set (by omega) _, fun y hy => ?_⟩
        rcases List.mem_or_eq_of_mem_set hy with hy | rfl
        · exact .inr (hs y hy)
        · exact .inl rfl
      have two : ∀ j : Int, 0 ≤ j → j < many → ixN (some.set at_.toNat bad).length j = Option.some j.toNat ∧ BadL em (.list ((some.set at_.toNat bad).set j.toNat bad)) := fun j j0 j1 => by
        obtain ⟨u1, u2, u3⟩ := setin
        refine ⟨by unfold ixN; rw [if_pos (by omega), if_pos (by omega)], out _ (by rw [List.length_set]; exact u1) (List.mem_set (by omega) _) fun y hy => ?_⟩
        rcases List.mem_or_eq_of_mem_set hy with hy | rfl
        · exact u3 y hy
        · exact .inl rfl
      have one : BadL em (.list (some.set at_.toNat bad)) := out _ setin.1 setin.2.1 setin.2.2
      have body : if decide (way = 3) = true then
            sp__law_take [DV.bag, DV.d (PyData.int many)] fun r =>
              match r, fun y =>
                match y with
                | PyData.int j =>
                  match ixN (some.set at_.toNat bad).length j with
                  | Option.some m_1 => Q (DV.fr ((some.set at_.toNat bad).set m_1 bad))
                  | none => False
                | x => False with
              | DV.d x, k => k x
              | DV.fr xs, k => k (PyData.list xs)
              | DV.ow l xs, k => k (PyData.list xs)
              | DV.raw v, x => False
              | DV.bag, x => False
          else Q (DV.fr (some.set at_.toNat bad)) := by
        by_cases h3 : way = 3
        · simp only [h3, decide_true, if_true]
          refine ⟨many, rfl, by omega, log_le (k := 10) (by omega) (by decide) (by decide), fun j j0 j1 => ?_⟩
          obtain ⟨e1, e2⟩ := two j j0 j1
          simp only [e1]
          exact k2 _ e2
        · simp only [h3, decide_false, Bool.false_eq_true, if_false]
          exact k2 _ one
      rw [ix]
      have rest2 : (way = 7 → em = false) → ¬ way < 4 → R [.bag, .d (.bool true), .d (.bool em), .d (.int way), .d (.int size), .d (.int many), .ow l some, .un, .d (.int at_), .d bad] := fun e7 w4 => by
        refine hR _ (seqG fun R hR => ?_)
        walk_at "dl"
        by_cases h4 : way = 4
        · subst h4
          simp only [decide_true, if_true]
          refine ⟨by decide, by decide, ⟨by decide, by decide⟩, ?_⟩
          refine lc_all (fun y => Sn 1 31 y) (by rw [rngD_len]; decide) (fun acc la ha => ?_) fun x hx R2 hR2 => ?_
          · rw [rngD_len] at la
            have la : acc.length = 1001 := la
            refine k2 _ ⟨?_, (sn_lst (n := 1) (k := 31) (m := 1001) ha (by omega)).up⟩
            simp only [isFrL, la]
            simp
          · obtain ⟨i, hi, rfl⟩ := mem_rngD hx
            have hi : i < 1001 := hi
            rw [Int.zero_add]
            walk_at "dl"
            refine ⟨by decide, hR2 _ ?_⟩
            refine Sn.up (sn_tup (xs := [.int (i : Int), .int 1]) (n := 0) (k := 12) (m := 2) (fun z hz => ?_) (by simp))
            simp only [List.mem_cons, List.not_mem_nil, or_false] at hz
            rcases hz with rfl | rfl
            · exact sn_int (j := 11) (by omega)
            · exact sn_int (j := 11) (by decide)
        · simp only [h4, decide_false, Bool.false_eq_true, if_false]
          refine hR _ ?_
          have bt : BadL em (.tuple some) := ⟨rfl, (sn_tup (n := 1) (k := 33) (m := 1000) (fun y hm => (hs y hm).sn) (by omega)).up⟩
          cases some with
          | nil => rw [List.length_nil] at ls; omega
          | cons a xs =>
            have bp : BadL em (.tuple [a, .int 1]) := ⟨rfl, (sn2 ((hs a (List.mem_cons_self ..)).sn) ((sn_int (j := 12) (by decide)).up (k := 13) (l := 33))).up⟩
            have m2 : many.fmod 2 = many % 2 := Int.fmod_eq_emod_of_nonneg _ (by decide)
            walk_at "dl"
            refine ⟨by decide, by decide, by decide, by decide, by decide, ?_⟩
            refine pick (by omega) ?_ fun z hz => ?_
            · simp only [List.length_cons, List.length_nil]; omega
            obtain ⟨e, rfl, he⟩ : ∃ e : Int, z = .int e ∧ (e = 0 ∨ e = 2) := by
              simp only [List.mem_cons, List.not_mem_nil, or_false] at hz
              rcases hz with rfl | rfl
              · exact ⟨_, rfl, .inl rfl⟩
              · exact ⟨_, rfl, .inr rfl⟩
            have hw : way = 5 ∨ way = 6 ∨ way = 7 := by omega
            rcases hw with rfl | rfl | rfl
            · walk_at "dl"
              exact ⟨by decide, k1 _ bt⟩
            · rcases he with rfl | rfl
              · walk_at "dl"
                exact ⟨by decide, k1 _ ⟨rfl, sn_none.up⟩⟩
              · walk_at "dl"
                exact ⟨by decide, k1 _ bp⟩
            · have e0 := e7 rfl
              subst e0
              walk_at "dl"
              exact ⟨by decide, k1 _ ⟨rfl, (sn_lst (n := 0) (k := 0) (m := 0) (fun z hz => absurd hz List.not_mem_nil) (by decide)).up⟩⟩
      by_cases h4 : way < 4
      · simp only [h4, decide_true, if_true]
        exact body
      · simp only [h4, decide_false, Bool.false_eq_true, if_false]
        by_cases h7 : way = 7
        · simp only [h7, decide_true, if_true]
          cases em with
          | true =>
            simp only [if_true]
            rw [h7] at body
            exact body
          | false =>
            simp only [Bool.false_eq_true, if_false]
            have := rest2 (fun _ => rfl) h4
            rw [h7] at this
            exact this
        · simp only [h7, decide_false, Bool.false_eq_true, if_false]
          exact rest2 (fun e => absurd e h7) h4
  have e5 : (if decide (size = 5) = true then (1 : Int) else 0) = 0 ∨ (if decide (size = 5) = true then (1 : Int) else 0) = 1 := by split <;> simp
  have e7 : (if decide (size = 7) = true then (1 : Int) else 0) = 0 ∨ (if decide (size = 7) = true then (1 : Int) else 0) = 1 := by split <;> simp
  have e57 : (if decide (size = 5) = true then (1 : Int) else 0) = 1 → (if decide (size = 7) = true then (1 : Int) else 0) = 0 := fun e => by
    by_cases h5 : size = 5
    · simp [h5]
    · simp [h5] at e
  generalize (if decide (size = 5) = true then (1 : Int) else 0) = x5 at *
  generalize (if decide (size = 7) = true then (1 : Int) else 0) = x7 at *
  have l7 : (Int.natAbs 2).log2 + x7.natAbs.log2 < 1000000 := mul_log (m := 2) (n := 2) (by decide) (by omega) (by decide) (by decide) (by decide)
  have l5 : ∀ c : Int, c.natAbs ≤ 1 → c.natAbs.log2 + (x5 + 2 * x7).natAbs.log2 < 1000000 := fun c hc => mul_log (m := 2) (n := 3) (by omega) (by omega) (by decide) (by decide) (by decide)
  cases sp with
  | false =>
    simp only [Bool.false_eq_true, if_false, Int.zero_mul]
    refine ⟨by decide, l7, l5 0 (by decide), ?_⟩
    walk_at "dl"
    exact rest _ (by omega) (by omega) fun _ => by omega
  | true =>
    simp only [if_true, Int.one_mul]
    refine ⟨by decide, l7, l5 1 (by decide), ?_⟩
    refine pick (by omega) ?_ fun z hz => ?_
    · simp only [List.length_cons, List.length_nil]; omega
    simp only [List.mem_cons, List.not_mem_nil, or_false] at hz
    rcases hz with rfl | rfl | rfl
    · exact rest _ (by omega) (by omega) fun e => nomatch e
    · exact rest _ (by omega) (by omega) fun e => nomatch e
    · exact rest _ (by omega) (by omega) fun e => nomatch e
section
variable {ts : List Addr} {P : Program} {w : World} {K : PySem.W.Frag} {mg : Str → Option Value} {base : Heap}
theorem ok__law_list {f : Addr} {fd : FuncData} (Fn : L2.Fun K "_law_list" "_law_list" s__law_list f fd) {f__law_take : Addr} (g__law_take : Fg P w K mg base (L2.CX P w) 1 f__law_take (Pm K ts sp__law_take)) (m__law_take : mg "_law_take" = some (.ref f__law_take)) (p__law_take : PySem.W.keepIn K (.ref f__law_take) = true) {f__law_good : Addr} (g__law_good : Fg P w K mg base (L2.CX P w) 2 f__law_good (Pm K ts sp__law_good)) (m__law_good : mg "_law_good" = some (.ref f__law_good)) (p__law_good : PySem.W.keepIn K (.ref f__law_good) = true) {f__law_low : Addr} (g__law_low : Fg P w K mg base (L2.CX P w) 1 f__law_low (Pm K ts sp__law_low)) (m__law_low : mg "_law_low" = some (.ref f__law_low)) (p__law_low : PySem.W.keepIn K (.ref f__law_low) = true) {f__law_bad : Addr} (g__law_bad : Fg P w K mg base (L2.CX P w) 3 f__law_bad (Pm K ts sp__law_bad)) (m__law_bad : mg "_law_bad" = some (.ref f__law_bad)) (p__law_bad : PySem.W.keepIn K (.ref f__law_bad) = true) (z_int : mg "int" = none) (z_range : mg "range" = none) (z_min : mg "min" = none) (z_len : mg "len" = none) (z_tuple : mg "tuple" = none) : Fg P w K mg base (L2.CX P w) 4 f (Pm K ts sp__law_list) := d_def Fn sc__law_list (fun _ _ _ _ _ _ us hl => match us, hl with | [_, _, _], _ => rfl) sp__law_list rd__law_list (fun cdv A outer s H E wn hcd ht ag hr => by
  have S := sc__law_list
  have hu := hr.units
  exact (dss_cons (ds_set (i := 3) S.nd rfl (by first | exact Or.inl rfl | exact Or.inr rfl) (d_use g__law_take ht ag (hr.mono (by decide)) passZ (by rfl) m__law_take p__law_take (da_cons (d_var 0) (da_cons d_int da_nil))))
    (dss_cons (ds_set (i := 4) S.nd rfl (by first | exact Or.inl rfl | exact Or.inr rfl) (d_use g__law_take ht ag (hr.mono (by decide)) passZ (by rfl) m__law_take p__law_take (da_cons (d_var 0) (da_cons d_int da_nil))))
    (dss_cons (ds_set (i := 5) S.nd rfl (by first | exact Or.inl rfl | exact Or.inr rfl) (d_ix (d_lst (da_cons (d_bin o_add d_int (d_use g__law_take ht ag (hr.mono (by decide)) passZ (by rfl) m__law_take p__law_take (da_cons (d_var 0) (da_cons d_int da_nil)))) (da_cons d_int (da_cons d_int da_nil)))) (d_bin o_mul (d_callTy k_int (by rfl) z_int (by decide +kernel) (da_cons (d_var 1) da_nil)) (d_bin o_add (d_callTy k_int (by rfl) z_int (by decide +kernel) (da_cons (d_cmp (o_eq hu) (d_var 4) d_int) da_nil)) (d_bin o_mul d_int (d_callTy k_int (by rfl) z_int (by decide +kernel) (da_cons (d_cmp (o_eq hu) (d_var 4) d_int) da_nil)))))))
    (dss_cons (ds_setLc (i := 6) (vs := [7]) (tgt1 7) (ps_setLc (i := 6) (own := [("_law_k", 7)]) rfl S.nd rfl rfl (sw_true rfl rfl rfl (by decide +kernel)) (di_r1 (by rfl) z_range (da_cons (d_callB (k_min rfl) (by rfl) z_min (by decide +kernel) (da_cons (d_var 5) (da_cons d_int da_nil))) da_nil)) (blkOk_by (N := N__law_list) (sc := defScope s__law_list) (by decide +kernel)) (fun _ _ _ _ _ => pg_name (i := 7) S.nd rfl (Or.inl rfl)) (fun _ _ _ _ _ => pts_nilD) (fun _ _ _ _ _ => (d_use g__law_good ht ag (hr.mono (by decide)) passZ (by rfl) m__law_good p__law_good (da_cons (d_var 0) da_nil)))))
    (dss_cons (ds_set (i := 6) S.nd rfl (by first | exact Or.inl rfl | exact Or.inr rfl) (d_bin o_add (d_var 6) (d_lc (own := [("_law_k", 7)]) rfl S.nd (di_r1 (by rfl) z_range (da_cons (d_bin o_sub (d_var 5) (d_callB k_len (by rfl) z_len (by decide +kernel) (da_cons (d_var 6) da_nil))) da_nil)) (blkOk_by (N := N__law_list) (sc := defScope s__law_list) (by decide +kernel)) (tgt1 7) (fun _ _ _ _ _ => pg_name (i := 7) S.nd rfl (Or.inl rfl)) (fun _ _ _ _ _ => pts_nilD) (fun _ _ _ _ _ => (d_use g__law_low ht ag (hr.mono (by decide)) passZ (by rfl) m__law_low p__law_low (da_cons (d_bin o_sub (d_bin o_mod (d_bin o_mul (d_var 7) d_int) d_int) d_int) (da_cons (d_bin o_add d_int (d_bin o_mod (d_var 7) d_int)) da_nil)))))))
    (dss_cons (ds_set (i := 8) S.nd rfl (by first | exact Or.inl rfl | exact Or.inr rfl) (d_ix (d_lst (da_cons d_int (da_cons (d_bin o_sub (d_var 5) d_int) (da_cons (d_use g__law_take ht ag (hr.mono (by decide)) passZ (by rfl) m__law_take p__law_take (da_cons (d_var 0) (da_cons (d_var 5) da_nil))) da_nil)))) (d_use g__law_take ht ag (hr.mono (by decide)) passZ (by rfl) m__law_take p__law_take (da_cons (d_var 0) (da_cons d_int da_nil)))))
    (dss_cons (ds_set (i := 9) S.nd rfl (by first | exact Or.inl rfl | exact Or.inr rfl) (d_use g__law_bad ht ag (hr.mono (by decide)) passZ (by rfl) m__law_bad p__law_bad (da_cons (d_var 0) da_nil)))
    (dss_cons (ds_if (dt_not (dt_e (d_var 1))) (dss_one (ds_retV 6)) dss_nil)
    (dss_cons (ds_if (dt_w (dw_or (dt_cmp o_lt (d_var 3) d_int) (dw_or1 (dt_w (dw_and (dt_cmp (o_eq hu) (d_var 3) d_int) (dw_and1 (dt_e (d_var 2)))))))) (dss_cons (ds_seti (i := 6) (d_var 9) (pv 6) (d_var 8) (pg_sub (pv 6) (d_var 8) set_list))
        (dss_cons (ds_if (dt_cmp (o_eq hu) (d_var 3) d_int) (dss_one (ds_seti (i := 6) (d_var 9) (pv 6) (d_use g__law_take ht ag (hr.mono (by decide)) passZ (by rfl) m__law_take p__law_take (da_cons (d_var 0) (da_cons (d_var 5) da_nil))) (pg_sub (pv 6) (d_use g__law_take ht ag (hr.mono (by decide)) passZ (by rfl) m__law_take p__law_take (da_cons (d_var 0) (da_cons (d_var 5) da_nil))) set_list))) dss_nil)
        (dss_one (ds_retV 6)))) dss_nil)
    (dss_cons (ds_if (dt_cmp (o_eq hu) (d_var 3) d_int) (dss_one (ds_ret (d_lc (own := [("_law_k", 7)]) rfl S.nd (di_r1 (by rfl) z_range (da_cons (d_bin o_add d_int (d_bin o_fdiv (d_var 3) d_int)) da_nil)) (blkOk_by (N := N__law_list) (sc := defScope s__law_list) (by decide +kernel)) (tgt1 7) (fun _ _ _ _ _ => pg_name (i := 7) S.nd rfl (Or.inl rfl)) (fun _ _ _ _ _ => pts_nilD) (fun _ _ _ _ _ => (d_tup (da_cons (d_var 7) (da_cons d_int da_nil))))))) dss_nil)
    (dss_one (ds_ret (d_ix (d_lst (da_cons d_non (da_cons (d_callTy k_tuple (by rfl) z_tuple (by decide +kernel) (da_cons (d_var 6) da_nil)) (da_cons (d_tup (da_cons (d_ix (d_var 6) d_int) (da_cons d_int da_nil))) (da_cons (d_lst da_nil) da_nil))))) (d_ix (d_lst (da_cons d_int (da_cons (d_ix (d_lst (da_cons d_int (da_cons d_int da_nil))) (d_bin o_mod (d_var 5) d_int)) (da_cons d_int da_nil)))) (d_bin o_sub (d_var 3) d_int)))))))))))))))) vc__law_list
end
/-! _law_arguments -/
abbrev s__law_arguments : Stmt := topS 51
abbrev N__law_arguments : List Str := ["_law_bag_here", "_law_which", "_law_first", "_law_second", "_law_some"]
theorem sc__law_arguments : FnScope N__law_arguments ["_law_bag_here", "_law_which", "_law_first", "_law_second"] (defScope s__law_arguments) := ⟨rfl, rfl, rfl, by decide +kernel, rfl, by decide +kernel, by decide +kernel⟩
def rd__law_arguments : DS := (tSeqD (tIfD (tTst (tBin (gEqv id) (tVarD 1) (tCD (.int 0)))) (tSeqD (tSetD 4 (tLstD (tConsD (tUse sp__law_number (tConsD (tVarD 0) (tConsD (tVarD 2) tNilD))) (tConsD (tUse sp__law_number (tConsD (tVarD 0) (tConsD (tVarD 3) tNilD))) tNilD))))
        (tSeqD (tIfD (tAndD (tNotD (tTru (tVarD 2))) (tTst (tBin (gEqv id) (tUse sp__law_take (tConsD (tVarD 0) (tConsD (tCD (.int 4)) tNilD))) (tCD (.int 0))))) (tSetI 4 (tCD (.int 0)) (tCD (.int 0))) (fun d env => d.nx env))
        (tSeqD (tIfD (tAndD (tTru (tVarD 3)) (tTst (tBin (gEqv id) (tUse sp__law_take (tConsD (tVarD 0) (tConsD (tCD (.int 3)) tNilD))) (tCD (.int 0))))) (tSetI 4 (tCD (.int 1)) (tCD (.int 0))) (fun d env => d.nx env))
        (tRetVD 4)))) (fun d env => d.nx env))
    (tSeqD (tIfD (tTst (tBin gLt (tVarD 1) (tCD (.int 5)))) (tRetD (tLstD (tConsD (tBin gIx (tLstD (tConsD (tUse sp__law_good (tConsD (tVarD 0) tNilD)) (tConsD (tUse sp__law_bad (tConsD (tVarD 0) tNilD)) tNilD))) (tCallD cInt (tConsD (tVarD 2) tNilD))) (tConsD (tBin gIx (tLstD (tConsD (tUse sp__law_good (tConsD (tVarD 0) tNilD)) (tConsD (tUse sp__law_bad (tConsD (tVarD 0) tNilD)) tNilD))) (tCallD cInt (tConsD (tVarD 3) tNilD))) tNilD)))) (fun d env => d.nx env))
    (tRetD (tLstD (tConsD (tUse sp__law_list (tConsD (tVarD 0) (tConsD (tVarD 2) (tConsD (tBin (gEqv id) (tVarD 1) (tCD (.int 5))) tNilD)))) tNilD)))))
def sp__law_arguments : DSp := fun us P => ∃ w f s, us = [.bag, .d (.int w), .d (.bool f), .d (.bool s)] ∧ 0 ≤ w ∧ w < 8 ∧ (s = true → w < 5) ∧ ∀ some, Sn 5 90000 (.list some) → (f = false → s = false → Good w some) → ((f = true ∨ s = true) → Bd w (if f = true then 0 else 1) some) → P (.fr some)
theorem sn_two {a b : PyData} {n k : Nat} (ha : Sn n k a) (hb : Sn n k b) : Sn (n + 1) (2 * (k + 2) + 3) (.list [a, b]) := sn_lst (m := 2) (fun z hz => by
  simp only [List.mem_cons, List.not_mem_nil, or_false] at hz
  rcases hz with rfl | rfl
  · exact ha
  · exact hb) (by simp)
theorem vc__law_arguments : ∀ dvs Q, sp__law_arguments dvs Q → dvs.length = 4 ∧ rd__law_arguments { nx := fun _ => Q (.d .none), rt := Q } (startD N__law_arguments dvs) := by
  rintro dvs Q ⟨w, f, s, rfl, w0, w1, hs, h⟩
  refine ⟨rfl, ?_⟩
  have num : ∀ (b : Bool) (P : DV → Prop), (∀ x, (b = true → isWh x = false) → (b = false → ∃ i : Int, x = .int i ∧ i ≠ 0 ∧ i.natAbs < 2 ^ 68) → Sn 2 200 x → P (.d x)) → sp__law_number [.bag, .d (.bool b)] P := fun b P k => ⟨b, rfl, fun e x a c => k x (fun _ => a) (fun z => by rw [e] at z; cases z) c, fun e i a c => k _ (fun z => by rw [e] at z; cases z) (fun _ => ⟨i, rfl, a, c⟩) (sn_int c).up⟩
  unfold rd__law_arguments
  refine seqG fun R hR => ?_
  refine ifG fun A B hA hB => ?_
  walk_at "dl"
  by_cases e0 : w = 0
  · subst e0
    simp only [decide_true, if_true]
    refine hA ?_
    clear hA hB hR
    have fin : ∀ x y, (f = true → isWh x = false) → (f = false → ∃ i : Int, x = .int i ∧ i.natAbs < 2 ^ 68) → (s = true → isWh y = false ∨ y = .int 0) → (s = false → ∃ i : Int, y = .int i ∧ i ≠ 0 ∧ i.natAbs < 2 ^ 68) → Sn 2 200 x → Sn 2 200 y → Q (.fr [x, y]) := fun x y x1 x2 y1 y2 sx sy => by
      refine h _ (sn_two sx sy).up (fun ef es => ?_) fun e => .inl ⟨rfl, x, y, rfl, ?_⟩
      · obtain ⟨i, rfl, li⟩ := x2 ef
        obtain ⟨j, rfl, j0, lj⟩ := y2 es
        exact .inl ⟨rfl, i, j, rfl, j0, two_le li (by decide), two_le lj (by decide)⟩
      · cases f with
        | true => exact .inl ⟨rfl, x1 rfl⟩
        | false =>
          obtain ⟨i, rfl, li⟩ := x2 rfl
          rcases e with e | e
          · cases e
          · exact .inr ⟨rfl, rfl, y1 e⟩
    have z0 : Sn 2 200 (.int 0) := (sn_int (j := 12) (by decide)).up
    refine seqG fun R hR => ?_
    walk_at "dl"
    refine num f _ fun x x1 x2 sx => ?_
    walk_at "dl"
    refine num s _ fun y y1 y2 sy => ?_
    walk_at "dl"
    refine ⟨by decide, fun l => hR _ (seqG fun R hR => ?_)⟩
    have rest : ∀ x, (f = true → isWh x = false) → (f = false → ∃ i : Int, x = .int i ∧ i.natAbs < 2 ^ 68) → Sn 2 200 x → R [.bag, .d (.int 0), .d (.bool f), .d (.bool s), .ow l [x, y]] := fun x x1 x2 sx => by
      refine hR _ ?_
      walk_at "dl"
      cases s with
      | false =>
        simp only [Bool.false_eq_true, if_false]
        exact fin x y x1 x2 (fun e => nomatch e) y2 sx sy
      | true =>
        simp only [if_true]
        refine ⟨3, rfl, by decide, by decide, fun r r0 r1 => ?_⟩
        walk_at "dl"
        by_cases e : r = 0
        · simp only [e, decide_true, if_true]
          exact fin x _ x1 x2 (fun _ => .inr rfl) (fun e => nomatch e) sx z0
        · simp only [e, decide_false, Bool.false_eq_true, if_false]
          exact fin x y x1 x2 (fun _ => .inl (y1 rfl)) (fun e => nomatch e) sx sy
    have x2' : f = false → ∃ i : Int, x = .int i ∧ i.natAbs < 2 ^ 68 := fun e => by
      obtain ⟨i, a, _, b⟩ := x2 e
      exact ⟨i, a, b⟩
    walk_at "dl"
    cases f with
    | true =>
      simp only [Bool.not_true, Bool.false_eq_true, if_false]
      exact rest x x1 x2' sx
    | false =>
      simp only [Bool.not_false, if_true]
      refine ⟨4, rfl, by decide, by decide, fun r r0 r1 => ?_⟩
      walk_at "dl"
      by_cases e : r = 0
      · simp only [e, decide_true, if_true]
        exact rest _ (fun e => nomatch e) (fun _ => ⟨0, rfl, by decide⟩) z0
      · simp only [e, decide_false, Bool.false_eq_true, if_false]
        exact rest x x1 x2' sx
  · simp only [e0, decide_false, Bool.false_eq_true, if_false]
    refine hB ?_
    refine hR _ (seqG fun R hR => ?_)
    clear hA hB
    refine ifG fun A B hA hB => ?_
    walk_at "dl"
    by_cases e5 : w < 5
    · simp only [e5, decide_true, if_true]
      refine hA ?_
      clear hA hB hR
      have pr : ∀ (b : Bool) (P : DV → Prop) (g z : PyData), FrG g → isFr z = false → Sn 2 200 z → (∀ x, (b = true → isFr x = false) → (b = false → FrG x) → Sn 2 200 x → P (.d x)) → gIx (.list [g, z]) (.int (if b = true then 1 else 0)) P := fun b P g z fg fz sz k => by
        cases b with
        | true => exact k z (fun _ => fz) (fun e => nomatch e) sz
        | false => exact k g (fun e => nomatch e) (fun _ => fg) fg.sn.up
      walk_at "dl"
      refine ⟨rfl, fun p q fp => ?_⟩
      walk_at "dl"
      refine ⟨rfl, fun z1 f1 n1 => ?_⟩
      walk_at "dl"
      refine ⟨by decide, ?_⟩
      refine pr f _ _ _ ⟨p, q, rfl, fp⟩ f1 n1.up fun x xb xg sx => ?_
      walk_at "dl"
      refine ⟨rfl, fun p2 q2 fp2 => ?_⟩
      walk_at "dl"
      refine ⟨rfl, fun z2 f2 n2 => ?_⟩
      walk_at "dl"
      refine ⟨by decide, ?_⟩
      refine pr s _ _ _ ⟨p2, q2, rfl, fp2⟩ f2 n2.up fun y yb yg sy => ?_
      walk_at "dl"
      refine ⟨by decide, h _ (sn_two sx sy).up (fun ef es => .inr (.inl ⟨by omega, by omega, x, y, rfl, xg ef, yg es⟩)) fun e => .inr (.inl ⟨by omega, by omega, x, y, rfl, ?_⟩)⟩
      cases f with
      | true => exact .inl ⟨rfl, xb rfl⟩
      | false =>
        rcases e with e | e
        · cases e
        · exact .inr ⟨rfl, (xg rfl).isFr, yb e⟩
    · simp only [e5, decide_false, Bool.false_eq_true, if_false]
      refine hB ?_
      refine hR _ ?_
      clear hA hB hR
      have es : s = false := by
        cases s with
        | false => rfl
        | true => exact absurd (hs rfl) e5
      subst es
      have one : ∀ x, Sn 3 60000 x → Sn 5 90000 (.list [x]) := fun x sx => (sn_lst (n := 3) (k := 60000) (m := 1) (fun z hz => by rw [List.mem_singleton.mp hz]; exact sx) (by simp)).up
      walk_at "dl"
      refine ⟨f, _, rfl, fun ef => ?_, fun ef a xs hl hx => ?_⟩
      · subst ef
        have bad : ∀ x, BadL (decide (w = 5)) x → Q (.fr [x]) := fun x ⟨b1, b2⟩ => h _ (one x b2) (fun e => nomatch e) fun _ => .inr (.inr ⟨by omega, by omega, rfl, x, rfl, by rw [← b1]; by_cases e : w = 5 <;> simp [e]⟩)
        refine ⟨fun x b => ?_, fun xs b => ?_⟩
        · walk_at "dl"
          exact ⟨by decide, bad x b⟩
        · walk_at "dl"
          exact ⟨by decide, bad _ b⟩
      · subst ef
        walk_at "dl"
        refine ⟨by decide, h _ (one _ ?_) (fun _ _ => .inr (.inr ⟨by omega, by omega, a, xs, rfl, hl, hx⟩)) fun e => by rcases e with e | e <;> cases e⟩
        exact (sn_lst (n := 1) (k := 33) (m := 6) (fun z hz => (hx z hz).sn) (by simp only [List.length_cons]; omega)).up
section
variable {ts : List Addr} {P : Program} {w : World} {K : PySem.W.Frag} {mg : Str → Option Value} {base : Heap}
theorem ok__law_arguments {f : Addr} {fd : FuncData} (Fn : L2.Fun K "_law_arguments" "_law_arguments" s__law_arguments f fd) {f__law_number : Addr} (g__law_number : Fg P w K mg base (L2.CX P w) 2 f__law_number (Pm K ts sp__law_number)) (m__law_number : mg "_law_number" = some (.ref f__law_number)) (p__law_number : PySem.W.keepIn K (.ref f__law_number) = true) {f__law_take : Addr} (g__law_take : Fg P w K mg base (L2.CX P w) 1 f__law_take (Pm K ts sp__law_take)) (m__law_take : mg "_law_take" = some (.ref f__law_take)) (p__law_take : PySem.W.keepIn K (.ref f__law_take) = true) {f__law_bad : Addr} (g__law_bad : Fg P w K mg base (L2.CX P w) 3 f__law_bad (Pm K ts sp__law_bad)) (m__law_bad : mg "_law_bad" = some (.ref f__law_bad)) (p__law_bad : PySem.W.keepIn K (.ref f__law_bad) = true) {f__law_good : Addr} (g__law_good : Fg P w K mg base (L2.CX P w) 2 f__law_good (Pm K ts sp__law_good)) (m__law_good : mg "_law_good" = some (.ref f__law_good)) (p__law_good : PySem.W.keepIn K (.ref f__law_good) = true) {f__law_list : Addr} (g__law_list : Fg P w K mg base (L2.CX P w) 4 f__law_list (Pm K ts sp__law_list)) (m__law_list : mg "_law_list" = some (.ref f__law_list)) (p__law_list : PySem.W.keepIn K (.ref f__law_list) = true) (z_int : mg "int" = none) : Fg P w K mg base (L2.CX P w) 5 f (Pm K ts sp__law_arguments) := d_def Fn sc__law_arguments (fun _ _ _ _ _ _ us hl => match us, hl with | [_, _, _, _], _ => rfl) sp__law_arguments rd__law_arguments (fun cdv A outer s H E wn hcd ht ag hr => by
  have S := sc__law_arguments
  have hu := hr.units
  exact (dss_cons (ds_if (dt_cmp (o_eq hu) (d_var 1) d_int) (dss_cons (ds_set (i := 4) S.nd rfl (by first | exact Or.inl rfl | exact Or.inr rfl) (d_lst (da_cons (d_use g__law_number ht ag (hr.mono (by decide)) passZ (by rfl) m__law_number p__law_number (da_cons (d_var 0) (da_cons (d_var 2) da_nil))) (da_cons (d_use g__law_number ht ag (hr.mono (by decide)) passZ (by rfl) m__law_number p__law_number (da_cons (d_var 0) (da_cons (d_var 3) da_nil))) da_nil))))
        (dss_cons (ds_if (dt_w (dw_and (dt_not (dt_e (d_var 2))) (dw_and1 (dt_cmp (o_eq hu) (d_use g__law_take ht ag (hr.mono (by decide)) passZ (by rfl) m__law_take p__law_take (da_cons (d_var 0) (da_cons d_int da_nil))) d_int)))) (dss_one (ds_seti (i := 4) d_int (pv 4) d_int (pg_sub (pv 4) d_int set_list))) dss_nil)
        (dss_cons (ds_if (dt_w (dw_and (dt_e (d_var 3)) (dw_and1 (dt_cmp (o_eq hu) (d_use g__law_take ht ag (hr.mono (by decide)) passZ (by rfl) m__law_take p__law_take (da_cons (d_var 0) (da_cons d_int da_nil))) d_int)))) (dss_one (ds_seti (i := 4) d_int (pv 4) d_int (pg_sub (pv 4) d_int set_list))) dss_nil)
        (dss_one (ds_retV 4))))) dss_nil)
    (dss_cons (ds_if (dt_cmp o_lt (d_var 1) d_int) (dss_one (ds_ret (d_lst (da_cons (d_ix (d_lst (da_cons (d_use g__law_good ht ag (hr.mono (by decide)) passZ (by rfl) m__law_good p__law_good (da_cons (d_var 0) da_nil)) (da_cons (d_use g__law_bad ht ag (hr.mono (by decide)) passZ (by rfl) m__law_bad p__law_bad (da_cons (d_var 0) da_nil)) da_nil))) (d_callTy k_int (by rfl) z_int (by decide +kernel) (da_cons (d_var 2) da_nil))) (da_cons (d_ix (d_lst (da_cons (d_use g__law_good ht ag (hr.mono (by decide)) passZ (by rfl) m__law_good p__law_good (da_cons (d_var 0) da_nil)) (da_cons (d_use g__law_bad ht ag (hr.mono (by decide)) passZ (by rfl) m__law_bad p__law_bad (da_cons (d_var 0) da_nil)) da_nil))) (d_callTy k_int (by rfl) z_int (by decide +kernel) (da_cons (d_var 3) da_nil))) da_nil))))) dss_nil)
    (dss_one (ds_ret (d_lst (da_cons (d_use g__law_list ht ag (hr.mono (by decide)) passZ (by rfl) m__law_list p__law_list (da_cons (d_var 0) (da_cons (d_var 2) (da_cons (d_cmp (o_eq hu) (d_var 1) d_int) da_nil)))) da_nil))))))) vc__law_arguments
end
/-! _law_due -/
abbrev s__law_due : Stmt := topS 50
abbrev N__law_due : List Str := ["_law_which", "_law_some", "_law_top", "_law_bottom", "_law_low_here", "_law_high", "_law_one", "_law_other", "_law_here", "_law_there"]
theorem sc__law_due : FnScope N__law_due ["_law_which", "_law_some"] (defScope s__law_due) := ⟨rfl, rfl, rfl, by decide +kernel, rfl, by decide +kernel, by decide +kernel⟩
def rd__law_due : DS := (tSeqD (tIfD (tTst (tBin (gIn (fun i j => decide (j < i)) fun i j => decide (j.cps.toList < i.cps.toList)) (tVarD 0) (tCD (.int 4)))) (tSeqD (tAsgD (tTupD (tConsD (tCD (.int 0)) (tConsD (tCD (.int 1)) tNilD))) (gtD 2 (gconsD (gnD 2) (gconsD (gnD 3) gnilD))))
        (tSeqD (tParD 4 5 (tConsD (tBin gIx (tBin gIx (tVarD 1) (tCD (.int 0))) (tCD (.int 0))) (tConsD (tBin gIx (tBin gIx (tVarD 1) (tCD (.int 0))) (tCD (.int 0))) tNilD)))
        (tSeqD (tForD (gnD 6) (itLst (tBin gIx (tVarD 1) (tCD (.int 0)))) (tSeqD (tAsgD (tUse sp__law_low (tConsD (tBin gAdd (tBin gMul (tVarD 2) (tBin gIx (tVarD 6) (tCD (.int 1)))) (tBin gMul (tBin gIx (tVarD 6) (tCD (.int 0))) (tVarD 3))) (tConsD (tBin gMul (tVarD 3) (tBin gIx (tVarD 6) (tCD (.int 1)))) tNilD))) (gtD 2 (gconsD (gnD 2) (gconsD (gnD 3) gnilD))))
            (tSeqD (tSetD 4 (tBin gIx (tLstD (tConsD (tVarD 4) (tConsD (tVarD 6) tNilD))) (tCallD cInt (tConsD (tBin gLt (tBin gMul (tBin gIx (tVarD 6) (tCD (.int 0))) (tBin gIx (tVarD 4) (tCD (.int 1)))) (tBin gMul (tBin gIx (tVarD 4) (tCD (.int 0))) (tBin gIx (tVarD 6) (tCD (.int 1))))) tNilD))))
            (tSetD 5 (tBin gIx (tLstD (tConsD (tVarD 5) (tConsD (tVarD 6) tNilD))) (tCallD cInt (tConsD (tBin (gIn (fun i j => decide (j < i)) fun i j => decide (j.cps.toList < i.cps.toList)) (tBin gMul (tBin gIx (tVarD 6) (tCD (.int 0))) (tBin gIx (tVarD 5) (tCD (.int 1)))) (tBin gMul (tBin gIx (tVarD 5) (tCD (.int 0))) (tBin gIx (tVarD 6) (tCD (.int 1))))) tNilD)))))))
        (tRetD (tBin gIx (tLstD (tConsD (tTupD (tConsD (tVarD 2) (tConsD (tVarD 3) tNilD))) (tConsD (tVarD 4) (tConsD (tVarD 5) tNilD)))) (tBin gMinus (tVarD 0) (tCD (.int 5)))))))) (fun d env => d.nx env))
    (tSeqD (tAsgD (tVarD 1) (gtLD 2 (gconsD (gnD 6) (gconsD (gnD 7) gnilD))))
    (tSeqD (tIfD (tTst (tBin (gEqv id) (tVarD 0) (tCD (.int 0)))) (tRetD (tUse sp__law_low (tConsD (tBin gMul (tVarD 6) (tBin gIx (tLstD (tConsD (tCD (.int 1)) (tConsD (tUnD gNeg (tCD (.int 1))) tNilD))) (tCallD cInt (tConsD (tBin gLt (tVarD 7) (tCD (.int 0))) tNilD)))) (tConsD (tCallD cAbs (tConsD (tVarD 7) tNilD)) tNilD)))) (fun d env => d.nx env))
    (tSeqD (tIfD (tTst (tBin (gEqv id) (tVarD 0) (tCD (.int 3)))) (tRetD (tUse sp__law_low (tConsD (tBin gMul (tBin gIx (tVarD 6) (tCD (.int 0))) (tBin gIx (tVarD 7) (tCD (.int 0)))) (tConsD (tBin gMul (tBin gIx (tVarD 6) (tCD (.int 1))) (tBin gIx (tVarD 7) (tCD (.int 1)))) tNilD)))) (fun d env => d.nx env))
    (tSeqD (tParD 8 9 (tConsD (tBin gMul (tBin gIx (tVarD 6) (tCD (.int 0))) (tBin gIx (tVarD 7) (tCD (.int 1)))) (tConsD (tBin gMul (tBin gIx (tVarD 7) (tCD (.int 0))) (tBin gIx (tVarD 6) (tCD (.int 1)))) tNilD)))
    (tSeqD (tIfD (tTst (tBin (gEqv id) (tVarD 0) (tCD (.int 4)))) (tRetD (tBin gMinus (tCallD cInt (tConsD (tBin (gIn (fun i j => decide (j < i)) fun i j => decide (j.cps.toList < i.cps.toList)) (tVarD 8) (tVarD 9)) tNilD)) (tCallD cInt (tConsD (tBin gLt (tVarD 8) (tVarD 9)) tNilD)))) (fun d env => d.nx env))
    (tRetD (tUse sp__law_low (tConsD (tBin gAdd (tVarD 8) (tBin gIx (tLstD (tConsD (tVarD 9) (tConsD (tUnD gNeg (tVarD 9)) tNilD))) (tBin gMinus (tVarD 0) (tCD (.int 1))))) (tConsD (tBin gMul (tBin gIx (tVarD 6) (tCD (.int 1))) (tBin gIx (tVarD 7) (tCD (.int 1)))) tNilD))))))))))
def sp__law_due : DSp := fun us P => ∃ w some, us = [.d (.int w), .d (.list some)] ∧ Good w some ∧ P (.d (dueV w some))
theorem vc__law_due : ∀ dvs Q, sp__law_due dvs Q → dvs.length = 2 ∧ rd__law_due { nx := fun _ => Q (.d .none), rt := Q } (startD N__law_due dvs) := by
  rintro dvs Q ⟨w, some, rfl, g, h⟩
  refine ⟨rfl, ?_⟩
  unfold rd__law_due
  refine seqG fun R hR => ?_
  rcases g with ⟨rfl, t, b, rfl, hb, lt, lb⟩ | ⟨w1, w2, x, y, rfl, ⟨p, q, rfl, f⟩, ⟨u, v, rfl, g⟩⟩ | ⟨w1, w2, a, xs, rfl, hl, hf⟩
  · walk_at "dl"
    simp only [show decide ((4 : Int) < 0) = false from by decide, Bool.false_eq_true, if_false]
    refine hR _ ?_
    walk_at "dl"
    simp only [decide_true, if_true]
    have hp : 0 < (b.natAbs : Int) := by omega
    have lp : ((b.natAbs : Nat) : Int).natAbs.log2 < 9000 := by rw [Int.natAbs_natCast]; exact log_le lb (by decide) (by decide)
    have m1 : ∀ s : Int, s.natAbs = 1 → t.natAbs.log2 + s.natAbs.log2 < 1000000 := fun s hs => mul_log (n := 1) lt (by omega) (by decide) (by decide) (by decide)
    by_cases hn : b < 0
    · simp only [hn, decide_true, if_true]
      walk_at "dl"
      refine ⟨by decide, m1 (-1) rfl, _, _, rfl, hp, lp, fun s r f e => ?_⟩
      have e2 := fr_eq (t := -t) (b := -b) (by omega) f (by rw [show (-b : Int) = (b.natAbs : Int) by omega, ← e, Int.mul_neg, Int.mul_one])
      rw [e2, fr_neg t b hb]
      exact h
    · simp only [hn, decide_false, Bool.false_eq_true, if_false]
      walk_at "dl"
      refine ⟨by decide, m1 1 rfl, _, _, rfl, hp, lp, fun s r f e => ?_⟩
      have e2 := fr_eq (t := t) (b := b) hb f (by rw [show (b : Int) = (b.natAbs : Int) by omega, ← e, Int.mul_one])
      rw [e2]
      exact h
  · walk_at "dl"
    simp only [show ¬ (4 : Int) < w by omega, decide_false, Bool.false_eq_true, if_false]
    refine hR _ (seqG fun R hR => ?_)
    walk_at "dl"
    refine hR _ (seqG fun R hR => ?_)
    have h0 : ¬ w = 0 := by omega
    walk_at "dl"
    simp only [h0, decide_false, Bool.false_eq_true, if_false]
    refine hR _ (seqG fun R hR => ?_)
    have qv := Int.mul_pos f.pos g.pos
    have m1 := mul_log f.t g.b (by decide) (by decide) (by decide)
    have m2 := mul_log g.t f.b (by decide) (by decide) (by decide)
    have m3 := mul_log f.b g.b (by decide) (by decide) (by decide)
    have m4 := mul_log f.t g.t (by decide) (by decide) (by decide)
    have lq : (q * v).natAbs.log2 < 9000 := log_le (natAbs_mul_lt f.b g.b) (by decide) (by decide)
    walk_at "dl"
    by_cases h3 : w = 3
    · subst h3
      simp only [decide_true, if_true]
      refine ⟨m4, m3, _, _, rfl, qv, lq, fun s r k e => ?_⟩
      rw [fr_eq (Int.ne_of_gt qv) k e]
      exact h
    · simp only [h3, decide_false, Bool.false_eq_true, if_false]
      refine hR _ (seqG fun R hR => ?_)
      walk_at "dl"
      refine ⟨m1, m2, hR _ (seqG fun R hR => ?_)⟩
      walk_at "dl"
      by_cases h4 : w = 4
      · subst h4
        simp only [decide_true, if_true]
        have e : (if decide (u * q < p * v) = true then (1 : Int) else 0) - (if decide (p * v < u * q) = true then (1 : Int) else 0) = cmpT p q u v := by
          unfold cmpT
          by_cases h1 : p * v < u * q
          · have h2 : ¬ u * q < p * v := by omega
            simp [h1, h2]
          · by_cases h2 : u * q < p * v
            · simp [h1, h2]
            · simp [h1, h2]
        rw [e]
        exact h
      · simp only [h4, decide_false, Bool.false_eq_true, if_false]
        refine hR _ ?_
        have hw : w = 1 ∨ w = 2 := by omega
        rcases hw with rfl | rfl
        · walk_at "dl"
          refine ⟨by decide, m3, _, _, rfl, qv, lq, fun s r k e => ?_⟩
          rw [fr_eq (Int.ne_of_gt qv) k e]
          exact h
        · walk_at "dl"
          refine ⟨by decide, m3, _, _, rfl, qv, lq, fun s r k e => ?_⟩
          rw [fr_eq (t := p * v - u * q) (Int.ne_of_gt qv) k (by rw [← e, Int.sub_eq_add_neg])]
          exact h
  · obtain ⟨d0, d1⟩ := prodB_pos hf
    have hx := prodB_frd hf
    rw [List.length_cons] at d1
    have hD2 : (prodB (a :: xs)).natAbs < 2 ^ 200 := two_le d1 (by omega)
    have tl := tot_lt (by rw [List.length_cons]; omega) hx hD2
    obtain ⟨D, eD⟩ : ∃ D, D = prodB (a :: xs) := ⟨_, rfl⟩
    rw [← eD] at d0 hx hD2 tl
    have h : Q (.d (if w = 5 then fr (totD D (a :: xs)) D else if w = 6 then sel (-1) (a :: xs) a else sel 1 (a :: xs) a)) := by rw [eD]; exact h
    have hD0 : D ≠ 0 := Int.ne_of_gt d0
    obtain ⟨T, eT⟩ : ∃ T, T = totD D (a :: xs) := ⟨_, rfl⟩
    rw [← eT] at h
    clear d1 eD
    walk_at "dl"
    simp only [show (4 : Int) < w by omega, decide_true, if_true]
    refine ⟨by decide, ?_⟩
    refine forD_ind (fun zs env => ∃ n t b lo hi s6 s7 s8 s9, env = [.d (.int w), .d (.list [.list (a :: xs)]), .d (.int t), .d (.int b), .d lo, .d hi, s6, s7, s8, s9] ∧ Nu D n t b ∧ n + totD D zs = T ∧ n.natAbs + aS (zs.map (numD D)) < 2 ^ 810 ∧ (∀ z ∈ zs, FrG z ∧ FrD 600 D z) ∧ FrG lo ∧ FrG hi ∧ sel (-1) zs lo = sel (-1) (a :: xs) a ∧ sel 1 zs hi = sel 1 (a :: xs) a) (fun env hI => ?_) (fun x zs env R2 hI hR2 => ?_) _ _ ⟨0, 0, 1, a, a, _, _, _, _, rfl, nu_zero, by rw [eT, Int.zero_add], by rw [Int.natAbs_zero, Nat.zero_add]; exact tl, fun z hz => ⟨hf z hz, hx z hz⟩, hf a (List.mem_cons_self ..), hf a (List.mem_cons_self ..), rfl, rfl⟩
    · obtain ⟨n, t, b, lo, hi, s6, s7, s8, s9, rfl, nu, e1, _, _, _, _, e2, e3⟩ := hI
      have e1 : n = T := by simpa [totD] using e1
      have e2 : lo = sel (-1) (a :: xs) a := e2
      have e3 : hi = sel 1 (a :: xs) a := e3
      subst e1 e2 e3
      have hw : w = 5 ∨ w = 6 ∨ w = 7 := by omega
      have e0 := fr_eq hD0 nu.f nu.e
      rw [← e0] at h
      rcases hw with rfl | rfl | rfl
      · walk_at "dl"
        exact ⟨by decide, by decide, h⟩
      · walk_at "dl"
        exact ⟨by decide, by decide, h⟩
      · walk_at "dl"
        exact ⟨by decide, by decide, h⟩
    · obtain ⟨n, t, b, lo, hi, s6, s7, s8, s9, rfl, nu, e1, bn, hz, hlo, hhi, e2, e3⟩ := hI
      obtain ⟨⟨p, q, rfl, f⟩, fd⟩ := hz x (List.mem_cons_self ..)
      obtain ⟨u, v, rfl, g⟩ := hlo
      obtain ⟨u2, v2, rfl, g2⟩ := hhi
      have hz2 := fun y hy => hz y (List.mem_cons_of_mem _ hy)
      have qd : q ∣ D := by obtain ⟨p', q', e, _, d, _⟩ := fd; cases e; exact d
      have nx := Nu.of f.f qd
      have bb : b.natAbs < 2 ^ 200 := Nat.lt_of_le_of_lt (nu.le hD0).1 hD2
      have tb : t.natAbs < 2 ^ 810 := Nat.lt_of_le_of_lt (nu.le hD0).2 (by omega)
      have m1 := mul_log tb f.b (by decide) (by decide) (by decide)
      have m2 := mul_log f.t bb (by decide) (by decide) (by decide)
      have m3 := mul_log bb f.b (by decide) (by decide) (by decide)
      have n1 := mul_log f.t g.b (by decide) (by decide) (by decide)
      have n2 := mul_log g.t f.b (by decide) (by decide) (by decide)
      have n3 := mul_log f.t g2.b (by decide) (by decide) (by decide)
      have n4 := mul_log g2.t f.b (by decide) (by decide) (by decide)
      have bn : (n + p * (D / q)).natAbs + aS (zs.map (numD D)) < 2 ^ 810 := by
        have bn : n.natAbs + ((p * (D / q)).natAbs + aS (zs.map (numD D))) < 2 ^ 810 := bn
        omega
      have e1 : n + p * (D / q) + totD D zs = T := by
        have e1 : n + (p * (D / q) + totD D zs) = T := e1
        omega
      have e2 : sel (-1) zs (if cmpT p q u v = -1 then .tuple [.int p, .int q] else .tuple [.int u, .int v]) = sel (-1) (a :: xs) a := e2
      have e3 : sel 1 zs (if cmpT p q u2 v2 = 1 then .tuple [.int p, .int q] else .tuple [.int u2, .int v2]) = sel 1 (a :: xs) a := e3
      refine seqG fun R hR => ?_
      walk_at "dl"
      refine ⟨m1, m2, m3, _, _, rfl, Int.mul_pos nu.f.pos f.pos, log_le (natAbs_mul_lt bb f.b) (by decide) (by decide), fun s r fr e => ?_⟩
      have nu2 := nu_sum nu.f.pos f.pos nu.e nx.e fr e
      refine ⟨rfl, rfl, hR _ (seqG fun R hR => ?_)⟩
      walk_at "dl"
      refine ⟨by decide, n1, n2, ?_⟩
      have rest : ∀ lo2, FrG lo2 → sel (-1) zs lo2 = sel (-1) (a :: xs) a → R [.d (.int w), .d (.list [.list (a :: xs)]), .d (.int s), .d (.int r), .d lo2, .d (.tuple [.int u2, .int v2]), .d (.tuple [.int p, .int q]), s7, s8, s9] := fun lo2 f2 e2 => by
        refine hR _ ?_
        walk_at "dl"
        refine ⟨by decide, n3, n4, ?_⟩
        by_cases hc : u2 * q < p * v2
        · have hc2 : cmpT p q u2 v2 = 1 := by unfold cmpT; rw [if_neg (by omega), if_pos hc]
          simp only [hc, decide_true, if_true]
          rw [if_pos hc2] at e3
          walk_at "dl"
          exact hR2 _ ⟨_, _, _, _, _, _, _, _, _, rfl, nu2, e1, bn, hz2, f2, ⟨p, q, rfl, f⟩, e2, e3⟩
        · have hc2 : ¬ cmpT p q u2 v2 = 1 := by
            unfold cmpT
            rw [if_neg hc]
            split <;> decide
          simp only [hc, decide_false, Bool.false_eq_true, if_false]
          rw [if_neg hc2] at e3
          walk_at "dl"
          exact hR2 _ ⟨_, _, _, _, _, _, _, _, _, rfl, nu2, e1, bn, hz2, f2, ⟨u2, v2, rfl, g2⟩, e2, e3⟩
      by_cases hc : p * v < u * q
      · have hc2 : cmpT p q u v = -1 := by unfold cmpT; rw [if_pos hc]
        simp only [hc, decide_true, if_true]
        rw [if_pos hc2] at e2
        walk_at "dl"
        exact rest _ ⟨p, q, rfl, f⟩ e2
      · have hc2 : ¬ cmpT p q u v = -1 := by
          unfold cmpT
          rw [if_neg hc]
          split <;> decide
        simp only [hc, decide_false, Bool.false_eq_true, if_false]
        rw [if_neg hc2] at e2
        walk_at "dl"
        exact rest _ ⟨u, v, rfl, g⟩ e2
section
variable {ts : List Addr} {P : Program} {w : World} {K : PySem.W.Frag} {mg : Str → Option Value} {base : Heap}
theorem ok__law_due {f : Addr} {fd : FuncData} (Fn : L2.Fun K "_law_due" "_law_due" s__law_due f fd) {f__law_low : Addr} (g__law_low : Fg P w K mg base (L2.CX P w) 1 f__law_low (Pm K ts sp__law_low)) (m__law_low : mg "_law_low" = some (.ref f__law_low)) (p__law_low : PySem.W.keepIn K (.ref f__law_low) = true) (z_int : mg "int" = none) (z_abs : mg "abs" = none) : Fg P w K mg base (L2.CX P w) 2 f (Pm K ts sp__law_due) := d_def Fn sc__law_due (fun _ _ _ _ _ _ us hl => match us, hl with | [_, _], _ => rfl) sp__law_due rd__law_due (fun cdv A outer s H E wn hcd ht ag hr => by
  have S := sc__law_due
  have hu := hr.units
  exact (dss_cons (ds_if (dt_cmp o_gt (d_var 0) d_int) (dss_cons (ds_asg (d_tup (da_cons d_int (da_cons d_int da_nil))) (dg_tup rfl (dgs_cons (dg_name (i := 2) S.nd rfl (by first | exact Or.inl rfl | exact Or.inr rfl)) (dgs_cons (dg_name (i := 3) S.nd rfl (by first | exact Or.inl rfl | exact Or.inr rfl)) dgs_nil))))
        (dss_cons (ds_par (i := 4) (j := 5) rfl S.nd rfl rfl (by decide) rfl rfl (da_cons (d_ix (d_ix (d_var 1) d_int) d_int) (da_cons (d_ix (d_ix (d_var 1) d_int) d_int) da_nil)) (ps_par (i := 4) (j := 5) rfl S.nd rfl rfl (by decide) rfl rfl (da_cons (d_ix (d_ix (d_var 1) d_int) d_int) (da_cons (d_ix (d_ix (d_var 1) d_int) d_int) da_nil)) (by rfl)))
        (dss_cons (ds_for PassesOwn.never rfl (di_list (d_ix (d_var 1) d_int)) (dg_name (i := 6) S.nd rfl (by first | exact Or.inl rfl | exact Or.inr rfl)) (dss_cons (ds_asg (d_use g__law_low ht ag (hr.mono (by decide)) passZ (by rfl) m__law_low p__law_low (da_cons (d_bin o_add (d_bin o_mul (d_var 2) (d_ix (d_var 6) d_int)) (d_bin o_mul (d_ix (d_var 6) d_int) (d_var 3))) (da_cons (d_bin o_mul (d_var 3) (d_ix (d_var 6) d_int)) da_nil))) (dg_tup rfl (dgs_cons (dg_name (i := 2) S.nd rfl (by first | exact Or.inl rfl | exact Or.inr rfl)) (dgs_cons (dg_name (i := 3) S.nd rfl (by first | exact Or.inl rfl | exact Or.inr rfl)) dgs_nil))))
            (dss_cons (ds_set (i := 4) S.nd rfl (by first | exact Or.inl rfl | exact Or.inr rfl) (d_ix (d_lst (da_cons (d_var 4) (da_cons (d_var 6) da_nil))) (d_callTy k_int (by rfl) z_int (by decide +kernel) (da_cons (d_cmp o_lt (d_bin o_mul (d_ix (d_var 6) d_int) (d_ix (d_var 4) d_int)) (d_bin o_mul (d_ix (d_var 4) d_int) (d_ix (d_var 6) d_int))) da_nil))))
            (dss_one (ds_set (i := 5) S.nd rfl (by first | exact Or.inl rfl | exact Or.inr rfl) (d_ix (d_lst (da_cons (d_var 5) (da_cons (d_var 6) da_nil))) (d_callTy k_int (by rfl) z_int (by decide +kernel) (da_cons (d_cmp o_gt (d_bin o_mul (d_ix (d_var 6) d_int) (d_ix (d_var 5) d_int)) (d_bin o_mul (d_ix (d_var 5) d_int) (d_ix (d_var 6) d_int))) da_nil))))))))
        (dss_one (ds_ret (d_ix (d_lst (da_cons (d_tup (da_cons (d_var 2) (da_cons (d_var 3) da_nil))) (da_cons (d_var 4) (da_cons (d_var 5) da_nil)))) (d_bin o_sub (d_var 0) d_int))))))) dss_nil)
    (dss_cons (ds_asg (d_var 1) (dg_lst rfl (dgs_cons (dg_name (i := 6) S.nd rfl (by first | exact Or.inl rfl | exact Or.inr rfl)) (dgs_cons (dg_name (i := 7) S.nd rfl (by first | exact Or.inl rfl | exact Or.inr rfl)) dgs_nil))))
    (dss_cons (ds_if (dt_cmp (o_eq hu) (d_var 0) d_int) (dss_one (ds_ret (d_use g__law_low ht ag (hr.mono (by decide)) passZ (by rfl) m__law_low p__law_low (da_cons (d_bin o_mul (d_var 6) (d_ix (d_lst (da_cons d_int (da_cons (d_neg d_int) da_nil))) (d_callTy k_int (by rfl) z_int (by decide +kernel) (da_cons (d_cmp o_lt (d_var 7) d_int) da_nil)))) (da_cons (d_callB k_abs (by rfl) z_abs (by decide +kernel) (da_cons (d_var 7) da_nil)) da_nil))))) dss_nil)
    (dss_cons (ds_if (dt_cmp (o_eq hu) (d_var 0) d_int) (dss_one (ds_ret (d_use g__law_low ht ag (hr.mono (by decide)) passZ (by rfl) m__law_low p__law_low (da_cons (d_bin o_mul (d_ix (d_var 6) d_int) (d_ix (d_var 7) d_int)) (da_cons (d_bin o_mul (d_ix (d_var 6) d_int) (d_ix (d_var 7) d_int)) da_nil))))) dss_nil)
    (dss_cons (ds_par (i := 8) (j := 9) rfl S.nd rfl rfl (by decide) rfl rfl (da_cons (d_bin o_mul (d_ix (d_var 6) d_int) (d_ix (d_var 7) d_int)) (da_cons (d_bin o_mul (d_ix (d_var 7) d_int) (d_ix (d_var 6) d_int)) da_nil)) (ps_par (i := 8) (j := 9) rfl S.nd rfl rfl (by decide) rfl rfl (da_cons (d_bin o_mul (d_ix (d_var 6) d_int) (d_ix (d_var 7) d_int)) (da_cons (d_bin o_mul (d_ix (d_var 7) d_int) (d_ix (d_var 6) d_int)) da_nil)) (by rfl)))
    (dss_cons (ds_if (dt_cmp (o_eq hu) (d_var 0) d_int) (dss_one (ds_ret (d_bin o_sub (d_callTy k_int (by rfl) z_int (by decide +kernel) (da_cons (d_cmp o_gt (d_var 8) (d_var 9)) da_nil)) (d_callTy k_int (by rfl) z_int (by decide +kernel) (da_cons (d_cmp o_lt (d_var 8) (d_var 9)) da_nil))))) dss_nil)
    (dss_one (ds_ret (d_use g__law_low ht ag (hr.mono (by decide)) passZ (by rfl) m__law_low p__law_low (da_cons (d_bin o_add (d_var 8) (d_ix (d_lst (da_cons (d_var 9) (da_cons (d_neg (d_var 9)) da_nil))) (d_bin o_sub (d_var 0) d_int))) (da_cons (d_bin o_mul (d_ix (d_var 6) d_int) (d_ix (d_var 7) d_int)) da_nil)))))))))))) vc__law_due
end
/-! _law_alike -/
abbrev s__law_alike : Stmt := topS 42
abbrev N__law_alike : List Str := ["_law_found", "_law_due_here"]
theorem sc__law_alike : FnScope N__law_alike ["_law_found", "_law_due_here"] (defScope s__law_alike) := ⟨rfl, rfl, rfl, by decide +kernel, rfl, by decide +kernel, by decide +kernel⟩
def rd__law_alike : DS := (tRetD (tAnV (tBin (gEqv id) (tVarD 0) (tVarD 1)) (tBin (gEqv id) (tCallD cRepr (tConsD (tVarD 0) tNilD)) (tCallD cRepr (tConsD (tVarD 1) tNilD)))))
def sp__law_alike : DSp := fun us P => ∃ x, us = [.d x, .d x] ∧ selfEq x ∧ Sh x ∧ P (.d (.bool true))
theorem vc__law_alike : ∀ dvs Q, sp__law_alike dvs Q → dvs.length = 2 ∧ rd__law_alike { nx := fun _ => Q (.d .none), rt := Q } (startD N__law_alike dvs) := by
  rintro dvs Q ⟨x, rfl, hs, sh, h⟩
  refine ⟨rfl, ?_⟩
  have e : ∀ P : DV → Prop, P (.d (.bool true)) → gEqv id x x P := fun P q => gEqv_self hs q
  unfold rd__law_alike
  generalize hg : gEqv id = g at *
  walk_at "dl"
  refine e _ ?_
  walk_at "dl"
  refine ⟨sh, sh, ?_⟩
  subst hg
  walk_at "dl"
  exact h
section
variable {ts : List Addr} {P : Program} {w : World} {K : PySem.W.Frag} {mg : Str → Option Value} {base : Heap}
theorem ok__law_alike {f : Addr} {fd : FuncData} (Fn : L2.Fun K "_law_alike" "_law_alike" s__law_alike f fd) (z_repr : mg "repr" = none) : Fg P w K mg base (L2.CX P w) 1 f (Pm K ts sp__law_alike) := d_def Fn sc__law_alike (fun _ _ _ _ _ _ us hl => match us, hl with | [_, _], _ => rfl) sp__law_alike rd__law_alike (fun cdv A outer s H E wn hcd ht ag hr => by
  have S := sc__law_alike
  have hu := hr.units
  exact (dss_one (ds_ret (d_and (d_cmp (o_eq hu) (d_var 0) (d_var 1)) (d_one (d_cmp (o_eq hu) (d_callB (k_repr ag hu) (by rfl) z_repr (by decide +kernel) (da_cons (d_var 0) da_nil)) (d_callB (k_repr ag hu) (by rfl) z_repr (by decide +kernel) (da_cons (d_var 1) da_nil)))))))) vc__law_alike
end
/-! require -/
abbrev s_require : Stmt := topS 16
abbrev N_require : List Str := ["as_told", "at", "good"]
theorem sc_require : FnScope N_require ["as_told"] (defScope s_require) := ⟨rfl, rfl, rfl, by decide +kernel, rfl, by decide +kernel, by decide +kernel⟩
def rd_require (R : List Sl → XD) : DS := (tForD (gtD 2 (gconsD (gnD 1) (gconsD (gnD 2) gnilD))) (itEnumT (tConsD (tVarD 0) tNilD)) (tIfD (tNotD (tTru (tVarD 2))) (tRaiseX R "Wrong" "at" (tVarD 1)) (fun d env => d.nx env)))
def sp_require : DSpX := fun us P R => ∃ bs : List Bool, us = bs.map (fun b => .d (.bool b)) ∧ bs.length ≤ 1000 ∧ (match fstF 0 bs with | none => P (.d .none) | some i => R "Wrong" "at" (.int (i : Nat)))
theorem vc_require : ∀ dvs Q R, sp_require dvs Q R → allD dvs fun xs => xs.length ≤ 100000 ∧ rd_require (fun _ => R) { nx := fun _ => Q (.d .none), rt := Q } (startD N_require [.d (.tuple xs)]) := by
  rintro dvs Q R ⟨bs, rfl, hl, h⟩
  refine allD_bools bs ⟨by rw [List.length_map]; omega, ?_⟩
  unfold rd_require
  walk_at "dl"
  rw [enumF_eq]
  refine forD_ind (fun zs env => ∃ s1 s2 k cs, env = [.d (.tuple (bs.map .bool)), s1, s2] ∧ zs = enumF k cs ∧ fstF k cs = fstF 0 bs) (fun env hI => ?_) (fun x zs env R2 hI hR => ?_) _ _ ⟨_, _, 0, bs, rfl, rfl, rfl⟩
  · obtain ⟨s1, s2, k, cs, rfl, e, e2⟩ := hI
    cases cs with
    | cons c cs => cases e
    | nil =>
      rw [← e2] at h
      exact h
  · obtain ⟨s1, s2, k, cs, rfl, e, e2⟩ := hI
    cases cs with
    | nil => cases e
    | cons c cs =>
      cases e
      walk_at "dl"
      cases c with
      | true =>
        exact hR _ ⟨_, _, k + 1, cs, rfl, rfl, e2⟩
      | false =>
        rw [← e2] at h
        exact h
section
variable {ts : List Addr} {P : Program} {w : World} {K : PySem.W.Frag} {mg : Str → Option Value} {base : Heap}
theorem ok_require {f : Addr} {fd : FuncData} (Fn : L2.Fun K "require" "require" s_require f fd) (z_enumerate : mg "enumerate" = none) {C_Wrong fI_Wrong : Addr} {fd_Wrong : FuncData} (T_Wrong : OexC K C_Wrong) (ic_Wrong : PySem.W.findIn K (.ref C_Wrong) "__init__" = some (some (.ref fI_Wrong))) (ti_Wrong : PySem.W.typeIn K (.ref fI_Wrong) = some (.type "function")) (i1_Wrong : FnOk P w K mg base (L2.CX P w) 1 fI_Wrong fd_Wrong ["self", "at"] (spIni C_Wrong "at")) (hb_Wrong : Binds K fd_Wrong ["self", "at"] []) (m_Wrong : mg "Wrong" = some (.ref C_Wrong)) : Fg P w K mg base (L2.CX P w) 3 f (PmX mg K ts sp_require) := d_starX Fn sc_require (fun _ _ _ _ _ _ us => by cases us <;> rfl) sp_require (fun R => rd_require fun _ => R) (fun cdv A outer s H E R wn hcd ht hE ag hr tk => by
  have S := sc_require
  have hu := hr.units
  have hE := XEnd.at hE
  exact (dss_one (ds_for (passes_of rfl) rfl (di_enumT (by rfl) z_enumerate (da_cons (d_var 0) da_nil)) (dg_tup rfl (dgs_cons (dg_name (i := 1) S.nd rfl (by first | exact Or.inl rfl | exact Or.inr rfl)) (dgs_cons (dg_name (i := 2) S.nd rfl (by first | exact Or.inl rfl | exact Or.inr rfl)) dgs_nil))) (dss_one (ds_if (dt_not (dt_e (d_var 2))) (dss_one (ds_raise1 (E := fun _ => E) rfl tk T_Wrong ic_Wrong ti_Wrong i1_Wrong (hr.mono (by decide)) hb_Wrong (by rfl) m_Wrong (d_var 1) hE passZ)) dss_nil))))) vc_require
end
/-! is_whole -/
abbrev s_is_whole : Stmt := topS 18
abbrev N_is_whole : List Str := ["thing"]
theorem sc_is_whole : FnScope N_is_whole ["thing"] (defScope s_is_whole) := ⟨rfl, rfl, rfl, by decide +kernel, rfl, by decide +kernel, by decide +kernel⟩
def rd_is_whole : DS := (tRetD (tAnV (tCallD (cIsi "int") (tConsD (tVarD 0) (tConsD (tRaw (.ty "int")) tNilD))) (tNoV (tCallD (cIsi "bool") (tConsD (tVarD 0) (tConsD (tRaw (.ty "bool")) tNilD))))))
def sp_is_whole : DSp := fun us P => ∃ x, us = [.d x] ∧ P (.d (.bool (isWh x)))
theorem vc_is_whole : ∀ dvs Q, sp_is_whole dvs Q → dvs.length = 1 ∧ rd_is_whole { nx := fun _ => Q (.d .none), rt := Q } (startD N_is_whole dvs) := by
  rintro dvs Q ⟨x, rfl, h⟩
  refine ⟨rfl, ?_⟩
  unfold rd_is_whole
  cases x <;> (walk_at "dl"; exact h)
section
variable {ts : List Addr} {P : Program} {w : World} {K : PySem.W.Frag} {mg : Str → Option Value} {base : Heap}
theorem ok_is_whole {f : Addr} {fd : FuncData} (Fn : L2.Fun K "is_whole" "is_whole" s_is_whole f fd) (z_isinstance : mg "isinstance" = none) (z_int : mg "int" = none) (z_bool : mg "bool" = none) : Fg P w K mg base (L2.CX P w) 1 f (Pm K ts sp_is_whole) := d_def Fn sc_is_whole (fun _ _ _ _ _ _ us hl => match us, hl with | [_], _ => rfl) sp_is_whole rd_is_whole (fun cdv A outer s H E wn hcd ht ag hr => by
  have S := sc_is_whole
  have hu := hr.units
  exact (dss_one (ds_ret (d_and (d_callB (k_isi (n := "int") (by simp)) (by rfl) z_isinstance (by decide +kernel) (da_cons (d_var 0) (da_cons (d_ty (by rfl) z_int (by decide +kernel)) da_nil))) (d_one (d_not (d_callB (k_isi (n := "bool") (by simp)) (by rfl) z_isinstance (by decide +kernel) (da_cons (d_var 0) (da_cons (d_ty (by rfl) z_bool (by decide +kernel)) da_nil))))))))) vc_is_whole
end
/-! in_lowest_terms -/
abbrev s_in_lowest_terms : Stmt := topS 32
abbrev N_in_lowest_terms : List Str := ["top", "bottom", "common"]
theorem sc_in_lowest_terms : FnScope N_in_lowest_terms ["top", "bottom"] (defScope s_in_lowest_terms) := ⟨rfl, rfl, rfl, by decide +kernel, rfl, by decide +kernel, by decide +kernel⟩
def rd_in_lowest_terms : DS := (tSeqD (tSetD 2 (tCallD cGcd (tConsD (tVarD 0) (tConsD (tVarD 1) tNilD))))
    (tSeqD (tIfD (tTst (tBin gLt (tVarD 1) (tCD (.int 0)))) (tSetD 2 (tUnD gNeg (tVarD 2))) (fun d env => d.nx env))
    (tRetD (tTupD (tConsD (tBin gFdiv (tVarD 0) (tVarD 2)) (tConsD (tBin gFdiv (tVarD 1) (tVarD 2)) tNilD))))))
def sp_in_lowest_terms : DSp := fun us P => ∃ t b : Int, us = [.d (.int t), .d (.int b)] ∧ b ≠ 0 ∧ b.natAbs.log2 < 9000 ∧ P (.d (.tuple [.int (loT t b), .int (loB t b)]))
theorem vc_in_lowest_terms : ∀ dvs Q, sp_in_lowest_terms dvs Q → dvs.length = 2 ∧ rd_in_lowest_terms { nx := fun _ => Q (.d .none), rt := Q } (startD N_in_lowest_terms dvs) := by
  rintro dvs Q ⟨t, b, rfl, hb, hs, h⟩
  refine ⟨rfl, ?_⟩
  have hp : 0 < Int.gcd t b := gcd_pos hb
  have hl : (Int.gcd t b).log2 < 9000 := log_lt (by decide) (Nat.lt_of_le_of_lt (gcd_le hb) (lt_two hs))
  have d1 : ((Int.gcd t b : Nat) : Int) ∣ t := Int.gcd_dvd_left _ _
  have d2 : ((Int.gcd t b : Nat) : Int) ∣ b := Int.gcd_dvd_right _ _
  have eg : t.natAbs.gcd b.natAbs = Int.gcd t b := rfl
  unfold rd_in_lowest_terms
  by_cases hn : b < 0
  · walk_at "dl"
    simp only [eg, hn, decide_true, if_true]
    refine ⟨by omega, by rw [Int.natAbs_neg, Int.natAbs_natCast]; exact hl, by omega, by rw [Int.natAbs_neg, Int.natAbs_natCast]; exact hl, by decide, ?_⟩
    rw [Int.fdiv_eq_ediv_of_dvd (Int.neg_dvd.mpr d1), Int.fdiv_eq_ediv_of_dvd (Int.neg_dvd.mpr d2), Int.ediv_neg, Int.ediv_neg]
    rw [loT, loB, if_pos hn, if_pos hn] at h
    exact h
  · walk_at "dl"
    simp only [eg, hn, decide_false, Bool.false_eq_true, if_false]
    refine ⟨by omega, by rw [Int.natAbs_natCast]; exact hl, by omega, by rw [Int.natAbs_natCast]; exact hl, by decide, ?_⟩
    rw [Int.fdiv_eq_ediv_of_dvd d1, Int.fdiv_eq_ediv_of_dvd d2]
    rw [loT, loB, if_neg hn, if_neg hn] at h
    exact h
section
variable {ts : List Addr} {P : Program} {w : World} {K : PySem.W.Frag} {mg : Str → Option Value} {base : Heap}
theorem ok_in_lowest_terms {f : Addr} {fd : FuncData} (Fn : L2.Fun K "in_lowest_terms" "in_lowest_terms" s_in_lowest_terms f fd) (i_gcd : mg "gcd" = some (.builtin "math.gcd")) : Fg P w K mg base (L2.CX P w) 1 f (Pm K ts sp_in_lowest_terms) := d_def Fn sc_in_lowest_terms (fun _ _ _ _ _ _ us hl => match us, hl with | [_, _], _ => rfl) sp_in_lowest_terms rd_in_lowest_terms (fun cdv A outer s H E wn hcd ht ag hr => by
  have S := sc_in_lowest_terms
  have hu := hr.units
  exact (dss_cons (ds_set (i := 2) S.nd rfl (by first | exact Or.inl rfl | exact Or.inr rfl) (d_callM k_gcd (by rfl) i_gcd (da_cons (d_var 0) (da_cons (d_var 1) da_nil))))
    (dss_cons (ds_if (dt_cmp o_lt (d_var 1) d_int) (dss_one (ds_set (i := 2) S.nd rfl (by first | exact Or.inl rfl | exact Or.inr rfl) (d_neg (d_var 2)))) dss_nil)
    (dss_one (ds_ret (d_tup (da_cons (d_bin o_fdiv (d_var 0) (d_var 2)) (da_cons (d_bin o_fdiv (d_var 1) (d_var 2)) da_nil)))))))) vc_in_lowest_terms
end
/-! fraction -/
abbrev s_fraction : Stmt := topS 23
abbrev N_fraction : List Str := ["top", "bottom"]
theorem sc_fraction : FnScope N_fraction ["top", "bottom"] (defScope s_fraction) := ⟨rfl, rfl, rfl, by decide +kernel, rfl, by decide +kernel, by decide +kernel⟩
def rd_fraction (R : List Sl → XD) : DS := (tSeqD (tDropD (tUseX sp_require R (tConsD (tUse sp_is_whole (tConsD (tVarD 0) tNilD)) (tConsD (tAnV (tUse sp_is_whole (tConsD (tVarD 1) tNilD)) (tBin (gEqv not) (tVarD 1) (tCD (.int 0)))) tNilD))))
    (tRetD (tUse sp_in_lowest_terms (tConsD (tVarD 0) (tConsD (tVarD 1) tNilD)))))
def sp_fraction : DSpX := fun us P R => ∃ x y, us = [.d x, .d y] ∧ (isWh x = false → R "Wrong" "at" (.int 0)) ∧ (isWh x = true → (isWh y = false ∨ y = .int 0) → R "Wrong" "at" (.int 1)) ∧ (∀ t b : Int, x = .int t → y = .int b → b ≠ 0 → b.natAbs.log2 < 9000 ∧ P (.d (fr t b)))
theorem vc_fraction : ∀ dvs Q R, sp_fraction dvs Q R → dvs.length = 2 ∧ rd_fraction (fun _ => R) { nx := fun _ => Q (.d .none), rt := Q } (startD N_fraction dvs) := by
  rintro dvs Q R ⟨x, y, rfl, h0, h1, h2⟩
  refine ⟨rfl, ?_⟩
  unfold rd_fraction
  walk_at "dl"
  refine ⟨_, rfl, _, rfl, ?_⟩
  by_cases wx : isWh x = true
  · rw [wx]
    by_cases wy : isWh y = true
    · rw [wy]
      simp only [if_true]
      cases y with
      | int b =>
        by_cases hb : b = 0
        · subst hb
          walk_at "dl"
          exact ⟨[true, false], rfl, by decide, h1 wx (.inr rfl)⟩
        · walk_at "dl"
          refine ⟨[true, !decide (b = 0)], rfl, by simp, ?_⟩
          rw [decide_eq_false hb]
          cases x with
          | int t =>
            obtain ⟨l, p⟩ := h2 t b rfl rfl hb
            exact ⟨t, b, rfl, hb, l, p⟩
          | _ => cases wx
      | _ => cases wy
    · rw [Bool.not_eq_true] at wy
      rw [wy]
      walk_at "dl"
      exact ⟨[true, false], rfl, by decide, h1 wx (.inl wy)⟩
  · rw [Bool.not_eq_true] at wx
    rw [wx]
    by_cases wy : isWh y = true
    · rw [wy]
      simp only [if_true]
      cases y with
      | int b =>
        walk_at "dl"
        exact ⟨[false, !decide (b = 0)], rfl, by simp, h0 wx⟩
      | _ => cases wy
    · rw [Bool.not_eq_true] at wy
      rw [wy]
      walk_at "dl"
      exact ⟨[false, false], rfl, by decide, h0 wx⟩
section
variable {ts : List Addr} {P : Program} {w : World} {K : PySem.W.Frag} {mg : Str → Option Value} {base : Heap}
theorem ok_fraction {f : Addr} {fd : FuncData} (Fn : L2.Fun K "fraction" "fraction" s_fraction f fd) {f_require : Addr} (g_require : Fg P w K mg base (L2.CX P w) 3 f_require (PmX mg K ts sp_require)) (m_require : mg "require" = some (.ref f_require)) (p_require : PySem.W.keepIn K (.ref f_require) = true) {f_is_whole : Addr} (g_is_whole : Fg P w K mg base (L2.CX P w) 1 f_is_whole (Pm K ts sp_is_whole)) (m_is_whole : mg "is_whole" = some (.ref f_is_whole)) (p_is_whole : PySem.W.keepIn K (.ref f_is_whole) = true) {f_in_lowest_terms : Addr} (g_in_lowest_terms : Fg P w K mg base (L2.CX P w) 1 f_in_lowest_terms (Pm K ts sp_in_lowest_terms)) (m_in_lowest_terms : mg "in_lowest_terms" = some (.ref f_in_lowest_terms)) (p_in_lowest_terms : PySem.W.keepIn K (.ref f_in_lowest_terms) = true) : Fg P w K mg base (L2.CX P w) 4 f (PmX mg K ts sp_fraction) := d_defX Fn sc_fraction (fun _ _ _ _ _ _ us hl => match us, hl with | [_, _], _ => rfl) sp_fraction (fun R => rd_fraction fun _ => R) (fun cdv A outer s H E R wn hcd ht hE ag hr tk => by
  have S := sc_fraction
  have hu := hr.units
  have hE := XEnd.at hE
  exact (dss_cons (ds_expr (d_useX g_require ht ag (hr.mono (by decide)) (fun σ => passAt tk σ) hE (by rfl) m_require p_require (da_cons (d_use g_is_whole ht ag (hr.mono (by decide)) passZ (by rfl) m_is_whole p_is_whole (da_cons (d_var 0) da_nil)) (da_cons (d_and (d_use g_is_whole ht ag (hr.mono (by decide)) passZ (by rfl) m_is_whole p_is_whole (da_cons (d_var 1) da_nil)) (d_one (d_cmp (o_ne hu) (d_var 1) d_int))) da_nil))))
    (dss_one (ds_ret (d_use g_in_lowest_terms ht ag (hr.mono (by decide)) passZ (by rfl) m_in_lowest_terms p_in_lowest_terms (da_cons (d_var 0) (da_cons (d_var 1) da_nil))))))) vc_fraction
end
/-! is_fraction -/
abbrev s_is_fraction : Stmt := topS 22
abbrev N_is_fraction : List Str := ["thing", "top", "bottom"]
theorem sc_is_fraction : FnScope N_is_fraction ["thing"] (defScope s_is_fraction) := ⟨rfl, rfl, rfl, by decide +kernel, rfl, by decide +kernel, by decide +kernel⟩
def rd_is_fraction : DS := (tSeqD (tIfD (tOrD (tNotD (tTru (tCallD (cIsi "tuple") (tConsD (tVarD 0) (tConsD (tRaw (.ty "tuple")) tNilD))))) (tTst (tBin (gEqv not) (tCallD cLen (tConsD (tVarD 0) tNilD)) (tCD (.int 2))))) (tRetD (tCD (.bool false))) (fun d env => d.nx env))
    (tSeqD (tAsgD (tVarD 0) (gtD 2 (gconsD (gnD 1) (gconsD (gnD 2) gnilD))))
    (tSeqD (tIfD (tOrD (tNotD (tTru (tUse sp_is_whole (tConsD (tVarD 1) tNilD)))) (tOrD (tNotD (tTru (tUse sp_is_whole (tConsD (tVarD 2) tNilD)))) (tTst (tBin gLt (tVarD 2) (tCD (.int 1)))))) (tRetD (tCD (.bool false))) (fun d env => d.nx env))
    (tRetD (tBin (gEqv id) (tCallD cGcd (tConsD (tVarD 1) (tConsD (tVarD 2) tNilD))) (tCD (.int 1)))))))
def sp_is_fraction : DSp := fun us P => ∃ x, us = [.d x] ∧ P (.d (.bool (isFr x)))
theorem vc_is_fraction : ∀ dvs Q, sp_is_fraction dvs Q → dvs.length = 1 ∧ rd_is_fraction { nx := fun _ => Q (.d .none), rt := Q } (startD N_is_fraction dvs) := by
  rintro dvs Q ⟨x, rfl, h⟩
  refine ⟨rfl, ?_⟩
  unfold rd_is_fraction
  have no : isFr x = false → Q (.d (.bool false)) := fun e => by rw [e] at h; exact h
  cases x with
  | tuple xs =>
    match xs, h, no with
    | [], _, no => walk_at "dl"; exact no rfl
    | [a], _, no => walk_at "dl"; cases a <;> exact no rfl
    | a :: b :: c :: r, _, no =>
      walk_at "dl"
      have e : ¬ (((r.length + 1 + 1 + 1 : Nat) : Int) = 2) := by omega
      simp only [e, decide_false, Bool.not_false, if_true]
      cases a <;> cases b <;> exact no rfl
    | [a, b], h, no =>
      walk_at "dl"
      simp only [Int.cast_ofNat_Int, decide_true, Bool.not_true, Bool.false_eq_true, if_false]
      refine ⟨_, rfl, ?_⟩
      walk_at "dl"
      cases a with
      | int p =>
        rw [show isWh (.int p) = true from rfl]
        simp only [Bool.not_true, Bool.false_eq_true, if_false]
        refine ⟨_, rfl, ?_⟩
        walk_at "dl"
        cases b with
        | int q =>
          rw [show isWh (.int q) = true from rfl]
          simp only [Bool.not_true, Bool.false_eq_true, if_false]
          have eg : p.natAbs.gcd q.natAbs = Int.gcd p q := rfl
          walk_at "dl"
          by_cases hq : q < 1
          · simp only [hq, decide_true, if_true]
            exact no (by simp [isFr]; omega)
          · simp only [hq, decide_false, Bool.false_eq_true, if_false, eg]
            have e1 : isFr (.tuple [.int p, .int q]) = decide (((Int.gcd p q : Nat) : Int) = 1) := by
              simp only [isFr, show 0 < q by omega, decide_true, Bool.true_and]
              exact decide_eq_decide.mpr (by omega)
            rw [e1] at h
            exact h
        | _ => simp only [isWh, Bool.not_false, if_true]; exact no rfl
      | _ => simp only [isWh, Bool.not_false, if_true]; cases b <;> exact no rfl
  | _ => walk_at "dl"; exact no rfl
section
variable {ts : List Addr} {P : Program} {w : World} {K : PySem.W.Frag} {mg : Str → Option Value} {base : Heap}
theorem ok_is_fraction {f : Addr} {fd : FuncData} (Fn : L2.Fun K "is_fraction" "is_fraction" s_is_fraction f fd) {f_is_whole : Addr} (g_is_whole : Fg P w K mg base (L2.CX P w) 1 f_is_whole (Pm K ts sp_is_whole)) (m_is_whole : mg "is_whole" = some (.ref f_is_whole)) (p_is_whole : PySem.W.keepIn K (.ref f_is_whole) = true) (z_isinstance : mg "isinstance" = none) (z_tuple : mg "tuple" = none) (z_len : mg "len" = none) (i_gcd : mg "gcd" = some (.builtin "math.gcd")) : Fg P w K mg base (L2.CX P w) 2 f (Pm K ts sp_is_fraction) := d_def Fn sc_is_fraction (fun _ _ _ _ _ _ us hl => match us, hl with | [_], _ => rfl) sp_is_fraction rd_is_fraction (fun cdv A outer s H E wn hcd ht ag hr => by
  have S := sc_is_fraction
  have hu := hr.units
  exact (dss_cons (ds_if (dt_w (dw_or (dt_not (dt_e (d_callB (k_isi (n := "tuple") (by simp)) (by rfl) z_isinstance (by decide +kernel) (da_cons (d_var 0) (da_cons (d_ty (by rfl) z_tuple (by decide +kernel)) da_nil))))) (dw_or1 (dt_cmp (o_ne hu) (d_callB k_len (by rfl) z_len (by decide +kernel) (da_cons (d_var 0) da_nil)) d_int)))) (dss_one (ds_ret d_bl)) dss_nil)
    (dss_cons (ds_asg (d_var 0) (dg_tup rfl (dgs_cons (dg_name (i := 1) S.nd rfl (by first | exact Or.inl rfl | exact Or.inr rfl)) (dgs_cons (dg_name (i := 2) S.nd rfl (by first | exact Or.inl rfl | exact Or.inr rfl)) dgs_nil))))
    (dss_cons (ds_if (dt_w (dw_or (dt_not (dt_e (d_use g_is_whole ht ag (hr.mono (by decide)) passZ (by rfl) m_is_whole p_is_whole (da_cons (d_var 1) da_nil)))) (dw_or (dt_not (dt_e (d_use g_is_whole ht ag (hr.mono (by decide)) passZ (by rfl) m_is_whole p_is_whole (da_cons (d_var 2) da_nil)))) (dw_or1 (dt_cmp o_lt (d_var 2) d_int))))) (dss_one (ds_ret d_bl)) dss_nil)
    (dss_one (ds_ret (d_cmp (o_eq hu) (d_callM k_gcd (by rfl) i_gcd (da_cons (d_var 1) (da_cons (d_var 2) da_nil))) d_int))))))) vc_is_fraction
end
/-! added -/
abbrev s_added : Stmt := topS 33
abbrev N_added : List Str := ["one", "other", "common", "part", "top", "rest"]
theorem sc_added : FnScope N_added ["one", "other"] (defScope s_added) := ⟨rfl, rfl, rfl, by decide +kernel, rfl, by decide +kernel, by decide +kernel⟩
def rd_added : DS := (tSeqD (tSetD 2 (tCallD cGcd (tConsD (tBin gIx (tVarD 0) (tCD (.int 1))) (tConsD (tBin gIx (tVarD 1) (tCD (.int 1))) tNilD))))
    (tSeqD (tSetD 3 (tBin gFdiv (tBin gIx (tVarD 0) (tCD (.int 1))) (tVarD 2)))
    (tSeqD (tSetD 4 (tBin gAdd (tBin gMul (tBin gIx (tVarD 0) (tCD (.int 0))) (tBin gFdiv (tBin gIx (tVarD 1) (tCD (.int 1))) (tVarD 2))) (tBin gMul (tBin gIx (tVarD 1) (tCD (.int 0))) (tVarD 3))))
    (tSeqD (tSetD 5 (tCallD cGcd (tConsD (tVarD 4) (tConsD (tVarD 2) tNilD))))
    (tRetD (tTupD (tConsD (tBin gFdiv (tVarD 4) (tVarD 5)) (tConsD (tBin gMul (tVarD 3) (tBin gFdiv (tBin gIx (tVarD 1) (tCD (.int 1))) (tVarD 5))) tNilD))))))))
def sp_added : DSp := fun us P => ∃ p q u v : Int, us = [.d (.tuple [.int p, .int q]), .d (.tuple [.int u, .int v])] ∧ Frac p q ∧ Frac u v ∧ p.natAbs < 2 ^ 8000 ∧ q.natAbs < 2 ^ 8000 ∧ u.natAbs < 2 ^ 8000 ∧ v.natAbs < 2 ^ 8000 ∧
  ∀ s r, Frac s r → (p * v + u * q) * r = (q * v) * s → P (.d (.tuple [.int s, .int r]))
theorem vc_added : ∀ dvs Q, sp_added dvs Q → dvs.length = 2 ∧ rd_added { nx := fun _ => Q (.d .none), rt := Q } (startD N_added dvs) := by
  rintro dvs Q ⟨p, q, u, v, rfl, f, g, sp, sq, su, sv, h⟩
  refine ⟨rfl, ?_⟩
  obtain ⟨c, hc⟩ : ∃ c : Int, c = Int.gcd q v := ⟨_, rfl⟩
  obtain ⟨part, hpart⟩ : ∃ part, part = q / c := ⟨_, rfl⟩
  obtain ⟨top, htop⟩ : ∃ top, top = p * (v / c) + u * part := ⟨_, rfl⟩
  obtain ⟨rest, hrest⟩ : ∃ rest : Int, rest = Int.gcd top c := ⟨_, rfl⟩
  obtain ⟨c0, cq, dq, dv, r0, rc, dt, dr, ff, hx⟩ := sum_ok f g hc hpart htop hrest
  have hv := g.pos
  have hq := f.pos
  have lc : c.natAbs.log2 < 9000 := log_le (Nat.lt_of_le_of_lt cq sq) (by decide) (by decide)
  have lr : rest.natAbs.log2 < 9000 := log_le (Nat.lt_of_le_of_lt (Nat.le_trans rc cq) sq) (by decide) (by decide)
  have bpart : part.natAbs < 2 ^ 8000 := by rw [hpart, Int.natAbs_ediv_of_dvd dq]; exact Nat.lt_of_le_of_lt (Nat.div_le_self _ _) sq
  have bvc : (v / c).natAbs < 2 ^ 8000 := by rw [Int.natAbs_ediv_of_dvd dv]; exact Nat.lt_of_le_of_lt (Nat.div_le_self _ _) sv
  have bvr : (v / rest).natAbs < 2 ^ 8000 := by rw [Int.natAbs_ediv_of_dvd dr]; exact Nat.lt_of_le_of_lt (Nat.div_le_self _ _) sv
  have eg : (((q.natAbs.gcd v.natAbs : Nat)) : Int) = c := hc.symm
  unfold rd_added
  walk_at "dl"
  simp only [eg, Int.fdiv_eq_ediv_of_dvd dq, Int.fdiv_eq_ediv_of_dvd dv, ← hpart, ← htop]
  have eg2 : (((top.natAbs.gcd c.natAbs : Nat)) : Int) = rest := hrest.symm
  simp only [eg2, Int.fdiv_eq_ediv_of_dvd dt, Int.fdiv_eq_ediv_of_dvd dr]
  refine ⟨Int.ne_of_gt c0, lc, Int.ne_of_gt c0, lc, mul_log sp bvc (by decide) (by decide) (by decide), mul_log su bpart (by decide) (by decide) (by decide), Int.ne_of_gt r0, lr, Int.ne_of_gt r0, lr, mul_log bpart bvr (by decide) (by decide) (by decide), by decide, ?_⟩
  exact h _ _ ff hx
section
variable {ts : List Addr} {P : Program} {w : World} {K : PySem.W.Frag} {mg : Str → Option Value} {base : Heap}
theorem ok_added {f : Addr} {fd : FuncData} (Fn : L2.Fun K "added" "added" s_added f fd) (i_gcd : mg "gcd" = some (.builtin "math.gcd")) : Fg P w K mg base (L2.CX P w) 1 f (Pm K ts sp_added) := d_def Fn sc_added (fun _ _ _ _ _ _ us hl => match us, hl with | [_, _], _ => rfl) sp_added rd_added (fun cdv A outer s H E wn hcd ht ag hr => by
  have S := sc_added
  have hu := hr.units
  exact (dss_cons (ds_set (i := 2) S.nd rfl (by first | exact Or.inl rfl | exact Or.inr rfl) (d_callM k_gcd (by rfl) i_gcd (da_cons (d_ix (d_var 0) d_int) (da_cons (d_ix (d_var 1) d_int) da_nil))))
    (dss_cons (ds_set (i := 3) S.nd rfl (by first | exact Or.inl rfl | exact Or.inr rfl) (d_bin o_fdiv (d_ix (d_var 0) d_int) (d_var 2)))
    (dss_cons (ds_set (i := 4) S.nd rfl (by first | exact Or.inl rfl | exact Or.inr rfl) (d_bin o_add (d_bin o_mul (d_ix (d_var 0) d_int) (d_bin o_fdiv (d_ix (d_var 1) d_int) (d_var 2))) (d_bin o_mul (d_ix (d_var 1) d_int) (d_var 3))))
    (dss_cons (ds_set (i := 5) S.nd rfl (by first | exact Or.inl rfl | exact Or.inr rfl) (d_callM k_gcd (by rfl) i_gcd (da_cons (d_var 4) (da_cons (d_var 2) da_nil))))
    (dss_one (ds_ret (d_tup (da_cons (d_bin o_fdiv (d_var 4) (d_var 5)) (da_cons (d_bin o_mul (d_var 3) (d_bin o_fdiv (d_ix (d_var 1) d_int) (d_var 5))) da_nil)))))))))) vc_added
end
/-! plus -/
abbrev s_plus : Stmt := topS 24
abbrev N_plus : List Str := ["one", "other"]
theorem sc_plus : FnScope N_plus ["one", "other"] (defScope s_plus) := ⟨rfl, rfl, rfl, by decide +kernel, rfl, by decide +kernel, by decide +kernel⟩
def rd_plus (R : List Sl → XD) : DS := (tSeqD (tDropD (tUseX sp_require R (tConsD (tUse sp_is_fraction (tConsD (tVarD 0) tNilD)) (tConsD (tUse sp_is_fraction (tConsD (tVarD 1) tNilD)) tNilD))))
    (tRetD (tUse sp_added (tConsD (tVarD 0) (tConsD (tVarD 1) tNilD)))))
def sp_plus : DSpX := fun us P R => ∃ x y, us = [.d x, .d y] ∧ (isFr x = false → R "Wrong" "at" (.int 0)) ∧ (isFr x = true → isFr y = false → R "Wrong" "at" (.int 1)) ∧ (isFr x = true → isFr y = true → FrG x ∧ FrG y) ∧ ∀ p q u v : Int, x = .tuple [.int p, .int q] → y = .tuple [.int u, .int v] → isFr x = true → isFr y = true → P (.d (fr (p * v + u * q) (q * v)))
theorem two_req {a b : Bool} {P : DV → Prop} {R : XD} (h0 : a = false → R "Wrong" "at" (.int 0)) (h1 : a = true → b = false → R "Wrong" "at" (.int 1)) (h2 : a = true → b = true → P (.d .none)) : sp_require [.d (.bool a), .d (.bool b)] P R := by
  refine ⟨[a, b], rfl, by simp, ?_⟩
  cases a with
  | false => exact h0 rfl
  | true =>
    cases b with
    | false => exact h1 rfl rfl
    | true => exact h2 rfl rfl
theorem vc_plus : ∀ dvs Q R, sp_plus dvs Q R → dvs.length = 2 ∧ rd_plus (fun _ => R) { nx := fun _ => Q (.d .none), rt := Q } (startD N_plus dvs) := by
  rintro dvs Q R ⟨x, y, rfl, h0, h1, h2, h3⟩
  refine ⟨rfl, ?_⟩
  unfold rd_plus
  walk_at "dl"
  refine ⟨_, rfl, _, rfl, ?_⟩
  walk_at "dl"
  refine two_req h0 h1 fun a b => ?_
  obtain ⟨⟨p, q, rfl, f⟩, ⟨u, v, rfl, g⟩⟩ := h2 a b
  refine ⟨p, q, u, v, rfl, f.f, g.f, two_le f.t (by decide), two_le f.b (by decide), two_le g.t (by decide), two_le g.b (by decide), fun s r k e => ?_⟩
  rw [fr_eq (mul_ne f.pos g.pos) k e]
  exact h3 _ _ _ _ rfl rfl a b
section
variable {ts : List Addr} {P : Program} {w : World} {K : PySem.W.Frag} {mg : Str → Option Value} {base : Heap}
theorem ok_plus {f : Addr} {fd : FuncData} (Fn : L2.Fun K "plus" "plus" s_plus f fd) {f_require : Addr} (g_require : Fg P w K mg base (L2.CX P w) 3 f_require (PmX mg K ts sp_require)) (m_require : mg "require" = some (.ref f_require)) (p_require : PySem.W.keepIn K (.ref f_require) = true) {f_is_fraction : Addr} (g_is_fraction : Fg P w K mg base (L2.CX P w) 2 f_is_fraction (Pm K ts sp_is_fraction)) (m_is_fraction : mg "is_fraction" = some (.ref f_is_fraction)) (p_is_fraction : PySem.W.keepIn K (.ref f_is_fraction) = true) {f_added : Addr} (g_added : Fg P w K mg base (L2.CX P w) 1 f_added (Pm K ts sp_added)) (m_added : mg "added" = some (.ref f_added)) (p_added : PySem.W.keepIn K (.ref f_added) = true) : Fg P w K mg base (L2.CX P w) 4 f (PmX mg K ts sp_plus) := d_defX Fn sc_plus (fun _ _ _ _ _ _ us hl => match us, hl with | [_, _], _ => rfl) sp_plus (fun R => rd_plus fun _ => R) (fun cdv A outer s H E R wn hcd ht hE ag hr tk => by
  have S := sc_plus
  have hu := hr.units
  have hE := XEnd.at hE
  exact (dss_cons (ds_expr (d_useX g_require ht ag (hr.mono (by decide)) (fun σ => passAt tk σ) hE (by rfl) m_require p_require (da_cons (d_use g_is_fraction ht ag (hr.mono (by decide)) passZ (by rfl) m_is_fraction p_is_fraction (da_cons (d_var 0) da_nil)) (da_cons (d_use g_is_fraction ht ag (hr.mono (by decide)) passZ (by rfl) m_is_fraction p_is_fraction (da_cons (d_var 1) da_nil)) da_nil))))
    (dss_one (ds_ret (d_use g_added ht ag (hr.mono (by decide)) passZ (by rfl) m_added p_added (da_cons (d_var 0) (da_cons (d_var 1) da_nil))))))) vc_plus
end
/-! negative -/
abbrev s_negative : Stmt := topS 34
abbrev N_negative : List Str := ["one", "top", "bottom"]
theorem sc_negative : FnScope N_negative ["one"] (defScope s_negative) := ⟨rfl, rfl, rfl, by decide +kernel, rfl, by decide +kernel, by decide +kernel⟩
def rd_negative : DS := (tSeqD (tAsgD (tVarD 0) (gtD 2 (gconsD (gnD 1) (gconsD (gnD 2) gnilD))))
    (tRetD (tTupD (tConsD (tUnD gNeg (tVarD 1)) (tConsD (tVarD 2) tNilD)))))
def sp_negative : DSp := fun us P => ∃ p q : Int, us = [.d (.tuple [.int p, .int q])] ∧ P (.d (.tuple [.int (-p), .int q]))
theorem vc_negative : ∀ dvs Q, sp_negative dvs Q → dvs.length = 1 ∧ rd_negative { nx := fun _ => Q (.d .none), rt := Q } (startD N_negative dvs) := by
  rintro dvs Q ⟨p, q, rfl, h⟩
  refine ⟨rfl, ?_⟩
  unfold rd_negative
  walk_at "dl"
  exact ⟨by decide, h⟩
section
variable {ts : List Addr} {P : Program} {w : World} {K : PySem.W.Frag} {mg : Str → Option Value} {base : Heap}
theorem ok_negative {f : Addr} {fd : FuncData} (Fn : L2.Fun K "negative" "negative" s_negative f fd)  : Fg P w K mg base (L2.CX P w) 1 f (Pm K ts sp_negative) := d_def Fn sc_negative (fun _ _ _ _ _ _ us hl => match us, hl with | [_], _ => rfl) sp_negative rd_negative (fun cdv A outer s H E wn hcd ht ag hr => by
  have S := sc_negative
  have hu := hr.units
  exact (dss_cons (ds_asg (d_var 0) (dg_tup rfl (dgs_cons (dg_name (i := 1) S.nd rfl (by first | exact Or.inl rfl | exact Or.inr rfl)) (dgs_cons (dg_name (i := 2) S.nd rfl (by first | exact Or.inl rfl | exact Or.inr rfl)) dgs_nil))))
    (dss_one (ds_ret (d_tup (da_cons (d_neg (d_var 1)) (da_cons (d_var 2) da_nil))))))) vc_negative
end
/-! less -/
abbrev s_less : Stmt := topS 25
abbrev N_less : List Str := ["one", "other"]
theorem sc_less : FnScope N_less ["one", "other"] (defScope s_less) := ⟨rfl, rfl, rfl, by decide +kernel, rfl, by decide +kernel, by decide +kernel⟩
def rd_less (R : List Sl → XD) : DS := (tSeqD (tDropD (tUseX sp_require R (tConsD (tUse sp_is_fraction (tConsD (tVarD 0) tNilD)) (tConsD (tUse sp_is_fraction (tConsD (tVarD 1) tNilD)) tNilD))))
    (tRetD (tUse sp_added (tConsD (tVarD 0) (tConsD (tUse sp_negative (tConsD (tVarD 1) tNilD)) tNilD)))))
def sp_less : DSpX := fun us P R => ∃ x y, us = [.d x, .d y] ∧ (isFr x = false → R "Wrong" "at" (.int 0)) ∧ (isFr x = true → isFr y = false → R "Wrong" "at" (.int 1)) ∧ (isFr x = true → isFr y = true → FrG x ∧ FrG y) ∧ ∀ p q u v : Int, x = .tuple [.int p, .int q] → y = .tuple [.int u, .int v] → isFr x = true → isFr y = true → P (.d (fr (p * v - u * q) (q * v)))
theorem vc_less : ∀ dvs Q R, sp_less dvs Q R → dvs.length = 2 ∧ rd_less (fun _ => R) { nx := fun _ => Q (.d .none), rt := Q } (startD N_less dvs) := by
  rintro dvs Q R ⟨x, y, rfl, h0, h1, h2, h3⟩
  refine ⟨rfl, ?_⟩
  unfold rd_less
  walk_at "dl"
  refine ⟨_, rfl, _, rfl, ?_⟩
  walk_at "dl"
  refine two_req h0 h1 fun a b => ?_
  obtain ⟨⟨p, q, rfl, f⟩, ⟨u, v, rfl, g⟩⟩ := h2 a b
  refine ⟨u, v, rfl, ?_⟩
  walk_at "dl"
  refine ⟨p, q, -u, v, rfl, f.f, ⟨g.pos, by rw [Int.neg_gcd]; exact g.f.low⟩, two_le f.t (by decide), two_le f.b (by decide), by rw [Int.natAbs_neg]; exact two_le g.t (by decide), two_le g.b (by decide), fun s r k e => ?_⟩
  rw [fr_eq (mul_ne f.pos g.pos) (t := p * v - u * q) k (by rw [← e, Int.neg_mul, Int.sub_eq_add_neg])]
  exact h3 _ _ _ _ rfl rfl a b
section
variable {ts : List Addr} {P : Program} {w : World} {K : PySem.W.Frag} {mg : Str → Option Value} {base : Heap}
theorem ok_less {f : Addr} {fd : FuncData} (Fn : L2.Fun K "less" "less" s_less f fd) {f_require : Addr} (g_require : Fg P w K mg base (L2.CX P w) 3 f_require (PmX mg K ts sp_require)) (m_require : mg "require" = some (.ref f_require)) (p_require : PySem.W.keepIn K (.ref f_require) = true) {f_is_fraction : Addr} (g_is_fraction : Fg P w K mg base (L2.CX P w) 2 f_is_fraction (Pm K ts sp_is_fraction)) (m_is_fraction : mg "is_fraction" = some (.ref f_is_fraction)) (p_is_fraction : PySem.W.keepIn K (.ref f_is_fraction) = true) {f_added : Addr} (g_added : Fg P w K mg base (L2.CX P w) 1 f_added (Pm K ts sp_added)) (m_added : mg "added" = some (.ref f_added)) (p_added : PySem.W.keepIn K (.ref f_added) = true) {f_negative : Addr} (g_negative : Fg P w K mg base (L2.CX P w) 1 f_negative (Pm K ts sp_negative)) (m_negative : mg "negative" = some (.ref f_negative)) (p_negative : PySem.W.keepIn K (.ref f_negative) = true) : Fg P w K mg base (L2.CX P w) 4 f (PmX mg K ts sp_less) := d_defX Fn sc_less (fun _ _ _ _ _ _ us hl => match us, hl with | [_, _], _ => rfl) sp_less (fun R => rd_less fun _ => R) (fun cdv A outer s H E R wn hcd ht hE ag hr tk => by
  have S := sc_less
  have hu := hr.units
  have hE := XEnd.at hE
  exact (dss_cons (ds_expr (d_useX g_require ht ag (hr.mono (by decide)) (fun σ => passAt tk σ) hE (by rfl) m_require p_require (da_cons (d_use g_is_fraction ht ag (hr.mono (by decide)) passZ (by rfl) m_is_fraction p_is_fraction (da_cons (d_var 0) da_nil)) (da_cons (d_use g_is_fraction ht ag (hr.mono (by decide)) passZ (by rfl) m_is_fraction p_is_fraction (da_cons (d_var 1) da_nil)) da_nil))))
    (dss_one (ds_ret (d_use g_added ht ag (hr.mono (by decide)) passZ (by rfl) m_added p_added (da_cons (d_var 0) (da_cons (d_use g_negative ht ag (hr.mono (by decide)) passZ (by rfl) m_negative p_negative (da_cons (d_var 1) da_nil)) da_nil))))))) vc_less
end
/-! multiplied -/
abbrev s_multiplied : Stmt := topS 35
abbrev N_multiplied : List Str := ["one", "other"]
theorem sc_multiplied : FnScope N_multiplied ["one", "other"] (defScope s_multiplied) := ⟨rfl, rfl, rfl, by decide +kernel, rfl, by decide +kernel, by decide +kernel⟩
def rd_multiplied : DS := (tRetD (tUse sp_in_lowest_terms (tConsD (tBin gMul (tBin gIx (tVarD 0) (tCD (.int 0))) (tBin gIx (tVarD 1) (tCD (.int 0)))) (tConsD (tBin gMul (tBin gIx (tVarD 0) (tCD (.int 1))) (tBin gIx (tVarD 1) (tCD (.int 1)))) tNilD))))
def sp_multiplied : DSp := fun us P => ∃ p q u v : Int, us = [.d (.tuple [.int p, .int q]), .d (.tuple [.int u, .int v])] ∧ Frac p q ∧ Frac u v ∧ p.natAbs < 2 ^ 4400 ∧ q.natAbs < 2 ^ 4400 ∧ u.natAbs < 2 ^ 4400 ∧ v.natAbs < 2 ^ 4400 ∧
  ∀ s r, Frac s r → (p * u) * r = (q * v) * s → P (.d (.tuple [.int s, .int r]))
theorem vc_multiplied : ∀ dvs Q, sp_multiplied dvs Q → dvs.length = 2 ∧ rd_multiplied { nx := fun _ => Q (.d .none), rt := Q } (startD N_multiplied dvs) := by
  rintro dvs Q ⟨p, q, u, v, rfl, f, g, sp, sq, su, sv, h⟩
  refine ⟨rfl, ?_⟩
  have hq := f.pos
  have hv := g.pos
  have hb : q * v ≠ 0 := Int.mul_ne_zero (Int.ne_of_gt hq) (Int.ne_of_gt hv)
  obtain ⟨k1, k2⟩ := lo_ok (t := p * u) hb
  unfold rd_multiplied
  walk_at "dl"
  exact ⟨mul_log sp su (by decide) (by decide) (by decide), mul_log sq sv (by decide) (by decide) (by decide), p * u, q * v, rfl, hb, log_le (natAbs_mul_lt sq sv) (by decide) (by decide), h _ _ k1 k2⟩
section
variable {ts : List Addr} {P : Program} {w : World} {K : PySem.W.Frag} {mg : Str → Option Value} {base : Heap}
theorem ok_multiplied {f : Addr} {fd : FuncData} (Fn : L2.Fun K "multiplied" "multiplied" s_multiplied f fd) {f_in_lowest_terms : Addr} (g_in_lowest_terms : Fg P w K mg base (L2.CX P w) 1 f_in_lowest_terms (Pm K ts sp_in_lowest_terms)) (m_in_lowest_terms : mg "in_lowest_terms" = some (.ref f_in_lowest_terms)) (p_in_lowest_terms : PySem.W.keepIn K (.ref f_in_lowest_terms) = true) : Fg P w K mg base (L2.CX P w) 2 f (Pm K ts sp_multiplied) := d_def Fn sc_multiplied (fun _ _ _ _ _ _ us hl => match us, hl with | [_, _], _ => rfl) sp_multiplied rd_multiplied (fun cdv A outer s H E wn hcd ht ag hr => by
  have S := sc_multiplied
  have hu := hr.units
  exact (dss_one (ds_ret (d_use g_in_lowest_terms ht ag (hr.mono (by decide)) passZ (by rfl) m_in_lowest_terms p_in_lowest_terms (da_cons (d_bin o_mul (d_ix (d_var 0) d_int) (d_ix (d_var 1) d_int)) (da_cons (d_bin o_mul (d_ix (d_var 0) d_int) (d_ix (d_var 1) d_int)) da_nil)))))) vc_multiplied
end
/-! times -/
abbrev s_times : Stmt := topS 26
abbrev N_times : List Str := ["one", "other"]
theorem sc_times : FnScope N_times ["one", "other"] (defScope s_times) := ⟨rfl, rfl, rfl, by decide +kernel, rfl, by decide +kernel, by decide +kernel⟩
def rd_times (R : List Sl → XD) : DS := (tSeqD (tDropD (tUseX sp_require R (tConsD (tUse sp_is_fraction (tConsD (tVarD 0) tNilD)) (tConsD (tUse sp_is_fraction (tConsD (tVarD 1) tNilD)) tNilD))))
    (tRetD (tUse sp_multiplied (tConsD (tVarD 0) (tConsD (tVarD 1) tNilD)))))
def sp_times : DSpX := fun us P R => ∃ x y, us = [.d x, .d y] ∧ (isFr x = false → R "Wrong" "at" (.int 0)) ∧ (isFr x = true → isFr y = false → R "Wrong" "at" (.int 1)) ∧ (isFr x = true → isFr y = true → FrG x ∧ FrG y) ∧ ∀ p q u v : Int, x = .tuple [.int p, .int q] → y = .tuple [.int u, .int v] → isFr x = true → isFr y = true → P (.d (fr (p * u) (q * v)))
theorem vc_times : ∀ dvs Q R, sp_times dvs Q R → dvs.length = 2 ∧ rd_times (fun _ => R) { nx := fun _ => Q (.d .none), rt := Q } (startD N_times dvs) := by
  rintro dvs Q R ⟨x, y, rfl, h0, h1, h2, h3⟩
  refine ⟨rfl, ?_⟩
  unfold rd_times
  walk_at "dl"
  refine ⟨_, rfl, _, rfl, ?_⟩
  walk_at "dl"
  refine two_req h0 h1 fun a b => ?_
  obtain ⟨⟨p, q, rfl, f⟩, ⟨u, v, rfl, g⟩⟩ := h2 a b
  refine ⟨p, q, u, v, rfl, f.f, g.f, two_le f.t (by decide), two_le f.b (by decide), two_le g.t (by decide), two_le g.b (by decide), fun s r k e => ?_⟩
  rw [fr_eq (mul_ne f.pos g.pos) k e]
  exact h3 _ _ _ _ rfl rfl a b
section
variable {ts : List Addr} {P : Program} {w : World} {K : PySem.W.Frag} {mg : Str → Option Value} {base : Heap}
theorem ok_times {f : Addr} {fd : FuncData} (Fn : L2.Fun K "times" "times" s_times f fd) {f_require : Addr} (g_require : Fg P w K mg base (L2.CX P w) 3 f_require (PmX mg K ts sp_require)) (m_require : mg "require" = some (.ref f_require)) (p_require : PySem.W.keepIn K (.ref f_require) = true) {f_is_fraction : Addr} (g_is_fraction : Fg P w K mg base (L2.CX P w) 2 f_is_fraction (Pm K ts sp_is_fraction)) (m_is_fraction : mg "is_fraction" = some (.ref f_is_fraction)) (p_is_fraction : PySem.W.keepIn K (.ref f_is_fraction) = true) {f_multiplied : Addr} (g_multiplied : Fg P w K mg base (L2.CX P w) 2 f_multiplied (Pm K ts sp_multiplied)) (m_multiplied : mg "multiplied" = some (.ref f_multiplied)) (p_multiplied : PySem.W.keepIn K (.ref f_multiplied) = true) : Fg P w K mg base (L2.CX P w) 4 f (PmX mg K ts sp_times) := d_defX Fn sc_times (fun _ _ _ _ _ _ us hl => match us, hl with | [_, _], _ => rfl) sp_times (fun R => rd_times fun _ => R) (fun cdv A outer s H E R wn hcd ht hE ag hr tk => by
  have S := sc_times
  have hu := hr.units
  have hE := XEnd.at hE
  exact (dss_cons (ds_expr (d_useX g_require ht ag (hr.mono (by decide)) (fun σ => passAt tk σ) hE (by rfl) m_require p_require (da_cons (d_use g_is_fraction ht ag (hr.mono (by decide)) passZ (by rfl) m_is_fraction p_is_fraction (da_cons (d_var 0) da_nil)) (da_cons (d_use g_is_fraction ht ag (hr.mono (by decide)) passZ (by rfl) m_is_fraction p_is_fraction (da_cons (d_var 1) da_nil)) da_nil))))
    (dss_one (ds_ret (d_use g_multiplied ht ag (hr.mono (by decide)) passZ (by rfl) m_multiplied p_multiplied (da_cons (d_var 0) (da_cons (d_var 1) da_nil))))))) vc_times
end
/-! compared -/
abbrev s_compared : Stmt := topS 37
abbrev N_compared : List Str := ["one", "other", "here", "there"]
theorem sc_compared : FnScope N_compared ["one", "other"] (defScope s_compared) := ⟨rfl, rfl, rfl, by decide +kernel, rfl, by decide +kernel, by decide +kernel⟩
def rd_compared : DS := (tSeqD (tSetD 2 (tBin gMul (tBin gIx (tVarD 0) (tCD (.int 0))) (tBin gIx (tVarD 1) (tCD (.int 1)))))
    (tSeqD (tSetD 3 (tBin gMul (tBin gIx (tVarD 1) (tCD (.int 0))) (tBin gIx (tVarD 0) (tCD (.int 1)))))
    (tSeqD (tIfD (tTst (tBin gLt (tVarD 2) (tVarD 3))) (tRetD (tUnD gNeg (tCD (.int 1)))) (fun d env => d.nx env))
    (tSeqD (tIfD (tTst (tBin (gIn (fun i j => decide (j < i)) fun i j => decide (j.cps.toList < i.cps.toList)) (tVarD 2) (tVarD 3))) (tRetD (tCD (.int 1))) (fun d env => d.nx env))
    (tRetD (tCD (.int 0)))))))
def sp_compared : DSp := fun us P => ∃ p q u v : Int, us = [.d (.tuple [.int p, .int q]), .d (.tuple [.int u, .int v])] ∧ p.natAbs < 2 ^ 8000 ∧ q.natAbs < 2 ^ 8000 ∧ u.natAbs < 2 ^ 8000 ∧ v.natAbs < 2 ^ 8000 ∧ P (.d (.int (cmpT p q u v)))
theorem vc_compared : ∀ dvs Q, sp_compared dvs Q → dvs.length = 2 ∧ rd_compared { nx := fun _ => Q (.d .none), rt := Q } (startD N_compared dvs) := by
  rintro dvs Q ⟨p, q, u, v, rfl, p1, q1, u1, v1, h⟩
  refine ⟨rfl, ?_⟩
  have m1 := mul_log p1 v1 (by decide) (by decide) (by decide)
  have m2 := mul_log u1 q1 (by decide) (by decide) (by decide)
  unfold rd_compared
  walk_at "dl"
  refine ⟨m1, m2, ?_⟩
  unfold cmpT at h
  by_cases h1 : p * v < u * q
  · simp only [h1, decide_true, if_true] at h ⊢
    exact h
  · by_cases h2 : u * q < p * v
    · simp only [h1, h2, decide_true, decide_false, Bool.false_eq_true, if_true, if_false] at h ⊢
      exact h
    · simp only [h1, h2, decide_false, Bool.false_eq_true, if_false] at h ⊢
      exact h
section
variable {ts : List Addr} {P : Program} {w : World} {K : PySem.W.Frag} {mg : Str → Option Value} {base : Heap}
theorem ok_compared {f : Addr} {fd : FuncData} (Fn : L2.Fun K "compared" "compared" s_compared f fd)  : Fg P w K mg base (L2.CX P w) 1 f (Pm K ts sp_compared) := d_def Fn sc_compared (fun _ _ _ _ _ _ us hl => match us, hl with | [_, _], _ => rfl) sp_compared rd_compared (fun cdv A outer s H E wn hcd ht ag hr => by
  have S := sc_compared
  have hu := hr.units
  exact (dss_cons (ds_set (i := 2) S.nd rfl (by first | exact Or.inl rfl | exact Or.inr rfl) (d_bin o_mul (d_ix (d_var 0) d_int) (d_ix (d_var 1) d_int)))
    (dss_cons (ds_set (i := 3) S.nd rfl (by first | exact Or.inl rfl | exact Or.inr rfl) (d_bin o_mul (d_ix (d_var 1) d_int) (d_ix (d_var 0) d_int)))
    (dss_cons (ds_if (dt_cmp o_lt (d_var 2) (d_var 3)) (dss_one (ds_ret (d_neg d_int))) dss_nil)
    (dss_cons (ds_if (dt_cmp o_gt (d_var 2) (d_var 3)) (dss_one (ds_ret d_int)) dss_nil)
    (dss_one (ds_ret d_int))))))) vc_compared
end
/-! order -/
abbrev s_order : Stmt := topS 27
abbrev N_order : List Str := ["one", "other"]
theorem sc_order : FnScope N_order ["one", "other"] (defScope s_order) := ⟨rfl, rfl, rfl, by decide +kernel, rfl, by decide +kernel, by decide +kernel⟩
def rd_order (R : List Sl → XD) : DS := (tSeqD (tDropD (tUseX sp_require R (tConsD (tUse sp_is_fraction (tConsD (tVarD 0) tNilD)) (tConsD (tUse sp_is_fraction (tConsD (tVarD 1) tNilD)) tNilD))))
    (tRetD (tUse sp_compared (tConsD (tVarD 0) (tConsD (tVarD 1) tNilD)))))
def sp_order : DSpX := fun us P R => ∃ x y, us = [.d x, .d y] ∧ (isFr x = false → R "Wrong" "at" (.int 0)) ∧ (isFr x = true → isFr y = false → R "Wrong" "at" (.int 1)) ∧ (isFr x = true → isFr y = true → FrG x ∧ FrG y) ∧ ∀ p q u v : Int, x = .tuple [.int p, .int q] → y = .tuple [.int u, .int v] → isFr x = true → isFr y = true → P (.d (.int (cmpT p q u v)))
theorem vc_order : ∀ dvs Q R, sp_order dvs Q R → dvs.length = 2 ∧ rd_order (fun _ => R) { nx := fun _ => Q (.d .none), rt := Q } (startD N_order dvs) := by
  rintro dvs Q R ⟨x, y, rfl, h0, h1, h2, h3⟩
  refine ⟨rfl, ?_⟩
  unfold rd_order
  walk_at "dl"
  refine ⟨_, rfl, _, rfl, ?_⟩
  walk_at "dl"
  refine two_req h0 h1 fun a b => ?_
  obtain ⟨⟨p, q, rfl, f⟩, ⟨u, v, rfl, g⟩⟩ := h2 a b
  exact ⟨p, q, u, v, rfl, two_le f.t (by decide), two_le f.b (by decide), two_le g.t (by decide), two_le g.b (by decide), h3 _ _ _ _ rfl rfl a b⟩
section
variable {ts : List Addr} {P : Program} {w : World} {K : PySem.W.Frag} {mg : Str → Option Value} {base : Heap}
theorem ok_order {f : Addr} {fd : FuncData} (Fn : L2.Fun K "order" "order" s_order f fd) {f_require : Addr} (g_require : Fg P w K mg base (L2.CX P w) 3 f_require (PmX mg K ts sp_require)) (m_require : mg "require" = some (.ref f_require)) (p_require : PySem.W.keepIn K (.ref f_require) = true) {f_is_fraction : Addr} (g_is_fraction : Fg P w K mg base (L2.CX P w) 2 f_is_fraction (Pm K ts sp_is_fraction)) (m_is_fraction : mg "is_fraction" = some (.ref f_is_fraction)) (p_is_fraction : PySem.W.keepIn K (.ref f_is_fraction) = true) {f_compared : Addr} (g_compared : Fg P w K mg base (L2.CX P w) 1 f_compared (Pm K ts sp_compared)) (m_compared : mg "compared" = some (.ref f_compared)) (p_compared : PySem.W.keepIn K (.ref f_compared) = true) : Fg P w K mg base (L2.CX P w) 4 f (PmX mg K ts sp_order) := d_defX Fn sc_order (fun _ _ _ _ _ _ us hl => match us, hl with | [_, _], _ => rfl) sp_order (fun R => rd_order fun _ => R) (fun cdv A outer s H E R wn hcd ht hE ag hr tk => by
  have S := sc_order
  have hu := hr.units
  have hE := XEnd.at hE
  exact (dss_cons (ds_expr (d_useX g_require ht ag (hr.mono (by decide)) (fun σ => passAt tk σ) hE (by rfl) m_require p_require (da_cons (d_use g_is_fraction ht ag (hr.mono (by decide)) passZ (by rfl) m_is_fraction p_is_fraction (da_cons (d_var 0) da_nil)) (da_cons (d_use g_is_fraction ht ag (hr.mono (by decide)) passZ (by rfl) m_is_fraction p_is_fraction (da_cons (d_var 1) da_nil)) da_nil))))
    (dss_one (ds_ret (d_use g_compared ht ag (hr.mono (by decide)) passZ (by rfl) m_compared p_compared (da_cons (d_var 0) (da_cons (d_var 1) da_nil))))))) vc_order
end
/-! is_list_of_fractions -/
abbrev s_is_list_of_fractions : Stmt := topS 31
abbrev N_is_list_of_fractions : List Str := ["thing", "fewest", "one"]
theorem sc_is_list_of_fractions : FnScope N_is_list_of_fractions ["thing", "fewest"] (defScope s_is_list_of_fractions) := ⟨rfl, rfl, rfl, by decide +kernel, rfl, by decide +kernel, by decide +kernel⟩
def rd_is_list_of_fractions : DS := (tSeqD (tIfD (tOrD (tNotD (tTru (tCallD (cIsi "list") (tConsD (tVarD 0) (tConsD (tRaw (.ty "list")) tNilD))))) (tNotD (tTst (tChD (gIn (fun i j => decide (i ≤ j)) fun i j => !decide (j.cps.toList < i.cps.toList)) (gIn (fun i j => decide (i ≤ j)) fun i j => !decide (j.cps.toList < i.cps.toList)) (tVarD 1) (tCallD cLen (tConsD (tVarD 0) tNilD)) (tCD (.int 1000)))))) (tRetD (tCD (.bool false))) (fun d env => d.nx env))
    (tRetD (tAll1 (itLst (tVarD 0)) (tUse sp_is_fraction (tConsD (tVarD 0) tNilD)) [])))
def sp_is_list_of_fractions : DSp := fun us P => ∃ (x : PyData) (m : Int), us = [.d x, .d (.int m)] ∧ P (.d (.bool (isFrL m x)))
theorem vc_is_list_of_fractions : ∀ dvs Q, sp_is_list_of_fractions dvs Q → dvs.length = 2 ∧ rd_is_list_of_fractions { nx := fun _ => Q (.d .none), rt := Q } (startD N_is_list_of_fractions dvs) := by
  rintro dvs Q ⟨x, m, rfl, h⟩
  refine ⟨rfl, ?_⟩
  unfold rd_is_list_of_fractions
  cases x with
  | list xs =>
    simp only [isFrL] at h
    walk_at "dl"
    by_cases h1 : m ≤ xs.length
    · simp only [h1, decide_true, if_true]
      by_cases h2 : ((xs.length : Nat) : Int) ≤ 1000
      · have h3 : xs.length ≤ 1000 := by omega
        simp only [h2, decide_true, Bool.not_true, Bool.false_eq_true, if_false]
        simp only [h1, h3, decide_true, Bool.true_and] at h
        refine ⟨isFr, fun x hx => ⟨x, rfl, ?_⟩, h⟩
        walk_at "dl"
      · have h3 : ¬ xs.length ≤ 1000 := by omega
        simp only [h2, decide_false, Bool.not_false, if_true]
        simp only [h3, decide_false, Bool.and_false, Bool.false_and] at h
        exact h
    · simp only [h1, decide_false, Bool.false_eq_true, if_false, Bool.not_false, if_true]
      simp only [h1, decide_false, Bool.false_and] at h
      exact h
  | _ => walk_at "dl"; exact h
section
variable {ts : List Addr} {P : Program} {w : World} {K : PySem.W.Frag} {mg : Str → Option Value} {base : Heap}
theorem ok_is_list_of_fractions {f : Addr} {fd : FuncData} (Fn : L2.Fun K "is_list_of_fractions" "is_list_of_fractions" s_is_list_of_fractions f fd) {f_is_fraction : Addr} (g_is_fraction : Fg P w K mg base (L2.CX P w) 2 f_is_fraction (Pm K ts sp_is_fraction)) (m_is_fraction : mg "is_fraction" = some (.ref f_is_fraction)) (p_is_fraction : PySem.W.keepIn K (.ref f_is_fraction) = true) (z_isinstance : mg "isinstance" = none) (z_list : mg "list" = none) (z_len : mg "len" = none) (z_all : mg "all" = none) {t_LONGEST_LIST : Tok} (c_LONGEST_LIST : mg "LONGEST_LIST" = some (.int 1000 t_LONGEST_LIST)) {e_is_list_of_fractions P_is_list_of_fractions : Addr} (tb_is_list_of_fractions : GxR.TabB base mg e_is_list_of_fractions P_is_list_of_fractions) (fc_is_list_of_fractions : fd.code = .ref e_is_list_of_fractions) (ti_is_list_of_fractions : P_is_list_of_fractions ∈ ts) : Fg P w K mg base (L2.CX P w) 4 f (Pm K ts sp_is_list_of_fractions) := d_def Fn sc_is_list_of_fractions (fun _ _ _ _ _ _ us hl => match us, hl with | [_, _], _ => rfl) sp_is_list_of_fractions rd_is_list_of_fractions (fun cdv A outer s H E wn hcd ht ag hr => by
  have S := sc_is_list_of_fractions
  have hu := hr.units
  exact (dss_cons (ds_if (dt_w (dw_or (dt_not (dt_e (d_callB (k_isi (n := "list") (by simp)) (by rfl) z_isinstance (by decide +kernel) (da_cons (d_var 0) (da_cons (d_ty (by rfl) z_list (by decide +kernel)) da_nil))))) (dw_or1 (dt_not (dt_chain o_le o_le (d_var 1) (d_callB k_len (by rfl) z_len (by decide +kernel) (da_cons (d_var 0) da_nil)) (d_globI (by rfl) c_LONGEST_LIST)))))) (dss_one (ds_ret d_bl)) dss_nil)
    (dss_one (ds_ret (d_all1 (N := ["one"]) (caps := []) ht hr (by rfl) z_all tb_is_list_of_fractions (hcd.symm.trans fc_is_list_of_fractions) ti_is_list_of_fractions rfl rfl (by decide +kernel) (by rfl) (hfree0 (by decide +kernel)) (by show capOk ["one"] N_is_list_of_fractions 1 [] _ (defScope s_is_list_of_fractions) = true; decide +kernel) (by decide) rfl (by rfl) (di_list (d_var 0)) (by intro _; rfl) (fun _ _ _ _ _ _ hA wn ht => by
      have ag := Eq.mpr (congrArg (fun a => Around.guards a = some []) hA) (loop_guards ag)
      have hr := Eq.mpr (congrArg (Room _) hA) (loop_room hr)
      have hu := hr.units
      exact (d_use g_is_fraction ht ag (hr.mono (by decide)) passZ (by rfl) m_is_fraction p_is_fraction (da_cons (d_var 0) da_nil)))))))) vc_is_list_of_fractions
end
/-! summed -/
abbrev s_summed : Stmt := topS 36
abbrev N_summed : List Str := ["some", "sums", "half", "one", "other"]
theorem sc_summed : FnScope N_summed ["some"] (defScope s_summed) := ⟨rfl, rfl, rfl, by decide +kernel, rfl, by decide +kernel, by decide +kernel⟩
def rd_summed : DS := (tSeqD (tSetD 1 (tOrV' (tVarD 0) (tLstD (tConsD (tCD (.tuple [(.int 0), (.int 1)])) tNilD))))
    (tSeqD (tWhD (tTst (tBin (gIn (fun i j => decide (j < i)) fun i j => decide (j.cps.toList < i.cps.toList)) (tCallD cLen (tConsD (tVarD 1) tNilD)) (tCD (.int 1)))) (tSeqD (fun d env => (tSetD 2 (tBin gFdiv (tCallD cLen (tConsD (tVarD 1) tNilD)) (tCD (.int 2)))) d (frzS 1 env))
        (tSetD 1 (tBin gAdd (tLcD (itZip (tConsD (tSlL (tVarD 1) oNone (oSome (tVarD 2))) (tConsD (tSlL (tVarD 1) (oSome (tVarD 2)) oNone) tNilD))) (gtD 2 (gconsD (gnD 3) (gconsD (gnD 4) gnilD))) (fun _ P => P true) (tUse sp_added (tConsD (tVarD 3) (tConsD (tVarD 4) tNilD))) [3, 4]) (tSlL (tVarD 1) (oSome (tBin gMul (tCD (.int 2)) (tVarD 2))) oNone)))))
    (tRetD (tBin gIx (tVarD 1) (tCD (.int 0))))))
def sp_summed : DSp := fun us P => ∃ (xs : List PyData) (ns : List Int) (D : Int), us = [.d (.list xs)] ∧ NuL D ns xs ∧ 0 < D ∧ D.natAbs < 2 ^ 4000 ∧ aS ns < 2 ^ 4000 ∧ xs.length ≤ 1000 ∧ ∀ s r, Nu D ns.sum s r → P (.d (.tuple [.int s, .int r]))
theorem half_sum {D : Int} {ms : List Int} {ys zs : List PyData} {h : Nat} (hm : NuL D ms ys) (hl : 2 * h ≤ ys.length) (hz : NuL D (addZ (ms.take h) (ms.drop h)) zs) : NuL D (addZ (ms.take h) (ms.drop h) ++ ms.drop (2 * h)) (zs ++ ys.drop (2 * h)) ∧ (addZ (ms.take h) (ms.drop h) ++ ms.drop (2 * h)).sum = ms.sum ∧ aS (addZ (ms.take h) (ms.drop h) ++ ms.drop (2 * h)) ≤ aS ms := by
  have e := hm.len
  have l1 : (ms.take h).length = h := by rw [List.length_take]; omega
  have l2 : (ms.take h).length ≤ (ms.drop h).length := by rw [l1, List.length_drop]; omega
  have d : (ms.drop h).drop (ms.take h).length = ms.drop (2 * h) := by rw [l1, List.drop_drop]; congr 1; omega
  have s1 := addZ_sum l2
  have s2 := addZ_aS l2
  rw [d] at s1 s2
  have tk : (ms.take h).sum + (ms.drop h).sum = ms.sum := by rw [← List.sum_append, List.take_append_drop]
  have tk2 : aS (ms.take h) + aS (ms.drop h) = aS ms := by rw [← aS_app, List.take_append_drop]
  exact ⟨hz.app (hm.drop _), by rw [List.sum_append, s1, tk], by rw [aS_app]; omega⟩
theorem zip_items {D : Int} : ∀ {as bs : List Int} {xs ys : List PyData}, NuL D as xs → NuL D bs ys → ∀ z ∈ zipD xs ys, ∃ n m p q u v, z = .tuple [.tuple [.int p, .int q], .tuple [.int u, .int v]] ∧ Nu D n p q ∧ Nu D m u v
  | _, _, _, _, .nil, _, z, hz => by cases hz
  | _, _, _, _, .cons _ _, .nil, z, hz => by cases hz
  | _, _, _, _, .cons a t, .cons b u, z, hz => by
    unfold zipD at hz
    rw [List.zip_cons_cons, List.map_cons] at hz
    rcases List.mem_cons.mp hz with rfl | hz
    · exact ⟨_, _, _, _, _, _, rfl, a, b⟩
    · exact zip_items t u z hz
theorem vc_summed : ∀ dvs Q, sp_summed dvs Q → dvs.length = 1 ∧ rd_summed { nx := fun _ => Q (.d .none), rt := Q } (startD N_summed dvs) := by
  rintro dvs Q ⟨xs, ns, D, rfl, hn, hD, hD2, hs, hl, h⟩
  refine ⟨rfl, ?_⟩
  have hD0 : D ≠ 0 := Int.ne_of_gt hD
  unfold rd_summed
  refine seqG fun R hR => ?_
  have rest : ∀ (slot : Sl) (ys : List PyData) (ms : List Int), (slot = .d (.list ys) ∨ ∃ l, slot = .ow l ys) → NuL D ms ys → ms.sum = ns.sum → aS ms < 2 ^ 4000 → ys ≠ [] → ys.length ≤ 1000 → R [.d (.list xs), slot, .un, .un, .un] := by
    intro slot ys ms hsl hm hsum ha hne hyl
    refine hR _ (seqG fun R2 hR2 => ?_)
    refine whD_ind (fun env => ∃ slot ys ms s2 s3 s4, env = [.d (.list xs), slot, s2, s3, s4] ∧ (slot = .d (.list ys) ∨ ∃ l, slot = .ow l ys) ∧ NuL D ms ys ∧ ms.sum = ns.sum ∧ aS ms < 2 ^ 4000 ∧ ys ≠ [] ∧ ys.length ≤ 1000)
      (fun env => match env with | [_, .d (.list ys), _, _, _] => ys.length | [_, .ow _ ys, _, _, _] => ys.length | _ => 0) (fun env R3 hI hR3 => ?_) ⟨slot, ys, ms, _, _, _, rfl, hsl, hm, hsum, ha, hne, hyl⟩
    obtain ⟨slot, ys, ms, s2, s3, s4, rfl, hsl, hm, hsum, ha, hne, hyl⟩ := hI
    have e0 : ∀ slot, (slot = .d (.list ys) ∨ ∃ l, slot = .ow l ys) → (match [Sl.d (.list xs), slot, s2, s3, s4] with | [_, .d (.list ys), _, _, _] => ys.length | [_, .ow _ ys, _, _, _] => ys.length | _ => 0) = ys.length := by
      intro slot h
      rcases h with rfl | ⟨l, rfl⟩ <;> rfl
    rw [e0 slot hsl] at hR3
    -- what is behind the test, whichever list it is
    have turn : 1 < ys.length → ∀ K : DV → Prop, (∀ (zs : List PyData) (ms' : List Int), NuL D ms' zs → ms'.sum = ns.sum → aS ms' < 2 ^ 4000 → zs ≠ [] → zs.length < ys.length → ∀ us vs : List PyData, us ++ vs = zs → vs = ys.drop (2 * (ys.length / 2)) → us.length ≤ 1000 → K (.fr us)) →
        tLcD (itZip (tConsD (tSlL (tVarD 1) oNone (oSome (tVarD 2))) (tConsD (tSlL (tVarD 1) (oSome (tVarD 2)) oNone) tNilD))) (gtD 2 (gconsD (gnD 3) (gconsD (gnD 4) gnilD))) (fun x P => P true) (tUse sp_added (tConsD (tVarD 3) (tConsD (tVarD 4) tNilD))) [3, 4]
          [Sl.d (.list xs), Sl.d (.list ys), Sl.d (.int ((ys.length / 2 : Nat) : Int)), s3, s4] K := by
      intro hlt K hK
      unfold tLcD
      walk_at "dl"
      rw [cut_from, cut_to]
      have up : ∀ {n p q : Int}, Nu D n p q → n.natAbs < 2 ^ 4000 → Fk 8000 p q := fun k hn => ⟨k.f, two_le (Nat.lt_of_le_of_lt (k.le hD0).2 hn) (by decide), two_le (Nat.lt_of_le_of_lt (k.le hD0).1 hD2) (by decide)⟩
      refine lcD_ind (fun zs acc => ∃ as bs : List Int, ∃ us vs, zs = zipD us vs ∧ NuL D as us ∧ NuL D bs vs ∧ as.length ≤ bs.length ∧ (∀ n ∈ as ++ bs, n.natAbs < 2 ^ 4000) ∧ acc.length + us.length = ys.length / 2 ∧ ∃ cs, NuL D cs acc ∧ cs ++ addZ as bs = addZ (ms.take (ys.length / 2)) (ms.drop (ys.length / 2))) (fun acc hI => ?_) (fun x zs acc R4 hI hR4 => ?_) _ _ ?_
      · obtain ⟨as, bs, us, vs, hz, ha1, hb1, hle, _, hlen, cs, hc, he⟩ := hI
        have u0 : as = [] ∧ us = [] := by
          cases ha1 with
          | nil => exact ⟨rfl, rfl⟩
          | cons _ _ =>
            cases hb1 with
            | nil => simp at hle
            | cons _ _ => cases hz
        obtain ⟨rfl, rfl⟩ := u0
        have he : cs = addZ (ms.take (ys.length / 2)) (ms.drop (ys.length / 2)) := by
          rw [← he]
          cases bs <;> simp [addZ]
        rw [he] at hc
        obtain ⟨g1, g2, g3⟩ := half_sum hm (by omega) hc
        rw [List.length_nil, Nat.add_zero] at hlen
        refine hK _ _ g1 (g2.trans hsum) (Nat.lt_of_le_of_lt g3 ha) (fun z => ?_) ?_ acc _ rfl rfl (by omega)
        · have := congrArg List.length z
          rw [List.length_append, List.length_nil] at this
          omega
        · rw [List.length_append, List.length_drop]; omega
      · obtain ⟨as, bs, us, vs, hz, ha1, hb1, hle, hb, hlen, cs, hc, he⟩ := hI
        cases ha1 with
        | nil => cases hz
        | @cons n p q as us a ta =>
          cases hb1 with
          | nil => cases hz
          | @cons m u v bs vs b tb =>
            have hz : x :: zs = .tuple [.tuple [.int p, .int q], .tuple [.int u, .int v]] :: zipD us vs := hz
            injection hz with hx hzs
            subst hx hzs
            have f1 := up a (hb n (by simp))
            have f2 := up b (hb m (by simp))
            walk_at "dl"
            refine ⟨p, q, u, v, rfl, a.f, b.f, f1.t, f1.b, f2.t, f2.b, fun s r k e => ?_⟩
            walk_at "dl"
            rw [List.length_cons] at hlen
            refine ⟨by omega, hR4 _ ⟨as, bs, us, vs, rfl, ta, tb, by simpa using hle, fun z hz => hb z ?_, by rw [List.length_append, List.length_singleton]; omega, cs ++ [n + m], hc.app (.cons (a.plus b k e) .nil), by rw [← he]; simp [addZ]⟩⟩
            rcases List.mem_append.mp hz with hz | hz
            · exact List.mem_append.mpr (.inl (List.mem_cons_of_mem _ hz))
            · exact List.mem_append.mpr (.inr (List.mem_cons_of_mem _ hz))
      · have e := hm.len
        refine ⟨_, _, _, _, rfl, hm.take _, hm.drop _, by rw [List.length_take, List.length_drop]; omega, fun n hn => ?_, by rw [List.length_take]; simp; omega, [], .nil, rfl⟩
        refine Nat.lt_of_le_of_lt (aS_mem (ns := ms) ?_) ha
        rw [← List.take_append_drop (ys.length / 2) ms]
        exact hn
    have e2 : ((ys.length : Nat) : Int).fdiv 2 = ((ys.length / 2 : Nat) : Int) := by
      rw [Int.fdiv_eq_ediv_of_nonneg _ (by decide)]; omega
    have hd2 : ys.length / 2 < 2 ^ 10 := by omega
    have lg : (Int.natAbs 2).log2 + (((ys.length / 2 : Nat) : Int)).natAbs.log2 < 1000000 := mul_log (a := 2) (m := 2) (n := 10) (by decide) (by rw [Int.natAbs_natCast]; exact hd2) (by decide) (by decide) (by decide)
    rcases hsl with rfl | ⟨l, rfl⟩
    · walk_at "dl"
      by_cases hlt : 1 < ys.length
      · have hlt2 : (1 : Int) < ys.length := by omega
        simp only [hlt2, decide_true, if_true]
        rw [e2]
        refine ⟨by decide, by decide, turn hlt _ fun zs ms' z1 z2 z3 z4 z5 us vs z6 z7 z8 => ?_⟩
        walk_at "dl"
        rw [show (2 : Int) * ((ys.length / 2 : Nat) : Int) = ((2 * (ys.length / 2) : Nat) : Int) by omega, cut_from, ← z7, ← List.length_append, z6]
        refine ⟨lg, by omega, fun l' => hR3 _ ⟨.ow l' zs, zs, ms', _, _, _, rfl, .inr ⟨l', rfl⟩, z1, z2, z3, z4, by omega⟩ ?_⟩
        exact z5
      · have hlt2 : ¬ (1 : Int) < ys.length := by omega
        simp only [hlt2, decide_false, Bool.false_eq_true, if_false]
        cases hm with
        | nil => exact (hne rfl).elim
        | @cons n p q _ _ a t =>
          cases t with
          | cons _ _ => exact (hlt (by simp)).elim
          | nil =>
            refine hR2 _ ?_
            walk_at "dl"
            have e3 : n = ns.sum := by rw [← hsum]; simp
            exact h _ _ (e3 ▸ a)
    · walk_at "dl"
      by_cases hlt : 1 < ys.length
      · have hlt2 : (1 : Int) < ys.length := by omega
        simp only [hlt2, decide_true, if_true]
        rw [e2]
        refine ⟨by decide, by decide, turn hlt _ fun zs ms' z1 z2 z3 z4 z5 us vs z6 z7 z8 => ?_⟩
        walk_at "dl"
        rw [show (2 : Int) * ((ys.length / 2 : Nat) : Int) = ((2 * (ys.length / 2) : Nat) : Int) by omega, cut_from, ← z7, ← List.length_append, z6]
        refine ⟨lg, by omega, fun l' => hR3 _ ⟨.ow l' zs, zs, ms', _, _, _, rfl, .inr ⟨l', rfl⟩, z1, z2, z3, z4, by omega⟩ ?_⟩
        exact z5
      · have hlt2 : ¬ (1 : Int) < ys.length := by omega
        simp only [hlt2, decide_false, Bool.false_eq_true, if_false]
        cases hm with
        | nil => exact (hne rfl).elim
        | @cons n p q _ _ a t =>
          cases t with
          | cons _ _ => exact (hlt (by simp)).elim
          | nil =>
            refine hR2 _ ?_
            walk_at "dl"
            have e3 : n = ns.sum := by rw [← hsum]; simp
            exact h _ _ (e3 ▸ a)
  walk_at "dl"
  cases hn with
  | nil => exact ⟨by decide, fun l => rest _ _ [0] (.inr ⟨l, rfl⟩) (.cons nu_zero .nil) rfl (by decide) (by simp) (by simp)⟩
  | cons a t => exact rest _ _ _ (.inl rfl) (.cons a t) rfl hs (by simp) hl
section
variable {ts : List Addr} {P : Program} {w : World} {K : PySem.W.Frag} {mg : Str → Option Value} {base : Heap}
theorem ok_summed {f : Addr} {fd : FuncData} (Fn : L2.Fun K "summed" "summed" s_summed f fd) {f_added : Addr} (g_added : Fg P w K mg base (L2.CX P w) 1 f_added (Pm K ts sp_added)) (m_added : mg "added" = some (.ref f_added)) (p_added : PySem.W.keepIn K (.ref f_added) = true) (z_len : mg "len" = none) (z_zip : mg "zip" = none) {u_NOUGHT : Value} {v_NOUGHT : V} (c_NOUGHT : mg "NOUGHT" = some u_NOUGHT) (r_NOUGHT : RelV v_NOUGHT u_NOUGHT) (e_NOUGHT : ∀ F, Rp K F v_NOUGHT (.tuple [(.int 0), (.int 1)])) : Fg P w K mg base (L2.CX P w) 2 f (Pm K ts sp_summed) := d_def Fn sc_summed (fun _ _ _ _ _ _ us hl => match us, hl with | [_], _ => rfl) sp_summed rd_summed (fun cdv A outer s H E wn hcd ht ag hr => by
  have S := sc_summed
  have hu := hr.units
  exact (dss_cons (ds_set (i := 1) S.nd rfl (by first | exact Or.inl rfl | exact Or.inr rfl) (d_or (d_var 0) (d_one (d_lst (da_cons (d_globC (by rfl) c_NOUGHT r_NOUGHT e_NOUGHT) da_nil)))))
    (dss_cons (ds_while PassesOwn.never (dt_cmp o_gt (d_callB k_len (by rfl) z_len (by decide +kernel) (da_cons (d_var 1) da_nil)) d_int) (dss_cons (ds_frz 1 (ds_set (i := 2) S.nd rfl (by first | exact Or.inl rfl | exact Or.inr rfl) (d_bin o_fdiv (d_callB k_len (by rfl) z_len (by decide +kernel) (da_cons (d_var 1) da_nil)) d_int)))
        (dss_one (ds_set (i := 1) S.nd rfl (by first | exact Or.inl rfl | exact Or.inr rfl) (d_bin o_add (d_lc (own := [("one", 3), ("other", 4)]) rfl S.nd (di_zip (by rfl) z_zip (da_cons (d_slL (d_var 1) do_none (do_some (d_var 2))) (da_cons (d_slL (d_var 1) (do_some (d_var 2)) do_none) da_nil))) (blkOk_by (N := N_summed) (sc := defScope s_summed) (by decide +kernel)) (tgt2 3 4 (by decide)) (fun _ _ _ _ _ => pg_tup rfl (pgs_cons (pg_name (i := 3) S.nd rfl (Or.inl rfl)) (pgs_cons (pg_name (i := 4) S.nd rfl (Or.inl rfl)) pgs_nil))) (fun _ _ _ _ _ => pts_nilD) (fun _ _ _ _ _ => (d_use g_added ht ag (hr.mono (by decide)) passZ (by rfl) m_added p_added (da_cons (d_var 3) (da_cons (d_var 4) da_nil))))) (d_slL (d_var 1) (do_some (d_bin o_mul d_int (d_var 2))) do_none))))))
    (dss_one (ds_ret (d_ix (d_var 1) d_int)))))) vc_summed
end
/-! total -/
abbrev s_total : Stmt := topS 28
abbrev N_total : List Str := ["some"]
theorem sc_total : FnScope N_total ["some"] (defScope s_total) := ⟨rfl, rfl, rfl, by decide +kernel, rfl, by decide +kernel, by decide +kernel⟩
def rd_total (R : List Sl → XD) : DS := (tSeqD (tDropD (tUseX sp_require R (tConsD (tUse sp_is_list_of_fractions (tConsD (tVarD 0) (tConsD (tCD (.int 0)) tNilD))) tNilD)))
    (tRetD (tUse sp_summed (tConsD (tVarD 0) tNilD))))
def sp_total : DSpX := fun us P R => ∃ x, us = [.d x] ∧ (isFrL 0 x = false → R "Wrong" "at" (.int 0)) ∧ (isFrL 0 x = true → ∃ xs : List PyData, x = .list xs ∧ xs.length ≤ 6 ∧ (∀ x ∈ xs, FrG x) ∧ P (.d (fr (totD (prodB xs) xs) (prodB xs))))
theorem one_req {a : Bool} {P : DV → Prop} {R : XD} (h0 : a = false → R "Wrong" "at" (.int 0)) (h1 : a = true → P (.d .none)) : sp_require [.d (.bool a)] P R := by
  refine ⟨[a], rfl, by simp, ?_⟩
  cases a with
  | false => exact h0 rfl
  | true => exact h1 rfl
theorem vc_total : ∀ dvs Q R, sp_total dvs Q R → dvs.length = 1 ∧ rd_total (fun _ => R) { nx := fun _ => Q (.d .none), rt := Q } (startD N_total dvs) := by
  rintro dvs Q R ⟨x, rfl, h0, h1⟩
  refine ⟨rfl, ?_⟩
  unfold rd_total
  walk_at "dl"
  refine ⟨_, _, rfl, ?_⟩
  walk_at "dl"
  refine one_req h0 fun a => ?_
  obtain ⟨xs, rfl, hl, hf, h⟩ := h1 a
  obtain ⟨d0, d1⟩ := prodB_pos hf
  have hx := prodB_frd hf
  have hD2 : (prodB xs).natAbs < 2 ^ 200 := two_le d1 (by omega)
  have hn := FrD.nu hx
  refine ⟨xs, _, prodB xs, rfl, hn, d0, two_le hD2 (by decide), Nat.lt_of_lt_of_le (tot_lt (by omega) hx hD2) (Nat.pow_le_pow_right (by decide) (by decide)), by omega, fun s r k => ?_⟩
  rw [totD_map] at k
  rw [fr_eq (Int.ne_of_gt d0) k.f k.e]
  exact h
section
variable {ts : List Addr} {P : Program} {w : World} {K : PySem.W.Frag} {mg : Str → Option Value} {base : Heap}
theorem ok_total {f : Addr} {fd : FuncData} (Fn : L2.Fun K "total" "total" s_total f fd) {f_require : Addr} (g_require : Fg P w K mg base (L2.CX P w) 3 f_require (PmX mg K ts sp_require)) (m_require : mg "require" = some (.ref f_require)) (p_require : PySem.W.keepIn K (.ref f_require) = true) {f_is_list_of_fractions : Addr} (g_is_list_of_fractions : Fg P w K mg base (L2.CX P w) 4 f_is_list_of_fractions (Pm K ts sp_is_list_of_fractions)) (m_is_list_of_fractions : mg "is_list_of_fractions" = some (.ref f_is_list_of_fractions)) (p_is_list_of_fractions : PySem.W.keepIn K (.ref f_is_list_of_fractions) = true) {f_summed : Addr} (g_summed : Fg P w K mg base (L2.CX P w) 2 f_summed (Pm K ts sp_summed)) (m_summed : mg "summed" = some (.ref f_summed)) (p_summed : PySem.W.keepIn K (.ref f_summed) = true) : Fg P w K mg base (L2.CX P w) 5 f (PmX mg K ts sp_total) := d_defX Fn sc_total (fun _ _ _ _ _ _ us hl => match us, hl with | [_], _ => rfl) sp_total (fun R => rd_total fun _ => R) (fun cdv A outer s H E R wn hcd ht hE ag hr tk => by
  have S := sc_total
  have hu := hr.units
  have hE := XEnd.at hE
  exact (dss_cons (ds_expr (d_useX g_require ht ag (hr.mono (by decide)) (fun σ => passAt tk σ) hE (by rfl) m_require p_require (da_cons (d_use g_is_list_of_fractions ht ag (hr.mono (by decide)) passZ (by rfl) m_is_list_of_fractions p_is_list_of_fractions (da_cons (d_var 0) (da_cons d_int da_nil))) da_nil)))
    (dss_one (ds_ret (d_use g_summed ht ag (hr.mono (by decide)) passZ (by rfl) m_summed p_summed (da_cons (d_var 0) da_nil)))))) vc_total
end
/-! outermost -/
abbrev s_outermost : Stmt := topS 38
abbrev N_outermost : List Str := ["some", "side", "found", "one"]
theorem sc_outermost : FnScope N_outermost ["some", "side"] (defScope s_outermost) := ⟨rfl, rfl, rfl, by decide +kernel, rfl, by decide +kernel, by decide +kernel⟩
def rd_outermost : DS := (tSeqD (tSetD 2 (tBin gIx (tVarD 0) (tCD (.int 0))))
    (tSeqD (tForD (gnD 3) (itLst (tVarD 0)) (tIfD (tTst (tBin (gEqv id) (tUse sp_compared (tConsD (tVarD 3) (tConsD (tVarD 2) tNilD))) (tVarD 1))) (tSetD 2 (tVarD 3)) (fun d env => d.nx env)))
    (tRetVD 2)))
def sp_outermost : DSp := fun us P => ∃ (a : PyData) (xs : List PyData) (s : Int), us = [.d (.list (a :: xs)), .d (.int s)] ∧ (∀ x ∈ a :: xs, FrL x) ∧ P (.d (sel s (a :: xs) a))
theorem vc_outermost : ∀ dvs Q, sp_outermost dvs Q → dvs.length = 2 ∧ rd_outermost { nx := fun _ => Q (.d .none), rt := Q } (startD N_outermost dvs) := by
  rintro dvs Q ⟨a, xs, s, rfl, hf, h⟩
  refine ⟨rfl, ?_⟩
  have up : ∀ {x : Int}, x.natAbs < 2 ^ 210 → x.natAbs < 2 ^ 8000 := fun z => two_le z (by decide)
  unfold rd_outermost
  walk_at "dl"
  refine forD_ind (fun ys env => ∃ b s3, env = [.d (.list (a :: xs)), .d (.int s), .d b, s3] ∧ FrL b ∧ (∀ x ∈ ys, FrL x) ∧ sel s ys b = sel s (a :: xs) a) (fun env hI => ?_) (fun x ys env R hI hR => ?_) _ _ ⟨a, _, rfl, hf a (List.mem_cons_self ..), hf, rfl⟩
  · obtain ⟨b, s3, rfl, _, _, e⟩ := hI
    walk_at "dl"
    rw [← e] at h
    exact h
  · obtain ⟨b, s3, rfl, hb, hx, e⟩ := hI
    obtain ⟨p, q, rfl, f⟩ := hx x (List.mem_cons_self ..)
    obtain ⟨u, v, rfl, g⟩ := hb
    have hx2 := fun y hy => hx y (List.mem_cons_of_mem _ hy)
    walk_at "dl"
    refine ⟨p, q, u, v, rfl, up f.t, up f.b, up g.t, up g.b, ?_⟩
    walk_at "dl"
    have e : sel s ys (if cmpT p q u v = s then .tuple [.int p, .int q] else .tuple [.int u, .int v]) = sel s (a :: xs) a := e
    by_cases hc : cmpT p q u v = s
    · simp only [hc, decide_true, if_true]
      rw [if_pos hc] at e
      exact hR _ ⟨_, _, rfl, ⟨p, q, rfl, f⟩, hx2, e⟩
    · simp only [hc, decide_false, Bool.false_eq_true, if_false]
      rw [if_neg hc] at e
      exact hR _ ⟨_, _, rfl, ⟨u, v, rfl, g⟩, hx2, e⟩
section
variable {ts : List Addr} {P : Program} {w : World} {K : PySem.W.Frag} {mg : Str → Option Value} {base : Heap}
theorem ok_outermost {f : Addr} {fd : FuncData} (Fn : L2.Fun K "outermost" "outermost" s_outermost f fd) {f_compared : Addr} (g_compared : Fg P w K mg base (L2.CX P w) 1 f_compared (Pm K ts sp_compared)) (m_compared : mg "compared" = some (.ref f_compared)) (p_compared : PySem.W.keepIn K (.ref f_compared) = true) : Fg P w K mg base (L2.CX P w) 2 f (Pm K ts sp_outermost) := d_def Fn sc_outermost (fun _ _ _ _ _ _ us hl => match us, hl with | [_, _], _ => rfl) sp_outermost rd_outermost (fun cdv A outer s H E wn hcd ht ag hr => by
  have S := sc_outermost
  have hu := hr.units
  exact (dss_cons (ds_set (i := 2) S.nd rfl (by first | exact Or.inl rfl | exact Or.inr rfl) (d_ix (d_var 0) d_int))
    (dss_cons (ds_for PassesOwn.never rfl (di_list (d_var 0)) (dg_name (i := 3) S.nd rfl (by first | exact Or.inl rfl | exact Or.inr rfl)) (dss_one (ds_if (dt_cmp (o_eq hu) (d_use g_compared ht ag (hr.mono (by decide)) passZ (by rfl) m_compared p_compared (da_cons (d_var 3) (da_cons (d_var 2) da_nil))) (d_var 1)) (dss_one (ds_set (i := 2) S.nd rfl (by first | exact Or.inl rfl | exact Or.inr rfl) (d_var 3))) dss_nil)))
    (dss_one (ds_retV 2))))) vc_outermost
end
/-! least -/
abbrev s_least : Stmt := topS 29
abbrev N_least : List Str := ["some"]
theorem sc_least : FnScope N_least ["some"] (defScope s_least) := ⟨rfl, rfl, rfl, by decide +kernel, rfl, by decide +kernel, by decide +kernel⟩
def rd_least (R : List Sl → XD) : DS := (tSeqD (tDropD (tUseX sp_require R (tConsD (tUse sp_is_list_of_fractions (tConsD (tVarD 0) (tConsD (tCD (.int 1)) tNilD))) tNilD)))
    (tRetD (tUse sp_outermost (tConsD (tVarD 0) (tConsD (tUnD gNeg (tCD (.int 1))) tNilD)))))
def sp_least : DSpX := fun us P R => ∃ x, us = [.d x] ∧ (isFrL 1 x = false → R "Wrong" "at" (.int 0)) ∧ (isFrL 1 x = true → ∃ a xs, x = .list (a :: xs) ∧ (∀ x ∈ a :: xs, FrG x) ∧ P (.d (sel (-1) (a :: xs) a)))
theorem vc_least : ∀ dvs Q R, sp_least dvs Q R → dvs.length = 1 ∧ rd_least (fun _ => R) { nx := fun _ => Q (.d .none), rt := Q } (startD N_least dvs) := by
  rintro dvs Q R ⟨x, rfl, h0, h1⟩
  refine ⟨rfl, ?_⟩
  unfold rd_least
  walk_at "dl"
  refine ⟨_, _, rfl, ?_⟩
  walk_at "dl"
  refine one_req h0 fun a => ?_
  obtain ⟨y, xs, rfl, hf, h⟩ := h1 a
  exact ⟨y, xs, _, rfl, fun z hz => (hf z hz).frl, h⟩
section
variable {ts : List Addr} {P : Program} {w : World} {K : PySem.W.Frag} {mg : Str → Option Value} {base : Heap}
theorem ok_least {f : Addr} {fd : FuncData} (Fn : L2.Fun K "least" "least" s_least f fd) {f_require : Addr} (g_require : Fg P w K mg base (L2.CX P w) 3 f_require (PmX mg K ts sp_require)) (m_require : mg "require" = some (.ref f_require)) (p_require : PySem.W.keepIn K (.ref f_require) = true) {f_is_list_of_fractions : Addr} (g_is_list_of_fractions : Fg P w K mg base (L2.CX P w) 4 f_is_list_of_fractions (Pm K ts sp_is_list_of_fractions)) (m_is_list_of_fractions : mg "is_list_of_fractions" = some (.ref f_is_list_of_fractions)) (p_is_list_of_fractions : PySem.W.keepIn K (.ref f_is_list_of_fractions) = true) {f_outermost : Addr} (g_outermost : Fg P w K mg base (L2.CX P w) 2 f_outermost (Pm K ts sp_outermost)) (m_outermost : mg "outermost" = some (.ref f_outermost)) (p_outermost : PySem.W.keepIn K (.ref f_outermost) = true) : Fg P w K mg base (L2.CX P w) 5 f (PmX mg K ts sp_least) := d_defX Fn sc_least (fun _ _ _ _ _ _ us hl => match us, hl with | [_], _ => rfl) sp_least (fun R => rd_least fun _ => R) (fun cdv A outer s H E R wn hcd ht hE ag hr tk => by
  have S := sc_least
  have hu := hr.units
  have hE := XEnd.at hE
  exact (dss_cons (ds_expr (d_useX g_require ht ag (hr.mono (by decide)) (fun σ => passAt tk σ) hE (by rfl) m_require p_require (da_cons (d_use g_is_list_of_fractions ht ag (hr.mono (by decide)) passZ (by rfl) m_is_list_of_fractions p_is_list_of_fractions (da_cons (d_var 0) (da_cons d_int da_nil))) da_nil)))
    (dss_one (ds_ret (d_use g_outermost ht ag (hr.mono (by decide)) passZ (by rfl) m_outermost p_outermost (da_cons (d_var 0) (da_cons (d_neg d_int) da_nil))))))) vc_least
end
/-! greatest -/
abbrev s_greatest : Stmt := topS 30
abbrev N_greatest : List Str := ["some"]
theorem sc_greatest : FnScope N_greatest ["some"] (defScope s_greatest) := ⟨rfl, rfl, rfl, by decide +kernel, rfl, by decide +kernel, by decide +kernel⟩
def rd_greatest (R : List Sl → XD) : DS := (tSeqD (tDropD (tUseX sp_require R (tConsD (tUse sp_is_list_of_fractions (tConsD (tVarD 0) (tConsD (tCD (.int 1)) tNilD))) tNilD)))
    (tRetD (tUse sp_outermost (tConsD (tVarD 0) (tConsD (tCD (.int 1)) tNilD)))))
def sp_greatest : DSpX := fun us P R => ∃ x, us = [.d x] ∧ (isFrL 1 x = false → R "Wrong" "at" (.int 0)) ∧ (isFrL 1 x = true → ∃ a xs, x = .list (a :: xs) ∧ (∀ x ∈ a :: xs, FrG x) ∧ P (.d (sel 1 (a :: xs) a)))
theorem vc_greatest : ∀ dvs Q R, sp_greatest dvs Q R → dvs.length = 1 ∧ rd_greatest (fun _ => R) { nx := fun _ => Q (.d .none), rt := Q } (startD N_greatest dvs) := by
  rintro dvs Q R ⟨x, rfl, h0, h1⟩
  refine ⟨rfl, ?_⟩
  unfold rd_greatest
  walk_at "dl"
  refine ⟨_, _, rfl, ?_⟩
  walk_at "dl"
  refine one_req h0 fun a => ?_
  obtain ⟨y, xs, rfl, hf, h⟩ := h1 a
  exact ⟨y, xs, _, rfl, fun z hz => (hf z hz).frl, h⟩
section
variable {ts : List Addr} {P : Program} {w : World} {K : PySem.W.Frag} {mg : Str → Option Value} {base : Heap}
theorem ok_greatest {f : Addr} {fd : FuncData} (Fn : L2.Fun K "greatest" "greatest" s_greatest f fd) {f_require : Addr} (g_require : Fg P w K mg base (L2.CX P w) 3 f_require (PmX mg K ts sp_require)) (m_require : mg "require" = some (.ref f_require)) (p_require : PySem.W.keepIn K (.ref f_require) = true) {f_is_list_of_fractions : Addr} (g_is_list_of_fractions : Fg P w K mg base (L2.CX P w) 4 f_is_list_of_fractions (Pm K ts sp_is_list_of_fractions)) (m_is_list_of_fractions : mg "is_list_of_fractions" = some (.ref f_is_list_of_fractions)) (p_is_list_of_fractions : PySem.W.keepIn K (.ref f_is_list_of_fractions) = true) {f_outermost : Addr} (g_outermost : Fg P w K mg base (L2.CX P w) 2 f_outermost (Pm K ts sp_outermost)) (m_outermost : mg "outermost" = some (.ref f_outermost)) (p_outermost : PySem.W.keepIn K (.ref f_outermost) = true) : Fg P w K mg base (L2.CX P w) 5 f (PmX mg K ts sp_greatest) := d_defX Fn sc_greatest (fun _ _ _ _ _ _ us hl => match us, hl with | [_], _ => rfl) sp_greatest (fun R => rd_greatest fun _ => R) (fun cdv A outer s H E R wn hcd ht hE ag hr tk => by
  have S := sc_greatest
  have hu := hr.units
  have hE := XEnd.at hE
  exact (dss_cons (ds_expr (d_useX g_require ht ag (hr.mono (by decide)) (fun σ => passAt tk σ) hE (by rfl) m_require p_require (da_cons (d_use g_is_list_of_fractions ht ag (hr.mono (by decide)) passZ (by rfl) m_is_list_of_fractions p_is_list_of_fractions (da_cons (d_var 0) (da_cons d_int da_nil))) da_nil)))
    (dss_one (ds_ret (d_use g_outermost ht ag (hr.mono (by decide)) passZ (by rfl) m_outermost p_outermost (da_cons (d_var 0) (da_cons d_int da_nil))))))) vc_greatest
end
/-! _law_call -/
abbrev s__law_call : Stmt := topS 48
abbrev N__law_call : List Str := ["_law_which", "_law_some"]
theorem sc__law_call : FnScope N__law_call ["_law_which", "_law_some"] (defScope s__law_call) := ⟨rfl, rfl, rfl, by decide +kernel, rfl, by decide +kernel, by decide +kernel⟩
def rd__law_call (R : List Sl → XD) : DS := (tSeqD (tIfD (tTst (tBin (gEqv id) (tVarD 0) (tCD (.int 0)))) (tRetD (tUseX sp_fraction R (tConsD (tBin gIx (tVarD 1) (tCD (.int 0))) (tConsD (tBin gIx (tVarD 1) (tCD (.int 1))) tNilD)))) (fun d env => d.nx env))
    (tSeqD (tIfD (tTst (tBin (gEqv id) (tVarD 0) (tCD (.int 1)))) (tRetD (tUseX sp_plus R (tConsD (tBin gIx (tVarD 1) (tCD (.int 0))) (tConsD (tBin gIx (tVarD 1) (tCD (.int 1))) tNilD)))) (fun d env => d.nx env))
    (tSeqD (tIfD (tTst (tBin (gEqv id) (tVarD 0) (tCD (.int 2)))) (tRetD (tUseX sp_less R (tConsD (tBin gIx (tVarD 1) (tCD (.int 0))) (tConsD (tBin gIx (tVarD 1) (tCD (.int 1))) tNilD)))) (fun d env => d.nx env))
    (tSeqD (tIfD (tTst (tBin (gEqv id) (tVarD 0) (tCD (.int 3)))) (tRetD (tUseX sp_times R (tConsD (tBin gIx (tVarD 1) (tCD (.int 0))) (tConsD (tBin gIx (tVarD 1) (tCD (.int 1))) tNilD)))) (fun d env => d.nx env))
    (tSeqD (tIfD (tTst (tBin (gEqv id) (tVarD 0) (tCD (.int 4)))) (tRetD (tUseX sp_order R (tConsD (tBin gIx (tVarD 1) (tCD (.int 0))) (tConsD (tBin gIx (tVarD 1) (tCD (.int 1))) tNilD)))) (fun d env => d.nx env))
    (tSeqD (tIfD (tTst (tBin (gEqv id) (tVarD 0) (tCD (.int 5)))) (tRetD (tUseX sp_total R (tConsD (tBin gIx (tVarD 1) (tCD (.int 0))) tNilD))) (fun d env => d.nx env))
    (tSeqD (tIfD (tTst (tBin (gEqv id) (tVarD 0) (tCD (.int 6)))) (tRetD (tUseX sp_least R (tConsD (tBin gIx (tVarD 1) (tCD (.int 0))) tNilD))) (fun d env => d.nx env))
    (tRetD (tUseX sp_greatest R (tConsD (tBin gIx (tVarD 1) (tCD (.int 0))) tNilD))))))))))
def sp__law_call : DSpX := fun us P R => ∃ w some, us = [.d (.int w), .d (.list some)] ∧ ((Good w some ∧ P (.d (dueV w some))) ∨ ∃ k, Bd w k some ∧ R "Wrong" "at" (.int k))
theorem vc__law_call : ∀ dvs Q R, sp__law_call dvs Q R → dvs.length = 2 ∧ rd__law_call (fun _ => R) { nx := fun _ => Q (.d .none), rt := Q } (startD N__law_call dvs) := by
  rintro dvs Q R ⟨w, some, rfl, h⟩
  refine ⟨rfl, ?_⟩
  have bad : ∀ {x y : PyData} {k : Int}, (k = 0 ∧ isFr x = false) ∨ (k = 1 ∧ isFr x = true ∧ isFr y = false) → R "Wrong" "at" (.int k) → (isFr x = false → R "Wrong" "at" (.int 0)) ∧ (isFr x = true → isFr y = false → R "Wrong" "at" (.int 1)) ∧ (isFr x = true → isFr y = true → False) := fun h r => by
    rcases h with ⟨rfl, h⟩ | ⟨rfl, h, h2⟩
    · exact ⟨fun _ => r, fun a => by rw [h] at a; (cases a), fun a => by rw [h] at a; (cases a)⟩
    · exact ⟨fun a => by rw [h] at a; (cases a), fun _ _ => r, fun _ a => by rw [h2] at a; (cases a)⟩
  unfold rd__law_call
  have two : ∀ w, (w = 1 ∨ w = 2 ∨ w = 3 ∨ w = 4) → ∀ (G : Int → Int → Int → Int → PyData), (∀ p q u v, dueV w [.tuple [.int p, .int q], .tuple [.int u, .int v]] = G p q u v) → ((Good w some ∧ Q (.d (dueV w some))) ∨ ∃ k, Bd w k some ∧ R "Wrong" "at" (.int k)) →
      ∃ x y, some = [x, y] ∧ (isFr x = false → R "Wrong" "at" (.int 0)) ∧ (isFr x = true → isFr y = false → R "Wrong" "at" (.int 1)) ∧ (isFr x = true → isFr y = true → FrG x ∧ FrG y) ∧ ∀ p q u v : Int, x = .tuple [.int p, .int q] → y = .tuple [.int u, .int v] → isFr x = true → isFr y = true → Q (.d (G p q u v)) := by
    intro w hw G hG h
    rcases h with ⟨g, q⟩ | ⟨k, b, r⟩
    · rcases g with ⟨rfl, _⟩ | ⟨_, _, x, y, rfl, fx, fy⟩ | ⟨g, _⟩
      · omega
      · refine ⟨x, y, rfl, fun a => ?_, fun _ a => ?_, fun _ _ => ⟨fx, fy⟩, fun p q2 u v e1 e2 _ _ => ?_⟩
        · rw [fx.isFr] at a; cases a
        · rw [fy.isFr] at a; cases a
        · subst e1 e2
          rw [hG] at q
          exact q
      · omega
    · rcases b with ⟨rfl, _⟩ | ⟨_, _, x, y, rfl, hb⟩ | ⟨g, _⟩
      · omega
      · obtain ⟨b1, b2, b3⟩ := bad hb r
        exact ⟨x, y, rfl, b1, b2, fun a b => (b3 a b).elim, fun _ _ _ _ _ _ a b => (b3 a b).elim⟩
      · omega
  have hw : w = 0 ∨ w = 1 ∨ w = 2 ∨ w = 3 ∨ w = 4 ∨ w = 5 ∨ w = 6 ∨ w = 7 := by
    rcases h with ⟨g, _⟩ | ⟨k, b, _⟩
    · rcases g with ⟨g, _⟩ | ⟨g, g2, _⟩ | ⟨g, g2, _⟩ <;> omega
    · rcases b with ⟨g, _⟩ | ⟨g, g2, _⟩ | ⟨g, g2, _⟩ <;> omega
  rcases hw with rfl | rfl | rfl | rfl | rfl | rfl | rfl | rfl
  · have : ∃ x y, some = [x, y] ∧ (isWh x = false → R "Wrong" "at" (.int 0)) ∧ (isWh x = true → (isWh y = false ∨ y = .int 0) → R "Wrong" "at" (.int 1)) ∧ (∀ t b : Int, x = .int t → y = .int b → b ≠ 0 → b.natAbs.log2 < 9000 ∧ Q (.d (fr t b))) := by
      rcases h with ⟨g, q⟩ | ⟨k, b, r⟩
      · rcases g with ⟨_, t, b, rfl, hb, _, lb⟩ | ⟨g, _⟩ | ⟨g, _⟩
        · refine ⟨_, _, rfl, (fun a => by cases a), fun _ a => ?_, fun t2 b2 e1 e2 _ => ?_⟩
          · rcases a with a | a
            · cases a
            · injection a with a; exact absurd a hb
          · injection e1 with e1; injection e2 with e2; subst e1 e2
            exact ⟨log_le lb (by decide) (by decide), q⟩
        · omega
        · omega
      · rcases b with ⟨_, x, y, rfl, hb⟩ | ⟨g, _⟩ | ⟨g, _⟩
        · rcases hb with ⟨rfl, a⟩ | ⟨rfl, a, b⟩
          · exact ⟨x, y, rfl, fun _ => r, fun z => by rw [a] at z; (cases z), fun t b e1 _ _ => by rw [e1] at a; (cases a)⟩
          · refine ⟨x, y, rfl, fun z => by rw [a] at z; (cases z), fun _ _ => r, fun t b2 _ e2 hb => ?_⟩
            rcases b with b | b
            · rw [e2] at b; cases b
            · rw [e2] at b; injection b with b; exact absurd b hb
        · omega
        · omega
    obtain ⟨x, y, rfl, q⟩ := this
    walk_at "dl"
    exact ⟨x, y, rfl, q⟩
  · obtain ⟨x, y, rfl, q1, q2, q3, q4⟩ := two 1 (by omega) _ (fun _ _ _ _ => rfl) h
    walk_at "dl"
    exact ⟨x, y, rfl, q1, q2, q3, q4⟩
  · obtain ⟨x, y, rfl, q1, q2, q3, q4⟩ := two 2 (by omega) _ (fun _ _ _ _ => rfl) h
    walk_at "dl"
    exact ⟨x, y, rfl, q1, q2, q3, q4⟩
  · obtain ⟨x, y, rfl, q1, q2, q3, q4⟩ := two 3 (by omega) _ (fun _ _ _ _ => rfl) h
    walk_at "dl"
    exact ⟨x, y, rfl, q1, q2, q3, q4⟩
  · obtain ⟨x, y, rfl, q1, q2, q3, q4⟩ := two 4 (by omega) _ (fun _ _ _ _ => rfl) h
    walk_at "dl"
    exact ⟨x, y, rfl, q1, q2, q3, q4⟩
  · rcases h with ⟨g, q⟩ | ⟨k, b, r⟩
    · rcases g with ⟨g, _⟩ | ⟨_, g, _⟩ | ⟨_, _, a, xs, rfl, hl, hf⟩
      · omega
      · omega
      · walk_at "dl"
        refine ⟨_, rfl, fun z => ?_, fun _ => ⟨_, rfl, by simp only [List.length_cons]; omega, hf, q⟩⟩
        have e : isFrL 0 (.list (a :: xs)) = true := by
          simp only [isFrL, List.length_cons, Bool.and_eq_true, decide_eq_true_eq]
          exact ⟨⟨by omega, by omega⟩, List.all_eq_true.mpr fun x hx => (hf x hx).isFr⟩
        rw [e] at z; cases z
    · rcases b with ⟨g, _⟩ | ⟨_, g, _⟩ | ⟨_, _, rfl, x, rfl, hb⟩
      · omega
      · omega
      · walk_at "dl"
        exact ⟨_, rfl, fun _ => r, fun z => by rw [show isFrL 0 x = false from hb] at z; (cases z)⟩
  · rcases h with ⟨g, q⟩ | ⟨k, b, r⟩
    · rcases g with ⟨g, _⟩ | ⟨_, g, _⟩ | ⟨_, _, a, xs, rfl, hl, hf⟩
      · omega
      · omega
      · walk_at "dl"
        refine ⟨_, rfl, fun z => ?_, fun _ => ⟨a, xs, rfl, hf, q⟩⟩
        have e : isFrL 1 (.list (a :: xs)) = true := by
          simp only [isFrL, List.length_cons, Bool.and_eq_true, decide_eq_true_eq]
          exact ⟨⟨by omega, by omega⟩, List.all_eq_true.mpr fun x hx => (hf x hx).isFr⟩
        rw [e] at z; cases z
    · rcases b with ⟨g, _⟩ | ⟨_, g, _⟩ | ⟨_, _, rfl, x, rfl, hb⟩
      · omega
      · omega
      · walk_at "dl"
        exact ⟨_, rfl, fun _ => r, fun z => by rw [show isFrL 1 x = false from hb] at z; (cases z)⟩
  · rcases h with ⟨g, q⟩ | ⟨k, b, r⟩
    · rcases g with ⟨g, _⟩ | ⟨_, g, _⟩ | ⟨_, _, a, xs, rfl, hl, hf⟩
      · omega
      · omega
      · walk_at "dl"
        refine ⟨_, rfl, fun z => ?_, fun _ => ⟨a, xs, rfl, hf, q⟩⟩
        have e : isFrL 1 (.list (a :: xs)) = true := by
          simp only [isFrL, List.length_cons, Bool.and_eq_true, decide_eq_true_eq]
          exact ⟨⟨by omega, by omega⟩, List.all_eq_true.mpr fun x hx => (hf x hx).isFr⟩
        rw [e] at z; cases z
    · rcases b with ⟨g, _⟩ | ⟨_, g, _⟩ | ⟨_, _, rfl, x, rfl, hb⟩
      · omega
      · omega
      · walk_at "dl"
        exact ⟨_, rfl, fun _ => r, fun z => by rw [show isFrL 1 x = false from hb] at z; (cases z)⟩
section
variable {ts : List Addr} {P : Program} {w : World} {K : PySem.W.Frag} {mg : Str → Option Value} {base : Heap}
theorem ok__law_call {f : Addr} {fd : FuncData} (Fn : L2.Fun K "_law_call" "_law_call" s__law_call f fd) {f_fraction : Addr} (g_fraction : Fg P w K mg base (L2.CX P w) 4 f_fraction (PmX mg K ts sp_fraction)) (m_fraction : mg "fraction" = some (.ref f_fraction)) (p_fraction : PySem.W.keepIn K (.ref f_fraction) = true) {f_plus : Addr} (g_plus : Fg P w K mg base (L2.CX P w) 4 f_plus (PmX mg K ts sp_plus)) (m_plus : mg "plus" = some (.ref f_plus)) (p_plus : PySem.W.keepIn K (.ref f_plus) = true) {f_less : Addr} (g_less : Fg P w K mg base (L2.CX P w) 4 f_less (PmX mg K ts sp_less)) (m_less : mg "less" = some (.ref f_less)) (p_less : PySem.W.keepIn K (.ref f_less) = true) {f_times : Addr} (g_times : Fg P w K mg base (L2.CX P w) 4 f_times (PmX mg K ts sp_times)) (m_times : mg "times" = some (.ref f_times)) (p_times : PySem.W.keepIn K (.ref f_times) = true) {f_order : Addr} (g_order : Fg P w K mg base (L2.CX P w) 4 f_order (PmX mg K ts sp_order)) (m_order : mg "order" = some (.ref f_order)) (p_order : PySem.W.keepIn K (.ref f_order) = true) {f_total : Addr} (g_total : Fg P w K mg base (L2.CX P w) 5 f_total (PmX mg K ts sp_total)) (m_total : mg "total" = some (.ref f_total)) (p_total : PySem.W.keepIn K (.ref f_total) = true) {f_least : Addr} (g_least : Fg P w K mg base (L2.CX P w) 5 f_least (PmX mg K ts sp_least)) (m_least : mg "least" = some (.ref f_least)) (p_least : PySem.W.keepIn K (.ref f_least) = true) {f_greatest : Addr} (g_greatest : Fg P w K mg base (L2.CX P w) 5 f_greatest (PmX mg K ts sp_greatest)) (m_greatest : mg "greatest" = some (.ref f_greatest)) (p_greatest : PySem.W.keepIn K (.ref f_greatest) = true) : Fg P w K mg base (L2.CX P w) 6 f (PmX mg K ts sp__law_call) := d_defX Fn sc__law_call (fun _ _ _ _ _ _ us hl => match us, hl with | [_, _], _ => rfl) sp__law_call (fun R => rd__law_call fun _ => R) (fun cdv A outer s H E R wn hcd ht hE ag hr tk => by
  have S := sc__law_call
  have hu := hr.units
  have hE := XEnd.at hE
  exact (dss_cons (ds_if (dt_cmp (o_eq hu) (d_var 0) d_int) (dss_one (ds_ret (d_useX g_fraction ht ag (hr.mono (by decide)) (fun σ => passAt tk σ) hE (by rfl) m_fraction p_fraction (da_cons (d_ix (d_var 1) d_int) (da_cons (d_ix (d_var 1) d_int) da_nil))))) dss_nil)
    (dss_cons (ds_if (dt_cmp (o_eq hu) (d_var 0) d_int) (dss_one (ds_ret (d_useX g_plus ht ag (hr.mono (by decide)) (fun σ => passAt tk σ) hE (by rfl) m_plus p_plus (da_cons (d_ix (d_var 1) d_int) (da_cons (d_ix (d_var 1) d_int) da_nil))))) dss_nil)
    (dss_cons (ds_if (dt_cmp (o_eq hu) (d_var 0) d_int) (dss_one (ds_ret (d_useX g_less ht ag (hr.mono (by decide)) (fun σ => passAt tk σ) hE (by rfl) m_less p_less (da_cons (d_ix (d_var 1) d_int) (da_cons (d_ix (d_var 1) d_int) da_nil))))) dss_nil)
    (dss_cons (ds_if (dt_cmp (o_eq hu) (d_var 0) d_int) (dss_one (ds_ret (d_useX g_times ht ag (hr.mono (by decide)) (fun σ => passAt tk σ) hE (by rfl) m_times p_times (da_cons (d_ix (d_var 1) d_int) (da_cons (d_ix (d_var 1) d_int) da_nil))))) dss_nil)
    (dss_cons (ds_if (dt_cmp (o_eq hu) (d_var 0) d_int) (dss_one (ds_ret (d_useX g_order ht ag (hr.mono (by decide)) (fun σ => passAt tk σ) hE (by rfl) m_order p_order (da_cons (d_ix (d_var 1) d_int) (da_cons (d_ix (d_var 1) d_int) da_nil))))) dss_nil)
    (dss_cons (ds_if (dt_cmp (o_eq hu) (d_var 0) d_int) (dss_one (ds_ret (d_useX g_total ht ag (hr.mono (by decide)) (fun σ => passAt tk σ) hE (by rfl) m_total p_total (da_cons (d_ix (d_var 1) d_int) da_nil)))) dss_nil)
    (dss_cons (ds_if (dt_cmp (o_eq hu) (d_var 0) d_int) (dss_one (ds_ret (d_useX g_least ht ag (hr.mono (by decide)) (fun σ => passAt tk σ) hE (by rfl) m_least p_least (da_cons (d_ix (d_var 1) d_int) da_nil)))) dss_nil)
    (dss_one (ds_ret (d_useX g_greatest ht ag (hr.mono (by decide)) (fun σ => passAt tk σ) hE (by rfl) m_greatest p_greatest (da_cons (d_ix (d_var 1) d_int) da_nil)))))))))))) vc__law_call
end
/-! _law_asked -/
abbrev s__law_asked : Stmt := topS 49
abbrev N__law_asked : List Str := ["_law_which", "_law_some", "e", "_law_others"]
theorem sc__law_asked : FnScope N__law_asked ["_law_which", "_law_some"] (defScope s__law_asked) := ⟨rfl, rfl, rfl, by decide +kernel, rfl, by decide +kernel, by decide +kernel⟩
def rd__law_asked : DS := (tTryAs 2 [("Wrong", "at")] (fun _ => true) (fun a c n x => (tSeqD (tSetD 3 (tLstD (tConsD (tIsX 2 a (isx c "NoChain")) (tConsD (tIsX 2 a (isx c "NoDeed")) (tConsD (tIsX 2 a (isx c "NoOff")) (tConsD (tIsX 2 a (isx c "NoOffer")) tNilD))))))
        (tSeqD (tSetD 3 (tBin gAdd (tVarD 3) (tLstD (tConsD (tIsX 2 a (isx c "NoPaper")) (tConsD (tIsX 2 a (isx c "NoReading")) (tConsD (tIsX 2 a (isx c "NoRow")) tNilD))))))
        (tSeqD (tSetD 3 (tBin gAdd (tVarD 3) (tLstD (tConsD (tIsX 2 a (isx c "NoSpot")) (tConsD (tIsX 2 a (isx c "NoText")) (tConsD (tIsX 2 a (isx c "NoThing")) tNilD))))))
        (tSeqD (tSetD 3 (tBin gAdd (tVarD 3) (tLstD (tConsD (tIsX 2 a (isx c "TooMany")) (tConsD (tIsX 2 a (isx c "Twice")) tNilD)))))
        (tSeqD (tIfD (tAndD (tTru (tIsX 2 a (isx c "Wrong"))) (tAndD (tTru (tIsX 2 a (isx c "ValueError"))) (tTst (tBin gNMem (tCD (.bool true)) (tVarD 3))))) (tRetD (tTupD (tConsD (tCD (.str "refused")) (tConsD (tAtX 2 a x) tNilD)))) (fun d env => d.nx env))
        (tRetD (tTupD (tConsD (tCD (.str "odd")) (tConsD (tCD (.int 0)) tNilD)))))))))) (fun _ _ _ _ => False) (fun R => (tRetD (tTupD (tConsD (tCD (.str "told")) (tConsD (tUseX sp__law_call R (tConsD (tVarD 0) (tConsD (tVarD 1) tNilD))) tNilD))))))
def sp__law_asked : DSp := fun us P => ∃ w some, us = [.d (.int w), .d (.list some)] ∧ ((Good w some ∧ P (.d (.tuple [.str "told", dueV w some]))) ∨ ∃ k, Bd w k some ∧ P (.d (.tuple [.str "refused", .int k])))
theorem vc__law_asked : ∀ dvs Q, sp__law_asked dvs Q → dvs.length = 2 ∧ rd__law_asked { nx := fun _ => Q (.d .none), rt := Q } (startD N__law_asked dvs) := by
  rintro dvs Q ⟨w, some, rfl, h⟩
  refine ⟨rfl, ?_⟩
  unfold rd__law_asked
  refine ⟨noOw_ok _ rfl, ?_⟩
  walk_at "dl"
  refine ⟨w, some, rfl, ?_⟩
  rcases h with ⟨g, q⟩ | ⟨k, b, q⟩
  · refine .inl ⟨g, ?_⟩
    walk_at "dl"
    exact ⟨by decide, q⟩
  · refine .inr ⟨k, b, ?_⟩
    refine ⟨by decide, fun _ => ⟨noOw_ok _ rfl, fun a => ?_⟩, fun z => nomatch z⟩
    refine seqG fun R hR => ?_
    walk_at "dl"
    refine ⟨by decide, fun l1 => hR _ (seqG fun R hR => ?_)⟩
    walk_at "dl"
    refine ⟨by decide, by decide, fun l2 => hR _ (seqG fun R hR => ?_)⟩
    walk_at "dl"
    refine ⟨by decide, by decide, fun l3 => hR _ (seqG fun R hR => ?_)⟩
    walk_at "dl"
    refine ⟨by decide, by decide, fun l4 => hR _ (seqG fun R hR => ?_)⟩
    walk_at "dl"
    rw [show isx "Wrong" "NoChain" = false from by decide +kernel]
    rw [show isx "Wrong" "NoDeed" = false from by decide +kernel]
    rw [show isx "Wrong" "NoOff" = false from by decide +kernel]
    rw [show isx "Wrong" "NoOffer" = false from by decide +kernel]
    rw [show isx "Wrong" "NoPaper" = false from by decide +kernel]
    rw [show isx "Wrong" "NoReading" = false from by decide +kernel]
    rw [show isx "Wrong" "NoRow" = false from by decide +kernel]
    rw [show isx "Wrong" "NoSpot" = false from by decide +kernel]
    rw [show isx "Wrong" "NoText" = false from by decide +kernel]
    rw [show isx "Wrong" "NoThing" = false from by decide +kernel]
    rw [show isx "Wrong" "TooMany" = false from by decide +kernel]
    rw [show isx "Wrong" "Twice" = false from by decide +kernel]
    rw [show isx "Wrong" "Wrong" = true from by decide +kernel, show isx "Wrong" "ValueError" = true from by decide +kernel]
    simp only [if_true]
    refine ⟨rfl, rfl, ?_⟩
    rw [show inV (toV (.bool true)) (List.map toV [.bool false, .bool false, .bool false, .bool false, .bool false, .bool false, .bool false, .bool false, .bool false, .bool false, .bool false, .bool false]) = false from by decide +kernel]
    exact ⟨by decide, q⟩
section
variable {ts : List Addr} {P : Program} {w : World} {K : PySem.W.Frag} {mg : Str → Option Value} {base : Heap}
theorem ok__law_asked {f : Addr} {fd : FuncData} (Fn : L2.Fun K "_law_asked" "_law_asked" s__law_asked f fd) {f__law_call : Addr} (g__law_call : Fg P w K mg base (L2.CX P w) 6 f__law_call (PmX mg K ts sp__law_call)) (m__law_call : mg "_law_call" = some (.ref f__law_call)) (p__law_call : PySem.W.keepIn K (.ref f__law_call) = true) (z_isinstance : mg "isinstance" = none) (z_ValueError : mg "ValueError" = none) {C_Wrong C_ChainError C_NoOffer C_NoOff C_NoDeed C_NoChain C_NoRow C_NoReading C_NoPaper C_NoThing C_NoText C_NoSpot C_Twice C_TooMany : Addr} (m_Wrong : mg "Wrong" = some (.ref C_Wrong)) (m_ChainError : mg "ChainError" = some (.ref C_ChainError)) (ex_Wrong : ExcC K C_Wrong) (xf_Wrong : XfC K C_Wrong) (nf_Wrong : PySem.W.findIn K (.ref C_Wrong) "at" = some none) (em_Wrong_ChainError : PySem.W.exmOne K (.ref C_Wrong) (.ref C_ChainError) = some true) (m_NoOffer : mg "NoOffer" = some (.ref C_NoOffer)) (kt_Wrong_NoOffer : PySem.W.kitOne K (.ref C_Wrong) (.ref C_NoOffer) = some (isx "Wrong" "NoOffer")) (m_NoOff : mg "NoOff" = some (.ref C_NoOff)) (kt_Wrong_NoOff : PySem.W.kitOne K (.ref C_Wrong) (.ref C_NoOff) = some (isx "Wrong" "NoOff")) (m_NoDeed : mg "NoDeed" = some (.ref C_NoDeed)) (kt_Wrong_NoDeed : PySem.W.kitOne K (.ref C_Wrong) (.ref C_NoDeed) = some (isx "Wrong" "NoDeed")) (m_NoChain : mg "NoChain" = some (.ref C_NoChain)) (kt_Wrong_NoChain : PySem.W.kitOne K (.ref C_Wrong) (.ref C_NoChain) = some (isx "Wrong" "NoChain")) (m_NoRow : mg "NoRow" = some (.ref C_NoRow)) (kt_Wrong_NoRow : PySem.W.kitOne K (.ref C_Wrong) (.ref C_NoRow) = some (isx "Wrong" "NoRow")) (m_NoReading : mg "NoReading" = some (.ref C_NoReading)) (kt_Wrong_NoReading : PySem.W.kitOne K (.ref C_Wrong) (.ref C_NoReading) = some (isx "Wrong" "NoReading")) (m_NoPaper : mg "NoPaper" = some (.ref C_NoPaper)) (kt_Wrong_NoPaper : PySem.W.kitOne K (.ref C_Wrong) (.ref C_NoPaper) = some (isx "Wrong" "NoPaper")) (m_NoThing : mg "NoThing" = some (.ref C_NoThing)) (kt_Wrong_NoThing : PySem.W.kitOne K (.ref C_Wrong) (.ref C_NoThing) = some (isx "Wrong" "NoThing")) (m_NoText : mg "NoText" = some (.ref C_NoText)) (kt_Wrong_NoText : PySem.W.kitOne K (.ref C_Wrong) (.ref C_NoText) = some (isx "Wrong" "NoText")) (m_NoSpot : mg "NoSpot" = some (.ref C_NoSpot)) (kt_Wrong_NoSpot : PySem.W.kitOne K (.ref C_Wrong) (.ref C_NoSpot) = some (isx "Wrong" "NoSpot")) (m_Twice : mg "Twice" = some (.ref C_Twice)) (kt_Wrong_Twice : PySem.W.kitOne K (.ref C_Wrong) (.ref C_Twice) = some (isx "Wrong" "Twice")) (m_TooMany : mg "TooMany" = some (.ref C_TooMany)) (kt_Wrong_TooMany : PySem.W.kitOne K (.ref C_Wrong) (.ref C_TooMany) = some (isx "Wrong" "TooMany")) (kt_Wrong_Wrong : PySem.W.kitOne K (.ref C_Wrong) (.ref C_Wrong) = some (isx "Wrong" "Wrong")) (kt_Wrong_ValueError : PySem.W.kitOne K (.ref C_Wrong) (.type "ValueError") = some (isx "Wrong" "ValueError")) : Fg P w K mg base (L2.CX P w) 7 f (Pm K ts sp__law_asked) := d_def Fn sc__law_asked (fun _ _ _ _ _ _ us hl => match us, hl with | [_, _], _ => rfl) sp__law_asked rd__law_asked (fun cdv A outer s H E wn hcd ht ag hr => by
  have S := sc__law_asked
  have hu := hr.units
  exact (dss_one (ds_tryAs (i := 2) (E := fun _ _ _ _ => False) (R := fun _ _ _ _ => False) (cs := [("Wrong", "at")]) (exm := fun _ => true) rfl rfl S.nd rfl rfl ⟨by rfl, by decide, .inl m_ChainError⟩ takes0 (fun _ _ _ _ _ _ _ _ _ _ _ _ _ _ _ _ _ h => h) (fun q hq C hC => by
        have e := List.mem_singleton.mp hq
        subst e
        cases Value.ref.inj (Option.some.inj (hC.symm.trans m_Wrong))
        exact em_Wrong_ChainError) (fun pn xe E R w' hw tk hE => by
        have ht := (congrArg Bg.ts hw).trans ht
        exact (dss_one (ds_ret (d_tup (da_cons d_str (da_cons (d_useX g__law_call ht ag (hr.mono (by decide)) (fun σ => passAt tk σ) hE (by rfl) m__law_call p__law_call (da_cons (d_var 0) (da_cons (d_var 1) da_nil))) da_nil)))))) (fun a oe pn c C n x v dd w' hw hcs hc wd hd rp hz hf => by
        have ht := (congrArg Bg.ts hw).trans ht
        obtain ⟨rfl, rfl⟩ := Prod.mk.inj (List.mem_singleton.mp hcs)
        cases Value.ref.inj (Option.some.inj (hc.symm.trans m_Wrong))
        exact (dss_cons (ds_set (i := 3) S.nd rfl (by first | exact Or.inl rfl | exact Or.inr rfl) (d_lst (da_cons (d_isX ex_Wrong hz hf wd hd (by rfl) z_isinstance (pv 2) (pe_glob (v := .ref C_NoChain) (by rfl) m_NoChain rfl) (fun u h => h) kt_Wrong_NoChain) (da_cons (d_isX ex_Wrong hz hf wd hd (by rfl) z_isinstance (pv 2) (pe_glob (v := .ref C_NoDeed) (by rfl) m_NoDeed rfl) (fun u h => h) kt_Wrong_NoDeed) (da_cons (d_isX ex_Wrong hz hf wd hd (by rfl) z_isinstance (pv 2) (pe_glob (v := .ref C_NoOff) (by rfl) m_NoOff rfl) (fun u h => h) kt_Wrong_NoOff) (da_cons (d_isX ex_Wrong hz hf wd hd (by rfl) z_isinstance (pv 2) (pe_glob (v := .ref C_NoOffer) (by rfl) m_NoOffer rfl) (fun u h => h) kt_Wrong_NoOffer) da_nil))))))
        (dss_cons (ds_set (i := 3) S.nd rfl (by first | exact Or.inl rfl | exact Or.inr rfl) (d_bin o_add (d_var 3) (d_lst (da_cons (d_isX ex_Wrong hz hf wd hd (by rfl) z_isinstance (pv 2) (pe_glob (v := .ref C_NoPaper) (by rfl) m_NoPaper rfl) (fun u h => h) kt_Wrong_NoPaper) (da_cons (d_isX ex_Wrong hz hf wd hd (by rfl) z_isinstance (pv 2) (pe_glob (v := .ref C_NoReading) (by rfl) m_NoReading rfl) (fun u h => h) kt_Wrong_NoReading) (da_cons (d_isX ex_Wrong hz hf wd hd (by rfl) z_isinstance (pv 2) (pe_glob (v := .ref C_NoRow) (by rfl) m_NoRow rfl) (fun u h => h) kt_Wrong_NoRow) da_nil))))))
        (dss_cons (ds_set (i := 3) S.nd rfl (by first | exact Or.inl rfl | exact Or.inr rfl) (d_bin o_add (d_var 3) (d_lst (da_cons (d_isX ex_Wrong hz hf wd hd (by rfl) z_isinstance (pv 2) (pe_glob (v := .ref C_NoSpot) (by rfl) m_NoSpot rfl) (fun u h => h) kt_Wrong_NoSpot) (da_cons (d_isX ex_Wrong hz hf wd hd (by rfl) z_isinstance (pv 2) (pe_glob (v := .ref C_NoText) (by rfl) m_NoText rfl) (fun u h => h) kt_Wrong_NoText) (da_cons (d_isX ex_Wrong hz hf wd hd (by rfl) z_isinstance (pv 2) (pe_glob (v := .ref C_NoThing) (by rfl) m_NoThing rfl) (fun u h => h) kt_Wrong_NoThing) da_nil))))))
        (dss_cons (ds_set (i := 3) S.nd rfl (by first | exact Or.inl rfl | exact Or.inr rfl) (d_bin o_add (d_var 3) (d_lst (da_cons (d_isX ex_Wrong hz hf wd hd (by rfl) z_isinstance (pv 2) (pe_glob (v := .ref C_TooMany) (by rfl) m_TooMany rfl) (fun u h => h) kt_Wrong_TooMany) (da_cons (d_isX ex_Wrong hz hf wd hd (by rfl) z_isinstance (pv 2) (pe_glob (v := .ref C_Twice) (by rfl) m_Twice rfl) (fun u h => h) kt_Wrong_Twice) da_nil)))))
        (dss_cons (ds_if (dt_w (dw_and (dt_e (d_isX ex_Wrong hz hf wd hd (by rfl) z_isinstance (pv 2) (pe_glob (v := .ref C_Wrong) (by rfl) m_Wrong rfl) (fun u h => h) kt_Wrong_Wrong)) (dw_and (dt_e (d_isX ex_Wrong hz hf wd hd (by rfl) z_isinstance (pv 2) (pe_bltn (v := .ty "ValueError") (by rfl) z_ValueError (by decide +kernel) rfl) (fun u h => h) kt_Wrong_ValueError)) (dw_and1 (dt_cmp o_nin d_bl (d_var 3)))))) (dss_one (ds_ret (d_tup (da_cons d_str (da_cons (d_atX xf_Wrong nf_Wrong hz hf wd hd rp (pv 2)) da_nil))))) dss_nil)
        (dss_one (ds_ret (d_tup (da_cons d_str (da_cons d_int da_nil)))))))))))))) vc__law_asked
end
/-! law -/
abbrev s_law : Stmt := topS 52
abbrev N_law : List Str := ["_law_script", "_law_bag_here", "_law_start", "_law_turn", "_law_way", "_law_which", "_law_first", "_law_second", "_law_some", "_law_good_here", "_law_kept", "_law_due_here", "_law_k"]
theorem sc_law : FnScope N_law ["_law_script"] (defScope s_law) := ⟨rfl, rfl, rfl, by decide +kernel, rfl, by decide +kernel, by decide +kernel⟩
def rd_law : DS := (tSeqD (tSetD 2 (tUse sp__law_take (tConsD (tVarD 1) (tConsD (tCD (.int 8)) tNilD))))
    (tSeqD (tForD (gnD 3) (itR1 (tConsD (tCD (.int 14)) tNilD)) (tSeqD (tSetD 4 (tUse sp__law_take (tConsD (tVarD 1) (tConsD (tCD (.int 5)) tNilD))))
        (tSeqD (tSetD 5 (tBin gMod (tBin gAdd (tVarD 2) (tBin gMul (tCD (.int 3)) (tVarD 3))) (tCD (.int 8))))
        (tSeqD (tSetD 6 (tBin gMem (tVarD 4) (tTupD (tConsD (tCD (.int 0)) (tConsD (tCD (.int 2)) tNilD)))))
        (tSeqD (tSetD 7 (tAnV (tBin gMem (tVarD 4) (tTupD (tConsD (tCD (.int 1)) (tConsD (tCD (.int 2)) tNilD)))) (tBin gLt (tVarD 5) (tCD (.int 5)))))
        (tSeqD (tSetD 8 (tUse sp__law_arguments (tConsD (tVarD 1) (tConsD (tVarD 5) (tConsD (tVarD 6) (tConsD (tVarD 7) tNilD))))))
        (tSeqD (tSetD 9 (tUse sp__law_arguments (tConsD (tVarD 1) (tConsD (tVarD 5) (tConsD (tCD (.bool false)) (tConsD (tCD (.bool false)) tNilD))))))
        (tSeqD (fun d env => (fun d env => (tSetD 10 (tCallD cRepr (tConsD (tVarD 8) tNilD))) d (frzS 8 env)) d (frzS 9 env))
        (tSeqD (tIfD (tOrD (tTru (tVarD 6)) (tTru (tVarD 7))) (tSetD 11 (tTupD (tConsD (tCD (.str "refused")) (tConsD (tCallD cInt (tConsD (tNoV (tVarD 6)) tNilD)) tNilD)))) (tSetD 11 (tTupD (tConsD (tCD (.str "told")) (tConsD (tUse sp__law_due (tConsD (tVarD 5) (tConsD (tVarD 8) tNilD))) tNilD)))))
        (tForD (gnD 12) (itR1 (tConsD (tCD (.int 2)) tNilD)) (tSeqD (tIfD (tOrD (tNotD (tTru (tUse sp__law_alike (tConsD (tUse sp__law_asked (tConsD (tVarD 5) (tConsD (tVarD 8) tNilD))) (tConsD (tVarD 11) tNilD))))) (tTst (tBin (gEqv not) (tCallD cRepr (tConsD (tVarD 8) tNilD)) (tVarD 10)))) (tRetD (tCD (.bool false))) (fun d env => d.nx env))
            (tIfD (tNotD (tTru (tUse sp__law_alike (tConsD (tUse sp__law_asked (tConsD (tVarD 5) (tConsD (tVarD 9) tNilD))) (tConsD (tTupD (tConsD (tCD (.str "told")) (tConsD (tUse sp__law_due (tConsD (tVarD 5) (tConsD (tVarD 9) tNilD))) tNilD))) tNilD))))) (tRetD (tCD (.bool false))) (fun d env => d.nx env)))))))))))))
    (tRetD (tCD (.bool true)))))
theorem due_sn {w : Int} {some : List PyData} (g : Good w some) : Sn 1 2000 (dueV w some) ∧ Ly 1 (dueV w some) ∧ noL (dueV w some) = true := by
  have frs : ∀ {t b : Int}, b ≠ 0 → t.natAbs < 2 ^ 900 → b.natAbs < 2 ^ 900 → Sn 1 2000 (fr t b) := fun {t b} hb lt lb => by
    obtain ⟨k1, k2⟩ := lo_ok (t := t) hb
    have k := fk_of k1 hb k2 lt lb
    refine (sn_tup (xs := [.int (loT t b), .int (loB t b)]) (n := 0) (k := 901) (m := 2) (fun z hz => ?_) (by simp)).up
    simp only [List.mem_cons, List.not_mem_nil, or_false] at hz
    rcases hz with rfl | rfl
    · exact sn_int k.t
    · exact sn_int k.b
  have frl : ∀ t b : Int, Ly 1 (fr t b) := fun t b => ly2 _ _
  rcases g with ⟨rfl, t, b, rfl, hb, lt, lb⟩ | ⟨w1, w2, x, y, rfl, ⟨p, q, rfl, f⟩, ⟨u, v, rfl, g⟩⟩ | ⟨w1, w2, a, xs, rfl, hl, hf⟩
  · exact ⟨frs hb (two_le lt (by decide)) (two_le lb (by decide)), frl _ _, rfl⟩
  · have qv := mul_ne f.pos g.pos
    have l1 := natAbs_mul_lt f.b g.b
    simp only [dueV]
    split
    · exact ⟨frs qv (two_le (sum_lt f.t f.b g.t g.b) (by decide)) (two_le l1 (by decide)), frl _ _, rfl⟩
    · split
      · exact ⟨frs qv (two_le (dif_lt f.t f.b g.t g.b) (by decide)) (two_le l1 (by decide)), frl _ _, rfl⟩
      · split
        · exact ⟨frs qv (two_le (natAbs_mul_lt f.t g.t) (by decide)) (two_le l1 (by decide)), frl _ _, rfl⟩
        · refine ⟨(sn_int (j := 12) ?_).up, (ly_int _).up, rfl⟩
          unfold cmpT
          split
          · decide
          · split <;> decide
  · obtain ⟨d0, d1⟩ := prodB_pos hf
    have hx := prodB_frd hf
    rw [List.length_cons] at d1
    have hD2 : (prodB (a :: xs)).natAbs < 2 ^ 200 := two_le d1 (by omega)
    have tl := tot_lt (by rw [List.length_cons]; omega) hx hD2
    have ts : (totD (prodB (a :: xs)) (a :: xs)).natAbs < 2 ^ 810 := by
      rw [← totD_map]
      exact Nat.lt_of_le_of_lt (aS_sum _) tl
    have fa := hf a (List.mem_cons_self ..)
    have sl : ∀ s, Sn 1 2000 (sel s (a :: xs) a) ∧ Ly 1 (sel s (a :: xs) a) ∧ noL (sel s (a :: xs) a) = true := fun s => by
      obtain ⟨p, q, e, k⟩ := sel_fr (s := s) (fun x hx => (hf x hx).frl) fa.frl
      rw [e]
      refine ⟨(sn_tup (xs := [.int p, .int q]) (n := 0) (k := 211) (m := 2) (fun z hz => ?_) (by simp)).up, ly2 _ _, rfl⟩
      simp only [List.mem_cons, List.not_mem_nil, or_false] at hz
      rcases hz with rfl | rfl
      · exact sn_int k.t
      · exact sn_int k.b
    simp only [dueV]
    split
    · exact ⟨frs (Int.ne_of_gt d0) (two_le ts (by decide)) (two_le hD2 (by decide)), frl _ _, rfl⟩
    · split
      · exact sl _
      · exact sl _
theorem told_sn {w : Int} {some : List PyData} (g : Good w some) : Sh (.tuple [.str "told", dueV w some]) ∧ selfEq (.tuple [.str "told", dueV w some]) := by
  obtain ⟨a, b, _⟩ := due_sn g
  refine ⟨(sn_tup (xs := [.str "told", dueV w some]) (n := 1) (k := 2000) (m := 2) (fun z hz => ?_) (by simp)).sh, (ly_tup (n := 1) fun z hz => ?_).selfEq⟩
  · simp only [List.mem_cons, List.not_mem_nil, or_false] at hz
    rcases hz with rfl | rfl
    · exact (sn_str (k := 18) (by decide +kernel)).up
    · exact a
  · simp only [List.mem_cons, List.not_mem_nil, or_false] at hz
    rcases hz with rfl | rfl
    · exact (ly_str (x := "told")).up
    · exact b
theorem no_sn {k : Int} (hk : k = 0 ∨ k = 1) : Sh (.tuple [.str "refused", .int k]) ∧ selfEq (.tuple [.str "refused", .int k]) := by
  refine ⟨(sn_tup (xs := [.str "refused", .int k]) (n := 0) (k := 18) (m := 2) (fun z hz => ?_) (by simp)).sh, (ly_tup (n := 0) fun z hz => ?_).selfEq⟩
  · simp only [List.mem_cons, List.not_mem_nil, or_false] at hz
    rcases hz with rfl | rfl
    · exact sn_str (by decide +kernel)
    · exact (sn_int (j := 12) (by rcases hk with rfl | rfl <;> decide)).up
  · simp only [List.mem_cons, List.not_mem_nil, or_false] at hz
    rcases hz with rfl | rfl
    · exact ly_str
    · exact ly_int _
theorem vc_law : rd_law { nx := fun _ => False, rt := fun dv => dv = .d (.bool true) } (.un :: .bag :: List.replicate 11 .un) := by
  unfold rd_law
  refine seqG fun R hR => ?_
  walk_at "dl"
  refine ⟨8, rfl, by decide, by decide, fun st st0 st1 => ?_⟩
  walk_at "dl"
  refine hR _ (seqG fun R hR => ?_)
  walk_at "dl"
  refine ⟨by decide, ?_⟩
  refine forD_ind (fun zs env => (∃ s3 s4 s5 s6 s7 s8 s9 s10 s11 s12, env = [.un, .bag, .d (.int st), s3, s4, s5, s6, s7, s8, s9, s10, s11, s12]) ∧ ∀ z ∈ zs, ∃ i : Int, z = .int i ∧ 0 ≤ i ∧ i < 14) (fun env hI => ?_) (fun x zs env R2 hI hR2 => ?_) _ _ ⟨⟨_, _, _, _, _, _, _, _, _, _, rfl⟩, fun z hz => ?_⟩
  · obtain ⟨⟨s3, s4, s5, s6, s7, s8, s9, s10, s11, s12, rfl⟩, _⟩ := hI
    refine hR _ ?_
    walk_at "dl"
  · obtain ⟨⟨s3, s4, s5, s6, s7, s8, s9, s10, s11, s12, rfl⟩, hz⟩ := hI
    obtain ⟨turn, rfl, t0, t1⟩ := hz x (List.mem_cons_self ..)
    have hz2 := fun y hy => hz y (List.mem_cons_of_mem _ hy)
    clear hz hR
    refine seqG fun R hR => ?_
    walk_at "dl"
    refine ⟨5, rfl, by decide, by decide, fun way w0 w1 => ?_⟩
    walk_at "dl"
    refine hR _ (seqG fun R hR => ?_)
    walk_at "dl"
    obtain ⟨which, ew, wh0, wh1⟩ : ∃ which, which = (st + 3 * turn).fmod 8 ∧ 0 ≤ which ∧ which < 8 := ⟨_, rfl, by rw [Int.fmod_eq_emod_of_nonneg _ (by decide)]; omega, by rw [Int.fmod_eq_emod_of_nonneg _ (by decide)]; omega⟩
    refine ⟨mul_log (m := 2) (n := 5) (by decide) (by omega) (by decide) (by decide) (by decide), by decide, ?_⟩
    rw [← ew]
    refine hR _ (seqG fun R hR => ?_)
    clear ew
    walk_at "dl"
    refine ⟨by decide, rfl, rfl, ?_⟩
    generalize inV (toV (.int way)) (List.map toV [.int 0, .int 2]) = fst
    refine hR _ (seqG fun R hR => ?_)
    walk_at "dl"
    refine ⟨by decide, rfl, rfl, ?_⟩
    have rest : ∀ snd : Bool, (snd = true → which < 5) → R [.un, .bag, .d (.int st), .d (.int turn), .d (.int way), .d (.int which), .d (.bool fst), .d (.bool snd), s8, s9, s10, s11, s12] := fun snd hs => by
      refine hR _ (seqG fun R hR => ?_)
      walk_at "dl"
      refine ⟨which, fst, snd, rfl, wh0, wh1, hs, fun some sn gd bd => ?_⟩
      walk_at "dl"
      intro l1
      refine hR _ (seqG fun R hR => ?_)
      walk_at "dl"
      refine ⟨which, false, false, rfl, wh0, wh1, (fun e => nomatch e), fun some2 sn2 gd2 _ => ?_⟩
      have g2 := gd2 rfl rfl
      clear gd2
      walk_at "dl"
      intro l2
      refine hR _ (seqG fun R hR => ?_)
      walk_at "dl"
      refine ⟨sn.sh, hR _ (seqG fun R hR => ?_)⟩
      have main : ∀ due : PyData, Sh due → selfEq due → ((Good which some ∧ due = .tuple [.str "told", dueV which some]) ∨ ∃ k, (k = 0 ∨ k = 1) ∧ Bd which k some ∧ due = .tuple [.str "refused", .int k]) →
          R [.un, .bag, .d (.int st), .d (.int turn), .d (.int way), .d (.int which), .d (.bool fst), .d (.bool snd), .d (.list some), .d (.list some2), .d (.str (PyData.list some).shown), .d due, s12] := fun due shd sed hd => by
        refine hR _ ?_
        walk_at "dl"
        refine ⟨by decide, ?_⟩
        refine forD_ind (fun zs env => ∃ s12, env = [.un, .bag, .d (.int st), .d (.int turn), .d (.int way), .d (.int which), .d (.bool fst), .d (.bool snd), .d (.list some), .d (.list some2), .d (.str (PyData.list some).shown), .d due, s12]) (fun env hI => ?_) (fun x zs env R3 hI hR3 => ?_) _ _ ⟨_, rfl⟩
        · obtain ⟨s12, rfl⟩ := hI
          exact hR2 _ ⟨⟨_, _, _, _, _, _, _, _, _, _, rfl⟩, hz2⟩
        · obtain ⟨s12, rfl⟩ := hI
          refine seqG fun R hR => ?_
          walk_at "dl"
          refine ⟨which, some, rfl, ?_⟩
          rcases hd with ⟨g, e⟩ | ⟨k, _, b, e⟩
          refine .inl ⟨g, ?_⟩
          rotate_left
          refine .inr ⟨k, b, ?_⟩
          all_goals
            rw [← e]
            walk_at "dl"
            refine ⟨due, rfl, sed, shd, ?_⟩
            walk_at "dl"
            refine ⟨sn.sh, ?_⟩
            simp only [decide_true, Bool.not_true, Bool.false_eq_true, if_false]
            refine hR _ ?_
            obtain ⟨t1, t2⟩ := told_sn g2
            walk_at "dl"
            refine ⟨which, some2, rfl, .inl ⟨g2, ?_⟩⟩
            walk_at "dl"
            refine ⟨which, some2, rfl, g2, ?_⟩
            walk_at "dl"
            refine ⟨by decide, _, rfl, t2, t1, ?_⟩
            walk_at "dl"
            exact hR3 _ ⟨_, rfl⟩
      walk_at "dl"
      cases fst with
      | true =>
        simp only [if_true]
        obtain ⟨n1, n2⟩ := no_sn (k := 0) (.inl rfl)
        exact ⟨by decide, main _ n1 n2 (.inr ⟨0, .inl rfl, bd (.inl rfl), rfl⟩)⟩
      | false =>
        simp only [Bool.false_eq_true, if_false]
        cases snd with
        | true =>
          simp only [if_true]
          obtain ⟨n1, n2⟩ := no_sn (k := 1) (.inr rfl)
          exact ⟨by decide, main _ n1 n2 (.inr ⟨1, .inr rfl, bd (.inr rfl), rfl⟩)⟩
        | false =>
          simp only [Bool.false_eq_true, if_false]
          have g1 := gd rfl rfl
          obtain ⟨t1, t2⟩ := told_sn g1
          refine ⟨which, some, rfl, g1, ?_⟩
          walk_at "dl"
          exact ⟨by decide, main _ t1 t2 (.inl ⟨g1, rfl⟩)⟩
    generalize inV (toV (.int way)) (List.map toV [.int 1, .int 2]) = b2
    walk_at "dl"
    cases b2 with
    | true =>
      simp only [if_true]
      exact rest _ fun e => of_decide_eq_true e
    | false =>
      simp only [Bool.false_eq_true, if_false]
      exact rest _ fun e => nomatch e
  · obtain ⟨i, hi, rfl⟩ := mem_rngD hz
    have hi : i < 14 := hi
    exact ⟨_, rfl, by omega, by omega⟩
section
variable {ts : List Addr} {P : Program} {w : World} {K : PySem.W.Frag} {mg : Str → Option Value} {base : Heap}
theorem ok_law {f : Addr} {fd : FuncData} (Fn : L2.Fun K "law" "law" s_law f fd) {f__law_bag : Addr} (g__law_bag : Fg P w K mg base (L2.CX P w) 1 f__law_bag (spBag K)) (m__law_bag : mg "_law_bag" = some (.ref f__law_bag)) (p__law_bag : PySem.W.keepIn K (.ref f__law_bag) = true) {f__law_take : Addr} (g__law_take : Fg P w K mg base (L2.CX P w) 1 f__law_take (Pm K ts sp__law_take)) (m__law_take : mg "_law_take" = some (.ref f__law_take)) (p__law_take : PySem.W.keepIn K (.ref f__law_take) = true) {f__law_arguments : Addr} (g__law_arguments : Fg P w K mg base (L2.CX P w) 5 f__law_arguments (Pm K ts sp__law_arguments)) (m__law_arguments : mg "_law_arguments" = some (.ref f__law_arguments)) (p__law_arguments : PySem.W.keepIn K (.ref f__law_arguments) = true) {f__law_due : Addr} (g__law_due : Fg P w K mg base (L2.CX P w) 2 f__law_due (Pm K ts sp__law_due)) (m__law_due : mg "_law_due" = some (.ref f__law_due)) (p__law_due : PySem.W.keepIn K (.ref f__law_due) = true) {f__law_alike : Addr} (g__law_alike : Fg P w K mg base (L2.CX P w) 1 f__law_alike (Pm K ts sp__law_alike)) (m__law_alike : mg "_law_alike" = some (.ref f__law_alike)) (p__law_alike : PySem.W.keepIn K (.ref f__law_alike) = true) {f__law_asked : Addr} (g__law_asked : Fg P w K mg base (L2.CX P w) 7 f__law_asked (Pm K ts sp__law_asked)) (m__law_asked : mg "_law_asked" = some (.ref f__law_asked)) (p__law_asked : PySem.W.keepIn K (.ref f__law_asked) = true) (z_range : mg "range" = none) (z_repr : mg "repr" = none) (z_int : mg "int" = none) : Fg P w K mg base (L2.CX P w) 8 f (spLaw K ts) := law_ok (z1 := "_law_bag_here") (n := 11) Fn sc_law rfl (fun _ _ _ _ _ _ us hl => match us, hl with | [_], _ => rfl) rd_law (fun cdv A outer s H E ag hr => by
  have S := sc_law
  have hu := hr.units
  exact pss_cons (ps_set (i := 1) S.nd rfl (by first | exact Or.inl rfl | exact Or.inr rfl) (g_call g__law_bag ag (hr.mono (by decide)) passZ (by rfl) m__law_bag p__law_bag (pa_cons (pv 0) pa_nil)))
    (pss_any fun wn ht => (dss_cons (ds_set (i := 2) S.nd rfl (by first | exact Or.inl rfl | exact Or.inr rfl) (d_use g__law_take ht ag (hr.mono (by decide)) passZ (by rfl) m__law_take p__law_take (da_cons (d_var 1) (da_cons d_int da_nil))))
    (dss_cons (ds_for PassesOwn.never rfl (di_r1 (by rfl) z_range (da_cons d_int da_nil)) (dg_name (i := 3) S.nd rfl (by first | exact Or.inl rfl | exact Or.inr rfl)) (dss_cons (ds_set (i := 4) S.nd rfl (by first | exact Or.inl rfl | exact Or.inr rfl) (d_use g__law_take ht ag (hr.mono (by decide)) passZ (by rfl) m__law_take p__law_take (da_cons (d_var 1) (da_cons d_int da_nil))))
        (dss_cons (ds_set (i := 5) S.nd rfl (by first | exact Or.inl rfl | exact Or.inr rfl) (d_bin o_mod (d_bin o_add (d_var 2) (d_bin o_mul d_int (d_var 3))) d_int))
        (dss_cons (ds_set (i := 6) S.nd rfl (by first | exact Or.inl rfl | exact Or.inr rfl) (d_cmp o_in (d_var 4) (d_tup (da_cons d_int (da_cons d_int da_nil)))))
        (dss_cons (ds_set (i := 7) S.nd rfl (by first | exact Or.inl rfl | exact Or.inr rfl) (d_and (d_cmp o_in (d_var 4) (d_tup (da_cons d_int (da_cons d_int da_nil)))) (d_one (d_cmp o_lt (d_var 5) d_int))))
        (dss_cons (ds_set (i := 8) S.nd rfl (by first | exact Or.inl rfl | exact Or.inr rfl) (d_use g__law_arguments ht ag (hr.mono (by decide)) passZ (by rfl) m__law_arguments p__law_arguments (da_cons (d_var 1) (da_cons (d_var 5) (da_cons (d_var 6) (da_cons (d_var 7) da_nil))))))
        (dss_cons (ds_set (i := 9) S.nd rfl (by first | exact Or.inl rfl | exact Or.inr rfl) (d_use g__law_arguments ht ag (hr.mono (by decide)) passZ (by rfl) m__law_arguments p__law_arguments (da_cons (d_var 1) (da_cons (d_var 5) (da_cons d_bl (da_cons d_bl da_nil))))))
        (dss_cons (ds_frz 9 (ds_frz 8 (ds_set (i := 10) S.nd rfl (by first | exact Or.inl rfl | exact Or.inr rfl) (d_callB (k_repr ag hu) (by rfl) z_repr (by decide +kernel) (da_cons (d_var 8) da_nil)))))
        (dss_cons (ds_if (dt_w (dw_or (dt_e (d_var 6)) (dw_or1 (dt_e (d_var 7))))) (dss_one (ds_set (i := 11) S.nd rfl (by first | exact Or.inl rfl | exact Or.inr rfl) (d_tup (da_cons d_str (da_cons (d_callTy k_int (by rfl) z_int (by decide +kernel) (da_cons (d_not (d_var 6)) da_nil)) da_nil))))) (dss_one (ds_set (i := 11) S.nd rfl (by first | exact Or.inl rfl | exact Or.inr rfl) (d_tup (da_cons d_str (da_cons (d_use g__law_due ht ag (hr.mono (by decide)) passZ (by rfl) m__law_due p__law_due (da_cons (d_var 5) (da_cons (d_var 8) da_nil))) da_nil))))))
        (dss_one (ds_for PassesOwn.never rfl (di_r1 (by rfl) z_range (da_cons d_int da_nil)) (dg_name (i := 12) S.nd rfl (by first | exact Or.inl rfl | exact Or.inr rfl)) (dss_cons (ds_if (dt_w (dw_or (dt_not (dt_e (d_use g__law_alike ht ag (hr.mono (by decide)) passZ (by rfl) m__law_alike p__law_alike (da_cons (d_use g__law_asked ht ag (hr.mono (by decide)) passZ (by rfl) m__law_asked p__law_asked (da_cons (d_var 5) (da_cons (d_var 8) da_nil))) (da_cons (d_var 11) da_nil))))) (dw_or1 (dt_cmp (o_ne hu) (d_callB (k_repr ag hu) (by rfl) z_repr (by decide +kernel) (da_cons (d_var 8) da_nil)) (d_var 10))))) (dss_one (ds_ret d_bl)) dss_nil)
            (dss_one (ds_if (dt_not (dt_e (d_use g__law_alike ht ag (hr.mono (by decide)) passZ (by rfl) m__law_alike p__law_alike (da_cons (d_use g__law_asked ht ag (hr.mono (by decide)) passZ (by rfl) m__law_asked p__law_asked (da_cons (d_var 5) (da_cons (d_var 9) da_nil))) (da_cons (d_tup (da_cons d_str (da_cons (d_use g__law_due ht ag (hr.mono (by decide)) passZ (by rfl) m__law_due p__law_due (da_cons (d_var 5) (da_cons (d_var 9) da_nil))) da_nil))) da_nil))))) (dss_one (ds_ret d_bl)) dss_nil))))))))))))))
    (dss_one (ds_ret d_bl)))))) vc_law
end
abbrev sI_Wrong : Stmt := inS (topS 3) 0
theorem scI_Wrong : FnScope ["self", "at"] ["self", "at"] (defScope sI_Wrong) := ⟨rfl, rfl, rfl, by decide +kernel, rfl, by decide +kernel, by decide +kernel⟩
/-! what the top has left -/
theorem all_mk {q : Program} {lo : List Str} {mean : ExcName → Option Value} {mb : Str → Option Value} {w : World} {K : PySem.W.Frag} {h : Heap} {mg : Str → Option Value} {fa : Addr} (X : K.In h) (T : PyProof.Rows.Top q lo mean mg mb h) (hfa : mg "law" = some (.ref fa))
  {f0 : Addr} {od0 an0 : Option Addr} {sl0 : Array (Option Value)} {oc0 kV0 dc0 pm0 cd0 ct0 : Value}
  {f1 : Addr} {od1 an1 : Option Addr} {sl1 : Array (Option Value)} {oc1 kV1 dc1 pm1 cd1 ct1 : Value}
  {f2 : Addr} {od2 an2 : Option Addr} {sl2 : Array (Option Value)} {oc2 kV2 dc2 pm2 cd2 ct2 : Value}
  {f3 : Addr} {od3 an3 : Option Addr} {sl3 : Array (Option Value)} {oc3 kV3 dc3 pm3 cd3 ct3 : Value}
  {f4 : Addr} {od4 an4 : Option Addr} {sl4 : Array (Option Value)} {oc4 kV4 dc4 pm4 cd4 ct4 : Value}
  {f5 : Addr} {od5 an5 : Option Addr} {sl5 : Array (Option Value)} {oc5 kV5 dc5 pm5 cd5 ct5 : Value}
  {f6 : Addr} {od6 an6 : Option Addr} {sl6 : Array (Option Value)} {oc6 kV6 dc6 pm6 cd6 ct6 : Value}
  {f7 : Addr} {od7 an7 : Option Addr} {sl7 : Array (Option Value)} {oc7 kV7 dc7 pm7 cd7 ct7 : Value}
  {f8 : Addr} {od8 an8 : Option Addr} {sl8 : Array (Option Value)} {oc8 kV8 dc8 pm8 cd8 ct8 : Value}
  {f9 : Addr} {od9 an9 : Option Addr} {sl9 : Array (Option Value)} {oc9 kV9 dc9 pm9 cd9 ct9 : Value}
  {f10 : Addr} {od10 an10 : Option Addr} {sl10 : Array (Option Value)} {oc10 kV10 dc10 pm10 cd10 ct10 : Value}
  {f11 : Addr} {od11 an11 : Option Addr} {sl11 : Array (Option Value)} {oc11 kV11 dc11 pm11 cd11 ct11 : Value}
  {f12 : Addr} {od12 an12 : Option Addr} {sl12 : Array (Option Value)} {oc12 kV12 dc12 pm12 cd12 ct12 : Value}
  {f13 : Addr} {od13 an13 : Option Addr} {sl13 : Array (Option Value)} {oc13 kV13 dc13 pm13 cd13 ct13 : Value}
  {f14 : Addr} {od14 an14 : Option Addr} {sl14 : Array (Option Value)} {oc14 kV14 dc14 pm14 cd14 ct14 : Value}
  {f15 : Addr} {od15 an15 : Option Addr} {sl15 : Array (Option Value)} {oc15 kV15 dc15 pm15 cd15 ct15 : Value}
  {f16 : Addr} {od16 an16 : Option Addr} {sl16 : Array (Option Value)} {oc16 kV16 dc16 pm16 cd16 ct16 : Value}
  {f17 : Addr} {od17 an17 : Option Addr} {sl17 : Array (Option Value)} {oc17 kV17 dc17 pm17 cd17 ct17 : Value}
  {f18 : Addr} {od18 an18 : Option Addr} {sl18 : Array (Option Value)} {oc18 kV18 dc18 pm18 cd18 ct18 : Value}
  {f19 : Addr} {od19 an19 : Option Addr} {sl19 : Array (Option Value)} {oc19 kV19 dc19 pm19 cd19 ct19 : Value}
  {f20 : Addr} {od20 an20 : Option Addr} {sl20 : Array (Option Value)} {oc20 kV20 dc20 pm20 cd20 ct20 : Value}
  {f21 : Addr} {od21 an21 : Option Addr} {sl21 : Array (Option Value)} {oc21 kV21 dc21 pm21 cd21 ct21 : Value}
  {f22 : Addr} {od22 an22 : Option Addr} {sl22 : Array (Option Value)} {oc22 kV22 dc22 pm22 cd22 ct22 : Value}
  {f23 : Addr} {od23 an23 : Option Addr} {sl23 : Array (Option Value)} {oc23 kV23 dc23 pm23 cd23 ct23 : Value}
  {cc23 P23 : Addr} {oq23 : Value} {oe23 : Option Addr} {vq23 : Array Value} {sk23 : Array (Option Value)} {dr23 : DefRec}
  {f24 : Addr} {od24 an24 : Option Addr} {sl24 : Array (Option Value)} {oc24 kV24 dc24 pm24 cd24 ct24 : Value}
  {f25 : Addr} {od25 an25 : Option Addr} {sl25 : Array (Option Value)} {oc25 kV25 dc25 pm25 cd25 ct25 : Value}
  {f26 : Addr} {od26 an26 : Option Addr} {sl26 : Array (Option Value)} {oc26 kV26 dc26 pm26 cd26 ct26 : Value}
  {f27 : Addr} {od27 an27 : Option Addr} {sl27 : Array (Option Value)} {oc27 kV27 dc27 pm27 cd27 ct27 : Value}
  {f28 : Addr} {od28 an28 : Option Addr} {sl28 : Array (Option Value)} {oc28 kV28 dc28 pm28 cd28 ct28 : Value}
  {f29 : Addr} {od29 an29 : Option Addr} {sl29 : Array (Option Value)} {oc29 kV29 dc29 pm29 cd29 ct29 : Value}
  {f30 : Addr} {od30 an30 : Option Addr} {sl30 : Array (Option Value)} {oc30 kV30 dc30 pm30 cd30 ct30 : Value}
  {f31 : Addr} {od31 an31 : Option Addr} {sl31 : Array (Option Value)} {oc31 kV31 dc31 pm31 cd31 ct31 : Value}
  {tc_LONGEST_LIST : Tok}
  {tf_NOUGHT : Addr} {ot_NOUGHT : Option Addr} {it_NOUGHT : Array Value} {nt_NOUGHT : Nat} {st_NOUGHT : Array (Option Value)}
  {C_Wrong : Addr}
  {C_ChainError : Addr}
  {C_NoOffer : Addr}
  {C_NoOff : Addr}
  {C_NoDeed : Addr}
  {C_NoChain : Addr}
  {C_NoRow : Addr}
  {C_NoReading : Addr}
  {C_NoPaper : Addr}
  {C_NoThing : Addr}
  {C_NoText : Addr}
  {C_NoSpot : Addr}
  {C_Twice : Addr}
  {C_TooMany : Addr}
  {fI_Wrong N_Wrong : Addr} {nm_Wrong q_Wrong : Str} {bs_Wrong sub_Wrong mr_Wrong : List Value} {sn_Wrong : List Str} {ab_Wrong : Bool} {col_Wrong : Option Bool} {dd_Wrong : Option Addr} {m0_Wrong m1_Wrong m2_Wrong m3_Wrong m5_Wrong : Option Value} {odI_Wrong anI_Wrong : Option Addr} {slI_Wrong : Array (Option Value)} {ocI_Wrong kVI_Wrong dcI_Wrong pmI_Wrong cdI_Wrong ctI_Wrong : Value}
  (a0 : PySem.W.nsIn K mainGlobals "_law_bag" = some (some (.ref f0))) (l0 : K.lookup f0 = some ⟨oc0, od0, .func (PySem.W.fnOf "_law_bag" "_law_bag" (defArgs s__law_bag) (defBody s__law_bag) (defScope s__law_bag) .none kV0 dc0 pm0 an0 cd0 ct0), sl0⟩) (c0 : PySem.W.codeIn K cd0 "_law_bag" = true) (k0 : PySem.W.keepIn K (.ref f0) = true)
  (a1 : PySem.W.nsIn K mainGlobals "_law_take" = some (some (.ref f1))) (l1 : K.lookup f1 = some ⟨oc1, od1, .func (PySem.W.fnOf "_law_take" "_law_take" (defArgs s__law_take) (defBody s__law_take) (defScope s__law_take) .none kV1 dc1 pm1 an1 cd1 ct1), sl1⟩) (c1 : PySem.W.codeIn K cd1 "_law_take" = true) (k1 : PySem.W.keepIn K (.ref f1) = true)
  (a2 : PySem.W.nsIn K mainGlobals "_law_number" = some (some (.ref f2))) (l2 : K.lookup f2 = some ⟨oc2, od2, .func (PySem.W.fnOf "_law_number" "_law_number" (defArgs s__law_number) (defBody s__law_number) (defScope s__law_number) .none kV2 dc2 pm2 an2 cd2 ct2), sl2⟩) (c2 : PySem.W.codeIn K cd2 "_law_number" = true) (k2 : PySem.W.keepIn K (.ref f2) = true)
  (a3 : PySem.W.nsIn K mainGlobals "_law_low" = some (some (.ref f3))) (l3 : K.lookup f3 = some ⟨oc3, od3, .func (PySem.W.fnOf "_law_low" "_law_low" (defArgs s__law_low) (defBody s__law_low) (defScope s__law_low) .none kV3 dc3 pm3 an3 cd3 ct3), sl3⟩) (c3 : PySem.W.codeIn K cd3 "_law_low" = true) (k3 : PySem.W.keepIn K (.ref f3) = true)
  (a4 : PySem.W.nsIn K mainGlobals "_law_good" = some (some (.ref f4))) (l4 : K.lookup f4 = some ⟨oc4, od4, .func (PySem.W.fnOf "_law_good" "_law_good" (defArgs s__law_good) (defBody s__law_good) (defScope s__law_good) .none kV4 dc4 pm4 an4 cd4 ct4), sl4⟩) (c4 : PySem.W.codeIn K cd4 "_law_good" = true) (k4 : PySem.W.keepIn K (.ref f4) = true)
  (a5 : PySem.W.nsIn K mainGlobals "_law_bad" = some (some (.ref f5))) (l5 : K.lookup f5 = some ⟨oc5, od5, .func (PySem.W.fnOf "_law_bad" "_law_bad" (defArgs s__law_bad) (defBody s__law_bad) (defScope s__law_bad) .none kV5 dc5 pm5 an5 cd5 ct5), sl5⟩) (c5 : PySem.W.codeIn K cd5 "_law_bad" = true) (k5 : PySem.W.keepIn K (.ref f5) = true)
  (a6 : PySem.W.nsIn K mainGlobals "_law_list" = some (some (.ref f6))) (l6 : K.lookup f6 = some ⟨oc6, od6, .func (PySem.W.fnOf "_law_list" "_law_list" (defArgs s__law_list) (defBody s__law_list) (defScope s__law_list) .none kV6 dc6 pm6 an6 cd6 ct6), sl6⟩) (c6 : PySem.W.codeIn K cd6 "_law_list" = true) (k6 : PySem.W.keepIn K (.ref f6) = true)
  (a7 : PySem.W.nsIn K mainGlobals "_law_arguments" = some (some (.ref f7))) (l7 : K.lookup f7 = some ⟨oc7, od7, .func (PySem.W.fnOf "_law_arguments" "_law_arguments" (defArgs s__law_arguments) (defBody s__law_arguments) (defScope s__law_arguments) .none kV7 dc7 pm7 an7 cd7 ct7), sl7⟩) (c7 : PySem.W.codeIn K cd7 "_law_arguments" = true) (k7 : PySem.W.keepIn K (.ref f7) = true)
  (a8 : PySem.W.nsIn K mainGlobals "_law_due" = some (some (.ref f8))) (l8 : K.lookup f8 = some ⟨oc8, od8, .func (PySem.W.fnOf "_law_due" "_law_due" (defArgs s__law_due) (defBody s__law_due) (defScope s__law_due) .none kV8 dc8 pm8 an8 cd8 ct8), sl8⟩) (c8 : PySem.W.codeIn K cd8 "_law_due" = true) (k8 : PySem.W.keepIn K (.ref f8) = true)
  (a9 : PySem.W.nsIn K mainGlobals "_law_alike" = some (some (.ref f9))) (l9 : K.lookup f9 = some ⟨oc9, od9, .func (PySem.W.fnOf "_law_alike" "_law_alike" (defArgs s__law_alike) (defBody s__law_alike) (defScope s__law_alike) .none kV9 dc9 pm9 an9 cd9 ct9), sl9⟩) (c9 : PySem.W.codeIn K cd9 "_law_alike" = true) (k9 : PySem.W.keepIn K (.ref f9) = true)
  (a10 : PySem.W.nsIn K mainGlobals "require" = some (some (.ref f10))) (l10 : K.lookup f10 = some ⟨oc10, od10, .func (PySem.W.fnOf "require" "require" (defArgs s_require) (defBody s_require) (defScope s_require) .none kV10 dc10 pm10 an10 cd10 ct10), sl10⟩) (c10 : PySem.W.codeIn K cd10 "require" = true) (k10 : PySem.W.keepIn K (.ref f10) = true)
  (a11 : PySem.W.nsIn K mainGlobals "is_whole" = some (some (.ref f11))) (l11 : K.lookup f11 = some ⟨oc11, od11, .func (PySem.W.fnOf "is_whole" "is_whole" (defArgs s_is_whole) (defBody s_is_whole) (defScope s_is_whole) .none kV11 dc11 pm11 an11 cd11 ct11), sl11⟩) (c11 : PySem.W.codeIn K cd11 "is_whole" = true) (k11 : PySem.W.keepIn K (.ref f11) = true)
  (a12 : PySem.W.nsIn K mainGlobals "in_lowest_terms" = some (some (.ref f12))) (l12 : K.lookup f12 = some ⟨oc12, od12, .func (PySem.W.fnOf "in_lowest_terms" "in_lowest_terms" (defArgs s_in_lowest_terms) (defBody s_in_lowest_terms) (defScope s_in_lowest_terms) .none kV12 dc12 pm12 an12 cd12 ct12), sl12⟩) (c12 : PySem.W.codeIn K cd12 "in_lowest_terms" = true) (k12 : PySem.W.keepIn K (.ref f12) = true)
  (a13 : PySem.W.nsIn K mainGlobals "fraction" = some (some (.ref f13))) (l13 : K.lookup f13 = some ⟨oc13, od13, .func (PySem.W.fnOf "fraction" "fraction" (defArgs s_fraction) (defBody s_fraction) (defScope s_fraction) .none kV13 dc13 pm13 an13 cd13 ct13), sl13⟩) (c13 : PySem.W.codeIn K cd13 "fraction" = true) (k13 : PySem.W.keepIn K (.ref f13) = true)
  (a14 : PySem.W.nsIn K mainGlobals "is_fraction" = some (some (.ref f14))) (l14 : K.lookup f14 = some ⟨oc14, od14, .func (PySem.W.fnOf "is_fraction" "is_fraction" (defArgs s_is_fraction) (defBody s_is_fraction) (defScope s_is_fraction) .none kV14 dc14 pm14 an14 cd14 ct14), sl14⟩) (c14 : PySem.W.codeIn K cd14 "is_fraction" = true) (k14 : PySem.W.keepIn K (.ref f14) = true)
  (a15 : PySem.W.nsIn K mainGlobals "added" = some (some (.ref f15))) (l15 : K.lookup f15 = some ⟨oc15, od15, .func (PySem.W.fnOf "added" "added" (defArgs s_added) (defBody s_added) (defScope s_added) .none kV15 dc15 pm15 an15 cd15 ct15), sl15⟩) (c15 : PySem.W.codeIn K cd15 "added" = true) (k15 : PySem.W.keepIn K (.ref f15) = true)
  (a16 : PySem.W.nsIn K mainGlobals "plus" = some (some (.ref f16))) (l16 : K.lookup f16 = some ⟨oc16, od16, .func (PySem.W.fnOf "plus" "plus" (defArgs s_plus) (defBody s_plus) (defScope s_plus) .none kV16 dc16 pm16 an16 cd16 ct16), sl16⟩) (c16 : PySem.W.codeIn K cd16 "plus" = true) (k16 : PySem.W.keepIn K (.ref f16) = true)
  (a17 : PySem.W.nsIn K mainGlobals "negative" = some (some (.ref f17))) (l17 : K.lookup f17 = some ⟨oc17, od17, .func (PySem.W.fnOf "negative" "negative" (defArgs s_negative) (defBody s_negative) (defScope s_negative) .none kV17 dc17 pm17 an17 cd17 ct17), sl17⟩) (c17 : PySem.W.codeIn K cd17 "negative" = true) (k17 : PySem.W.keepIn K (.ref f17) = true)
  (a18 : PySem.W.nsIn K mainGlobals "less" = some (some (.ref f18))) (l18 : K.lookup f18 = some ⟨oc18, od18, .func (PySem.W.fnOf "less" "less" (defArgs s_less) (defBody s_less) (defScope s_less) .none kV18 dc18 pm18 an18 cd18 ct18), sl18⟩) (c18 : PySem.W.codeIn K cd18 "less" = true) (k18 : PySem.W.keepIn K (.ref f18) = true)
  (a19 : PySem.W.nsIn K mainGlobals "multiplied" = some (some (.ref f19))) (l19 : K.lookup f19 = some ⟨oc19, od19, .func (PySem.W.fnOf "multiplied" "multiplied" (defArgs s_multiplied) (defBody s_multiplied) (defScope s_multiplied) .none kV19 dc19 pm19 an19 cd19 ct19), sl19⟩) (c19 : PySem.W.codeIn K cd19 "multiplied" = true) (k19 : PySem.W.keepIn K (.ref f19) = true)
  (a20 : PySem.W.nsIn K mainGlobals "times" = some (some (.ref f20))) (l20 : K.lookup f20 = some ⟨oc20, od20, .func (PySem.W.fnOf "times" "times" (defArgs s_times) (defBody s_times) (defScope s_times) .none kV20 dc20 pm20 an20 cd20 ct20), sl20⟩) (c20 : PySem.W.codeIn K cd20 "times" = true) (k20 : PySem.W.keepIn K (.ref f20) = true)
  (a21 : PySem.W.nsIn K mainGlobals "compared" = some (some (.ref f21))) (l21 : K.lookup f21 = some ⟨oc21, od21, .func (PySem.W.fnOf "compared" "compared" (defArgs s_compared) (defBody s_compared) (defScope s_compared) .none kV21 dc21 pm21 an21 cd21 ct21), sl21⟩) (c21 : PySem.W.codeIn K cd21 "compared" = true) (k21 : PySem.W.keepIn K (.ref f21) = true)
  (a22 : PySem.W.nsIn K mainGlobals "order" = some (some (.ref f22))) (l22 : K.lookup f22 = some ⟨oc22, od22, .func (PySem.W.fnOf "order" "order" (defArgs s_order) (defBody s_order) (defScope s_order) .none kV22 dc22 pm22 an22 cd22 ct22), sl22⟩) (c22 : PySem.W.codeIn K cd22 "order" = true) (k22 : PySem.W.keepIn K (.ref f22) = true)
  (a23 : PySem.W.nsIn K mainGlobals "is_list_of_fractions" = some (some (.ref f23))) (l23 : K.lookup f23 = some ⟨oc23, od23, .func (PySem.W.fnOf "is_list_of_fractions" "is_list_of_fractions" (defArgs s_is_list_of_fractions) (defBody s_is_list_of_fractions) (defScope s_is_list_of_fractions) .none kV23 dc23 pm23 an23 cd23 ct23), sl23⟩) (c23 : PySem.W.codeIn K cd23 "is_list_of_fractions" = true) (k23 : PySem.W.keepIn K (.ref f23) = true)
  (r23 : cd23 = .ref cc23) (q23 : K.lookup cc23 = some ⟨oq23, oe23, .fields vq23, sk23⟩) (v23 : vq23[11]? = some (.ref P23)) (d23 : (recsOf q).find? (fun e : DefRec => e.name == ("is_list_of_fractions" : Str)) = some dr23)
  (a24 : PySem.W.nsIn K mainGlobals "summed" = some (some (.ref f24))) (l24 : K.lookup f24 = some ⟨oc24, od24, .func (PySem.W.fnOf "summed" "summed" (defArgs s_summed) (defBody s_summed) (defScope s_summed) .none kV24 dc24 pm24 an24 cd24 ct24), sl24⟩) (c24 : PySem.W.codeIn K cd24 "summed" = true) (k24 : PySem.W.keepIn K (.ref f24) = true)
  (a25 : PySem.W.nsIn K mainGlobals "total" = some (some (.ref f25))) (l25 : K.lookup f25 = some ⟨oc25, od25, .func (PySem.W.fnOf "total" "total" (defArgs s_total) (defBody s_total) (defScope s_total) .none kV25 dc25 pm25 an25 cd25 ct25), sl25⟩) (c25 : PySem.W.codeIn K cd25 "total" = true) (k25 : PySem.W.keepIn K (.ref f25) = true)
  (a26 : PySem.W.nsIn K mainGlobals "outermost" = some (some (.ref f26))) (l26 : K.lookup f26 = some ⟨oc26, od26, .func (PySem.W.fnOf "outermost" "outermost" (defArgs s_outermost) (defBody s_outermost) (defScope s_outermost) .none kV26 dc26 pm26 an26 cd26 ct26), sl26⟩) (c26 : PySem.W.codeIn K cd26 "outermost" = true) (k26 : PySem.W.keepIn K (.ref f26) = true)
  (a27 : PySem.W.nsIn K mainGlobals "least" = some (some (.ref f27))) (l27 : K.lookup f27 = some ⟨oc27, od27, .func (PySem.W.fnOf "least" "least" (defArgs s_least) (defBody s_least) (defScope s_least) .none kV27 dc27 pm27 an27 cd27 ct27), sl27⟩) (c27 : PySem.W.codeIn K cd27 "least" = true) (k27 : PySem.W.keepIn K (.ref f27) = true)
  (a28 : PySem.W.nsIn K mainGlobals "greatest" = some (some (.ref f28))) (l28 : K.lookup f28 = some ⟨oc28, od28, .func (PySem.W.fnOf "greatest" "greatest" (defArgs s_greatest) (defBody s_greatest) (defScope s_greatest) .none kV28 dc28 pm28 an28 cd28 ct28), sl28⟩) (c28 : PySem.W.codeIn K cd28 "greatest" = true) (k28 : PySem.W.keepIn K (.ref f28) = true)
  (a29 : PySem.W.nsIn K mainGlobals "_law_call" = some (some (.ref f29))) (l29 : K.lookup f29 = some ⟨oc29, od29, .func (PySem.W.fnOf "_law_call" "_law_call" (defArgs s__law_call) (defBody s__law_call) (defScope s__law_call) .none kV29 dc29 pm29 an29 cd29 ct29), sl29⟩) (c29 : PySem.W.codeIn K cd29 "_law_call" = true) (k29 : PySem.W.keepIn K (.ref f29) = true)
  (a30 : PySem.W.nsIn K mainGlobals "_law_asked" = some (some (.ref f30))) (l30 : K.lookup f30 = some ⟨oc30, od30, .func (PySem.W.fnOf "_law_asked" "_law_asked" (defArgs s__law_asked) (defBody s__law_asked) (defScope s__law_asked) .none kV30 dc30 pm30 an30 cd30 ct30), sl30⟩) (c30 : PySem.W.codeIn K cd30 "_law_asked" = true) (k30 : PySem.W.keepIn K (.ref f30) = true)
  (a31 : PySem.W.nsIn K mainGlobals "law" = some (some (.ref f31))) (l31 : K.lookup f31 = some ⟨oc31, od31, .func (PySem.W.fnOf "law" "law" (defArgs s_law) (defBody s_law) (defScope s_law) .none kV31 dc31 pm31 an31 cd31 ct31), sl31⟩) (c31 : PySem.W.codeIn K cd31 "law" = true) (k31 : PySem.W.keepIn K (.ref f31) = true)
  (nt : PySem.W.noTabs K = true)
  (zb_ValueError : PySem.W.nsIn K mainGlobals "ValueError" = some none)
  (zb_abs : PySem.W.nsIn K mainGlobals "abs" = some none)
  (zb_all : PySem.W.nsIn K mainGlobals "all" = some none)
  (zb_bool : PySem.W.nsIn K mainGlobals "bool" = some none)
  (zb_enumerate : PySem.W.nsIn K mainGlobals "enumerate" = some none)
  (zb_int : PySem.W.nsIn K mainGlobals "int" = some none)
  (zb_isinstance : PySem.W.nsIn K mainGlobals "isinstance" = some none)
  (zb_len : PySem.W.nsIn K mainGlobals "len" = some none)
  (zb_list : PySem.W.nsIn K mainGlobals "list" = some none)
  (zb_min : PySem.W.nsIn K mainGlobals "min" = some none)
  (zb_range : PySem.W.nsIn K mainGlobals "range" = some none)
  (zb_repr : PySem.W.nsIn K mainGlobals "repr" = some none)
  (zb_tuple : PySem.W.nsIn K mainGlobals "tuple" = some none)
  (zb_zip : PySem.W.nsIn K mainGlobals "zip" = some none)
  (cc_LONGEST_LIST : PySem.W.nsIn K mainGlobals "LONGEST_LIST" = some (some (.int 1000 tc_LONGEST_LIST)))
  (cc_NOUGHT : PySem.W.nsIn K mainGlobals "NOUGHT" = some (some (.ref tf_NOUGHT))) (kc_NOUGHT : K.lookup tf_NOUGHT = some ⟨.type "tuple", ot_NOUGHT, .seq it_NOUGHT nt_NOUGHT, st_NOUGHT⟩) (vv_NOUGHT : ∃ vs, it_NOUGHT.size ≤ 100000 ∧ Vals vs it_NOUGHT.toList ∧ ∀ F, RpA K F vs [(.int 0), (.int 1)])
  (ii_gcd : PySem.W.nsIn K mainGlobals "gcd" = some (some (.builtin "math.gcd")))
  (aC_Wrong : PySem.W.nsIn K mainGlobals "Wrong" = some (some (.ref C_Wrong)))
  (aC_ChainError : PySem.W.nsIn K mainGlobals "ChainError" = some (some (.ref C_ChainError)))
  (aC_NoOffer : PySem.W.nsIn K mainGlobals "NoOffer" = some (some (.ref C_NoOffer)))
  (aC_NoOff : PySem.W.nsIn K mainGlobals "NoOff" = some (some (.ref C_NoOff)))
  (aC_NoDeed : PySem.W.nsIn K mainGlobals "NoDeed" = some (some (.ref C_NoDeed)))
  (aC_NoChain : PySem.W.nsIn K mainGlobals "NoChain" = some (some (.ref C_NoChain)))
  (aC_NoRow : PySem.W.nsIn K mainGlobals "NoRow" = some (some (.ref C_NoRow)))
  (aC_NoReading : PySem.W.nsIn K mainGlobals "NoReading" = some (some (.ref C_NoReading)))
  (aC_NoPaper : PySem.W.nsIn K mainGlobals "NoPaper" = some (some (.ref C_NoPaper)))
  (aC_NoThing : PySem.W.nsIn K mainGlobals "NoThing" = some (some (.ref C_NoThing)))
  (aC_NoText : PySem.W.nsIn K mainGlobals "NoText" = some (some (.ref C_NoText)))
  (aC_NoSpot : PySem.W.nsIn K mainGlobals "NoSpot" = some (some (.ref C_NoSpot)))
  (aC_Twice : PySem.W.nsIn K mainGlobals "Twice" = some (some (.ref C_Twice)))
  (aC_TooMany : PySem.W.nsIn K mainGlobals "TooMany" = some (some (.ref C_TooMany)))
  (xL_Wrong : K.lookup C_Wrong = some (excClassObj nm_Wrong q_Wrong C_Wrong N_Wrong bs_Wrong mr_Wrong true sn_Wrong sub_Wrong ab_Wrong col_Wrong dd_Wrong m0_Wrong m1_Wrong m2_Wrong m3_Wrong m5_Wrong "ValueError.__new__")) (rv_Wrong : PySem.HandSPX.refsVE mr_Wrong = true)
  (sa_Wrong : PySem.W.findIn K (.ref C_Wrong) "__setattr__" = some (some (.builtin "object.__setattr__"))) (eC_Wrong : PySem.W.subIn K (.ref C_Wrong) (.type "BaseException") = some true) (tC_Wrong : PySem.W.typeIn K (.ref C_Wrong) = some (.type "type")) (kC_Wrong : PySem.W.keepIn K (.ref C_Wrong) = true)
  (a1_Wrong : PySem.W.findIn K (.ref C_Wrong) "__init__" = some (some (.ref fI_Wrong))) (t1_Wrong : PySem.W.typeIn K (.ref fI_Wrong) = some (.type "function"))
  (l1_Wrong : K.lookup fI_Wrong = some ⟨ocI_Wrong, odI_Wrong, .func (PySem.W.fnOf "__init__" "Wrong.__init__" (defArgs sI_Wrong) (defBody sI_Wrong) (defScope sI_Wrong) .none kVI_Wrong dcI_Wrong pmI_Wrong anI_Wrong cdI_Wrong ctI_Wrong), slI_Wrong⟩) (c1_Wrong : PySem.W.codeIn K cdI_Wrong "Wrong.__init__" = true) (k1_Wrong : PySem.W.keepIn K (.ref fI_Wrong) = true)
  (nf0_Wrong : PySem.W.findIn K (.ref C_Wrong) "at" = some none)
  (xhg_Wrong : PySem.W.findIn K (.ref C_Wrong) "__getattribute__" = some (some (.builtin "BaseException.__getattribute__")))
  (xhk_Wrong : PySem.W.findIn K (.ref C_Wrong) "__getattr__" = some none)
  (xhs_Wrong : PySem.W.subIn K (.ref C_Wrong) (.type "BaseException") = some true)
  (xhd_Wrong : PySem.W.hasDictIn K C_Wrong = true)
  (xha_Wrong : PySem.W.findIn K (.ref C_Wrong) "__class__" = some (some (.builtin "object.__class__")))
  (xhn_Wrong : PySem.W.specialIn K (.builtin "object.__class__") "__get__" = some (some (.builtin "getset_descriptor.__get__")))
  (xht_Wrong : PySem.W.takesIn K (.builtin "object.__class__") = some true)
  (xhm_Wrong : PySem.W.mroIn K C_Wrong (.type "object") = some true)
  (fga_Wrong : PySem.W.findIn K (.ref C_Wrong) "__getattribute__" = some (some (.builtin "BaseException.__getattribute__")))
  (fgg_Wrong : PySem.W.findIn K (.ref C_Wrong) "__getattr__" = some none)
  (fgs_Wrong : PySem.W.subIn K (.ref C_Wrong) (.type "BaseException") = some true)
  (fgd_Wrong : PySem.W.hasDictIn K C_Wrong = true)
  (em_Wrong_ChainError : PySem.W.exmOne K (.ref C_Wrong) (.ref C_ChainError) = some true)
  (kt_Wrong_NoOffer : PySem.W.kitOne K (.ref C_Wrong) (.ref C_NoOffer) = some (isx "Wrong" "NoOffer"))
  (kt_Wrong_NoOff : PySem.W.kitOne K (.ref C_Wrong) (.ref C_NoOff) = some (isx "Wrong" "NoOff"))
  (kt_Wrong_NoDeed : PySem.W.kitOne K (.ref C_Wrong) (.ref C_NoDeed) = some (isx "Wrong" "NoDeed"))
  (kt_Wrong_NoChain : PySem.W.kitOne K (.ref C_Wrong) (.ref C_NoChain) = some (isx "Wrong" "NoChain"))
  (kt_Wrong_NoRow : PySem.W.kitOne K (.ref C_Wrong) (.ref C_NoRow) = some (isx "Wrong" "NoRow"))
  (kt_Wrong_NoReading : PySem.W.kitOne K (.ref C_Wrong) (.ref C_NoReading) = some (isx "Wrong" "NoReading"))
  (kt_Wrong_NoPaper : PySem.W.kitOne K (.ref C_Wrong) (.ref C_NoPaper) = some (isx "Wrong" "NoPaper"))
  (kt_Wrong_NoThing : PySem.W.kitOne K (.ref C_Wrong) (.ref C_NoThing) = some (isx "Wrong" "NoThing"))
  (kt_Wrong_NoText : PySem.W.kitOne K (.ref C_Wrong) (.ref C_NoText) = some (isx "Wrong" "NoText"))
  (kt_Wrong_NoSpot : PySem.W.kitOne K (.ref C_Wrong) (.ref C_NoSpot) = some (isx "Wrong" "NoSpot"))
  (kt_Wrong_Twice : PySem.W.kitOne K (.ref C_Wrong) (.ref C_Twice) = some (isx "Wrong" "Twice"))
  (kt_Wrong_TooMany : PySem.W.kitOne K (.ref C_Wrong) (.ref C_TooMany) = some (isx "Wrong" "TooMany"))
  (kt_Wrong_Wrong : PySem.W.kitOne K (.ref C_Wrong) (.ref C_Wrong) = some (isx "Wrong" "Wrong"))
  (kt_Wrong_ValueError : PySem.W.kitOne K (.ref C_Wrong) (.type "ValueError") = some (isx "Wrong" "ValueError")) :
  ∃ cs : List (Addr × Addr), Tabs K h cs ∧ ∀ base : Heap, K.In base → base.Ns mainGlobals mg → (∀ p ∈ cs, GxR.TabB base mg p.1 p.2) → Fg PySem.Challenge.rw_truechain_k18_fractions_refused.prog w K mg base (L2.CX PySem.Challenge.rw_truechain_k18_fractions_refused.prog w) 8 fa (spLaw K (cs.map Prod.snd)) := by
  have G := T.g
  refine ⟨[(cc23, P23)], (tabs_cons T X nt d23 a23 l23 r23 q23 v23 tabs_nil), fun base _ _ tb => ?_⟩
  have e := hfa.symm.trans (PySem.W.mg_of X G a31)
  cases e
  have z_ValueError := PySem.W.mg_none_of X G zb_ValueError
  have z_abs := PySem.W.mg_none_of X G zb_abs
  have z_all := PySem.W.mg_none_of X G zb_all
  have z_bool := PySem.W.mg_none_of X G zb_bool
  have z_enumerate := PySem.W.mg_none_of X G zb_enumerate
  have z_int := PySem.W.mg_none_of X G zb_int
  have z_isinstance := PySem.W.mg_none_of X G zb_isinstance
  have z_len := PySem.W.mg_none_of X G zb_len
  have z_list := PySem.W.mg_none_of X G zb_list
  have z_min := PySem.W.mg_none_of X G zb_min
  have z_range := PySem.W.mg_none_of X G zb_range
  have z_repr := PySem.W.mg_none_of X G zb_repr
  have z_tuple := PySem.W.mg_none_of X G zb_tuple
  have z_zip := PySem.W.mg_none_of X G zb_zip
  have c_LONGEST_LIST := PySem.W.mg_of X G cc_LONGEST_LIST
  have c_NOUGHT := PySem.W.mg_of X G cc_NOUGHT
  obtain ⟨vs_NOUGHT, z1_NOUGHT, z2_NOUGHT, z3_NOUGHT⟩ := vv_NOUGHT
  have e_NOUGHT := con_tup kc_NOUGHT z1_NOUGHT z2_NOUGHT z3_NOUGHT
  have i_gcd := PySem.W.mg_of X G ii_gcd
  have T_Wrong : OexC K C_Wrong := ⟨⟨_, _, _, _, _, _, _, _, _, _, _, _, _, _, _, xL_Wrong, rv_Wrong⟩, sa_Wrong, eC_Wrong, tC_Wrong, kC_Wrong⟩
  have F1_Wrong := fun_mk (st := sI_Wrong) l1_Wrong c1_Wrong k1_Wrong
  have i1_Wrong := ini_ok (P := PySem.Challenge.rw_truechain_k18_fractions_refused.prog) (w := w) (mg := mg) (base := base) (n := "at") F1_Wrong scI_Wrong T_Wrong nf0_Wrong (by decide) (by decide) (by decide) (by first | exact Or.inl rfl | exact Or.inr (Or.inl rfl)) (by first | exact Or.inl rfl | exact Or.inr (Or.inl rfl)) rfl
  have m__law_bag := PySem.W.mg_of X G a0
  have g__law_bag := ok__law_bag  (P := PySem.Challenge.rw_truechain_k18_fractions_refused.prog) (w := w) (mg := mg) (base := base) (fun_mk (st := s__law_bag) l0 c0 k0) z_abs
  have m__law_take := PySem.W.mg_of X G a1
  have g__law_take := ok__law_take (ts := [P23]) (P := PySem.Challenge.rw_truechain_k18_fractions_refused.prog) (w := w) (mg := mg) (base := base) (fun_mk (st := s__law_take) l1 c1 k1) z_len
  have m__law_number := PySem.W.mg_of X G a2
  have g__law_number := ok__law_number (ts := [P23]) (P := PySem.Challenge.rw_truechain_k18_fractions_refused.prog) (w := w) (mg := mg) (base := base) (fun_mk (st := s__law_number) l2 c2 k2) g__law_take m__law_take k1
  have m__law_low := PySem.W.mg_of X G a3
  have g__law_low := ok__law_low (ts := [P23]) (P := PySem.Challenge.rw_truechain_k18_fractions_refused.prog) (w := w) (mg := mg) (base := base) (fun_mk (st := s__law_low) l3 c3 k3) z_abs
  have m__law_good := PySem.W.mg_of X G a4
  have g__law_good := ok__law_good (ts := [P23]) (P := PySem.Challenge.rw_truechain_k18_fractions_refused.prog) (w := w) (mg := mg) (base := base) (fun_mk (st := s__law_good) l4 c4 k4) g__law_low m__law_low k3 g__law_take m__law_take k1
  have m__law_bad := PySem.W.mg_of X G a5
  have g__law_bad := ok__law_bad (ts := [P23]) (P := PySem.Challenge.rw_truechain_k18_fractions_refused.prog) (w := w) (mg := mg) (base := base) (fun_mk (st := s__law_bad) l5 c5 k5) g__law_take m__law_take k1 g__law_good m__law_good k4
  have m__law_list := PySem.W.mg_of X G a6
  have g__law_list := ok__law_list (ts := [P23]) (P := PySem.Challenge.rw_truechain_k18_fractions_refused.prog) (w := w) (mg := mg) (base := base) (fun_mk (st := s__law_list) l6 c6 k6) g__law_take m__law_take k1 g__law_good m__law_good k4 g__law_low m__law_low k3 g__law_bad m__law_bad k5 z_int z_range z_min z_len z_tuple
  have m__law_arguments := PySem.W.mg_of X G a7
  have g__law_arguments := ok__law_arguments (ts := [P23]) (P := PySem.Challenge.rw_truechain_k18_fractions_refused.prog) (w := w) (mg := mg) (base := base) (fun_mk (st := s__law_arguments) l7 c7 k7) g__law_number m__law_number k2 g__law_take m__law_take k1 g__law_bad m__law_bad k5 g__law_good m__law_good k4 g__law_list m__law_list k6 z_int
  have m__law_due := PySem.W.mg_of X G a8
  have g__law_due := ok__law_due (ts := [P23]) (P := PySem.Challenge.rw_truechain_k18_fractions_refused.prog) (w := w) (mg := mg) (base := base) (fun_mk (st := s__law_due) l8 c8 k8) g__law_low m__law_low k3 z_int z_abs
  have m__law_alike := PySem.W.mg_of X G a9
  have g__law_alike := ok__law_alike (ts := [P23]) (P := PySem.Challenge.rw_truechain_k18_fractions_refused.prog) (w := w) (mg := mg) (base := base) (fun_mk (st := s__law_alike) l9 c9 k9) z_repr
  have m_require := PySem.W.mg_of X G a10
  have g_require := ok_require (ts := [P23]) (P := PySem.Challenge.rw_truechain_k18_fractions_refused.prog) (w := w) (mg := mg) (base := base) (fun_mk (st := s_require) l10 c10 k10) z_enumerate T_Wrong a1_Wrong t1_Wrong i1_Wrong (F1_Wrong.binds (ps := ["self", "at"]) fun _ _ _ _ _ _ us hl => match us, hl with | [_, _], _ => rfl) (PySem.W.mg_of X G aC_Wrong)
  have m_is_whole := PySem.W.mg_of X G a11
  have g_is_whole := ok_is_whole (ts := [P23]) (P := PySem.Challenge.rw_truechain_k18_fractions_refused.prog) (w := w) (mg := mg) (base := base) (fun_mk (st := s_is_whole) l11 c11 k11) z_isinstance z_int z_bool
  have m_in_lowest_terms := PySem.W.mg_of X G a12
  have g_in_lowest_terms := ok_in_lowest_terms (ts := [P23]) (P := PySem.Challenge.rw_truechain_k18_fractions_refused.prog) (w := w) (mg := mg) (base := base) (fun_mk (st := s_in_lowest_terms) l12 c12 k12) i_gcd
  have m_fraction := PySem.W.mg_of X G a13
  have g_fraction := ok_fraction (ts := [P23]) (P := PySem.Challenge.rw_truechain_k18_fractions_refused.prog) (w := w) (mg := mg) (base := base) (fun_mk (st := s_fraction) l13 c13 k13) g_require m_require k10 g_is_whole m_is_whole k11 g_in_lowest_terms m_in_lowest_terms k12
  have m_is_fraction := PySem.W.mg_of X G a14
  have g_is_fraction := ok_is_fraction (ts := [P23]) (P := PySem.Challenge.rw_truechain_k18_fractions_refused.prog) (w := w) (mg := mg) (base := base) (fun_mk (st := s_is_fraction) l14 c14 k14) g_is_whole m_is_whole k11 z_isinstance z_tuple z_len i_gcd
  have m_added := PySem.W.mg_of X G a15
  have g_added := ok_added (ts := [P23]) (P := PySem.Challenge.rw_truechain_k18_fractions_refused.prog) (w := w) (mg := mg) (base := base) (fun_mk (st := s_added) l15 c15 k15) i_gcd
  have m_plus := PySem.W.mg_of X G a16
  have g_plus := ok_plus (ts := [P23]) (P := PySem.Challenge.rw_truechain_k18_fractions_refused.prog) (w := w) (mg := mg) (base := base) (fun_mk (st := s_plus) l16 c16 k16) g_require m_require k10 g_is_fraction m_is_fraction k14 g_added m_added k15
  have m_negative := PySem.W.mg_of X G a17
  have g_negative := ok_negative (ts := [P23]) (P := PySem.Challenge.rw_truechain_k18_fractions_refused.prog) (w := w) (mg := mg) (base := base) (fun_mk (st := s_negative) l17 c17 k17) 
  have m_less := PySem.W.mg_of X G a18
  have g_less := ok_less (ts := [P23]) (P := PySem.Challenge.rw_truechain_k18_fractions_refused.prog) (w := w) (mg := mg) (base := base) (fun_mk (st := s_less) l18 c18 k18) g_require m_require k10 g_is_fraction m_is_fraction k14 g_added m_added k15 g_negative m_negative k17
  have m_multiplied := PySem.W.mg_of X G a19
  have g_multiplied := ok_multiplied (ts := [P23]) (P := PySem.Challenge.rw_truechain_k18_fractions_refused.prog) (w := w) (mg := mg) (base := base) (fun_mk (st := s_multiplied) l19 c19 k19) g_in_lowest_terms m_in_lowest_terms k12
  have m_times := PySem.W.mg_of X G a20
  have g_times := ok_times (ts := [P23]) (P := PySem.Challenge.rw_truechain_k18_fractions_refused.prog) (w := w) (mg := mg) (base := base) (fun_mk (st := s_times) l20 c20 k20) g_require m_require k10 g_is_fraction m_is_fraction k14 g_multiplied m_multiplied k19
  have m_compared := PySem.W.mg_of X G a21
  have g_compared := ok_compared (ts := [P23]) (P := PySem.Challenge.rw_truechain_k18_fractions_refused.prog) (w := w) (mg := mg) (base := base) (fun_mk (st := s_compared) l21 c21 k21) 
  have m_order := PySem.W.mg_of X G a22
  have g_order := ok_order (ts := [P23]) (P := PySem.Challenge.rw_truechain_k18_fractions_refused.prog) (w := w) (mg := mg) (base := base) (fun_mk (st := s_order) l22 c22 k22) g_require m_require k10 g_is_fraction m_is_fraction k14 g_compared m_compared k21
  have m_is_list_of_fractions := PySem.W.mg_of X G a23
  have g_is_list_of_fractions := ok_is_list_of_fractions (ts := [P23]) (P := PySem.Challenge.rw_truechain_k18_fractions_refused.prog) (w := w) (mg := mg) (base := base) (fun_mk (st := s_is_list_of_fractions) l23 c23 k23) g_is_fraction m_is_fraction k14 z_isinstance z_list z_len z_all c_LONGEST_LIST (tb (cc23, P23) (by simp)) r23 (by simp)
  have m_summed := PySem.W.mg_of X G a24
  have g_summed := ok_summed (ts := [P23]) (P := PySem.Challenge.rw_truechain_k18_fractions_refused.prog) (w := w) (mg := mg) (base := base) (fun_mk (st := s_summed) l24 c24 k24) g_added m_added k15 z_len z_zip c_NOUGHT (show RelV (.ref tf_NOUGHT) (.ref tf_NOUGHT) from rfl) e_NOUGHT
  have m_total := PySem.W.mg_of X G a25
  have g_total := ok_total (ts := [P23]) (P := PySem.Challenge.rw_truechain_k18_fractions_refused.prog) (w := w) (mg := mg) (base := base) (fun_mk (st := s_total) l25 c25 k25) g_require m_require k10 g_is_list_of_fractions m_is_list_of_fractions k23 g_summed m_summed k24
  have m_outermost := PySem.W.mg_of X G a26
  have g_outermost := ok_outermost (ts := [P23]) (P := PySem.Challenge.rw_truechain_k18_fractions_refused.prog) (w := w) (mg := mg) (base := base) (fun_mk (st := s_outermost) l26 c26 k26) g_compared m_compared k21
  have m_least := PySem.W.mg_of X G a27
  have g_least := ok_least (ts := [P23]) (P := PySem.Challenge.rw_truechain_k18_fractions_refused.prog) (w := w) (mg := mg) (base := base) (fun_mk (st := s_least) l27 c27 k27) g_require m_require k10 g_is_list_of_fractions m_is_list_of_fractions k23 g_outermost m_outermost k26
  have m_greatest := PySem.W.mg_of X G a28
  have g_greatest := ok_greatest (ts := [P23]) (P := PySem.Challenge.rw_truechain_k18_fractions_refused.prog) (w := w) (mg := mg) (base := base) (fun_mk (st := s_greatest) l28 c28 k28) g_require m_require k10 g_is_list_of_fractions m_is_list_of_fractions k23 g_outermost m_outermost k26
  have m__law_call := PySem.W.mg_of X G a29
  have g__law_call := ok__law_call (ts := [P23]) (P := PySem.Challenge.rw_truechain_k18_fractions_refused.prog) (w := w) (mg := mg) (base := base) (fun_mk (st := s__law_call) l29 c29 k29) g_fraction m_fraction k13 g_plus m_plus k16 g_less m_less k18 g_times m_times k20 g_order m_order k22 g_total m_total k25 g_least m_least k27 g_greatest m_greatest k28
  have m__law_asked := PySem.W.mg_of X G a30
  have g__law_asked := ok__law_asked (ts := [P23]) (P := PySem.Challenge.rw_truechain_k18_fractions_refused.prog) (w := w) (mg := mg) (base := base) (fun_mk (st := s__law_asked) l30 c30 k30) g__law_call m__law_call k29 z_isinstance z_ValueError (PySem.W.mg_of X G aC_Wrong) (PySem.W.mg_of X G aC_ChainError) ⟨xhg_Wrong, xhk_Wrong, xhs_Wrong, xhd_Wrong, xha_Wrong, xhn_Wrong, xht_Wrong, xhm_Wrong⟩ ⟨fga_Wrong, fgg_Wrong, fgs_Wrong, fgd_Wrong⟩ nf0_Wrong em_Wrong_ChainError (PySem.W.mg_of X G aC_NoOffer) kt_Wrong_NoOffer (PySem.W.mg_of X G aC_NoOff) kt_Wrong_NoOff (PySem.W.mg_of X G aC_NoDeed) kt_Wrong_NoDeed (PySem.W.mg_of X G aC_NoChain) kt_Wrong_NoChain (PySem.W.mg_of X G aC_NoRow) kt_Wrong_NoRow (PySem.W.mg_of X G aC_NoReading) kt_Wrong_NoReading (PySem.W.mg_of X G aC_NoPaper) kt_Wrong_NoPaper (PySem.W.mg_of X G aC_NoThing) kt_Wrong_NoThing (PySem.W.mg_of X G aC_NoText) kt_Wrong_NoText (PySem.W.mg_of X G aC_NoSpot) kt_Wrong_NoSpot (PySem.W.mg_of X G aC_Twice) kt_Wrong_Twice (PySem.W.mg_of X G aC_TooMany) kt_Wrong_TooMany kt_Wrong_Wrong kt_Wrong_ValueError
  have m_law := PySem.W.mg_of X G a31
  have g_law := ok_law (ts := [P23]) (P := PySem.Challenge.rw_truechain_k18_fractions_refused.prog) (w := w) (mg := mg) (base := base) (fun_mk (st := s_law) l31 c31 k31) g__law_bag m__law_bag k0 g__law_take m__law_take k1 g__law_arguments m__law_arguments k7 g__law_due m__law_due k8 g__law_alike m__law_alike k9 g__law_asked m__law_asked k30 z_range z_repr z_int
  exact g_law
end Lk
open PySem PySem.W PyProof.Rows
set_option maxHeartbeats 0 in
theorem PySem.Challenge.cw_truechain_k18_fractions_refused_holds : PySem.Challenge.rw_truechain_k18_fractions_refused.Holds := by
  w_on; o_law; k_head; (case hw => w_witness2)
  k_fill
  refine Dl.law_end (l := PySem.Challenge.rw_truechain_k18_fractions_refused) (k := 8) (sp := fun K ts => Dl.spLaw K ts) rfl rfl ⟨rfl, by decide, by decide⟩ rfl (fun w h Y => PySem.W.kIn_of Y) ?F (fun K H a ns ts hl ht hS => ⟨ht, a, ns, rfl, hS, hl, fun _ => rfl⟩)
  case F =>
    intro w mg mb lo mean fa h KX T hmg
    refine' Lk.all_mk KX T hmg ?a0 ?l0 ?c0 ?k0 ?a1 ?l1 ?c1 ?k1 ?a2 ?l2 ?c2 ?k2 ?a3 ?l3 ?c3 ?k3 ?a4 ?l4 ?c4 ?k4 ?a5 ?l5 ?c5 ?k5 ?a6 ?l6 ?c6 ?k6 ?a7 ?l7 ?c7 ?k7 ?a8 ?l8 ?c8 ?k8 ?a9 ?l9 ?c9 ?k9 ?a10 ?l10 ?c10 ?k10 ?a11 ?l11 ?c11 ?k11 ?a12 ?l12 ?c12 ?k12 ?a13 ?l13 ?c13 ?k13 ?a14 ?l14 ?c14 ?k14 ?a15 ?l15 ?c15 ?k15 ?a16 ?l16 ?c16 ?k16 ?a17 ?l17 ?c17 ?k17 ?a18 ?l18 ?c18 ?k18 ?a19 ?l19 ?c19 ?k19 ?a20 ?l20 ?c20 ?k20 ?a21 ?l21 ?c21 ?k21 ?a22 ?l22 ?c22 ?k22 ?a23 ?l23 ?c23 ?k23 ?r23 ?q23 ?v23 ?d23 ?a24 ?l24 ?c24 ?k24 ?a25 ?l25 ?c25 ?k25 ?a26 ?l26 ?c26 ?k26 ?a27 ?l27 ?c27 ?k27 ?a28 ?l28 ?c28 ?k28 ?a29 ?l29 ?c29 ?k29 ?a30 ?l30 ?c30 ?k30 ?a31 ?l31 ?c31 ?k31 ?nt ?zb_ValueError ?zb_abs ?zb_all ?zb_bool ?zb_enumerate ?zb_int ?zb_isinstance ?zb_len ?zb_list ?zb_min ?zb_range ?zb_repr ?zb_tuple ?zb_zip ?cc_LONGEST_LIST ?cc_NOUGHT ?kc_NOUGHT ?vv_NOUGHT ?ii_gcd ?aC_Wrong ?aC_ChainError ?aC_NoOffer ?aC_NoOff ?aC_NoDeed ?aC_NoChain ?aC_NoRow ?aC_NoReading ?aC_NoPaper ?aC_NoThing ?aC_NoText ?aC_NoSpot ?aC_Twice ?aC_TooMany ?xL_Wrong ?rv_Wrong ?sa_Wrong ?eC_Wrong ?tC_Wrong ?kC_Wrong ?a1_Wrong ?t1_Wrong ?l1_Wrong ?c1_Wrong ?k1_Wrong ?nf0_Wrong ?xhg_Wrong ?xhk_Wrong ?xhs_Wrong ?xhd_Wrong ?xha_Wrong ?xhn_Wrong ?xht_Wrong ?xhm_Wrong ?fga_Wrong ?fgg_Wrong ?fgs_Wrong ?fgd_Wrong ?em_Wrong_ChainError ?kt_Wrong_NoOffer ?kt_Wrong_NoOff ?kt_Wrong_NoDeed ?kt_Wrong_NoChain ?kt_Wrong_NoRow ?kt_Wrong_NoReading ?kt_Wrong_NoPaper ?kt_Wrong_NoThing ?kt_Wrong_NoText ?kt_Wrong_NoSpot ?kt_Wrong_Twice ?kt_Wrong_TooMany ?kt_Wrong_Wrong ?kt_Wrong_ValueError
    (case a0 => k_is); (case l0 => k_is); (case c0 => k_is); (case k0 => k_is); (case a1 => k_is); (case l1 => k_is); (case c1 => k_is); (case k1 => k_is); (case a2 => k_is); (case l2 => k_is); (case c2 => k_is); (case k2 => k_is); (case a3 => k_is); (case l3 => k_is); (case c3 => k_is); (case k3 => k_is); (case a4 => k_is); (case l4 => k_is); (case c4 => k_is); (case k4 => k_is); (case a5 => k_is); (case l5 => k_is); (case c5 => k_is); (case k5 => k_is); (case a6 => k_is); (case l6 => k_is); (case c6 => k_is); (case k6 => k_is); (case a7 => k_is); (case l7 => k_is); (case c7 => k_is); (case k7 => k_is); (case a8 => k_is); (case l8 => k_is); (case c8 => k_is); (case k8 => k_is); (case a9 => k_is); (case l9 => k_is); (case c9 => k_is); (case k9 => k_is); (case a10 => k_is); (case l10 => k_is); (case c10 => k_is); (case k10 => k_is); (case a11 => k_is); (case l11 => k_is); (case c11 => k_is); (case k11 => k_is); (case a12 => k_is); (case l12 => k_is); (case c12 => k_is); (case k12 => k_is); (case a13 => k_is); (case l13 => k_is); (case c13 => k_is); (case k13 => k_is); (case a14 => k_is); (case l14 => k_is); (case c14 => k_is); (case k14 => k_is); (case a15 => k_is); (case l15 => k_is); (case c15 => k_is); (case k15 => k_is); (case a16 => k_is); (case l16 => k_is); (case c16 => k_is); (case k16 => k_is); (case a17 => k_is); (case l17 => k_is); (case c17 => k_is); (case k17 => k_is); (case a18 => k_is); (case l18 => k_is); (case c18 => k_is); (case k18 => k_is); (case a19 => k_is); (case l19 => k_is); (case c19 => k_is); (case k19 => k_is); (case a20 => k_is); (case l20 => k_is); (case c20 => k_is); (case k20 => k_is); (case a21 => k_is); (case l21 => k_is); (case c21 => k_is); (case k21 => k_is); (case a22 => k_is); (case l22 => k_is); (case c22 => k_is); (case k22 => k_is); (case a23 => k_is); (case l23 => k_is); (case c23 => k_is); (case k23 => k_is); (case r23 => rfl); (case q23 => k_is); (case v23 => rfl); (case d23 => rfl); (case a24 => k_is); (case l24 => k_is); (case c24 => k_is); (case k24 => k_is); (case a25 => k_is); (case l25 => k_is); (case c25 => k_is); (case k25 => k_is); (case a26 => k_is); (case l26 => k_is); (case c26 => k_is); (case k26 => k_is); (case a27 => k_is); (case l27 => k_is); (case c27 => k_is); (case k27 => k_is); (case a28 => k_is); (case l28 => k_is); (case c28 => k_is); (case k28 => k_is); (case a29 => k_is); (case l29 => k_is); (case c29 => k_is); (case k29 => k_is); (case a30 => k_is); (case l30 => k_is); (case c30 => k_is); (case k30 => k_is); (case a31 => k_is); (case l31 => k_is); (case c31 => k_is); (case k31 => k_is); (case nt => rfl); (case zb_ValueError => k_is); (case zb_abs => k_is); (case zb_all => k_is); (case zb_bool => k_is); (case zb_enumerate => k_is); (case zb_int => k_is); (case zb_isinstance => k_is); (case zb_len => k_is); (case zb_list => k_is); (case zb_min => k_is); (case zb_range => k_is); (case zb_repr => k_is); (case zb_tuple => k_is); (case zb_zip => k_is); (case cc_LONGEST_LIST => k_is); (case cc_NOUGHT => k_is); (case kc_NOUGHT => k_is); (case vv_NOUGHT => exact ⟨[(.int 0), (.int 1)], by decide, .cons ⟨_, rfl⟩ (.cons ⟨_, rfl⟩ (.nil)), fun F => .cons (.int _) (.cons (.int _) (.nil))⟩); (case ii_gcd => k_is); (case aC_Wrong => k_is); (case aC_ChainError => k_is); (case aC_NoOffer => k_is); (case aC_NoOff => k_is); (case aC_NoDeed => k_is); (case aC_NoChain => k_is); (case aC_NoRow => k_is); (case aC_NoReading => k_is); (case aC_NoPaper => k_is); (case aC_NoThing => k_is); (case aC_NoText => k_is); (case aC_NoSpot => k_is); (case aC_Twice => k_is); (case aC_TooMany => k_is); (case xL_Wrong => k_is); (case rv_Wrong => first | rfl | decide +kernel); (case sa_Wrong => k_is); (case eC_Wrong => k_is); (case tC_Wrong => k_is); (case kC_Wrong => k_is); (case a1_Wrong => k_is); (case t1_Wrong => k_is); (case l1_Wrong => k_is); (case c1_Wrong => k_is); (case k1_Wrong => k_is); (case nf0_Wrong => k_is); (case xhg_Wrong => k_is); (case xhk_Wrong => k_is); (case xhs_Wrong => k_is); (case xhd_Wrong => k_is); (case xha_Wrong => k_is); (case xhn_Wrong => k_is); (case xht_Wrong => k_is); (case xhm_Wrong => k_is); (case fga_Wrong => k_is); (case fgg_Wrong => k_is); (case fgs_Wrong => k_is); (case fgd_Wrong => k_is); (case em_Wrong_ChainError => first | rfl | k_is); (case kt_Wrong_NoOffer => first | rfl | k_is); (case kt_Wrong_NoOff => first | rfl | k_is); (case kt_Wrong_NoDeed => first | rfl | k_is); (case kt_Wrong_NoChain => first | rfl | k_is); (case kt_Wrong_NoRow => first | rfl | k_is); (case kt_Wrong_NoReading => first | rfl | k_is); (case kt_Wrong_NoPaper => first | rfl | k_is); (case kt_Wrong_NoThing => first | rfl | k_is); (case kt_Wrong_NoText => first | rfl | k_is); (case kt_Wrong_NoSpot => first | rfl | k_is); (case kt_Wrong_Twice => first | rfl | k_is); (case kt_Wrong_TooMany => first | rfl | k_is); (case kt_Wrong_Wrong => first | rfl | k_is); (case kt_Wrong_ValueError => first | rfl | k_is)
