import PyProof.Rows.All
import Wide.All
import OpenK.AllK
import Wide.FinOn
import HandS.ForMost
import HandS.Exc
import HandS.WordsExc
import HandS.TupAny
import HandS.Deep
import HandS.IsInst
import HandS.Walk
import HandS.ExcInit
import HandS.Lambda
import HandS.Zip
import HandS.SetTxt0
import HandS.SetFor
import HandS.Strs
import HandS.List
import HandS.MakeKwOnly
import HandS.Property
import HandS.MakeKw
import HandS.WideBits
import HandS.Iter
import HandS.OwnEq
import HandS.ClsMeth
import HandS.Defaults
import PyProof.InstNe
import HandS.Star
import KE.GoesEnum
import HandS.MethStar
import HandS.Style
import HandS.RaiseMore
import KE.KTryMore
import HandS.ExcField
import HandS.HotCalls
import KE.KExcInit
import HandS.EndTab
import PyProof.P3In
import HandS.Codes
import PyProof.Rows.BitMore
import PyProof.P3Eq
import HandS.TryOnly
import PyProof.WalkInts
import PyProof.Rows.StrRules
import KE.RegKIsAll
import PySem.Challenge.RW_unseenrest_k05_whole_tables_are_ranks
set_option Elab.async false
set_option linter.all false
set_option maxRecDepth 100000
set_option maxHeartbeats 4000000
namespace Dn
open PySem PySem.Spec PyProof.Rows L2

/-- a value as plain data; objects by their class and fields; opq: any other value; hnd: what a handle of the world means -/
inductive D where
  | non | bl (b : Bool) | int (i : Int) | str (s : Str) | lst (ds : List D) | tup (ds : List D) | ftp (ds : List D)
  | obj (C : Addr) (ns : List Str) (ds : List D) | opq (v : V) | hnd (n : Nat) | exc (C : Addr) (ns : List Str) (ds : List D) | xcp (a dx : Addr) (ns : List Str) (ds : List D) | clo (k : Nat)
  deriving Inhabited

/-- the lambdas of the def that runs: k's function object at a, its code object at c, its default's tuple at t; the code objects' name; whether k has a default -/
structure CloT where
  f : Nat → Addr → Addr → Addr → HO
  q : Str
  d : Nat → Bool
abbrev Dl := List (Option D)
def WrT (K : PySem.W.Frag) (a : Addr) (xs : List V) : Prop :=
  ∃ (o : Obj) (its : Array Value) (n : Nat), K.lookup a = some o ∧ o.cls = .type "tuple" ∧ o.data = .seq its n ∧ its.size ≤ sizeLine ∧ Vals xs its.toList

/-- the world: M what may change, N what no plain data leans on, h what the handles mean -/
structure Wd where
  M : Addr → Prop
  N : Addr → Prop
  h : Nat → Option Addr
  C : CloT
  sub : ∀ a, M a → N a
mutual
inductive Rp (K : PySem.W.Frag) (W : Wd) (H : Hp) : V → D → Prop
  | non : Rp K W H .non .non
  | bl (b : Bool) : Rp K W H (.bl b) (.bl b)
  | int (i : Int) : Rp K W H (.int i) (.int i)
  | str (x : Str) : Rp K W H (.str x) (.str x)
  | lst {a : Addr} {xs : List V} {ds : List D} : ¬ W.N a → H a = some (.lst xs) → Rps K W H xs ds → Rp K W H (.ref a) (.lst ds)
  | tup {a : Addr} {xs : List V} {ds : List D} : ((¬ W.N a ∧ Rd H a (.tup xs)) ∨ WrT K a xs) → Rps K W H xs ds → Rp K W H (.ref a) (.tup ds)
  | ftp {a : Addr} {o : Obj} {xs : List V} {ds : List D} : ¬ W.N a → H a = some (.frz o (.tup xs)) → o.dict = none → Rps K W H xs ds → Rp K W H (.ref a) (.ftp ds)
  | obj {a C dx : Addr} {fs : List (Str × V)} {ns : List Str} {ds : List D} : ¬ W.N a → H a = some (.ins C dx fs) → fs.map (·.1) = ns → Rps K W H (fs.map (·.2)) ds → Rp K W H (.ref a) (.obj C ns ds)
  | opq (v : V) : Rp K W H v (.opq v)
  | hnd {a : Addr} (n : Nat) : W.h n = some a → Rp K W H (.ref a) (.hnd n)
  | exc {a C dx : Addr} {fs : List (Str × V)} {ns : List Str} {ds : List D} : ¬ W.N a → H a = some (exo a C (some dx)) → ¬ W.N dx → H dx = some (exd dx fs) → fs.map (·.1) = ns → Rps K W H (fs.map (·.2)) ds → Rp K W H (.ref a) (.exc C ns ds)
  | xcp {a dx : Addr} {fs : List (Str × V)} {ns : List Str} {ds : List D} : ¬ W.N dx → H dx = some (.xd fs) → fs.map (·.1) = ns → Rps K W H (fs.map (·.2)) ds → Rp K W H (.ref a) (.xcp a dx ns ds)
  | clo {a c t : Addr} (k : Nat) : ¬ W.N a → H a = some (W.C.f k a c t) → ¬ W.N c → H c = some (LamX.CodeO c W.C.q) → (W.C.d k = true → ¬ W.N t ∧ H t = some (.tup [.int 0])) → Rp K W H (.ref a) (.clo k)
inductive Rps (K : PySem.W.Frag) (W : Wd) (H : Hp) : List V → List D → Prop
  | nil : Rps K W H [] []
  | cons {v : V} {vs : List V} {d : D} {ds : List D} : Rp K W H v d → Rps K W H vs ds → Rps K W H (v :: vs) (d :: ds)
end
theorem same_new {H : Hp} {p : Addr} {o : HO} (h : H p = none) : Same H (upd H p o) := fun a u e => by
  rw [upd_ne (ne_of_none e h)]
  exact e
/-- a later world -/
structure Le (W : Wd) (H : Hp) (W' : Wd) (H' : Hp) : Prop where
  ext : ∀ a o, ¬ W.M a → H a = some o → H' a = some o
  newM : ∀ a, W'.M a → W.M a ∨ H a = none
  newN : ∀ a, W'.N a → W.N a ∨ H a = none
  keep : ∀ a, W.N a → W'.N a
  hh : ∀ n a, W.h n = some a → W'.h n = some a
  newH : ∀ n a, W'.h n = some a → W.h n = some a ∨ H a = none
  stay : ∀ a, H a ≠ none → H' a ≠ none
  cl : W'.C = W.C
/-- enough for plain data -/
structure Lw (W : Wd) (H : Hp) (W' : Wd) (H' : Hp) : Prop where
  ext : ∀ a o, ¬ W.N a → H a = some o → H' a = some o
  newN : ∀ a, W'.N a → W.N a ∨ H a = none
  hh : ∀ n a, W.h n = some a → W'.h n = some a
  cl : W'.C = W.C
theorem Le.w {W W' : Wd} {H H' : Hp} (e : Le W H W' H') : Lw W H W' H' := ⟨fun a o n h => e.ext a o (fun z => n (W.sub a z)) h, e.newN, e.hh, e.cl⟩
theorem lw_upd {W : Wd} {H : Hp} {p : Addr} {o : HO} (n : W.N p) : Lw W H W (upd H p o) := ⟨fun a u z h => by rw [upd_ne (fun e => z (by rw [e]; exact n))]; exact h, fun _ h => .inl h, fun _ _ h => h, rfl⟩
theorem Le.refl (W : Wd) (H : Hp) : Le W H W H := ⟨fun _ _ _ h => h, fun _ h => .inl h, fun _ h => .inl h, fun _ h => h, fun _ _ h => h, fun _ _ h => .inl h, fun _ h => h, rfl⟩
theorem Le.of {W : Wd} {H H' : Hp} (h : Same H H') : Le W H W H' := ⟨fun a o _ e => h a o e, fun _ h => .inl h, fun _ h => .inl h, fun _ h => h, fun _ _ h => h, fun _ _ h => .inl h, fun a n z => (by
  cases q : H a with
  | none => exact n q
  | some o => rw [h a o q] at z; cases z), rfl⟩

section
variable {K : PySem.W.Frag} {W W' : Wd} {H H' : Hp}
mutual
theorem Rp.lw (e : Lw W H W' H') : ∀ (d : D) (v : V), Rp K W H v d → Rp K W' H' v d
  | .non, _, h => by cases h; exact .non
  | .bl b, _, h => by cases h; exact .bl b
  | .int i, _, h => by cases h; exact .int i
  | .str x, _, h => by cases h; exact .str x
  | .opq v, _, h => by cases h; exact .opq v
  | .hnd n, _, h => by
    cases h with
    | hnd n q => exact .hnd n (e.hh _ _ q)
  | .lst ds, _, h => by
    cases h with
    | lst n s r =>
      refine .lst (fun z => ?_) (e.ext _ _ n s) (Rps.lw e ds _ r)
      rcases e.newN _ z with q | q
      · exact n q
      · rw [s] at q; cases q
  | .tup ds, _, h => by
    cases h with
    | tup s r =>
      refine .tup ?_ (Rps.lw e ds _ r)
      rcases s with ⟨n, s⟩ | s
      · refine .inl ⟨fun z => ?_, ?_⟩
        · rcases e.newN _ z with q | q
          · exact n q
          · rcases s with s | ⟨o, s⟩ <;> rw [s] at q <;> cases q
        · rcases s with s | ⟨o, s⟩
          · exact .inl (e.ext _ _ n s)
          · exact .inr ⟨o, e.ext _ _ n s⟩
      · exact .inr s
  | .ftp ds, _, h => by
    cases h with
    | ftp n s hd r =>
      refine .ftp (fun z => ?_) (e.ext _ _ n s) hd (Rps.lw e ds _ r)
      rcases e.newN _ z with q | q
      · exact n q
      · rw [s] at q; cases q
  | .obj C ns ds, _, h => by
    cases h with
    | obj n s z r =>
      refine .obj (fun z => ?_) (e.ext _ _ n s) z (Rps.lw e ds _ r)
      rcases e.newN _ z with q | q
      · exact n q
      · rw [s] at q; cases q
  | .exc C ns ds, _, h => by
    cases h with
    | exc n s n2 s2 z r =>
      refine .exc (fun z => ?_) (e.ext _ _ n s) (fun z => ?_) (e.ext _ _ n2 s2) z (Rps.lw e ds _ r)
      · rcases e.newN _ z with q | q
        · exact n q
        · rw [s] at q; cases q
      · rcases e.newN _ z with q | q
        · exact n2 q
        · rw [s2] at q; cases q
  | .xcp a dx ns ds, _, h => by
    cases h with
    | xcp n s z r =>
      refine .xcp (fun z => ?_) (e.ext _ _ n s) z (Rps.lw e ds _ r)
      rcases e.newN _ z with q | q
      · exact n q
      · rw [s] at q; cases q
  | .clo k, _, h => by
    cases h with
    | clo k n s n2 s2 h3 =>
      refine .clo k (fun z => ?_) (by rw [e.cl]; exact e.ext _ _ n s) (fun z => ?_) (by rw [e.cl]; exact e.ext _ _ n2 s2) fun z => ?_
      · rcases e.newN _ z with q | q
        · exact n q
        · rw [s] at q; cases q
      · rcases e.newN _ z with q | q
        · exact n2 q
        · rw [s2] at q; cases q
      · rw [e.cl] at z
        obtain ⟨n4, s4⟩ := h3 z
        refine ⟨fun y => ?_, e.ext _ _ n4 s4⟩
        rcases e.newN _ y with q | q
        · exact n4 q
        · rw [s4] at q; cases q
theorem Rps.lw (e : Lw W H W' H') : ∀ (ds : List D) (vs : List V), Rps K W H vs ds → Rps K W' H' vs ds
  | [], _, h => by cases h; exact .nil
  | d :: ds, _, h => by
    cases h with
    | cons h1 h2 => exact .cons (Rp.lw e d _ h1) (Rps.lw e ds _ h2)
end
theorem Rp.to {v : V} {d : D} (h : Rp K W H v d) (e : Le W H W' H') : Rp K W' H' v d := Rp.lw e.w d v h
theorem Rp.tow {v : V} {d : D} (h : Rp K W H v d) (e : Lw W H W' H') : Rp K W' H' v d := Rp.lw e d v h
theorem Rps.to {v : List V} {d : List D} (h : Rps K W H v d) (e : Le W H W' H') : Rps K W' H' v d := Rps.lw e.w d v h
theorem Rps.tow {v : List V} {d : List D} (h : Rps K W H v d) (e : Lw W H W' H') : Rps K W' H' v d := Rps.lw e d v h
end
theorem Le.trans {W W1 W2 : Wd} {H H1 H2 : Hp} (a : Le W H W1 H1) (b : Le W1 H1 W2 H2) : Le W H W2 H2 := by
  have key : ∀ x, H1 x = none → H x = none := fun x h => Classical.byContradiction fun z => a.stay x z h
  refine ⟨fun x o n h => ?_, fun x h => ?_, fun x h => ?_, fun x h => b.keep x (a.keep x h), fun n x h => b.hh n x (a.hh n x h), fun n x h => ?_, fun x h => b.stay x (a.stay x h), b.cl.trans a.cl⟩
  · refine b.ext x o (fun z => ?_) (a.ext x o n h)
    rcases a.newM x z with q | q
    · exact n q
    · rw [h] at q; cases q
  · rcases b.newM x h with q | q
    · exact a.newM x q
    · exact .inr (key x q)
  · rcases b.newN x h with q | q
    · exact a.newN x q
    · exact .inr (key x q)
  · rcases b.newH n x h with q | q
    · exact a.newH n x q
    · exact .inr (key x q)
section
variable {K : PySem.W.Frag} {W : Wd} {H H' : Hp}
theorem Rps.length : ∀ {vs : List V} {ds : List D}, Rps K W H vs ds → vs.length = ds.length
  | _, _, .nil => rfl
  | _, _, .cons _ t => congrArg (· + 1) (Rps.length t)
theorem Rps.get : ∀ {vs : List V} {ds : List D} {i : Nat} {d : D}, Rps K W H vs ds → ds[i]? = some d → ∃ v, vs[i]? = some v ∧ Rp K W H v d
  | _, _, _, _, .nil, h => by simp at h
  | _, _, 0, _, .cons a t, h => by simp at h; subst h; exact ⟨_, rfl, a⟩
  | _, _, i + 1, d, .cons a t, h => by
    obtain ⟨v, h1, h2⟩ := Rps.get (i := i) (d := d) t (by simpa using h)
    exact ⟨v, by simpa using h1, h2⟩
theorem Rps.get' : ∀ {vs : List V} {ds : List D} {i : Nat} {v : V}, Rps K W H vs ds → vs[i]? = some v → ∃ d, ds[i]? = some d ∧ Rp K W H v d
  | _, _, _, _, .nil, h => by simp at h
  | _, _, 0, _, .cons a t, h => by simp at h; subst h; exact ⟨_, rfl, a⟩
  | _, _, i + 1, d, .cons a t, h => by
    obtain ⟨v, h1, h2⟩ := Rps.get' (i := i) (v := d) t (by simpa using h)
    exact ⟨v, by simpa using h1, h2⟩
theorem Rps.append : ∀ {vs ws : List V} {ds es : List D}, Rps K W H vs ds → Rps K W H ws es → Rps K W H (vs ++ ws) (ds ++ es)
  | _, _, _, _, .nil, h => h
  | _, _, _, _, .cons a t, h => .cons a (Rps.append t h)
theorem Rps.take : ∀ {vs : List V} {ds : List D} (n : Nat), Rps K W H vs ds → Rps K W H (vs.take n) (ds.take n)
  | _, _, 0, _ => .nil
  | _, _, n + 1, .nil => .nil
  | _, _, n + 1, .cons a t => .cons a (Rps.take n t)
theorem Rps.drop : ∀ {vs : List V} {ds : List D} (n : Nat), Rps K W H vs ds → Rps K W H (vs.drop n) (ds.drop n)
  | _, _, 0, h => h
  | _, _, n + 1, .nil => .nil
  | _, _, n + 1, .cons a t => Rps.drop n t
theorem Rps.ints : ∀ {vs : List V} {ns : List Int}, Rps K W H vs (ns.map D.int) → vs = ns.map V.int
  | _, [], h => by cases h; rfl
  | _, n :: ns, h => by
    cases h with
    | cons h1 h2 =>
      cases h1
      rw [Rps.ints h2]
      rfl
theorem Rps.strs : ∀ {vs : List V} {ns : List Str}, Rps K W H vs (ns.map D.str) → vs = ns.map V.str
  | _, [], h => by cases h; rfl
  | _, n :: ns, h => by
    cases h with
    | cons h1 h2 =>
      cases h1
      rw [Rps.strs h2]
      rfl
theorem Rps.bls : ∀ {vs : List V} {ns : List Bool}, Rps K W H vs (ns.map D.bl) → vs = ns.map V.bl
  | _, [], h => by cases h; rfl
  | _, n :: ns, h => by
    cases h with
    | cons h1 h2 =>
      cases h1
      rw [Rps.bls h2]
      rfl
theorem Rps.of_ints : ∀ (ns : List Int), Rps K W H (ns.map V.int) (ns.map D.int)
  | [] => .nil
  | n :: ns => .cons (.int n) (Rps.of_ints ns)
theorem Rps.of_strs : ∀ (ns : List Str), Rps K W H (ns.map V.str) (ns.map D.str)
  | [] => .nil
  | n :: ns => .cons (.str n) (Rps.of_strs ns)
theorem sq_l {a : Addr} {xs : List V} (s : H a = some (.lst xs)) : SqL K H a xs := .inl (.inl s)
theorem sq_t {a : Addr} {xs : List V} (s : (¬ W.N a ∧ Rd H a (.tup xs)) ∨ WrT K a xs) : SqT K H a xs := by
  rcases s with ⟨_, s⟩ | s
  · exact .inl s
  · exact .inr s
end

/-! ### the state: what a law draws from, and the mutable things -/
structure BagSt where
  cells : List Int
  at_ : Nat
  rest : Int
  seed : Int
  cnt : Int
inductive Cell where
  | lst (ds : List D) | ins (C : Addr) (ns : List Str) (ds : List D) | tab (P : Addr) (C : CloT) (e : Option (Dl × L2.St))
structure Sta where
  bag : Option BagSt
  scr : Option (Addr × List Int)
  own : List (Nat × Cell)
  next : Nat
/-- handle 0: what is drawn from -/
def BagAt (W : Wd) (H : Hp) (b : Addr) (s : BagSt) : Prop :=
  ∃ l, ¬ W.N l ∧ H l = some (.lst (s.cells.map V.int)) ∧ H b = some (.lst [.ref l, .int s.at_, .int s.rest, .int s.seed, .int s.cnt])
def CellAt (K : PySem.W.Frag) (W : Wd) (H : Hp) (p : Addr) : Cell → Prop
  | .lst ds => ∃ vs, H p = some (.lst vs) ∧ Rps K W H vs ds
  | .ins C ns ds => ∃ dx fs, H p = some (.ins C dx fs) ∧ fs.map (·.1) = ns ∧ Rps K W H (fs.map (·.2)) ds
  | .tab P C e => p = P ∧ W.C = C ∧ (∃ ps : Array Value, H p = some (.tbl ps) ∧ TriplesOk ps.toList ∧ ∀ (pos : Pos) (cv : Value), codeAmong pos ps.toList = some cv → ∃ c, cv = .ref c ∧ ¬ W.N c ∧ H c = some (LamX.CodeO c C.q)) ∧
    ∀ Δ σ, e = some (Δ, σ) → σ.length = Δ.length ∧ ∀ (i : Nat) (d : D), Δ[i]? = some (some d) → ∃ v, σ[i]? = some (some v) ∧ Rp K W H v d
/-- the script: as it was handed in, or an object of the written part -/
def WrL (K : PySem.W.Frag) (a : Addr) (xs : List V) : Prop :=
  ∃ (o : Obj) (its : Array Value) (n : Nat), K.lookup a = some o ∧ o.cls = .type "list" ∧ o.dict = none ∧ o.data = .seq its n ∧ its.size ≤ sizeLine ∧ Vals xs its.toList
def ScrAt (K : PySem.W.Frag) (W : Wd) (H : Hp) (a : Addr) (ns : List Int) : Prop := (¬ W.N a ∧ Rd H a (.lst (ns.map V.int))) ∨ WrL K a (ns.map V.int)
structure Holds (K : PySem.W.Frag) (W : Wd) (H : Hp) (st : Sta) : Prop where
  there : ∀ a, W.N a → H a ≠ none
  inj : ∀ n m a, W.h n = some a → W.h m = some a → n = m
  hdl : ∀ n a, W.h n = some a → H a ≠ none
  dom : st.bag = none → W.h 0 = none
  bag : ∀ s, st.bag = some s → ∃ b, W.h 0 = some b ∧ W.M b ∧ BagAt W H b s
  scr : ∀ a ns, st.scr = some (a, ns) → ScrAt K W H a ns
  own : ∀ n c, (n, c) ∈ st.own → n ≠ 0 ∧ ∃ p, W.h n = some p ∧ W.M p ∧ CellAt K W H p c
  bd : ∀ n a, W.h n = some a → n ≤ st.next
section
variable {K : PySem.W.Frag} {W W' : Wd} {H H' : Hp} {st : Sta} {p : Addr}
theorem CellAt.tow {c : Cell} (h : CellAt K W H p c) (e : Lw W H W' H') (hp : H' p = H p) : CellAt K W' H' p c := by
  cases c with
  | lst ds =>
    obtain ⟨vs, h1, h2⟩ := h
    exact ⟨vs, hp.trans h1, h2.tow e⟩
  | ins C ns ds =>
    obtain ⟨dx, fs, h1, h2, h3⟩ := h
    exact ⟨dx, fs, hp.trans h1, h2, h3.tow e⟩
  | tab P C en =>
    obtain ⟨g1, g2, ⟨ps, h1, h2, h3⟩, h4⟩ := h
    refine ⟨g1, e.cl.trans g2, ⟨ps, hp.trans h1, h2, fun pos cv hc => ?_⟩, fun Δ σ q => ⟨(h4 Δ σ q).1, fun i d hd => ?_⟩⟩
    · obtain ⟨c, e1, e2, e3⟩ := h3 pos cv hc
      refine ⟨c, e1, fun z => ?_, e.ext _ _ e2 e3⟩
      rcases e.newN _ z with q | q
      · exact e2 q
      · rw [e3] at q; cases q
    · obtain ⟨v, h5, h6⟩ := (h4 Δ σ q).2 i d hd
      exact ⟨v, h5, h6.tow e⟩
theorem CellAt.there {c : Cell} (h : CellAt K W H p c) : ∃ o, H p = some o := by
  cases c with
  | lst ds => obtain ⟨vs, h1, _⟩ := h; exact ⟨_, h1⟩
  | ins C ns ds => obtain ⟨dx, fs, h1, _⟩ := h; exact ⟨_, h1⟩
  | tab P C en => obtain ⟨_, _, ⟨ps, h1, _⟩, _⟩ := h; exact ⟨_, h1⟩
/-- from world to world: what the state's own things need -/
theorem Holds.move (I : Holds K W H st) (e : Lw W H W' H') (hM : ∀ a, W.M a → W'.M a) (th : ∀ a, W'.N a → H' a ≠ none) (hW : W'.h = W.h) (hn : ∀ a, H a ≠ none → H' a ≠ none) (hm : ∀ a o, W.M a → H a = some o → H' a = some o) (hs : ∀ a, ¬ W.N a → W'.N a → H a = none) (hq : ∀ a xs, ¬ W.N a → Rd H a xs → Rd H' a xs ∧ ¬ W'.N a) : Holds K W' H' st := by
  refine ⟨th, by rw [hW]; exact I.inj, by rw [hW]; exact fun n a h => hn a (I.hdl n a h), by rw [hW]; exact I.dom, fun s h => ?_, fun a ns h => ?_, fun n c h => ?_, by rw [hW]; exact I.bd⟩
  · obtain ⟨b, h1, h2, l, h3, h4, h5⟩ := I.bag s h
    refine ⟨b, e.hh _ _ h1, hM _ h2, l, fun z => ?_, e.ext _ _ h3 h4, hm _ _ h2 h5⟩
    rw [hs l h3 z] at h4; cases h4
  · rcases I.scr a ns h with ⟨h2, h3⟩ | h3
    · obtain ⟨q1, q2⟩ := hq a _ h2 h3
      exact .inl ⟨q2, q1⟩
    · exact .inr h3
  · obtain ⟨h0, p, h1, h2, h3⟩ := I.own n c h
    obtain ⟨o, ho⟩ := h3.there
    exact ⟨h0, p, e.hh _ _ h1, hM _ h2, h3.tow e ((hm _ _ h2 ho).trans ho.symm)⟩
theorem rd_same {a : Addr} {u : HO} (e : Same H H') (h : Rd H a u) : Rd H' a u := by
  rcases h with h | ⟨o, h⟩
  · exact .inl (e _ _ h)
  · exact .inr ⟨o, e _ _ h⟩
theorem rd_some {a : Addr} {u : HO} (h : Rd H a u) : H a ≠ none := by
  rcases h with h | ⟨o, h⟩ <;> rw [h] <;> exact fun z => nomatch z
theorem ScrAt.sq {a : Addr} {ns : List Int} (h : ScrAt K W H a ns) : SqL K H a (ns.map V.int) := by
  rcases h with ⟨_, h⟩ | h
  · exact .inl h
  · exact .inr h
theorem same_some (e : Same H H') (a : Addr) (h : H a ≠ none) : H' a ≠ none := fun z => by
  cases q : H a with
  | none => exact h q
  | some o => rw [e a o q] at z; cases z
theorem Holds.same (I : Holds K W H st) (e : Same H H') : Holds K W H' st := by
  refine I.move (Le.of e).w (fun _ h => h) (fun a n z => ?_) rfl (same_some e) (fun a o _ h => e a o h) (fun a n z => (n z).elim) fun a xs n h => ⟨rd_same e h, n⟩
  cases q : H a with
  | none => exact I.there a n q
  | some o => rw [e a o q] at z; cases z
theorem not_n (I : Holds K W H st) (n : H p = none) : ¬ W.N p := fun m => I.there p m n
theorem rp_lst {vs : List V} {ds : List D} (I : Holds K W H st) (n : H p = none) (r : Rps K W H vs ds) : Rp K W (upd H p (.lst vs)) (.ref p) (.lst ds) :=
  .lst (not_n I n) upd_same (r.to (Le.of (same_new n)))
theorem rp_tup {vs : List V} {ds : List D} (I : Holds K W H st) (n : H p = none) (r : Rps K W H vs ds) : Rp K W (upd H p (.tup vs)) (.ref p) (.tup ds) :=
  .tup (.inl ⟨not_n I n, .inl upd_same⟩) (r.to (Le.of (same_new n)))
/-- a new thing that no data leans on -/
def Wd.addN (W : Wd) (p : Addr) : Wd := ⟨W.M, fun a => W.N a ∨ a = p, W.h, W.C, fun a h => .inl (W.sub a h)⟩
theorem le_addN {o : HO} (n : H p = none) : Le W H (W.addN p) (upd H p o) := by
  refine ⟨fun a u _ e => same_new n a u e, fun a h => .inl h, fun a h => ?_, fun a h => .inl h, fun _ _ h => h, fun _ _ h => .inl h, same_some (same_new n), rfl⟩
  rcases h with h | rfl
  · exact .inl h
  · exact .inr n
end
section
variable {K : PySem.W.Frag} {W : Wd} {H : Hp} {st : Sta} {p : Addr}
theorem Holds.addN {o : HO} (I : Holds K W H st) (n : H p = none) : Holds K (W.addN p) (upd H p o) st := by
  have e : Same H (upd H p o) := same_new n
  have l : Lw W H (W.addN p) (upd H p o) := (le_addN n).w
  refine ⟨fun a h z => ?_, I.inj, fun m a h => same_some e a (I.hdl m a h), I.dom, fun s h => ?_, fun a ns h => ?_, fun m c h => ?_, I.bd⟩
  · by_cases hp : a = p
    · subst hp; rw [upd_same] at z; cases z
    · rw [upd_ne hp] at z
      rcases h with h | h
      · exact I.there a h z
      · exact hp h
  · obtain ⟨b, h1, h2, l, h3, h4, h5⟩ := I.bag s h
    refine ⟨b, h1, h2, l, fun z => ?_, e _ _ h4, e _ _ h5⟩
    rcases z with z | rfl
    · exact h3 z
    · rw [n] at h4; cases h4
  · rcases I.scr a ns h with ⟨h2, h3⟩ | h3
    · refine .inl ⟨fun z => ?_, rd_same e h3⟩
      rcases z with z | rfl
      · exact h2 z
      · exact rd_some h3 n
    · exact .inr h3
  · obtain ⟨h0, q, h1, h2, h3⟩ := I.own m c h
    obtain ⟨u, hu⟩ := h3.there
    exact ⟨h0, q, h1, h2, h3.tow l ((e _ _ hu).trans hu.symm)⟩
/-- a thing that no data leans on, and that is none of the state's, changes -/
theorem Holds.off {o : HO} (I : Holds K W H st) (n : W.N p) (m : ¬ W.M p) : Holds K W (upd H p o) st := by
  have some_upd : ∀ a, H a ≠ none → upd H p o a ≠ none := fun a h z => by
    by_cases hp : a = p
    · subst hp; rw [upd_same] at z; cases z
    · rw [upd_ne hp] at z
      exact h z
  refine I.move (lw_upd n) (fun _ h => h) (fun a h z => ?_) rfl some_upd (fun a u ha h => ?_) (fun a h z => (h z).elim) fun a xs h q => ⟨?_, h⟩
  · by_cases hp : a = p
    · subst hp; rw [upd_same] at z; cases z
    · rw [upd_ne hp] at z
      exact I.there a h z
  · rw [upd_ne (fun e => m (by rw [← e]; exact ha))]; exact h
  · have hp : a ≠ p := fun e => h (by rw [e]; exact n)
    rcases q with q | ⟨u, q⟩
    · exact .inl (by rw [upd_ne hp]; exact q)
    · exact .inr ⟨u, by rw [upd_ne hp]; exact q⟩
/-- the thing at p is plain data again -/
def Wd.delN (W : Wd) (p : Addr) (m : ¬ W.M p) : Wd := ⟨W.M, fun a => W.N a ∧ a ≠ p, W.h, W.C, fun a h => ⟨W.sub a h, fun e => m (by rw [← e]; exact h)⟩⟩
theorem lw_delN {m : ¬ W.M p} : Lw W H (W.delN p m) H := ⟨fun _ _ _ h => h, fun _ h => .inl h.1, fun _ _ h => h, rfl⟩
/-- a thing that came and became plain data -/
theorem Le.delN {W0 : Wd} {H0 : Hp} {m : ¬ W.M p} (e : Le W0 H0 W H) (n : ¬ W0.N p) : Le W0 H0 (W.delN p m) H := ⟨e.ext, e.newM, fun a h => e.newN a h.1, fun a h => ⟨e.keep a h, fun z => n (by rw [← z]; exact h)⟩, e.hh, e.newH, e.stay, e.cl⟩
theorem Holds.delN {m : ¬ W.M p} (I : Holds K W H st) : Holds K (W.delN p m) H st :=
  I.move lw_delN (fun _ h => h) (fun a h => I.there a h.1) rfl (fun _ h => h) (fun _ _ _ h => h) (fun a n z => (n z.1).elim) fun a xs n h => ⟨h, fun z => n z.1⟩
end

/-! ### denotations -/
abbrev Exc := Addr × List Str × List D
abbrev Mo (α : Type) := Option (Except Exc α × Sta)
def bd {α β : Type} (m : Mo α) (k : α → Sta → Mo β) : Mo β :=
  match m with
  | none => none
  | some (.error x, st) => some (.error x, st)
  | some (.ok a, st) => k a st
abbrev Den (α : Type) := Dl → Sta → Mo α
abbrev EDen := Den D
abbrev TDen := Den Bool
abbrev ADen := Den (List D)
inductive Out where
  | nx (Δ : Dl) | rt (d : D) | bk (Δ : Dl) | ct (Δ : Dl)
abbrev SDen := Den Out

def LocD (K : PySem.W.Frag) (W : Wd) (H : Hp) (σ : L2.St) (Δ : Dl) : Prop := σ.length = Δ.length ∧ ∀ (i : Nat) (d : D), Δ[i]? = some (some d) → ∃ v, σ[i]? = some (some v) ∧ Rp K W H v d
def ExcAt (K : PySem.W.Frag) (W : Wd) (H : Hp) (dx : Addr) (x : Exc) : Prop := ¬ W.N dx ∧ ∃ fs : List (Str × V), H dx = some (.xd fs) ∧ fs.map (·.1) = x.2.1 ∧ Rps K W H (fs.map (·.2)) x.2.2
/-- what is wanted behind -/
def Wnt {α : Type} (K : PySem.W.Frag) (W : Wd) (E : XK) (H : Hp) (Q : α → Sta → Wd → Hp → Prop) : Except Exc α → Sta → Prop
  | .ok a, st => ∀ W' H', Le W H W' H' → Holds K W' H' st → Q a st W' H'
  | .error x, st => ∀ W' dx H', Le W H W' H' → Holds K W' H' st → ExcAt K W' H' dx x → E (.ref x.1) (some dx) H'
/-- a piece that gives an α, its reading in the world W and the state st -/
def tGw {α : Type} (K : PySem.W.Frag) (W : Wd) (st : Sta) (E : XK) (τ : Den α) (σ : L2.St) (H : Hp) (Q : α → Sta → Wd → Hp → Prop) : Prop :=
  ∃ Δ r st', LocD K W H σ Δ ∧ Holds K W H st ∧ τ Δ st = some (r, st') ∧ Wnt K W E H Q r st'
def tG {α : Type} (K : PySem.W.Frag) (E : XK) (τ : Den α) (σ : L2.St) (H : Hp) (Q : α → Sta → Wd → Hp → Prop) : Prop := ∃ W st, tGw K W st E τ σ H Q
def tD (K : PySem.W.Frag) (E : XK) (τ : EDen) : TE := fun σ H Q => tG K E τ σ H fun d _ W' H' => ∀ v, Rp K W' H' v d → Q v H'
def tTD (K : PySem.W.Frag) (E : XK) (τ : TDen) : TT := fun σ H Q => tG K E τ σ H fun b _ _ H' => Q b H'
def tAD (K : PySem.W.Frag) (E : XK) (τ : ADen) : TA := fun σ H Q => tG K E τ σ H fun ds _ W' H' => ∀ vs, Rps K W' H' vs ds → Q vs H'
def tSD (K : PySem.W.Frag) (E : XK) (τ : SDen) : TS := fun D σ H => tG K E τ σ H fun o _ W' H' => match o with
  | .nx Δ' => ∀ σ', LocD K W' H' σ' Δ' → D.nx σ' H'
  | .bk Δ' => ∀ σ', LocD K W' H' σ' Δ' → D.bk σ' H'
  | .ct Δ' => ∀ σ', LocD K W' H' σ' Δ' → D.ct σ' H'
  | .rt d => ∀ v, Rp K W' H' v d → D.rt v H'

section
variable {K : PySem.W.Frag} {W W1 : Wd} {E : XK} {σ : L2.St} {H H' H1 : Hp} {Δ : Dl} {α β : Type} {st : Sta}
theorem LocD.to (h : LocD K W H σ Δ) (e : Le W H W1 H1) : LocD K W1 H1 σ Δ := ⟨h.1, fun i d q => by
  obtain ⟨v, h1, h2⟩ := h.2 i d q
  exact ⟨v, h1, h2.to e⟩⟩
theorem LocD.set {i : Nat} {v : V} {d : D} (h : LocD K W H σ Δ) (r : Rp K W H v d) : LocD K W H (σ.set i (some v)) (Δ.set i (some d)) := by
  refine ⟨by rw [List.length_set, List.length_set]; exact h.1, fun j e q => ?_⟩
  by_cases hij : i = j
  · subst hij
    rw [List.getElem?_set] at q
    simp only [if_true] at q
    split at q
    · cases q
      rename_i hl
      exact ⟨v, by rw [List.getElem?_set]; simp [h.1, hl], r⟩
    · cases q
  · rw [List.getElem?_set_ne hij] at q
    obtain ⟨w, h1, h2⟩ := h.2 j e q
    exact ⟨w, by rw [List.getElem?_set_ne hij]; exact h1, h2⟩
theorem Wnt.to {Q : α → Sta → Wd → Hp → Prop} {r : Except Exc α} {st : Sta} (h : Wnt K W E H Q r st) (e : Le W H W1 H1) : Wnt K W1 E H1 Q r st := by
  cases r with
  | ok a => exact fun W' H' e' i => h W' H' (e.trans e') i
  | error x => exact fun W' dx H' e' i z => h W' dx H' (e.trans e') i z
/-- one piece, then another -/
theorem tGw.seq {τ : Den α} {k : α → Den β} {Q : β → Sta → Wd → Hp → Prop}
    (h : tGw K W st E (fun Δ st => bd (τ Δ st) fun a st1 => k a Δ st1) σ H Q) : tGw K W st E τ σ H fun a st1 W1 H1 => Le W H W1 H1 ∧ tGw K W1 st1 E (k a) σ H1 Q := by
  obtain ⟨Δ, r, st', L, I, e, w⟩ := h
  replace e : Dn.bd (τ Δ st) (fun a st1 => k a Δ st1) = some (r, st') := e
  unfold Dn.bd at e
  cases hm : τ Δ st with
  | none => rw [hm] at e; cases e
  | some p =>
    obtain ⟨ra, st1⟩ := p
    rw [hm] at e
    cases ra with
    | error x =>
      simp only at e
      cases e
      exact ⟨Δ, .error x, _, L, I, hm, w⟩
    | ok a =>
      simp only at e
      exact ⟨Δ, .ok a, st1, L, I, hm, fun W1 H1 e1 i1 => ⟨e1, Δ, r, st', L.to e1, i1, e, w.to e1⟩⟩
theorem tGw.mono {τ : Den α} {Q Q' : α → Sta → Wd → Hp → Prop} (h : tGw K W st E τ σ H Q) (q : ∀ a st W' H', Le W H W' H' → Holds K W' H' st → Q a st W' H' → Q' a st W' H') : tGw K W st E τ σ H Q' := by
  obtain ⟨Δ, r, st', L, I, e, w⟩ := h
  refine ⟨Δ, r, st', L, I, e, ?_⟩
  cases r with
  | ok a => exact fun W' H' e i => q _ _ _ _ e i (w W' H' e i)
  | error x => exact w
theorem tGw.val {m : Dl → Option α} {Q : α → Sta → Wd → Hp → Prop} (h : tGw K W st E (fun Δ st => (m Δ).map fun a => (.ok a, st)) σ H Q) :
    ∃ Δ a, LocD K W H σ Δ ∧ Holds K W H st ∧ m Δ = some a ∧ ∀ W' H', Le W H W' H' → Holds K W' H' st → Q a st W' H' := by
  obtain ⟨Δ, r, st', L, I, e, w⟩ := h
  replace e : (m Δ).map (fun a => ((Except.ok a : Except Exc α), st)) = some (r, st') := e
  cases hm : m Δ with
  | none => rw [hm] at e; cases e
  | some a =>
    rw [hm] at e
    cases e
    exact ⟨Δ, a, L, I, hm, w⟩
theorem tGw.ret {a : α} {τ : Den α} {Q : α → Sta → Wd → Hp → Prop} (h : tGw K W st E τ σ H Q) (ht : ∀ Δ, τ Δ st = some (.ok a, st)) : Q a st W H := by
  obtain ⟨Δ, r, st', L, I, e, w⟩ := h
  rw [ht] at e
  cases e
  exact w W H (Le.refl _ _) I
theorem tGw.holds {τ : Den α} {Q : α → Sta → Wd → Hp → Prop} (h : tGw K W st E τ σ H Q) : Holds K W H st := by
  obtain ⟨_, _, _, _, I, _⟩ := h
  exact I
end

/-! ### weakening -/
section
variable {X : Cx}
theorem imE {e : Expr} {t t' : TE} (h : PE X e t) (q : ∀ σ H Q, t' σ H Q → t σ H Q) : PE X e t' := ⟨fun pins s σ H Q I w => h.run pins s σ H Q I (q _ _ _ w)⟩
theorem imT {e : Expr} {t t' : TT} (h : PT X e t) (q : ∀ σ H Q, t' σ H Q → t σ H Q) : PT X e t' := ⟨fun pins s σ H Q I w => h.run pins s σ H Q I (q _ _ _ w)⟩
theorem imW {e : Expr} {t t' : TT} (h : PW X e t) (q : ∀ σ H Q, t' σ H Q → t σ H Q) : PW X e t' := ⟨fun wh pins s σ H Q I w => h.run wh pins s σ H Q I (q _ _ _ w)⟩
theorem imA {es : List Expr} {t t' : TA} (h : PA X es t) (q : ∀ σ H Q, t' σ H Q → t σ H Q) : PA X es t' := ⟨fun pos pins s σ H Q I w => h.run pos pins s σ H Q I (q _ _ _ w)⟩
theorem imS {st : Stmt} {t t' : TS} (h : PS X st t) (q : ∀ D σ H, t' D σ H → t D σ H) : PS X st t' := ⟨fun pins s σ H D I w => h.run pins s σ H D I (q _ _ _ w)⟩
theorem imSs {st : List Stmt} {t t' : TS} (h : PSs X st t) (q : ∀ D σ H, t' D σ H → t D σ H) : PSs X st t' := ⟨fun pins s σ H D I w => h.run pins s σ H D I (q _ _ _ w)⟩
theorem imO {e : Option Expr} {t t' : TO} (h : PO X e t) (q : ∀ σ H Q, t' σ H Q → t σ H Q) : PO X e t' := ⟨fun pins s σ H Q I w => h.run pins s σ H Q I (q _ _ _ w)⟩
theorem imPTs {ifs : List Expr} {t t' : TT} (h : PTs X ifs t) (q : ∀ σ H Q, t' σ H Q → t σ H Q) : PTs X ifs t' := ⟨fun pins s σ H Q I w => h.run pins s σ H Q I (q _ _ _ w)⟩
end
end Dn

set_option Elab.async false
set_option linter.all false
set_option maxRecDepth 100000
set_option maxHeartbeats 4000000
namespace Dn
open PySem PySem.Spec PyProof.Rows L2

def big : Nat := 1000000
theorem big_line {n : Nat} (h : n ≤ big) : n ≤ sizeLine := Nat.le_trans h (by decide)

/-! ### two-place operations -/
def binP (f : D → D → Option D) (ta tb : EDen) : EDen := fun Δ st =>
  bd (ta Δ st) fun x st1 => bd (tb Δ st1) fun y st2 => (f x y).map fun d => (.ok d, st2)
def rBinD (K : PySem.W.Frag) (f : D → D → Option D) : R2 := fun x y H Q =>
  ∃ W st d1 d2 d, Rp K W H x d1 ∧ Rp K W H y d2 ∧ Holds K W H st ∧ f d1 d2 = some d ∧ ∀ v H', Same H H' → Rp K W H' v d → Q v H'
section
variable {K : PySem.W.Frag} {E : XK} {σ : L2.St} {H : Hp} {α β : Type}
theorem tD_bin {f : D → D → Option D} {ta tb : EDen} {Q : VK} (h : tD K E (binP f ta tb) σ H Q) : tOp (rBinD K f) (tD K E ta) (tD K E tb) σ H Q := by
  obtain ⟨W, st, h⟩ := h
  refine ⟨W, st, h.seq.mono fun x st1 W1 H1 e1 i1 q v rv => ⟨W1, st1, q.2.seq.mono fun y st2 W2 H2 e2 i2 q2 u ru => ?_⟩⟩
  obtain ⟨Δ, d, L, I, hf, k⟩ := q2.2.val (m := fun _ => f x y)
  exact ⟨W2, st2, x, y, d, rv.to e2, ru, I, hf, fun v' H' e r => k W2 H' (Le.of e) (I.same e) v' r⟩
end
section
variable {X : Cx} {E : XK} {a b : Expr} {ta tb : EDen} {pos : Pos}
theorem de_bin {op : Operator} {f : D → D → Option D} (ho : OpR X (binaryOp op) (rBinD X.K f)) (ha : PE X a (tD X.K E ta)) (hb : PE X b (tD X.K E tb)) : PE X (.BinOp a op b pos) (tD X.K E (binP f ta tb)) :=
  imE (pe_op ho ha hb) fun _ _ _ => tD_bin
theorem de_cmp {op : CmpOp} {f : D → D → Option D} (ho : OpR X (compareOp op) (rBinD X.K f)) (ha : PE X a (tD X.K E ta)) (hb : PE X b (tD X.K E tb)) (hm : behindInMarks op b = false) : PE X (.Compare a [op] [b] pos) (tD X.K E (binP f ta tb)) :=
  imE (pe_cmpR ho ha hb hm) fun _ _ _ => tD_bin

/-! ### the operators on values -/
def addD : D → D → Option D
  | .int i, .int j => some (.int (i + j))
  | .str x, .str y => if x.length + y.length ≤ big then some (.str (x ++ y)) else none
  | .lst xs, .lst ys => if xs.length + ys.length ≤ big then some (.lst (xs ++ ys)) else none
  | .tup xs, .tup ys => if xs.length + ys.length ≤ big then some (.tup (xs ++ ys)) else none
  | _, _ => none
theorem or_add : OpR X (binaryOp .Add) (rBinD X.K addD) := by
  intro pins s σ H x y v u Q I rx ry h
  obtain ⟨W, st, d1, d2, d, r1, r2, iv, hf, k⟩ := h
  unfold addD at hf
  split at hf
  · cases hf; cases r1; cases r2
    exact op_add pins s σ H _ _ v u Q I rx ry ⟨_, _, rfl, rfl, k _ _ (Same.refl _) (.int _)⟩
  · split at hf
    · rename_i hz
      cases hf; cases r1; cases r2
      exact op_add_str pins s σ H _ _ v u Q I rx ry ⟨_, _, rfl, rfl, big_line hz, k _ _ (Same.refl _) (.str _)⟩
    · cases hf
  · split at hf
    · rename_i hz
      cases hf
      cases r1 with
      | lst n1 s1 q1 =>
        cases r2 with
        | lst n2 s2 q2 =>
          exact op_cat pins s σ H _ _ v u Q I rx ry ⟨_, _, _, _, rfl, rfl, s1, s2, by rw [q1.length, q2.length]; exact big_line hz, fun p np =>
            k _ _ (same_new np) (rp_lst iv np (q1.append q2))⟩
    · cases hf
  · split at hf
    · rename_i hz
      cases hf
      cases r1 with
      | tup s1 q1 =>
        cases r2 with
        | tup s2 q2 =>
          refine op_catA pins s σ H _ _ v u Q I rx ry ⟨_, _, _, _, rfl, rfl, sq_t s1, sq_t s2, by rw [q1.length, q2.length]; exact big_line hz, fun e => ?_, fun _ e => ?_, fun _ _ p np => ?_⟩
          · subst e; cases q1
            exact k _ _ (Same.refl _) (.tup s2 q2)
          · subst e; cases q2
            rw [List.append_nil] at k
            exact k _ _ (Same.refl _) (.tup s1 q1)
          · exact k _ _ (same_new np) (rp_tup iv np (q1.append q2))
    · cases hf
  · cases hf
/-- an operation on two ints -/
def intD (g : Int → Int → Option Int) : D → D → Option D
  | .int i, .int j => (g i j).map .int
  | _, _ => none
theorem or_int {op : Operator} {C : Int → Int → Prop} {g' : Int → Int → Int} {g : Int → Int → Option Int} (h : OpR X (binaryOp op) (rI C fun i j => .int (g' i j))) (hg : ∀ i j k, g i j = some k → C i j ∧ k = g' i j) : OpR X (binaryOp op) (rBinD X.K (intD g)) := by
  intro pins s σ H x y v u Q I rx ry q
  obtain ⟨W, st, d1, d2, d, r1, r2, iv, hf, k⟩ := q
  unfold intD at hf
  split at hf
  · rename_i i j
    cases r1; cases r2
    cases e : g i j with
    | none => rw [e] at hf; cases hf
    | some z =>
      rw [e] at hf
      cases hf
      obtain ⟨c, rfl⟩ := hg _ _ _ e
      exact h pins s σ H _ _ v u Q I rx ry ⟨_, _, rfl, rfl, c, k _ _ (Same.refl _) (.int _)⟩
  · cases hf
theorem or_int0 {op : Operator} {g : Int → Int → Int} (h : OpR X (binaryOp op) (rI0 fun i j => .int (g i j))) : OpR X (binaryOp op) (rBinD X.K (intD fun i j => some (g i j))) := by
  refine or_int (C := fun _ _ => True) (g' := g) (fun pins s σ H x y v u Q I rx ry q => ?_) fun i j k e => ⟨trivial, (Option.some.inj e).symm⟩
  obtain ⟨i, j, rfl, rfl, _, q⟩ := q
  exact h pins s σ H _ _ v u Q I rx ry ⟨i, j, rfl, rfl, q⟩
abbrev subD := intD fun i j => some (i - j)
theorem or_sub : OpR X (binaryOp .Sub) (rBinD X.K subD) := or_int0 op_sub
def two64 : Int := 18446744073709551616
def mulI (i j : Int) : Option Int := if (-two64 < i ∧ i < two64) ∨ (-two64 < j ∧ j < two64) then some (i * j) else none
def mulD : D → D → Option D
  | .int i, .int j => (mulI i j).map .int
  | .lst xs, .int k => if -1000000 ≤ k ∧ k ≤ 1000000 ∧ xs.length * k.toNat ≤ big then some (.lst (List.replicate k.toNat xs).flatten) else none
  | _, _ => none
theorem rps_rep {K : PySem.W.Frag} {W : Wd} {H : Hp} {vs : List V} {ds : List D} (r : Rps K W H vs ds) : ∀ n : Nat, Rps K W H (List.replicate n vs).flatten (List.replicate n ds).flatten
  | 0 => .nil
  | n + 1 => by
    rw [List.replicate_succ, List.replicate_succ, List.flatten_cons, List.flatten_cons]
    exact r.append (rps_rep r n)
theorem or_mul : OpR X (binaryOp .Mult) (rBinD X.K mulD) := by
  intro pins s σ H x y v u Q I rx ry q
  obtain ⟨W, st, d1, d2, d, r1, r2, iv, hf, k⟩ := q
  unfold mulD at hf
  split at hf
  · rename_i i j
    cases r1; cases r2
    unfold mulI at hf
    split at hf
    · rename_i c
      cases hf
      exact op_mul pins s σ H _ _ v u Q I rx ry ⟨_, _, rfl, rfl, c, k _ _ (Same.refl _) (.int _)⟩
    · cases hf
  · split at hf
    · rename_i c
      cases hf
      cases r2
      cases r1 with
      | lst n1 s1 q1 =>
        exact op_rep pins s σ H _ _ v u Q I rx ry ⟨_, _, _, rfl, rfl, s1, by omega, by omega, by rw [q1.length]; exact big_line c.2.2, fun p np => k _ _ (same_new np) (rp_lst iv np (rps_rep q1 _))⟩
    · cases hf
  · cases hf
def fdivI (i j : Int) : Option Int := if 0 < j ∧ j < 1073741824 then some (i / j) else none
def modI (i j : Int) : Option Int := if 0 < j then some (i % j) else none
def shlI (i j : Int) : Option Int := if 0 ≤ j ∧ j ≤ 1000000 ∧ i.natAbs < 2 ^ 64 then some (i * 2 ^ j.toNat) else none
def powI (i j : Int) : Option Int := if 0 ≤ j ∧ j ≤ 1000000 ∧ i.natAbs < 2 ^ 64 then some (i ^ j.toNat) else none
def shrI (i j : Int) : Option Int := if 0 ≤ j then some (i / 2 ^ j.toNat) else none
theorem ite_some {c : Prop} [Decidable c] {a k : Int} (h : (if c then some a else none) = some k) : c ∧ k = a := by
  split at h
  · exact ⟨by assumption, (Option.some.inj h).symm⟩
  · cases h
theorem or_fdiv : OpR X (binaryOp .FloorDiv) (rBinD X.K (intD fdivI)) := or_int op_fdiv fun i j _ e => ite_some (c := 0 < j ∧ j < 1073741824) e
theorem or_mod : OpR X (binaryOp .Mod) (rBinD X.K (intD modI)) := or_int op_mod fun _ _ _ e => ite_some e
theorem or_shl : OpR X (binaryOp .LShift) (rBinD X.K (intD shlI)) := or_int op_shl fun i j _ e => ite_some (c := 0 ≤ j ∧ j ≤ 1000000 ∧ i.natAbs < 2 ^ 64) e
theorem or_pow : OpR X (binaryOp .Pow) (rBinD X.K (intD powI)) := or_int op_pow fun i j _ e => ite_some (c := 0 ≤ j ∧ j ≤ 1000000 ∧ i.natAbs < 2 ^ 64) e
theorem or_shr : OpR X (binaryOp .RShift) (rBinD X.K (intD shrI)) := or_int op_shr fun _ _ _ e => ite_some e
theorem or_and : OpR X (binaryOp .BitAnd) (rBinD X.K (intD fun i j => some (Builtin.bitAnd i j))) := or_int0 op_and
theorem or_or : OpR X (binaryOp .BitOr) (rBinD X.K (intD fun i j => some (Builtin.bitOr i j))) := or_int0 op_or
theorem or_xor : OpR X (binaryOp .BitXor) (rBinD X.K (intD fun i j => some (Builtin.bitXor i j))) := or_int0 op_xor

/-! ### comparisons -/
def sLt (x y : Str) : Bool := decide (x.cps.toList < y.cps.toList)
def ordD (fi : Int → Int → Bool) (fs : Str → Str → Bool) : D → D → Option D
  | .int i, .int j => some (.bl (fi i j))
  | .str x, .str y => some (.bl (fs x y))
  | _, _ => none
theorem or_ord {op : CmpOp} {fi : Int → Int → Bool} {fs : Str → Str → Bool} (h1 : OpR X (compareOp op) (rI0 fun i j => .bl (fi i j))) (h2 : OpR X (compareOp op) (fun x y H Q => ∃ i j, x = .str i ∧ y = .str j ∧ Q (.bl (fs i j)) H)) :
    OpR X (compareOp op) (rBinD X.K (ordD fi fs)) := by
  intro pins s σ H x y v u Q I rx ry q
  obtain ⟨W, st, d1, d2, d, r1, r2, iv, hf, k⟩ := q
  unfold ordD at hf
  split at hf
  · cases hf; cases r1; cases r2
    exact h1 pins s σ H _ _ v u Q I rx ry ⟨_, _, rfl, rfl, k _ _ (Same.refl _) (.bl _)⟩
  · cases hf; cases r1; cases r2
    exact h2 pins s σ H _ _ v u Q I rx ry ⟨_, _, rfl, rfl, k _ _ (Same.refl _) (.bl _)⟩
  · cases hf
abbrev ltD := ordD (fun i j => decide (i < j)) sLt
abbrev leD := ordD (fun i j => decide (i ≤ j)) (fun x y => !sLt y x)
abbrev gtD := ordD (fun i j => decide (j < i)) (fun x y => sLt y x)
abbrev geD := ordD (fun i j => decide (j ≤ i)) (fun x y => !sLt x y)
theorem or_lt : OpR X (compareOp .Lt) (rBinD X.K ltD) := or_ord op_lt op_lt_str
theorem or_le : OpR X (compareOp .LtE) (rBinD X.K leD) := or_ord op_le op_le_str
theorem or_gt : OpR X (compareOp .Gt) (rBinD X.K gtD) := or_ord op_gt op_gt_str
theorem or_ge : OpR X (compareOp .GtE) (rBinD X.K geD) := or_ord op_ge op_ge_str

mutual
def toPy : D → Option PyData
  | .non => some .none
  | .bl b => some (.bool b)
  | .int i => some (.int i)
  | .str x => some (.str x)
  | .lst ds => (toPys ds).map .list
  | .tup ds => (toPys ds).map .tuple
  | _ => none
def toPys : List D → Option (List PyData)
  | [] => some []
  | d :: ds => (toPy d).bind fun a => (toPys ds).map fun r => a :: r
end
section
variable {K : PySem.W.Frag} {W : Wd} {H : Hp}
mutual
theorem Rp.dp : ∀ (d : D) (v : V) (p : PyData), Rp K W H v d → toPy d = some p → Dp K H v p
  | .non, _, _, h, e => by cases h; simp only [toPy] at e; cases e; exact .non
  | .bl b, _, _, h, e => by cases h; simp only [toPy] at e; cases e; exact .bl b
  | .int i, _, _, h, e => by cases h; simp only [toPy] at e; cases e; exact .int i
  | .str x, _, _, h, e => by cases h; simp only [toPy] at e; cases e; exact .str x
  | .lst ds, _, _, h, e => by
    cases h with
    | lst n s r =>
      simp only [toPy] at e
      cases q : toPys ds with
      | none => rw [q] at e; cases e
      | some ps =>
        rw [q] at e
        cases e
        exact .lst (sq_l s) (Rps.dp ds _ _ r q)
  | .tup ds, _, _, h, e => by
    cases h with
    | tup s r =>
      simp only [toPy] at e
      cases q : toPys ds with
      | none => rw [q] at e; cases e
      | some ps =>
        rw [q] at e
        cases e
        exact .tup (sq_t s) (Rps.dp ds _ _ r q)
  | .ftp _, _, _, _, e => by simp only [toPy] at e; cases e
  | .obj _ _ _, _, _, _, e => by simp only [toPy] at e; cases e
  | .opq _, _, _, _, e => by simp only [toPy] at e; cases e
theorem Rps.dp : ∀ (ds : List D) (vs : List V) (ps : List PyData), Rps K W H vs ds → toPys ds = some ps → DpAll K H vs ps
  | [], _, _, h, e => by cases h; simp only [toPys] at e; cases e; exact .nil
  | d :: ds, _, _, h, e => by
    cases h with
    | cons h1 h2 =>
      simp only [toPys] at e
      cases q : toPy d with
      | none => rw [q] at e; cases e
      | some p =>
        rw [q] at e
        cases q2 : toPys ds with
        | none => rw [q2] at e; cases e
        | some ps =>
          rw [q2] at e
          cases e
          exact .cons (Rp.dp d _ _ h1 q) (Rps.dp ds _ _ h2 q2)
end
end
/-- data that may be compared -/
def shP (d : D) : Option PyData := (toPy d).bind fun p => if SeqAt.shaped p = true then some p else none
theorem shP_of {d : D} {p : PyData} (h : shP d = some p) : toPy d = some p ∧ SeqAt.shaped p = true := by
  unfold shP at h
  cases e : toPy d with
  | none => rw [e] at h; cases h
  | some q =>
    rw [e] at h
    simp only [Option.bind] at h
    split at h
    · cases h; exact ⟨rfl, by assumption⟩
    · cases h
def eqB (x y : D) : Option Bool := (shP x).bind fun a => (shP y).map fun b => PyData.eqv a b
def eqD (x y : D) : Option D := (eqB x y).map .bl
def neD (x y : D) : Option D := (eqB x y).map fun b => .bl (!b)
theorem eqB_of {x y : D} {b : Bool} (h : eqB x y = some b) : ∃ p q, toPy x = some p ∧ toPy y = some q ∧ SeqAt.shaped p = true ∧ SeqAt.shaped q = true ∧ b = PyData.eqv p q := by
  unfold eqB at h
  cases e : shP x with
  | none => rw [e] at h; cases h
  | some p =>
    rw [e] at h
    cases e2 : shP y with
    | none => rw [e2] at h; cases h
    | some q =>
      rw [e2] at h
      cases h
      exact ⟨p, q, (shP_of e).1, (shP_of e2).1, (shP_of e).2, (shP_of e2).2, rfl⟩
theorem or_eq (hu : X.A.units + 64 < cLine) : OpR X (compareOp .Eq) (rBinD X.K eqD) := by
  intro pins s σ H x y v u Q I rx ry q
  obtain ⟨W, st, d1, d2, d, r1, r2, iv, hf, k⟩ := q
  unfold eqD at hf
  cases e : eqB d1 d2 with
  | none => rw [e] at hf; cases hf
  | some b =>
    rw [e] at hf
    cases hf
    obtain ⟨p, q, h1, h2, h3, h4, rfl⟩ := eqB_of e
    exact op_eqD hu pins s σ H _ _ v u Q I rx ry ⟨p, q, r1.dp _ _ _ h1, r2.dp _ _ _ h2, h3, h4, k _ _ (Same.refl _) (.bl _)⟩
theorem or_ne (hu : X.A.units + 64 < cLine) : OpR X (compareOp .NotEq) (rBinD X.K neD) := by
  intro pins s σ H x y v u Q I rx ry q
  obtain ⟨W, st, d1, d2, d, r1, r2, iv, hf, k⟩ := q
  unfold neD at hf
  cases e : eqB d1 d2 with
  | none => rw [e] at hf; cases hf
  | some b =>
    rw [e] at hf
    cases hf
    obtain ⟨p, q, h1, h2, h3, h4, rfl⟩ := eqB_of e
    exact op_neD hu pins s σ H _ _ v u Q I rx ry ⟨p, q, r1.dp _ _ _ h1, r2.dp _ _ _ h2, h3, h4, k _ _ (Same.refl _) (.bl _)⟩
end
end Dn

set_option Elab.async false
set_option linter.all false
set_option maxRecDepth 100000
set_option maxHeartbeats 4000000
namespace Dn
open PySem PySem.Spec PyProof.Rows L2

/-! ### leaves, truth, and, or, not, if else -/
def cstP (d : D) : EDen := fun _ st => some (.ok d, st)
def varP (i : Nat) : EDen := fun Δ st => (match Δ[i]? with | some (some d) => some d | _ => none).map fun d => (.ok d, st)
section
variable {X : Cx} {E : XK} {a b c : Expr} {ta tb tc : EDen} {pos : Pos} {σ : L2.St} {H : Hp} {Q : VK}
theorem tD_cst {v : V} {d : D} (h : tD X.K E (cstP d) σ H Q) (r : ∀ W H', Rp X.K W H' v d) : Q v H := by
  obtain ⟨W, st0, h⟩ := h
  obtain ⟨Δ, x, L, I, e, k⟩ := h.val (m := fun _ => some d)
  cases e
  exact k W H (Le.refl _ _) I v (r _ _)
theorem de_int {i : Int} {j : Nat} : PE X (.Constant (.int i) j pos) (tD X.K E (cstP (.int i))) := imE pe_int fun _ _ _ h => tD_cst h fun _ _ => .int i
theorem de_bl {i : Bool} {j : Nat} : PE X (.Constant (.bool i) j pos) (tD X.K E (cstP (.bl i))) := imE pe_bl fun _ _ _ h => tD_cst h fun _ _ => .bl i
theorem de_non {j : Nat} : PE X (.Constant .none j pos) (tD X.K E (cstP .non)) := imE pe_non fun _ _ _ h => tD_cst h fun _ _ => .non
theorem de_str {x : Str} {j : Nat} : PE X (.Constant (.str x) j pos) (tD X.K E (cstP (.str x))) := imE pe_str fun _ _ _ h => tD_cst h fun _ _ => .str x
theorem tD_var {i : Nat} (h : tD X.K E (varP i) σ H Q) : tVar i σ H Q := by
  obtain ⟨W, st0, h⟩ := h
  obtain ⟨Δ, x, L, I, e, k⟩ := h.val (m := fun Δ => match Δ[i]? with | some (some d) => some d | _ => none)
  split at e
  · rename_i d hd
    cases e
    obtain ⟨v, hv, rv⟩ := L.2 i _ hd
    exact ⟨v, hv, k W H (Le.refl _ _) I v rv⟩
  · cases e
theorem de_var (i : Nat) {x : Str} (hN : X.N[i]? = some x := by rfl) (hv : Vis X.env.scope x := by first | exact Or.inl rfl | exact Or.inr (Or.inl rfl) | exact Or.inr (Or.inr rfl)) (hd : (x == ("__debug__" : Str)) = false := by decide)
    (hcd : (x == ("__classdict__" : Str)) = false := by decide) : PE X (.Name x pos) (tD X.K E (varP i)) := imE (pe_var hN hv hd hcd) fun _ _ _ => tD_var
/-- a constant of the module: an int, a text, None, a bool -/
theorem de_glob {x : Str} {u : Value} {v : V} {d : D} (hg : Gl X x) (hm : X.mg x = some u) (r : RelV v u) (rd : ∀ W H', Rp X.K W H' v d) (hd : (x == ("__debug__" : Str)) = false := by decide) : PE X (.Name x pos) (tD X.K E (cstP d)) :=
  imE (pe_glob hg hm r hd) fun _ _ _ h => tD_cst h rd
def truD : D → Option Bool
  | .non => some false
  | .bl b => some b
  | .int i => some (i != 0)
  | .str y => if y.length ≤ big then some ((y.length : Int) != 0) else none
  | .lst ds => some (!ds.isEmpty)
  | .tup ds => some (!ds.isEmpty)
  | _ => none
theorem rps_empty {K : PySem.W.Frag} {W : Wd} {H : Hp} {vs : List V} {ds : List D} (r : Rps K W H vs ds) : vs.isEmpty = ds.isEmpty := by cases r <;> rfl
theorem tru_of {K : PySem.W.Frag} {W : Wd} {H : Hp} {v : V} {d : D} {b : Bool} (r : Rp K W H v d) (h : truD d = some b) : TruV K v H b := by
  cases r with
  | non => cases h; rfl
  | bl b => cases h; rfl
  | int i => cases h; rfl
  | str x =>
    simp only [truD] at h
    split at h
    · cases h
      exact ⟨big_line (by assumption), rfl⟩
    · cases h
  | lst n s r =>
    cases h
    exact .inl ⟨_, sq_l s, by rw [rps_empty r]⟩
  | tup s r =>
    cases h
    exact .inr (.inl ⟨_, sq_t s, by rw [rps_empty r]⟩)
  | ftp _ _ _ _ => cases h
  | obj _ _ _ _ => cases h
  | opq _ => cases h
  | hnd _ _ => cases h
  | exc _ _ _ _ _ _ => cases h
  | xcp _ _ _ _ => cases h
  | clo _ _ _ _ _ _ => cases h
def truP (ta : EDen) : TDen := fun Δ st => bd (ta Δ st) fun d st1 => (truD d).map fun b => (.ok b, st1)
theorem tTD_tru {Q : Bool → Hp → Prop} (h : tTD X.K E (truP ta) σ H Q) : tD X.K E ta σ H fun x H' => ∃ k, TruV X.K x H' k ∧ Q k H' := by
  obtain ⟨W, st0, h⟩ := h
  refine ⟨W, st0, h.seq.mono fun d st1 W1 H1 e1 i1 q v rv => ?_⟩
  obtain ⟨Δ, b, L, I, e, k⟩ := q.2.val (m := fun _ => truD d)
  exact ⟨b, tru_of rv e, k W1 H1 (Le.refl _ _) I⟩
/-- a name, a call, an attribute, a subscript as a test -/
theorem dt_tru (ha : PE X a (tD X.K E ta)) (he : ∀ whole, isTrue a X.env whole = (do let v ← whole; standAt a.pos; holding [v] (truthy v)) := by intro _; rfl) : PT X a (tTD X.K E (truP ta)) :=
  imT (pt_truth ha he) fun _ _ _ => tTD_tru
def blOf (d : D) : Option Bool := match d with | .bl b => some b | _ => none
def tstP (ta : EDen) : TDen := fun Δ st => bd (ta Δ st) fun d st1 => (blOf d).map fun b => (.ok b, st1)
theorem tTD_tst {Q : Bool → Hp → Prop} (h : tTD X.K E (tstP ta) σ H Q) : tD X.K E ta σ H fun x H' => ∃ k, x = .bl k ∧ Q k H' := by
  obtain ⟨W, st0, h⟩ := h
  refine ⟨W, st0, h.seq.mono fun d st1 W1 H1 e1 i1 q v rv => ?_⟩
  obtain ⟨Δ, b, L, I, e, k⟩ := q.2.val (m := fun _ => blOf d)
  cases rv <;> simp only [blOf] at e <;> cases e
  exact ⟨_, rfl, k W1 H1 (Le.refl _ _) I⟩
/-- a comparison as a test -/
theorem dt_cmp {op : CmpOp} {f : D → D → Option D} (ho : OpR X (compareOp op) (rBinD X.K f)) (ha : PE X a (tD X.K E ta)) (hb : PE X b (tD X.K E tb)) (hm : behindInMarks op b = false) : PT X (.Compare a [op] [b] pos) (tTD X.K E (tstP (binP f ta tb))) :=
  imT (pt_cmpR ho ha hb hm) fun σ H Q h => by
    show tOp (rBinD X.K f) (tD X.K E ta) (tD X.K E tb) σ H _
    exact tD_bin (tTD_tst h)
/-- a op b op' c -/
def chP (f g : D → D → Option D) (ta tb tc : EDen) : EDen := fun Δ st =>
  bd (ta Δ st) fun x st1 => bd (tb Δ st1) fun y st2 => bd (((f x y).bind blOf).map fun b => (.ok b, st2)) fun b st3 =>
    if b = true then bd (tc Δ st3) fun z st4 => (g y z).map fun d => (.ok d, st4) else some (.ok (.bl false), st3)
theorem tD_ch {f g : D → D → Option D} (h : tD X.K E (chP f g ta tb tc) σ H Q) : tChain (rBinD X.K f) (rBinD X.K g) (tD X.K E ta) (tD X.K E tb) (tD X.K E tc) σ H Q := by
  obtain ⟨W, st0, h⟩ := h
  refine ⟨W, st0, h.seq.mono fun x st1 W1 H1 e1 i1 q v rv => ?_⟩
  refine ⟨W1, st1, q.2.seq.mono fun y st2 W2 H2 e2 i2 q2 u ru => ?_⟩
  obtain ⟨e2', q3⟩ := q2
  obtain ⟨Δ, b, L, I, hf, k⟩ := q3.seq.val (m := fun _ => (f x y).bind blOf)
  cases hd : f x y with
  | none => rw [hd] at hf; cases hf
  | some d =>
    rw [hd] at hf
    refine ⟨W2, st2, x, y, d, rv.to e2, ru, I, hd, fun w H3 e3 rw' => ?_⟩
    cases rw' <;> simp only [Option.bind, blOf] at hf <;> cases hf
    obtain ⟨_, q5⟩ := k W2 H3 (Le.of e3) (I.same e3)
    refine ⟨_, rfl, ?_⟩
    split
    · rename_i hb
      subst hb
      simp only [if_true] at q5
      refine ⟨W2, st2, q5.seq.mono fun z st4 W4 H4 e4 i4 q6 w' rz => ?_⟩
      obtain ⟨Δ', d', L', I', hg, k'⟩ := q6.2.val (m := fun _ => g y z)
      exact ⟨W4, st4, y, z, d', (ru.to (Le.of e3)).to e4, rz, I', hg, fun v' H' e r => k' W4 H' (Le.of e) (I'.same e) v' r⟩
    · rename_i hb
      simp only [hb] at q5
      exact tD_cst (d := .bl false) ⟨W2, st2, q5⟩ fun _ _ => .bl false
theorem de_ch {op op' : CmpOp} {f g : D → D → Option D} (ho : OpR X (compareOp op) (rBinD X.K f)) (ho' : OpR X (compareOp op') (rBinD X.K g)) (ha : PE X a (tD X.K E ta)) (hb : PE X b (tD X.K E tb)) (hc : PE X c (tD X.K E tc))
    (hm : lastMarks [op, op'] [b, c] = false := by with_unfolding_all rfl) : PE X (.Compare a [op, op'] [b, c] pos) (tD X.K E (chP f g ta tb tc)) := imE (pe_chain ho ho' ha hb hc hm) fun _ _ _ => tD_ch
theorem dt_ch {op op' : CmpOp} {f g : D → D → Option D} (ho : OpR X (compareOp op) (rBinD X.K f)) (ho' : OpR X (compareOp op') (rBinD X.K g)) (ha : PE X a (tD X.K E ta)) (hb : PE X b (tD X.K E tb)) (hc : PE X c (tD X.K E tc))
    (hm : lastMarks [op, op'] [b, c] = false := by with_unfolding_all rfl) : PT X (.Compare a [op, op'] [b, c] pos) (tTD X.K E (tstP (chP f g ta tb tc))) := imT (pt_chain ho ho' ha hb hc hm) fun σ H Q h => tD_ch (tTD_tst h)

def andT (ta tb : TDen) : TDen := fun Δ st => bd (ta Δ st) fun b st1 => if b = true then tb Δ st1 else some (.ok false, st1)
def orT (ta tb : TDen) : TDen := fun Δ st => bd (ta Δ st) fun b st1 => if b = true then some (.ok true, st1) else tb Δ st1
def notT (ta : TDen) : TDen := fun Δ st => bd (ta Δ st) fun b st1 => some (.ok (!b), st1)
variable {tA tB : TDen} {rest : List Expr}
theorem dw_and1 (ha : PT X a (tTD X.K E tA)) : PW X (.BoolOp .And [a] pos) (tTD X.K E tA) := pw_and1 ha
theorem dw_or1 (ha : PT X a (tTD X.K E tA)) : PW X (.BoolOp .Or [a] pos) (tTD X.K E tA) := pw_or1 ha
theorem dw_and (ha : PT X a (tTD X.K E tA)) (hb : PW X (.BoolOp .And (b :: rest) pos) (tTD X.K E tB)) : PW X (.BoolOp .And (a :: b :: rest) pos) (tTD X.K E (andT tA tB)) :=
  imW (pw_and ha hb) fun σ H Q h => by
    obtain ⟨W, st0, h⟩ := h
    refine ⟨W, st0, (h.seq (k := fun b Δ st1 => if b = true then tB Δ st1 else some (.ok false, st1))).mono fun c st1 W1 H1 e1 i1 q => ?_⟩
    obtain ⟨_, q⟩ := q
    cases c with
    | true => exact iteT ⟨W1, st1, q⟩
    | false =>
      exact iteF (q.ret fun _ => rfl)
theorem dw_or (ha : PT X a (tTD X.K E tA)) (hb : PW X (.BoolOp .Or (b :: rest) pos) (tTD X.K E tB)) : PW X (.BoolOp .Or (a :: b :: rest) pos) (tTD X.K E (orT tA tB)) :=
  imW (pw_or ha hb) fun σ H Q h => by
    obtain ⟨W, st0, h⟩ := h
    refine ⟨W, st0, (h.seq (k := fun b Δ st1 => if b = true then some (.ok true, st1) else tB Δ st1)).mono fun c st1 W1 H1 e1 i1 q => ?_⟩
    obtain ⟨_, q⟩ := q
    cases c with
    | false => exact iteF ⟨W1, st1, q⟩
    | true =>
      exact iteT (q.ret fun _ => rfl)
theorem dt_w {e : Expr} (h : PW X e (tTD X.K E tA)) : PT X e (tTD X.K E tA) := h.pt
theorem dt_not (ha : PT X a (tTD X.K E tA)) : PT X (.UnaryOp .Not a pos) (tTD X.K E (notT tA)) :=
  imT (pt_not ha) fun σ H Q h => by
    obtain ⟨W, st0, h⟩ := h
    refine ⟨W, st0, (h.seq (k := fun b _ st1 => some (.ok (!b), st1))).mono fun c st1 W1 H1 e1 i1 q => ?_⟩
    exact q.2.ret fun _ => rfl
/-- as values: all but the last are bools -/
def andV (ta tb : EDen) : EDen := fun Δ st => bd (ta Δ st) fun d st1 => bd ((blOf d).map fun b => (.ok b, st1)) fun b st2 => if b = true then tb Δ st2 else some (.ok (.bl false), st2)
def orV (ta tb : EDen) : EDen := fun Δ st => bd (ta Δ st) fun d st1 => bd ((blOf d).map fun b => (.ok b, st1)) fun b st2 => if b = true then some (.ok (.bl true), st2) else tb Δ st2
def notV (ta : EDen) : EDen := fun Δ st => bd (ta Δ st) fun d st1 => (blOf d).map fun b => (.ok (.bl (!b)), st1)
theorem de_one {op : BoolOp} (ha : PE X a (tD X.K E ta)) : PE X (.BoolOp op [a] pos) (tD X.K E ta) := pe_one ha
theorem de_and (ha : PE X a (tD X.K E ta)) (hb : PE X (.BoolOp .And (b :: rest) pos) (tD X.K E tb)) : PE X (.BoolOp .And (a :: b :: rest) pos) (tD X.K E (andV ta tb)) :=
  imE (pe_and ha hb) fun σ H Q h => by
    obtain ⟨W, st0, h⟩ := h
    refine ⟨W, st0, h.seq.mono fun d st1 W1 H1 e1 i1 q v rv => ?_⟩
    obtain ⟨Δ, b, L, I, e, k⟩ := q.2.seq.val (m := fun _ => blOf d)
    cases rv <;> simp only [blOf] at e <;> cases e
    obtain ⟨_, q3⟩ := k W1 H1 (Le.refl _ _) I
    refine ⟨_, rfl, ?_⟩
    split
    · rename_i hb; subst hb; exact ⟨W1, st1, q3⟩
    · rename_i hb; simp only [hb] at q3
      exact tD_cst (d := .bl false) ⟨W1, st1, q3⟩ fun _ _ => .bl false
theorem de_not (ha : PE X a (tD X.K E ta)) : PE X (.UnaryOp .Not a pos) (tD X.K E (notV ta)) :=
  imE (pe_not ha) fun σ H Q h => by
    obtain ⟨W, st0, h⟩ := h
    refine ⟨W, st0, h.seq.mono fun d st1 W1 H1 e1 i1 q v rv => ?_⟩
    obtain ⟨Δ, r, st', L, I, e, k⟩ := q.2
    cases rv <;> simp only [blOf] at e <;> cases e
    exact ⟨_, rfl, k W1 H1 (Le.refl _ _) I _ (.bl _)⟩
def ifP {α : Type} (tc : TDen) (ta tb : Den α) : Den α := fun Δ st => bd (tc Δ st) fun b st1 => if b = true then ta Δ st1 else tb Δ st1
theorem de_if (hc : PT X c (tTD X.K E tA)) (ha : PE X a (tD X.K E ta)) (hb : PE X b (tD X.K E tb)) : PE X (.IfExp c a b pos) (tD X.K E (ifP tA ta tb)) :=
  imE (pe_ifExp hc ha hb) fun σ H Q h => by
    obtain ⟨W, st0, h⟩ := h
    refine ⟨W, st0, (h.seq (k := fun b Δ st1 => if b = true then ta Δ st1 else tb Δ st1)).mono fun k st1 W1 H1 e1 i1 q => ?_⟩
    obtain ⟨_, q⟩ := q
    cases k with
    | true => exact iteT ⟨W1, st1, q⟩
    | false => exact iteF ⟨W1, st1, q⟩

/-! ### arguments, displays -/
def nilP : ADen := fun _ st => some (.ok [], st)
def consP (ta : EDen) (tr : ADen) : ADen := fun Δ st => bd (ta Δ st) fun d st1 => bd (tr Δ st1) fun ds st2 => some (.ok (d :: ds), st2)
variable {es : List Expr} {tr : ADen}
theorem da_nil : PA X [] (tAD X.K E nilP) := by
  refine imA pa_nil fun σ H Q h => ?_
  obtain ⟨W, st0, h⟩ := h
  exact h.ret (fun _ => rfl) [] .nil
theorem da_cons (ha : PE X a (tD X.K E ta)) (hr : PA X es (tAD X.K E tr)) (hs : starEach (a :: es) X.env = (false, eval a X.env) :: starEach es X.env := by rfl) : PA X (a :: es) (tAD X.K E (consP ta tr)) := by
  refine imA (pa_cons ha hr hs) fun σ H Q h => ?_
  obtain ⟨W, st0, h⟩ := h
  refine ⟨W, st0, h.seq.mono fun d st1 W1 H1 e1 i1 q v rv => ?_⟩
  refine ⟨W1, st1, q.2.seq.mono fun ds st2 W2 H2 e2 i2 q2 vs rs => ?_⟩
  exact q2.2.ret (fun _ => rfl) _ (.cons (rv.to e2) rs)
def lstP (tr : ADen) : EDen := fun Δ st => bd (tr Δ st) fun ds st1 => if ds.length ≤ big then some (.ok (.lst ds), st1) else none
def tupP (tr : ADen) : EDen := fun Δ st => bd (tr Δ st) fun ds st1 => if ds.length ≤ big then some (.ok (.tup ds), st1) else none
theorem de_lst (h : PA X es (tAD X.K E tr)) : PE X (.List es pos) (tD X.K E (lstP tr)) := by
  refine imE (pe_lst h) fun σ H Q h => ?_
  obtain ⟨W, st0, h⟩ := h
  refine ⟨W, st0, h.seq.mono fun ds st1 W1 H1 e1 i1 q vs rs => ?_⟩
  obtain ⟨Δ, r, st', L, I, e, k⟩ := q.2
  simp only at e
  split at e
  · cases e
    exact ⟨by rw [rs.length]; exact big_line (by assumption), fun p np => k W1 _ (Le.of (same_new np)) (I.same (same_new np)) _ (rp_lst I np rs)⟩
  · cases e
theorem de_tup {x1 : Nat} (h : PA X es (tAD X.K E tr)) : PE X (.Tuple es x1 pos) (tD X.K E (tupP tr)) := by
  refine imE (pe_tup h) fun σ H Q h => ?_
  obtain ⟨W, st0, h⟩ := h
  refine ⟨W, st0, h.seq.mono fun ds st1 W1 H1 e1 i1 q vs rs => ?_⟩
  obtain ⟨Δ, r, st', L, I, e, k⟩ := q.2
  simp only at e
  split at e
  · cases e
    exact ⟨by rw [rs.length]; exact big_line (by assumption), fun p np => k W1 _ (Le.of (same_new np)) (I.same (same_new np)) _ (rp_tup I np rs)⟩
  · cases e

/-! ### subscripts -/
def ixD : D → D → Option D
  | .lst ds, .int i => atI ds i
  | .tup ds, .int i => atI ds i
  | .str z, .int i => if z.length ≤ big then (atI z.cps.toList i).map fun c => .str ⟨#[c]⟩ else none
  | _, _ => none
theorem rps_at {K : PySem.W.Frag} {W : Wd} {H : Hp} {vs : List V} {ds : List D} {i : Int} {d : D} (r : Rps K W H vs ds) (h : atI ds i = some d) : ∃ v, atI vs i = some v ∧ Rp K W H v d := by
  unfold atI at h ⊢
  rw [r.length]
  cases e : ixN ds.length i with
  | none => rw [e] at h; cases h
  | some j =>
    rw [e] at h
    obtain ⟨v, h1, h2⟩ := r.get h
    exact ⟨v, h1, h2⟩
theorem ir_ix : IxR X (rBinD X.K ixD) := by
  intro value slice pins s σ H x y v u Q I rx ry q hs
  obtain ⟨W, st, d1, d2, d, r1, r2, iv, hf, k⟩ := q
  unfold ixD at hf
  split at hf
  · cases r2
    cases r1 with
    | lst n1 s1 q1 =>
      obtain ⟨w, h1, h2⟩ := rps_at q1 hf
      exact ix_list value slice pins s σ H _ _ v u Q I rx ry ⟨_, _, _, w, rfl, rfl, sq_l s1, h1, k _ _ (Same.refl _) h2⟩ hs
  · cases r2
    cases r1 with
    | tup s1 q1 =>
      obtain ⟨w, h1, h2⟩ := rps_at q1 hf
      exact ix_tup value slice pins s σ H _ _ v u Q I rx ry ⟨_, _, _, w, rfl, rfl, sq_t s1, h1, k _ _ (Same.refl _) h2⟩ hs
  · cases r1; cases r2
    split at hf
    · rename_i z i hz
      cases e : atI z.cps.toList i with
      | none => rw [e] at hf; cases hf
      | some c =>
        rw [e] at hf
        cases hf
        exact ix_str value slice pins s σ H _ _ v u Q I rx ry ⟨_, _, c, rfl, rfl, big_line hz, e, k _ _ (Same.refl _) (.str _)⟩ hs
    · cases hf
  · cases hf
theorem de_ix (ha : PE X a (tD X.K E ta)) (hb : PE X b (tD X.K E tb)) (hs : PlainIx b := by exact fun _ _ => rfl) : PE X (.Subscript a b pos) (tD X.K E (binP ixD ta tb)) :=
  imE (pe_ix ir_ix ha hb hs) fun _ _ _ => tD_bin
abbrev ODen := Den (Option Int)
def tOD (K : PySem.W.Frag) (E : XK) (τ : ODen) : TO := fun σ H Q => tG K E τ σ H fun o _ _ H' => Q o H'
def noP : ODen := fun _ st => some (.ok none, st)
def intOf (d : D) : Option Int := match d with | .int i => some i | _ => none
def soP (ta : EDen) : ODen := fun Δ st => bd (ta Δ st) fun d st1 => (intOf d).map fun i => (.ok (some i), st1)
theorem do_no : PO X none (tOD X.K E noP) := by
  refine imO po_none fun σ H Q h => ?_
  obtain ⟨W, st0, h⟩ := h
  exact h.ret fun _ => rfl
theorem do_so (ha : PE X a (tD X.K E ta)) : PO X (some a) (tOD X.K E (soP ta)) := by
  refine imO (po_some ha) fun σ H Q h => ?_
  obtain ⟨W, st0, h⟩ := h
  refine ⟨W, st0, h.seq.mono fun d st1 W1 H1 e1 i1 q v rv => ?_⟩
  obtain ⟨Δ, r, st', L, I, e, k⟩ := q.2
  cases rv <;> simp only [intOf] at e <;> cases e
  exact ⟨_, rfl, k W1 H1 (Le.refl _ _) I⟩
def cutL (ds : List D) (lo hi : Option Int) : List D := (ds.drop (HT.sIx ds.length 0 lo)).take (HT.sIx ds.length ds.length hi - HT.sIx ds.length 0 lo)
def slD (d : D) (lo hi : Option Int) : Option D := match d with
  | .lst ds => some (.lst (cutL ds lo hi))
  | .tup ds => some (.tup (cutL ds lo hi))
  | .str z => if z.length ≤ big then some (.str (cutS z lo hi)) else none
  | _ => none
theorem rps_cut {K : PySem.W.Frag} {W : Wd} {H : Hp} {vs : List V} {ds : List D} (r : Rps K W H vs ds) (lo hi : Option Int) : Rps K W H (cutV vs lo hi) (cutL ds lo hi) := by
  unfold cutV cutL
  rw [r.length]
  exact (r.drop _).take _
theorem cutL_whole {ds : List D} {lo hi : Option Int} (h1 : HT.sIx ds.length 0 lo = 0) (h2 : HT.sIx ds.length ds.length hi = ds.length) : cutL ds lo hi = ds := by
  unfold cutL
  rw [h1, h2, List.drop_zero, Nat.sub_zero, List.take_length]
def rSlD (K : PySem.W.Frag) : V → Option Int → Option Int → Hp → VK → Prop := fun x lo hi H Q => ∃ W st d1 d, Rp K W H x d1 ∧ Holds K W H st ∧ slD d1 lo hi = some d ∧ ∀ v H', Same H H' → Rp K W H' v d → Q v H'
theorem sr_sl : SlR X (rSlD X.K) := by
  intro pins s σ H x v vl vu lo hi sl Q I rx hs pl pu h
  obtain ⟨W, st, d1, d, r1, iv, hf, k⟩ := h
  unfold slD at hf
  split at hf
  · cases hf
    cases r1 with
    | lst n1 s1 q1 => exact sl_list pins s σ H _ v vl vu lo hi sl Q I rx hs pl pu ⟨_, _, rfl, sq_l s1, fun p np => k _ _ (same_new np) (rp_lst iv np (rps_cut q1 lo hi))⟩
  · cases hf
    cases r1 with
    | tup s1 q1 =>
      refine sl_tupA pins s σ H _ v vl vu lo hi sl Q I rx hs pl pu ⟨_, _, rfl, sq_t s1, fun w => ?_, fun _ p np => k _ _ (same_new np) (rp_tup iv np (rps_cut q1 lo hi))⟩
      rw [cutL_whole (by rw [← q1.length]; exact w.1) (by rw [← q1.length]; exact w.2)] at k
      exact k _ _ (Same.refl _) (.tup s1 q1)
  · cases r1
    split at hf
    · cases hf
      exact sl_str pins s σ H _ v vl vu lo hi sl Q I rx hs pl pu ⟨_, rfl, big_line (by assumption), k _ _ (Same.refl _) (.str _)⟩
    · cases hf
  · cases hf
def slP (ta : EDen) (tl th : ODen) : EDen := fun Δ st => bd (ta Δ st) fun d st1 => bd (tl Δ st1) fun lo st2 => bd (th Δ st2) fun hi st3 => (slD d lo hi).map fun r => (.ok r, st3)
theorem de_sl {lo hi : Option Expr} {tl th : ODen} {p2 : Pos} (ha : PE X a (tD X.K E ta)) (hl : PO X lo (tOD X.K E tl)) (hh : PO X hi (tOD X.K E th)) : PE X (.Subscript a (.Slice lo hi none p2) pos) (tD X.K E (slP ta tl th)) := by
  refine imE (pe_slice sr_sl ha hl hh) fun σ H Q h => ?_
  obtain ⟨W, st0, h⟩ := h
  refine ⟨W, st0, h.seq.mono fun d st1 W1 H1 e1 i1 q v rv => ?_⟩
  refine ⟨W1, st1, q.2.seq.mono fun lo st2 W2 H2 e2 i2 q2 => ?_⟩
  refine ⟨W2, st2, q2.2.seq.mono fun hi st3 W3 H3 e3 i3 q3 => ?_⟩
  obtain ⟨Δ, r, L, I, e, k⟩ := q3.2.val (m := fun _ => slD d lo hi)
  exact ⟨W3, st3, d, r, (rv.to e2).to e3, I, e, fun v' H' e r => k W3 H' (Le.of e) (I.same e) v' r⟩
end
end Dn

set_option Elab.async false
set_option linter.all false
set_option maxRecDepth 100000
set_option maxHeartbeats 4000000
namespace Dn
open PySem PySem.Spec PyProof.Rows L2

/-! ### what a def promises: a function of the values and the state -/
abbrev FDen := List D → Sta → Mo D
def spF (K : PySem.W.Frag) (F : FDen) : Sp := fun vs H Q E => ∃ (W : Wd) (ds : List D) (st : Sta) (r : Except Exc D) (st' : Sta),
  Rps K W H vs ds ∧ Holds K W H st ∧ F ds st = some (r, st') ∧ Wnt K W E H (fun d _ W' H' => ∀ v, Rp K W' H' v d → Q v H') r st'
def outR : Except Exc Out → Option (Except Exc D)
  | .ok (.rt d) => some (.ok d)
  | .ok (.nx _) => some (.ok .non)
  | .error x => some (.error x)
  | _ => none
/-- a body run from its arguments -/
def runD (τ : SDen) (n : Nat) (ds : List D) (st : Sta) : Mo D :=
  (τ (ds.map some ++ List.replicate (n - ds.length) none) st).bind fun p => (outR p.1).map fun r => (r, p.2)
theorem start_loc {K : PySem.W.Frag} {W : Wd} {H : Hp} {vs : List V} {ds : List D} (r : Rps K W H vs ds) (N : List Str) : LocD K W H (L2.start N vs) (ds.map some ++ List.replicate (N.length - ds.length) none) := by
  unfold L2.start
  rw [r.length]
  refine ⟨by rw [List.length_append, List.length_append, List.length_map, List.length_map, List.length_replicate, List.length_replicate, r.length], fun i d e => ?_⟩
  by_cases hi : i < ds.length
  · rw [List.getElem?_append_left (by rw [List.length_map]; exact hi), List.getElem?_map] at e
    rw [List.getElem?_append_left (by rw [List.length_map, r.length]; exact hi), List.getElem?_map]
    cases q : ds[i]? with
    | none => rw [q] at e; cases e
    | some d' =>
      rw [q] at e
      cases e
      obtain ⟨v, h1, h2⟩ := r.get q
      exact ⟨v, by rw [h1]; rfl, h2⟩
  · rw [List.getElem?_append_right (by rw [List.length_map]; omega)] at e
    rw [List.getElem?_replicate] at e
    split at e <;> cases e
section
variable {P : Program} {w : World} {K : PySem.W.Frag} {mg : Str → Option Value} {base : Heap}
/-- THE RULE for a def -/
theorem fn_den {x qual : Str} {st : Stmt} {f : Addr} {fd : FuncData} {N ps : List Str} {k : Nat} {F : FDen} (τ : SDen) (G : Fun K x qual st f fd) (S : FnScope N ps (defScope st)) (hlen : ∀ ds st r, F ds st = some r → ds.length = ps.length)
    (hden : ∀ ds st p, F ds st = some p → runD τ N.length ds st = some p)
    (hbody : ∀ (cdv : Value) (A : Around) (outer : List Env) (s : Shared) (H : Hp) (E : XK), Room k (A.deeper (envOfC qual (defScope st) s.heap.objs.size f cdv)) →
      Passes (L2.CX P w) (cxOf (L2.CX P w) P w K mg base N qual (defScope st) f cdv A outer s H E) E →
      PassesOwn (model P w) (A.deeper (envOfC qual (defScope st) s.heap.objs.size f cdv)) (envOfC qual (defScope st) s.heap.objs.size f cdv) (cxOf (L2.CX P w) P w K mg base N qual (defScope st) f cdv A outer s H E).xe →
      PSs (cxOf (L2.CX P w) P w K mg base N qual (defScope st) f cdv A outer s H E) (defBody st) (tSD K E τ)) : FnOk P w K mg base (L2.CX P w) (k + 1) f fd ps (spF K F) := by
  refine G.okX S (fun vs H Q E h => ?_) (fun cdv A outer s H vs Q E hr h => ?_)
  · obtain ⟨W, ds, st, r, st', rs, iv, e, _⟩ := h
    rw [rs.length]
    exact hlen ds st _ e
  · obtain ⟨W, ds, st0, r, st', rs, iv, e, wn⟩ := h
    have hp : Passes (L2.CX P w) (cxOf (L2.CX P w) P w K mg base N qual (defScope st) f cdv A outer s H E) E := passes_call (takes_of rfl rfl rfl rfl) fun _ _ _ _ e => e
    refine ⟨tSD K E τ, hbody cdv A outer s H E hr hp (passes_of rfl), ?_⟩
    have q := hden ds st0 _ e
    unfold runD at q
    cases hm : τ (ds.map some ++ List.replicate (N.length - ds.length) none) st0 with
    | none => rw [hm] at q; cases q
    | some p =>
      obtain ⟨ro, st1⟩ := p
      rw [hm] at q
      simp only [Option.bind] at q
      refine ⟨W, st0, _, ro, st1, start_loc rs N, iv, hm, ?_⟩
      cases ro with
      | error z =>
        simp only [outR, Option.map] at q
        cases q
        exact wn
      | ok o =>
        cases o with
        | rt d =>
          simp only [outR, Option.map] at q
          cases q
          exact wn
        | nx Δ =>
          simp only [outR, Option.map] at q
          cases q
          exact fun W' H' e i σ' _ => wn W' H' e i .non .non
        | bk Δ => simp only [outR, Option.map] at q; cases q
        | ct Δ => simp only [outR, Option.map] at q; cases q
end

/-! ### calls -/
section
variable {X : Cx} {E : XK} {a : Expr} {es : List Expr} {tr : ADen} {pos p : Pos} {σ : L2.St} {H : Hp} {Q : VK} {x : Str}
def callP (f : FDen) (tr : ADen) : EDen := fun Δ st => bd (tr Δ st) f
theorem tD_call {F : FDen} {dvs : List V} {dd : List D} (rd : ∀ W H, Rps X.K W H dvs dd) (h : tD X.K E (callP (fun as st => F (as ++ dd) st) tr) σ H Q) : tCall (spF X.K F) dvs E (tAD X.K E tr) σ H Q := by
  obtain ⟨W, st0, h⟩ := h
  refine ⟨W, st0, (h.seq (k := fun as _ st => F (as ++ dd) st)).mono fun ds st1 W1 H1 e1 i1 q vs rs => ?_⟩
  obtain ⟨Δ, r, st', L, I, e, k⟩ := q.2
  exact ⟨W1, ds ++ dd, st1, r, st', rs.append (rd _ H1), I, e, k⟩
section
variable {f : Addr} {fd : FuncData} {ps : List Str} {F : FDen} {k : Nat} {ds : List Value} {dvs : List V} {dd : List D}
/-- no defaults -/
theorem de_call' (G : FnOk X.prog X.w X.K X.mg X.base (L2.CX X.prog X.w) k f fd ps (spF X.K F)) (hr : Room k X.A) (hm : X.mg x = some (.ref f)) (hk : PySem.W.keepIn X.K (.ref f) = true) (hb : Binds X.K fd ps [])
    (hx : Passes (L2.CX X.prog X.w) X E) (ha : PA X (a :: es) (tAD X.K E tr)) (hg : Gl X x := by rfl) (hdb : (x == ("__debug__" : Str)) = false := by decide) (he : starEach (a :: es) X.env = (false, eval a X.env) :: starEach es X.env := by rfl)
    (hpl : (backTo pos (starEach es X.env)).any (·.1) = false := by rfl) : PE X (.Call (.Name x p) (a :: es) [] pos) (tD X.K E (callP F tr)) :=
  imE (pe_call G hr hg hm hk hb .nil hx ha hdb he hpl) fun σ H Q h => by
    have e : (fun as st => F (as ++ []) st) = F := by funext as st; rw [List.append_nil]
    exact tD_call (dd := []) (fun _ _ => .nil) (by rw [e]; exact h)
end
/-- a builtin called: a function of the values -/
def rCD (K : PySem.W.Frag) (f : List D → Option D) : List V → Hp → VK → Prop := fun vs H Q => ∃ W st ds d, Rps K W H vs ds ∧ Holds K W H st ∧ f ds = some d ∧ ∀ v H', Same H H' → Rp K W H' v d → Q v H'
def bltP (f : List D → Option D) (tr : ADen) : EDen := fun Δ st => bd (tr Δ st) fun ds st1 => (f ds).map fun d => (.ok d, st1)
theorem tD_blt {f : List D → Option D} (h : tD X.K E (bltP f tr) σ H Q) : tCB (rCD X.K f) (tAD X.K E tr) σ H Q := by
  obtain ⟨W, st0, h⟩ := h
  refine ⟨W, st0, h.seq.mono fun ds st1 W1 H1 e1 i1 q vs rs => ?_⟩
  obtain ⟨Δ, d, L, I, e, k⟩ := q.2.val (m := fun _ => f ds)
  exact ⟨W1, st1, ds, d, rs, I, e, fun v H' e' r => k W1 H' (Le.of e') (I.same e') v r⟩
theorem de_blt {id : String} {f : List D → Option D} (hc : CallR X (.builtin id) (rCD X.K f)) (hm : X.mg x = none) (hv : bootBuiltins x = some (.builtin id)) (ha : PA X (a :: es) (tAD X.K E tr)) (hg : Gl X x := by rfl) (hn : x ≠ "__name__" := by decide) (hdb : (x == ("__debug__" : Str)) = false := by decide)
    (he : starEach (a :: es) X.env = (false, eval a X.env) :: starEach es X.env := by rfl) (hpl : (backTo pos (starEach es X.env)).any (·.1) = false := by rfl) : PE X (.Call (.Name x p) (a :: es) [] pos) (tD X.K E (bltP f tr)) :=
  imE (pe_callB hc hg hm hv ha hn hdb he hpl) fun _ _ _ => tD_blt
theorem de_ty {T : String} {f : List D → Option D} (hc : CallR X (.type T) (rCD X.K f)) (hm : X.mg x = none) (hv : bootBuiltins x = some (.type T)) (ha : PA X (a :: es) (tAD X.K E tr)) (hg : Gl X x := by rfl) (hn : x ≠ "__name__" := by decide) (hdb : (x == ("__debug__" : Str)) = false := by decide)
    (he : starEach (a :: es) X.env = (false, eval a X.env) :: starEach es X.env := by rfl) (hpl : (backTo pos (starEach es X.env)).any (·.1) = false := by rfl) : PE X (.Call (.Name x p) (a :: es) [] pos) (tD X.K E (bltP f tr)) :=
  imE (pe_callTy hc hg hm hv ha hn hdb he hpl) fun _ _ _ => tD_blt

def lenF : List D → Option D
  | [.lst ds] => some (.int ds.length)
  | [.tup ds] => some (.int ds.length)
  | [.str z] => if z.length ≤ big then some (.int z.length) else none
  | _ => none
theorem rps1 {K : PySem.W.Frag} {W : Wd} {H : Hp} {vs : List V} {d : D} (r : Rps K W H vs [d]) : ∃ v, vs = [v] ∧ Rp K W H v d := by
  cases r with
  | cons h t => cases t; exact ⟨_, rfl, h⟩
theorem cr_len : CallR X (.builtin "len") (rCD X.K lenF) := by
  intro pins s σ H xs us Q I r h
  obtain ⟨W, st, ds, d, rs, iv, hf, k⟩ := h
  unfold lenF at hf
  split at hf
  · cases hf
    obtain ⟨v, rfl, rv⟩ := rps1 rs
    cases rv with
    | lst n1 s1 q1 => exact call_len_seq pins s σ H _ us Q I r ⟨_, _, rfl, .inl (sq_l s1), by rw [q1.length]; exact k _ _ (Same.refl _) (.int _)⟩
  · cases hf
    obtain ⟨v, rfl, rv⟩ := rps1 rs
    cases rv with
    | tup s1 q1 => exact call_len_seq pins s σ H _ us Q I r ⟨_, _, rfl, .inr (sq_t s1), by rw [q1.length]; exact k _ _ (Same.refl _) (.int _)⟩
  · split at hf
    · cases hf
      obtain ⟨v, rfl, rv⟩ := rps1 rs
      cases rv
      exact call_len_str pins s σ H _ us Q I r ⟨_, rfl, big_line (by assumption), k _ _ (Same.refl _) (.int _)⟩
    · cases hf
  · cases hf
def listF : List D → Option D
  | [.lst ds] => some (.lst ds)
  | [.tup ds] => some (.lst ds)
  | _ => none
theorem cr_list : CallR X (.type "list") (rCD X.K listF) := by
  intro pins s σ H xs us Q I r h
  obtain ⟨W, st, ds, d, rs, iv, hf, k⟩ := h
  unfold listF at hf
  split at hf
  · cases hf
    obtain ⟨v, rfl, rv⟩ := rps1 rs
    cases rv with
    | lst n1 s1 q1 => exact call_list_of pins s σ H _ us Q I r ⟨_, _, rfl, .inl (sq_l s1), fun p np => k _ _ (same_new np) (rp_lst iv np q1)⟩
  · cases hf
    obtain ⟨v, rfl, rv⟩ := rps1 rs
    cases rv with
    | tup s1 q1 => exact call_list_of pins s σ H _ us Q I r ⟨_, _, rfl, .inr (sq_t s1), fun p np => k _ _ (same_new np) (rp_lst iv np q1)⟩
  · cases hf
def tupleF : List D → Option D
  | [.lst ds] => some (.tup ds)
  | [.tup ds] => some (.tup ds)
  | _ => none
theorem cr_tuple : CallR X (.type "tuple") (rCD X.K tupleF) := by
  intro pins s σ H xs us Q I r h
  obtain ⟨W, st, ds, d, rs, iv, hf, k⟩ := h
  unfold tupleF at hf
  split at hf
  · cases hf
    obtain ⟨v, rfl, rv⟩ := rps1 rs
    cases rv with
    | lst n1 s1 q1 => exact call_tuple_of pins s σ H _ us Q I r ⟨_, _, rfl, .inl ⟨sq_l s1, fun p np => k _ _ (same_new np) (rp_tup iv np q1)⟩⟩
  · cases hf
    obtain ⟨v, rfl, rv⟩ := rps1 rs
    cases rv with
    | tup s1 q1 => exact call_tuple_of pins s σ H _ us Q I r ⟨_, _, rfl, .inr ⟨sq_t s1, k _ _ (Same.refl _) (.tup s1 q1)⟩⟩
  · cases hf
def intF : List D → Option D
  | [.int i] => some (.int i)
  | _ => none
theorem cr_int : CallR X (.type "int") (rCD X.K intF) := by
  intro pins s σ H xs us Q I r h
  obtain ⟨W, st, ds, d, rs, iv, hf, k⟩ := h
  unfold intF at hf
  split at hf
  · cases hf
    obtain ⟨v, rfl, rv⟩ := rps1 rs
    cases rv
    exact call_int1 pins s σ H _ us Q I r (.inl ⟨_, rfl, k _ _ (Same.refl _) (.int _)⟩)
  · cases hf
def bls : List D → Option (List Bool)
  | [] => some []
  | .bl b :: ds => (bls ds).map fun r => b :: r
  | _ => none
theorem bls_of : ∀ {ds : List D} {bs : List Bool}, bls ds = some bs → ds = bs.map D.bl
  | [], bs, h => by cases h; rfl
  | d :: ds, bs, h => by
    cases d with
    | bl b =>
      simp only [bls] at h
      cases e : bls ds with
      | none => rw [e] at h; cases h
      | some r => rw [e] at h; cases h; rw [bls_of e]; rfl
    | _ => simp only [bls] at h; cases h
def intsD : List D → Option (List Int)
  | [] => some []
  | .int b :: ds => (intsD ds).map fun r => b :: r
  | _ => none
def strsD : List D → Option (List Str)
  | [] => some []
  | .str b :: ds => (strsD ds).map fun r => b :: r
  | _ => none
theorem strsD_of : ∀ {ds : List D} {bs : List Str}, strsD ds = some bs → ds = bs.map D.str
  | [], bs, h => by cases h; rfl
  | d :: ds, bs, h => by
    cases d with
    | str b =>
      simp only [strsD] at h
      cases e : strsD ds with
      | none => rw [e] at h; cases h
      | some r => rw [e] at h; cases h; rw [strsD_of e]; rfl
    | _ => simp only [strsD] at h; cases h
def allF : List D → Option D
  | [.lst ds] => (bls ds).map fun bs => .bl (bs.all id)
  | _ => none
theorem cr_all (hc : X.calm = true) : CallR X (.builtin "all") (rCD X.K allF) := by
  intro pins s σ H xs us Q I r h
  obtain ⟨W, st, ds, d, rs, iv, hf, k⟩ := h
  unfold allF at hf
  split at hf
  · rename_i ds
    cases e : bls ds with
    | none => rw [e] at hf; cases hf
    | some bs =>
      rw [e] at hf
      cases hf
      obtain ⟨v, rfl, rv⟩ := rps1 rs
      cases rv with
      | lst n1 s1 q1 =>
        rw [bls_of e] at q1
        rw [q1.bls] at s1
        exact L2.cr_all hc pins s σ H _ us Q I r ⟨_, bs, rfl, sq_l s1, k _ _ (Same.refl _) (.bl _)⟩
  · cases hf
/-! ### isinstance -/
inductive Ty where
  | bl | int | str | lst | tup
  deriving DecidableEq
def Ty.name : Ty → String
  | .bl => "bool" | .int => "int" | .str => "str" | .lst => "list" | .tup => "tuple"
def isTy : D → Ty → Option Bool
  | .non, _ => some false
  | .bl _, .bl => some true
  | .bl _, .int => some true
  | .bl _, _ => some false
  | .int _, .int => some true
  | .int _, _ => some false
  | .str _, .str => some true
  | .str _, _ => some false
  | .lst _, .lst => some true
  | .lst _, _ => some false
  | .tup _, .tup => some true
  | .tup _, _ => some false
  | _, _ => none
def isTys (d : D) : List Ty → Option Bool
  | [] => some false
  | t :: ts => (isTy d t).bind fun b => if b = true then some true else isTys d ts
theorem isTy_kit {K : PySem.W.Frag} {W : Wd} {H : Hp} {v : V} {d : D} (r : Rp K W H v d) (t0 : Ty) {b0 : Bool} (h0 : isTy d t0 = some b0) : ∃ u : Value, TyX K H v u ∧ ∀ (t : Ty) (b : Bool), isTy d t = some b → PySem.W.kitOne K u (.type t.name) = some b := by
  cases r with
  | non => exact ⟨_, .base .non, fun t b h => by cases t <;> cases h <;> exact kit_ty (by decide +kernel)⟩
  | bl x => exact ⟨_, .base (.bl x), fun t b h => by cases t <;> cases h <;> exact kit_ty (by decide +kernel)⟩
  | int x => exact ⟨_, .base (.int x), fun t b h => by cases t <;> cases h <;> exact kit_ty (by decide +kernel)⟩
  | str x => exact ⟨_, .base (.str x), fun t b h => by cases t <;> cases h <;> exact kit_ty (by decide +kernel)⟩
  | lst n s q => exact ⟨_, .base (.lst s), fun t b h => by cases t <;> cases h <;> exact kit_ty (by decide +kernel)⟩
  | tup s q =>
    refine ⟨.type "tuple", ?_, fun t b h => by cases t <;> cases h <;> exact kit_ty (by decide +kernel)⟩
    rcases s with ⟨_, s | ⟨o, s⟩⟩ | ⟨o, its, n, h1, h2, _⟩
    · exact .base (.tup s)
    · exact .fTuple s
    · exact .kTuple h1 h2
  | ftp _ _ _ _ => cases t0 <;> cases h0
  | obj _ _ _ _ => cases t0 <;> cases h0
  | opq _ => cases t0 <;> cases h0
  | hnd _ _ => cases t0 <;> cases h0
  | exc _ _ _ _ _ _ => cases t0 <;> cases h0
  | xcp _ _ _ _ => cases t0 <;> cases h0
  | clo _ _ _ _ _ _ => cases t0 <;> cases h0
def isiP (t : Ty) (ta : EDen) : EDen := fun Δ st => bd (ta Δ st) fun d st1 => (isTy d t).map fun b => (.ok (.bl b), st1)
def isisP (ts : List Ty) (ta : EDen) : EDen := fun Δ st => bd (ta Δ st) fun d st1 => (isTys d ts).map fun b => (.ok (.bl b), st1)
variable {ta : EDen} {b : Expr} {y : Str} {p1 p2 : Pos}
theorem de_isi (t : Ty) (hm : X.mg "isinstance" = none) (hm2 : X.mg y = none) (hv : bootBuiltins y = some (.type t.name)) (ha : PE X a (tD X.K E ta)) (hg : Gl X "isinstance" := by rfl) (hg2 : Gl X y := by rfl) (hn : y ≠ "__name__" := by decide) (hdb : (y == ("__debug__" : Str)) = false := by decide)
    (hs : starEach (a :: [.Name y p2]) X.env = (false, eval a X.env) :: starEach [.Name y p2] X.env := by rfl) (hpl : (backTo pos (starEach [.Name y p2] X.env)).any (·.1) = false := by rfl) (hs2 : starEach ([.Name y p2]) X.env = (false, eval (.Name y p2) X.env) :: starEach [] X.env := by rfl) :
    PE X (.Call (.Name "isinstance" p) [a, .Name y p2] [] pos) (tD X.K E (isiP t ta)) := by
  refine imE (pe_callB call_isi hg hm (by decide +kernel) (pa_cons ha (pa_cons (pe_bltn hg2 hm2 hv (show RelV (.ty t.name) _ from rfl) hn hdb) pa_nil hs2) hs) (by decide) (by decide) hs hpl) fun σ H Q h => ?_
  obtain ⟨W, st0, h⟩ := h
  refine ⟨W, st0, h.seq.mono fun d st1 W1 H1 e1 i1 q v rv => ?_⟩
  obtain ⟨Δ, r, st', L, I, e, k⟩ := q.2
  simp only at e
  cases q0 : isTy d t with
  | none => rw [q0] at e; cases e
  | some b0 =>
    rw [q0] at e
    cases e
    obtain ⟨u, hu, hk⟩ := isTy_kit rv t q0
    exact ⟨v, .ty t.name, u, .type t.name, b0, rfl, .ty _, hu, hk t b0 q0, k W1 H1 (Le.refl _ _) I _ (.bl _)⟩
end
end Dn

set_option Elab.async false
set_option linter.all false
set_option maxRecDepth 100000
set_option maxHeartbeats 4000000
namespace Dn
open PySem PySem.Spec PyProof.Rows L2

/-! ### targets: one name, or a tuple of names -/
def setAll {α : Type} : List (Option α) → List Nat → List α → List (Option α)
  | σ, i :: is, v :: vs => setAll (σ.set i (some v)) is vs
  | σ, _, _ => σ
inductive Tgt where
  | one (i : Nat) | tup (is : List Nat)
def Tgt.slots : Tgt → List Nat
  | .one i => [i]
  | .tup is => is
def Tgt.put (t : Tgt) (d : D) (Δ : Dl) : Option Dl := match t with
  | .one i => some (Δ.set i (some d))
  | .tup is => match d with
    | .tup ds => if ds.length = is.length then some (setAll Δ is ds) else none
    | _ => none
def gNames : List Nat → TGs
  | [] => gNil
  | i :: is => gCons (gName i) (gNames is)
def Tgt.g (K : PySem.W.Frag) : Tgt → TG
  | .one i => gName i
  | .tup is => gTup K is.length (gNames is)
theorem gNames_of : ∀ (is : List Nat) (vs : List V) (σ : L2.St) (H : Hp) (Q : L2.St → Hp → Prop), vs.length = is.length → Q (setAll σ is vs) H → gNames is vs σ H Q
  | [], [], _, _, _, _, q => ⟨rfl, q⟩
  | i :: is, v :: vs, σ, H, Q, h, q => ⟨v, vs, rfl, gNames_of is vs _ H Q (by simpa using h) q⟩
theorem setAll_length {α : Type} : ∀ (σ : List (Option α)) (is : List Nat) (vs : List α), (setAll σ is vs).length = σ.length
  | σ, [], _ => rfl
  | σ, _ :: _, [] => rfl
  | σ, i :: is, v :: vs => by
    show (setAll (σ.set i (some v)) is vs).length = σ.length
    rw [setAll_length, List.length_set]
theorem setAll_other {α : Type} : ∀ (σ : List (Option α)) (is : List Nat) (vs : List α) (j : Nat), j ∉ is → (setAll σ is vs)[j]? = σ[j]?
  | σ, [], _, _, _ => rfl
  | σ, _ :: _, [], _, _ => rfl
  | σ, i :: is, v :: vs, j, h => by
    show (setAll (σ.set i (some v)) is vs)[j]? = σ[j]?
    rw [setAll_other _ is vs j fun z => h (List.mem_cons_of_mem _ z), List.getElem?_set_ne fun e => h (by rw [e]; exact List.mem_cons_self ..)]
section
variable {K : PySem.W.Frag} {W : Wd} {H : Hp}
theorem LocD.setAll : ∀ (is : List Nat) {σ : L2.St} {Δ : Dl} {vs : List V} {ds : List D}, LocD K W H σ Δ → Rps K W H vs ds → LocD K W H (Dn.setAll σ is vs) (Dn.setAll Δ is ds)
  | [], _, _, _, _, h, _ => h
  | i :: is, _, _, [], _, h, .nil => h
  | i :: is, _, _, _ :: _, _, h, .cons r t => LocD.setAll is (h.set r) t
theorem put_ok (t : Tgt) {σ : L2.St} {Δ Δ' : Dl} {v : V} {d : D} {Q : L2.St → Hp → Prop} (L : LocD K W H σ Δ) (r : Rp K W H v d) (e : t.put d Δ = some Δ')
    (q : ∀ σ', LocD K W H σ' Δ' → σ'.length = σ.length → (∀ j, j ∉ t.slots → σ'[j]? = σ[j]?) → Q σ' H) : t.g K v σ H Q := by
  cases t with
  | one i =>
    cases e
    refine q _ (L.set r) (by rw [List.length_set]) fun j hj => ?_
    rw [List.getElem?_set_ne fun e => hj (by rw [e]; exact List.mem_cons_self ..)]
  | tup is =>
    cases r with
    | tup s rs =>
      simp only [Tgt.put] at e
      split at e
      · rename_i hl
        cases e
        refine ⟨_, _, rfl, sq_t s, by rw [rs.length, hl], gNames_of is _ σ H Q (by rw [rs.length, hl]) (q _ (LocD.setAll is L rs) (setAll_length ..) fun j hj => setAll_other _ _ _ _ hj)⟩
      · cases e
    | _ => cases e
end

/-! ### what is walked -/
structure WalkD (K : PySem.W.Frag) (W : Wd) (J : It) (ds : List D) (H1 : Hp) : Prop where
  ex : ∃ (G : Hp → Prop) (Y : Nat → Hp → V → Hp → Prop), Walk J ds.length G Y ∧ (∀ W2 H, Lw W H1 W2 H → G H) ∧
    ∀ i W2 H st x H' d, Lw W H1 W2 H → Holds K W2 H st → ds[i]? = some d → Y i H x H' → Same H H' ∧ Rp K W2 H' x d
abbrev IDen := Den (List D)
def tI (K : PySem.W.Frag) (E : XK) (τ : IDen) : TI := fun σ H R => tG K E τ σ H fun ds _ W1 H1 => ∀ J, WalkD K W1 J ds H1 → R J H1
def itemsD : D → Option (List D)
  | .lst ds => some ds
  | .tup ds => some ds
  | .str z => some (z.cps.toList.map fun c => .str ⟨#[c]⟩)
  | _ => none
def itP (ta : EDen) : IDen := fun Δ st => bd (ta Δ st) fun d st1 => (itemsD d).map fun ds => (.ok ds, st1)
def yStr (z : Str) : Nat → Hp → V → Hp → Prop := fun i H v H' => H' = H ∧ ∃ c, z.cps[i]? = some c ∧ v = .str ⟨#[c]⟩
section
variable {X : Cx} {E : XK} {a : Expr} {ta : EDen} {tg : Expr} {pos p : Pos}
theorem di_seq (ha : PE X a (tD X.K E ta)) : PI X tg a (tI X.K E (itP ta)) := by
  refine ⟨fun pins s σ H R I h => ?_⟩
  obtain ⟨W, st, Δ, r, st', L, iv, e, k⟩ := h
  unfold itP bd at e
  cases hm : ta Δ st with
  | none => rw [hm] at e; cases e
  | some q =>
    obtain ⟨rr, st1⟩ := q
    rw [hm] at e
    cases rr with
    | error x =>
      simp only at e
      cases e
      exact (pi_list ha).run pins s σ H R I ⟨W, st, Δ, .error x, _, L, iv, hm, k⟩
    | ok d =>
      simp only at e
      cases d with
      | lst ds =>
        simp only [itemsD, Option.map] at e
        cases e
        refine (pi_list ha).run pins s σ H R I ⟨W, st, Δ, _, _, L, iv, hm, fun W1 H1 e1 i1 v rv => ?_⟩
        cases rv with
        | @lst a xs _ n1 s1 q1 =>
          refine ⟨_, rfl, ⟨_, sq_l s1⟩, k W1 H1 e1 i1 _ ⟨fun H => H a = some (.lst xs), YAt xs, ?_, fun W2 H e2 => e2.ext _ _ n1 s1, fun i W2 H st2 x H' d e2 _ hd y => ?_⟩⟩
          · have wl := walk_list (K := X.K) (a := a) (xs := xs)
            rw [q1.length] at wl
            exact wl.mono (fun H h => sq_l h) fun _ _ _ _ _ _ y => y
          · obtain ⟨rfl, y⟩ := y
            obtain ⟨d', h1, h2⟩ := q1.get' y
            rw [h1] at hd
            cases hd
            exact ⟨Same.refl _, h2.tow e2⟩
      | tup ds =>
        simp only [itemsD, Option.map] at e
        cases e
        refine (pi_tup ha).run pins s σ H R I ⟨W, st, Δ, _, _, L, iv, hm, fun W1 H1 e1 i1 v rv => ?_⟩
        cases rv with
        | @tup a xs _ s1 q1 =>
          refine ⟨_, rfl, ⟨_, sq_t s1⟩, k W1 H1 e1 i1 _ ⟨fun H => SqT X.K H a xs, YAt xs, ?_, fun W2 H e2 => ?_, fun i W2 H st2 x H' d e2 _ hd y => ?_⟩⟩
          · have wl := walk_tup (K := X.K) (a := a) (xs := xs)
            rw [q1.length] at wl
            exact wl
          · rcases s1 with ⟨n1, s1⟩ | s1
            · rcases s1 with s1 | ⟨o, s1⟩
              · exact .inl (.inl (e2.ext _ _ n1 s1))
              · exact .inl (.inr ⟨o, e2.ext _ _ n1 s1⟩)
            · exact .inr s1
          · obtain ⟨rfl, y⟩ := y
            obtain ⟨d', h1, h2⟩ := q1.get' y
            rw [h1] at hd
            cases hd
            exact ⟨Same.refl _, h2.tow e2⟩
      | str z =>
        simp only [itemsD, Option.map] at e
        cases e
        refine (pi_str ha).run pins s σ H R I ⟨W, st, Δ, _, _, L, iv, hm, fun W1 H1 e1 i1 v rv => ?_⟩
        cases rv
        refine ⟨z, rfl, k W1 H1 e1 i1 _ ⟨fun _ => True, yStr z, ?_, fun _ _ _ => trivial, fun i W2 H st2 x H' d e2 _ hd y => ?_⟩⟩
        · have wl := walk_str (z := z)
          rw [show z.cps.size = (z.cps.toList.map fun c => D.str ⟨#[c]⟩).length by simp] at wl
          exact wl
        · obtain ⟨rfl, c, hc, rfl⟩ := y
          rw [List.getElem?_map] at hd
          have : z.cps.toList[i]? = some c := by simpa using hc
          rw [this] at hd
          cases hd
          exact ⟨Same.refl _, .str _⟩
      | _ => simp only [itemsD, Option.map] at e; cases e
/-- lo, lo + 1, .. below hi -/
def rngD (lo hi : Int) : List D := (List.range (hi - lo).toNat).map fun i => .int (lo + (i : Nat))
def mil : Int := 1000000
def rng1F : List D → Option (List D)
  | [.int j] => if -mil ≤ j ∧ j ≤ mil then some (rngD 0 j) else none
  | _ => none
def rng2F : List D → Option (List D)
  | [.int i, .int j] => if -mil ≤ i ∧ i ≤ mil ∧ -mil ≤ j ∧ j ≤ mil then some (rngD i j) else none
  | _ => none
def rng1P (tr : ADen) : IDen := fun Δ st => bd (tr Δ st) fun ds st1 => (rng1F ds).map fun r => (.ok r, st1)
def rng2P (tr : ADen) : IDen := fun Δ st => bd (tr Δ st) fun ds st1 => (rng2F ds).map fun r => (.ok r, st1)
theorem walkD_range {W : Wd} {lo hi : Int} {H1 : Hp} : WalkD X.K W (Itr lo (hi - lo).toNat) (rngD lo hi) H1 := by
  refine ⟨fun _ => True, YFn fun i => .int (lo + i), ?_, fun _ _ _ => trivial, fun i W2 H st x H' d e1 iv hd y => ?_⟩
  · have e : (rngD lo hi).length = (hi - lo).toNat := by unfold rngD; rw [List.length_map, List.length_range]
    rw [e]
    exact walk_range
  · obtain ⟨rfl, rfl⟩ := y
    unfold rngD at hd
    rw [List.getElem?_map] at hd
    cases q : (List.range (hi - lo).toNat)[i]? with
    | none => rw [q] at hd; cases hd
    | some j =>
      rw [q] at hd
      cases hd
      obtain ⟨_, rfl⟩ := List.getElem?_eq_some_iff.mp q
      rw [List.getElem_range]
      exact ⟨Same.refl _, .int _⟩
theorem di_range1 {tr : ADen} (hm : X.mg "range" = none) (ha : PA X [a] (tAD X.K E tr)) (hg : Gl X "range" := by rfl) (hs : starEach [a] X.env = [(false, eval a X.env)] := by rfl) : PI X tg (.Call (.Name "range" p) [a] [] pos) (tI X.K E (rng1P tr)) := by
  refine ⟨fun pins s σ H R I h => (pi_range1 hg hm ha hs).run pins s σ H R I ?_⟩
  obtain ⟨W, st, h⟩ := h
  refine ⟨W, st, h.seq.mono fun ds st1 W1 H1 e1 i1 q vs rs => ?_⟩
  obtain ⟨Δ, r, L, iv, e, k⟩ := q.2.val (m := fun _ => rng1F ds)
  unfold rng1F at e
  split at e
  · split at e
    · rename_i j hj
      cases e
      obtain ⟨v, rfl, rv⟩ := rps1 rs
      cases rv
      unfold mil at hj
      have wk := walkD_range (X := X) (W := W1) (lo := 0) (hi := j) (H1 := H1)
      rw [Int.sub_zero] at wk
      exact ⟨j, rfl, by omega, by omega, k W1 H1 (Le.refl _ _) iv _ wk⟩
    · cases e
  · cases e
theorem rps2 {K : PySem.W.Frag} {W : Wd} {H : Hp} {vs : List V} {d d' : D} (r : Rps K W H vs [d, d']) : ∃ v v', vs = [v, v'] ∧ Rp K W H v d ∧ Rp K W H v' d' := by
  cases r with
  | cons h t =>
    obtain ⟨v', rfl, r'⟩ := rps1 t
    exact ⟨_, _, rfl, h, r'⟩
end

/-! ### list comprehensions -/
def wipeD (Δ : Dl) : List Nat → Dl
  | [] => Δ
  | v :: vs => (wipeD Δ vs).set v none
theorem wipe_get (σ : L2.St) : ∀ (vs : List Nat) (j : Nat), (wipe σ vs)[j]? = if j ∈ vs then (if j < σ.length then some none else none) else σ[j]?
  | [], j => by simp [wipe]
  | v :: vs, j => by
    unfold wipe
    rw [List.getElem?_set, wipe_length, wipe_get σ vs j]
    by_cases h : v = j
    · subst h
      simp
    · have : (j ∈ v :: vs) ↔ j ∈ vs := by simp [fun e => h (Eq.symm e), Ne.symm h]
      simp [h, this]
theorem wipe_same {σ σ2 : L2.St} {vs is : List Nat} (hl : σ2.length = (wipe σ vs).length) (ho : ∀ j, j ∉ is → σ2[j]? = (wipe σ vs)[j]?) (hs : ∀ i ∈ is, i ∈ vs) : wipe σ2 vs = wipe σ vs := by
  apply List.ext_getElem?
  intro j
  rw [wipe_length] at hl
  rw [wipe_get σ2, wipe_get σ]
  by_cases h : j ∈ vs
  · simp [h, hl]
  · have q := ho j fun z => h (hs j z)
    rw [wipe_get] at q
    simp only [h, if_false] at q ⊢
    exact q
section
variable {K : PySem.W.Frag} {W : Wd} {H : Hp}
theorem wipeD_length (Δ : Dl) : ∀ vs : List Nat, (wipeD Δ vs).length = Δ.length
  | [] => rfl
  | v :: vs => by unfold wipeD; rw [List.length_set, wipeD_length Δ vs]
theorem wipeD_get (Δ : Dl) : ∀ (vs : List Nat) (j : Nat), (wipeD Δ vs)[j]? = if j ∈ vs then (if j < Δ.length then some none else none) else Δ[j]?
  | [], j => by simp [wipeD]
  | v :: vs, j => by
    unfold wipeD
    rw [List.getElem?_set, wipeD_length, wipeD_get Δ vs j]
    by_cases h : v = j
    · subst h
      simp
    · have : (j ∈ v :: vs) ↔ j ∈ vs := by simp [fun e => h (Eq.symm e), Ne.symm h]
      simp [h, this]
theorem LocD.wipe {σ : L2.St} {Δ : Dl} (L : LocD K W H σ Δ) (vs : List Nat) : LocD K W H (L2.wipe σ vs) (wipeD Δ vs) := by
  refine ⟨by rw [wipe_length, wipeD_length]; exact L.1, fun i d e => ?_⟩
  rw [wipeD_get] at e
  split at e
  · split at e <;> cases e
  · rename_i h
    obtain ⟨v, h1, h2⟩ := L.2 i d e
    exact ⟨v, by rw [wipe_get]; simp only [h, if_false]; exact h1, h2⟩
end
def lcGo (t : Tgt) (tt : TDen) (te : EDen) (Δ : Dl) : List D → Sta → List D → Mo D
  | [], st, acc => some (.ok (.lst acc), st)
  | d :: ds, st, acc => (t.put d Δ).bind fun Δ1 => match tt Δ1 st with
    | some (.ok true, st1) => (match te Δ1 st1 with
      | some (.ok y, st2) => if acc.length < big then lcGo t tt te Δ ds st2 (acc ++ [y]) else none
      | _ => none)
    | some (.ok false, st1) => lcGo t tt te Δ ds st1 acc
    | _ => none
def lcP (ti : IDen) (t : Tgt) (tt : TDen) (te : EDen) (vs : List Nat) : EDen := fun Δ st => bd (ti Δ st) fun ds st1 => lcGo t tt te (wipeD Δ vs) ds st1 []
def yesT : TDen := fun _ st => some (.ok true, st)
section
variable {X : Cx} {E : XK} {σ : L2.St} {H : Hp} {Q : VK}
theorem dts_nil : PTs X [] (tTD X.K E yesT) := imPTs pts_nil fun σ H Q h => by
  obtain ⟨W, st, h⟩ := h
  exact h.ret fun _ => rfl
theorem tD_lc {ti : IDen} {t : Tgt} {tt : TDen} {te : EDen} {vs : List Nat} (hs : ∀ i ∈ t.slots, i ∈ vs) (h : tD X.K E (lcP ti t tt te vs) σ H Q) : tLc (tI X.K E ti) (t.g X.K) (tTD X.K E0 tt) (tD X.K E0 te) vs σ H Q := by
  obtain ⟨W0, st0, Δ0, r0, st0', L0, iv0, e0, k0⟩ := h
  unfold lcP bd at e0
  cases hm : ti Δ0 st0 with
  | none => rw [hm] at e0; cases e0
  | some p =>
  obtain ⟨rr, st1⟩ := p
  rw [hm] at e0
  cases rr with
  | error x =>
    simp only at e0
    cases e0
    exact ⟨W0, st0, Δ0, .error x, _, L0, iv0, hm, k0⟩
  | ok ds =>
    simp only at e0
    refine ⟨W0, st0, Δ0, .ok ds, st1, L0, iv0, hm, fun W1 H1 e1 i1 J wk D nD => ?_⟩
    obtain ⟨G, Y, w, hG, hY⟩ := wk.ex
    have Lw : LocD X.K W1 H1 (L2.wipe σ vs) (wipeD Δ0 vs) := (L0.to e1).wipe vs
    have nMD : ¬ W1.M D := fun m => i1.there D (W1.sub _ m) nD
    refine lc_it w (fun i H2 => ∃ W2 st acc vacc, Le W1 H1 W2 H2 ∧ W2.N D ∧ ¬ W2.M D ∧ Holds X.K W2 H2 st ∧ H2 D = some (.lst vacc) ∧ Rps X.K W2 H2 vacc acc ∧ lcGo t tt te (wipeD Δ0 vs) (ds.drop i) st acc = some (r0, st0')) ?_ (fun i H2 _ hp => ?_) (fun i x H2 H3 hi hp hy => ?_) (fun H2 hp => ?_)
    · exact ⟨W1.addN D, st1, [], [], le_addN nD, .inr rfl, nMD, i1.addN nD, upd_same, .nil, by rw [List.drop_zero]; exact e0⟩
    · obtain ⟨W2, _, _, _, e2, _⟩ := hp
      exact hG W2 H2 e2.w
    · obtain ⟨W2, st, acc, vacc, e2, hN, hM, i2, hD, ra, eg⟩ := hp
      have hd : ds[i]? = some ds[i] := List.getElem?_eq_getElem hi
      obtain ⟨sm, rx⟩ := hY i W2 H2 st x H3 ds[i] e2.w i2 hd hy
      have e3 : Le W1 H1 W2 H3 := e2.trans (Le.of sm)
      have i3 := i2.same sm
      rw [List.drop_eq_getElem_cons hi] at eg
      simp only [lcGo] at eg
      cases hp2 : t.put ds[i] (wipeD Δ0 vs) with
      | none => rw [hp2] at eg; cases eg
      | some Δ1 =>
        rw [hp2] at eg
        simp only [Option.bind] at eg
        refine put_ok t (Lw.to e3) rx hp2 fun σ2 L2' hlen hoth => ⟨wipe_same hlen hoth hs, ?_⟩
        cases ht : tt Δ1 st with
        | none => rw [ht] at eg; cases eg
        | some q =>
          obtain ⟨rb, st2⟩ := q
          rw [ht] at eg
          cases rb with
          | error z => cases eg
          | ok b =>
            refine ⟨W2, st, Δ1, .ok b, st2, L2', i3, ht, fun W4 H4 e4 i4 => ?_⟩
            have hD4 : H4 D = some (.lst vacc) := e4.ext _ _ hM (sm _ _ hD)
            have ra4 := (ra.to (Le.of sm)).to e4
            have hN4 : W4.N D := e4.keep D hN
            have hM4 : ¬ W4.M D := fun z => by
              rcases e4.newM D z with z | z
              · exact hM z
              · rw [sm _ _ hD] at z; cases z
            cases b with
            | false => exact iteF ⟨W4, st2, acc, vacc, e3.trans e4, hN4, hM4, i4, hD4, ra4, eg⟩
            | true =>
              refine iteT ?_
              simp only at eg
              cases hte : te Δ1 st2 with
              | none => rw [hte] at eg; cases eg
              | some q2 =>
                obtain ⟨ry, st3⟩ := q2
                rw [hte] at eg
                cases ry with
                | error z => cases eg
                | ok y =>
                  simp only at eg
                  split at eg
                  · rename_i hb
                    refine ⟨W4, st2, Δ1, .ok y, st3, L2'.to e4, i4, hte, fun W5 H5 e5 i5 v rv => ?_⟩
                    have hD5 : H5 D = some (.lst vacc) := e5.ext _ _ hM4 hD4
                    have hN5 : W5.N D := e5.keep D hN4
                    have hM5 : ¬ W5.M D := fun z => by
                      rcases e5.newM D z with z | z
                      · exact hM4 z
                      · rw [hD4] at z; cases z
                    have e6 := (e3.trans e4).trans e5
                    refine ⟨vacc, hD5, by rw [ra4.length]; exact Nat.lt_of_lt_of_le hb (by decide), W5, st3, acc ++ [y], vacc ++ [v], ⟨fun a o n h => ?_, e6.newM, e6.newN, e6.keep, e6.hh, e6.newH, fun a h z => ?_, e6.cl⟩, hN5, hM5, i5.off hN5 hM5, upd_same, ?_, eg⟩
                    · rw [upd_ne (ne_of_none h nD)]
                      exact e6.ext a o n h
                    · by_cases hp : a = D
                      · subst hp; rw [upd_same] at z; cases z
                      · rw [upd_ne hp] at z; exact e6.stay a h z
                    · exact ((ra4.to e5).append (.cons rv .nil)).tow (lw_upd hN5)
                  · cases eg
    · obtain ⟨W2, st, acc, vacc, e2, hN, hM, i2, hD, ra, eg⟩ := hp
      rw [List.drop_length] at eg
      simp only [lcGo] at eg
      cases eg
      exact k0 (W2.delN D hM) H2 (e1.trans (e2.delN fun z => i1.there D z nD)) i2.delN _ (.lst (fun z => z.2 rfl) hD (ra.tow lw_delN))
theorem de_lc {elt iter : Expr} {ifs : List Expr} {scope : Scope} (t : Tgt) (own : List (Str × Nat)) {pos : Pos} {tg : Expr} {ti : IDen} {tt : TDen} {te : EDen} (hc : X.calm = true) (hN : X.N.Nodup) (hs : ∀ i ∈ t.slots, i ∈ own.map (·.2)) (hi : PI X tg iter (tI X.K E ti)) (ok : BlkOk X.N X.env.scope scope own)
    (hg : ∀ (s : Shared) (H : Hp) (C : Addr) (cl : List (Str × Addr)) (fp : List Addr), PG (X.blk s H scope (compEnvC scope cl C X.env) fp) tg (t.g X.K))
    (ht : ∀ (s : Shared) (H : Hp) (C : Addr) (cl : List (Str × Addr)) (fp : List Addr), PTs (X.blk s H scope (compEnvC scope cl C X.env) fp) ifs (tTD X.K E0 tt))
    (he : ∀ (s : Shared) (H : Hp) (C : Addr) (cl : List (Str × Addr)) (fp : List Addr), PE (X.blk s H scope (compEnvC scope cl C X.env) fp) elt (tD X.K E0 te)) (hf : ∀ x, foldedSetIterable iter X.env x = pure x := by intro _; rfl) :
    PE X (.ListComp elt [⟨tg, iter, ifs, 0⟩] scope pos) (tD X.K E (lcP ti t tt te (own.map (·.2)))) :=
  imE (pe_lc hc hN hi ok hg ht he hf) fun _ _ _ => tD_lc hs
end

/-! ### statements -/
def nxP : SDen := fun Δ st => some (.ok (.nx Δ), st)
/-- one statement, then the rest -/
def sqP (t u : SDen) : SDen := fun Δ st => bd (t Δ st) fun o st1 => match o with
  | .nx Δ1 => u Δ1 st1
  | o => some (.ok o, st1)
def asP (g : Tgt) (te : EDen) : SDen := fun Δ st => bd (te Δ st) fun d st1 => (g.put d Δ).map fun Δ1 => (.ok (.nx Δ1), st1)
def rtP (te : EDen) : SDen := fun Δ st => bd (te Δ st) fun d st1 => some (.ok (.rt d), st1)
def exP (te : EDen) : SDen := fun Δ st => bd (te Δ st) fun _ st1 => some (.ok (.nx Δ), st1)
section
variable {X : Cx} {E : XK} {st : Stmt} {rest : List Stmt} {t u : SDen} {e : Expr} {te : EDen} {pos : Pos}
theorem dss_nil : PSs X [] (tSD X.K E nxP) := imSs pss_nil fun D σ H h => by
  obtain ⟨W, st, Δ, r, st', L, I, e, k⟩ := h
  cases e
  exact k W H (Le.refl _ _) I σ L
theorem tSD_sq {D : Ends} {σ : L2.St} {H : Hp} (h : tSD X.K E (sqP t u) D σ H) : tSeq (tSD X.K E t) (tSD X.K E u) D σ H := by
  obtain ⟨W, st, Δ, r, st', L, I, e, k⟩ := h
  replace e : Dn.bd (t Δ st) (fun o st1 => match o with | .nx Δ1 => u Δ1 st1 | o => some (.ok o, st1)) = some (r, st') := e
  unfold Dn.bd at e
  cases hm : t Δ st with
  | none => rw [hm] at e; cases e
  | some p =>
    obtain ⟨ra, st1⟩ := p
    rw [hm] at e
    cases ra with
    | error x => simp only at e; cases e; exact ⟨W, st, Δ, .error x, _, L, I, hm, k⟩
    | ok o =>
      cases o with
      | nx Δ1 => exact ⟨W, st, Δ, .ok (.nx Δ1), st1, L, I, hm, fun W1 H1 e1 i1 σ' L' => ⟨W1, st1, Δ1, r, st', L', i1, e, k.to e1⟩⟩
      | rt d => simp only at e; cases e; exact ⟨W, st, Δ, .ok (.rt d), _, L, I, hm, k⟩
      | bk d => simp only at e; cases e; exact ⟨W, st, Δ, .ok (.bk d), _, L, I, hm, k⟩
      | ct d => simp only at e; cases e; exact ⟨W, st, Δ, .ok (.ct d), _, L, I, hm, k⟩
theorem dss_cons (h1 : PS X st (tSD X.K E t)) (h2 : PSs X rest (tSD X.K E u)) : PSs X (st :: rest) (tSD X.K E (sqP t u)) := imSs (pss_cons h1 h2) fun _ _ _ => tSD_sq
theorem dss_one (h1 : PS X st (tSD X.K E t)) : PSs X [st] (tSD X.K E t) := pss_one h1
theorem ds_asg {tg : Expr} (g : Tgt) (he : PE X e (tD X.K E te)) (hg : PG X tg (g.g X.K)) (hs : swapsWithSole [tg] e pos.line X.env = pure false := by rfl) (hw : swappedStores [tg] e X.env = pure none := by rfl) (h1 : List.map (fun x => x.snd) (assignEach [tg] X.env) = [assign tg X.env] := by rfl) : PS X (.Assign [tg] e pos) (tSD X.K E (asP g te)) := by
  refine imS (ps_asg he hg hs hw h1) fun D σ H h => ?_
  obtain ⟨W, st, h⟩ := h
  refine ⟨W, st, h.seq.mono fun d st1 W1 H1 e1 i1 q v rv => ?_⟩
  obtain ⟨Δ, r, st', L, I, e, k⟩ := q.2
  simp only at e
  cases hp : g.put d Δ with
  | none => rw [hp] at e; cases e
  | some Δ1 =>
    rw [hp] at e
    cases e
    exact put_ok g L rv hp fun σ' L' _ _ => k W1 H1 (Le.refl _ _) I σ' L'
theorem ds_set {i : Nat} {x : Str} {pos' : Pos} (hN : X.N.Nodup) (hi : X.N[i]? = some x) (hx : L2.Loc X.env.scope x) (he : PE X e (tD X.K E te)) (hs : swapsWith e (some (.Name x pos')) pos.line X.env = pure false := by rfl)
    (hf : X.fn x = true ∨ X.env.scope.names.lookup x = some .local := by first | exact .inl rfl | exact .inr rfl | assumption) : PS X (.Assign [.Name x pos'] e pos) (tSD X.K E (asP (.one i) te)) := by
  refine imS (ps_set hN hi hx he hs hf) fun D σ H h => ?_
  obtain ⟨W, st, h⟩ := h
  refine ⟨W, st, h.seq.mono fun d st1 W1 H1 e1 i1 q v rv => ?_⟩
  obtain ⟨Δ, r, st', L, I, e, k⟩ := q.2
  cases e
  exact k W1 H1 (Le.refl _ _) I _ (L.set rv)
theorem ds_ret (he : PE X e (tD X.K E te)) : PS X (.Return (some e) pos) (tSD X.K E (rtP te)) := by
  refine imS (ps_ret he) fun D σ H h => ?_
  obtain ⟨W, st, h⟩ := h
  refine ⟨W, st, h.seq.mono fun d st1 W1 H1 e1 i1 q v rv => ?_⟩
  exact q.2.ret (fun _ => rfl) v rv
theorem ds_expr (he : PE X e (tD X.K E te)) (hs : swapsWith e none pos.line X.env = pure false := by rfl) : PS X (.Expr e pos) (tSD X.K E (exP te)) := by
  refine imS (ps_expr he hs) fun D σ H h => ?_
  obtain ⟨W, st, h⟩ := h
  refine ⟨W, st, h.seq.mono fun d st1 W1 H1 e1 i1 q v rv => ?_⟩
  obtain ⟨Δ, r, st', L, I, e, k⟩ := q.2
  cases e
  exact k W1 H1 (Le.refl _ _) I σ L
theorem ds_if {c : Expr} {a b : List Stmt} {tc : TDen} (hc : PT X c (tTD X.K E tc)) (ha : PSs X a (tSD X.K E t)) (hb : PSs X b (tSD X.K E u)) : PS X (.If c a b pos) (tSD X.K E (ifP tc t u)) := by
  refine imS (ps_if hc ha hb) fun D σ H h => ?_
  obtain ⟨W, st, h⟩ := h
  refine ⟨W, st, (h.seq (k := fun b Δ st1 => if b = true then t Δ st1 else u Δ st1)).mono fun k st1 W1 H1 e1 i1 q => ?_⟩
  obtain ⟨_, q⟩ := q
  cases k with
  | true => exact iteT ⟨W1, st1, q⟩
  | false => exact iteF ⟨W1, st1, q⟩
end

/-! ### for -/
def foGo (g : Tgt) (tb : SDen) : List D → Dl → Sta → Mo Out
  | [], Δ, st => some (.ok (.nx Δ), st)
  | d :: ds, Δ, st => (g.put d Δ).bind fun Δ1 => match tb Δ1 st with
    | some (.ok (.nx Δ2), st2) => foGo g tb ds Δ2 st2
    | some (.ok (.ct Δ2), st2) => foGo g tb ds Δ2 st2
    | some (.ok (.bk Δ2), st2) => some (.ok (.nx Δ2), st2)
    | r => r
def foP (ti : IDen) (g : Tgt) (tb : SDen) : SDen := fun Δ st => bd (ti Δ st) fun ds st1 => foGo g tb ds Δ st1
section
variable {X : Cx} {E : XK}
theorem tSD_fo {ti : IDen} {g : Tgt} {tb : SDen} {D : Ends} {σ : L2.St} {H : Hp} (h : tSD X.K E (foP ti g tb) D σ H) : tFor (tI X.K E ti) (g.g X.K) (tSD X.K E tb) D σ H := by
  obtain ⟨W0, st0, Δ0, r0, st0', L0, iv0, e0, k0⟩ := h
  unfold foP bd at e0
  cases hm : ti Δ0 st0 with
  | none => rw [hm] at e0; cases e0
  | some p =>
  obtain ⟨rr, st1⟩ := p
  rw [hm] at e0
  cases rr with
  | error x =>
    simp only at e0
    cases e0
    exact ⟨W0, st0, Δ0, .error x, _, L0, iv0, hm, k0⟩
  | ok ds =>
    simp only at e0
    refine ⟨W0, st0, Δ0, .ok ds, st1, L0, iv0, hm, fun W1 H1 e1 i1 J wk => ?_⟩
    obtain ⟨G, Y, w, hG, hY⟩ := wk.ex
    refine for_it w (fun i σ2 H2 => ∃ W2 st Δ, Le W1 H1 W2 H2 ∧ Holds X.K W2 H2 st ∧ LocD X.K W2 H2 σ2 Δ ∧ foGo g tb (ds.drop i) Δ st = some (r0, st0')) ?_ (fun i σ2 H2 _ hp => ?_) (fun i x σ2 H2 H3 hi hp hy => ?_) (fun σ2 H2 hp => ?_)
    · exact ⟨W1, st1, Δ0, Le.refl _ _, i1, L0.to e1, by rw [List.drop_zero]; exact e0⟩
    · obtain ⟨W2, _, _, e2, _⟩ := hp
      exact hG W2 H2 e2.w
    · obtain ⟨W2, st, Δ, e2, i2, L2', eg⟩ := hp
      have hd : ds[i]? = some ds[i] := List.getElem?_eq_getElem hi
      obtain ⟨sm, rx⟩ := hY i W2 H2 st x H3 ds[i] e2.w i2 hd hy
      have e3 : Le W1 H1 W2 H3 := e2.trans (Le.of sm)
      have i3 := i2.same sm
      rw [List.drop_eq_getElem_cons hi] at eg
      simp only [foGo] at eg
      cases hp2 : g.put ds[i] Δ with
      | none => rw [hp2] at eg; cases eg
      | some Δ1 =>
        rw [hp2] at eg
        simp only [Option.bind] at eg
        refine put_ok g (L2'.to (Le.of sm)) rx hp2 fun σ3 L3 _ _ => ?_
        cases ht : tb Δ1 st with
        | none => rw [ht] at eg; cases eg
        | some q =>
          obtain ⟨rb, st2⟩ := q
          rw [ht] at eg
          refine ⟨W2, st, Δ1, rb, st2, L3, i3, ht, ?_⟩
          cases rb with
          | error z =>
            simp only at eg
            cases eg
            exact k0.to (e1.trans e3)
          | ok o =>
            cases o with
            | nx Δ2 => exact fun W4 H4 e4 i4 σ4 L4 => ⟨W4, st2, Δ2, e3.trans e4, i4, L4, eg⟩
            | ct Δ2 => exact fun W4 H4 e4 i4 σ4 L4 => ⟨W4, st2, Δ2, e3.trans e4, i4, L4, eg⟩
            | bk Δ2 =>
              simp only at eg
              cases eg
              exact fun W4 H4 e4 i4 σ4 L4 => k0 W4 H4 ((e1.trans e3).trans e4) i4 σ4 L4
            | rt d =>
              simp only at eg
              cases eg
              exact fun W4 H4 e4 i4 v rv => k0 W4 H4 ((e1.trans e3).trans e4) i4 v rv
    · obtain ⟨W2, st, Δ, e2, i2, L2', eg⟩ := hp
      rw [List.drop_length] at eg
      simp only [foGo] at eg
      cases eg
      exact k0 W2 H2 (e1.trans e2) i2 σ2 L2'
theorem ds_for {tg iter : Expr} {body : List Stmt} {pos : Pos} {ti : IDen} (g : Tgt) {tb : SDen} (hp : PassesOwn (model X.prog X.w) X.A X.env X.xe) (hc : X.calm = true) (hi : PI X tg iter (tI X.K E ti)) (hg : PG X tg (g.g X.K)) (hb : PSs X body (tSD X.K E tb)) (hs : ∀ x, foldedSetIterable iter X.env x = pure x := by intro _; rfl) :
    PS X (.For tg iter body [] pos) (tSD X.K E (foP ti g tb)) := imS (ps_for hp hc hi hg hb hs) fun _ _ _ => tSD_fo
end
end Dn

set_option Elab.async false
set_option linter.all false
set_option maxRecDepth 100000
set_option maxHeartbeats 4000000
namespace Dn
open PySem PySem.Spec PyProof.Rows L2
abbrev andD := intD fun i j => some (Builtin.bitAnd i j)
abbrev orD := intD fun i j => some (Builtin.bitOr i j)
abbrev xorD := intD fun i j => some (Builtin.bitXor i j)
/-! ### is None -/
def isNon : D → Option Bool
  | .non => some true
  | .opq _ => none
  | _ => some false
def isNP (ta : EDen) : EDen := fun Δ st => bd (ta Δ st) fun d st1 => (isNon d).map fun b => (.ok (.bl b), st1)
def notNP (ta : EDen) : EDen := fun Δ st => bd (ta Δ st) fun d st1 => (isNon d).map fun b => (.ok (.bl (!b)), st1)
section
variable {X : Cx} {E : XK} {a b : Expr} {ta tb : EDen} {pos pos' : Pos} {σ : L2.St} {H : Hp} {Q : VK} {j : Nat}
theorem isNon_of {K : PySem.W.Frag} {W : Wd} {v : V} {d : D} {b : Bool} (r : Rp K W H v d) (h : isNon d = some b) : decide (v = .non) = b := by
  cases r <;> simp only [isNon] at h <;> cases h <;> rfl
theorem tD_isN (h : tD X.K E (isNP ta) σ H Q) : tIsN (tD X.K E ta) σ H Q := by
  obtain ⟨W, st, h⟩ := h
  refine ⟨W, st, h.seq.mono fun d st1 W1 H1 e1 i1 q v rv => ?_⟩
  obtain ⟨Δ, r, st', L, I, e, k⟩ := q.2
  simp only at e
  cases q0 : isNon d with
  | none => rw [q0] at e; cases e
  | some b0 =>
    rw [q0] at e
    cases e
    rw [isNon_of rv q0]
    exact k W1 H1 (Le.refl _ _) I _ (.bl _)
theorem de_isN (ha : PE X a (tD X.K E ta)) : PE X (.Compare a [.Is] [.Constant .none j pos'] pos) (tD X.K E (isNP ta)) := imE (pe_cmp (pc_isN ha) rfl) fun _ _ _ => tD_isN
theorem dt_isN (ha : PE X a (tD X.K E ta)) : PT X (.Compare a [.Is] [.Constant .none j pos'] pos) (tTD X.K E (tstP (isNP ta))) := imT (pt_cmp (pc_isN ha) rfl) fun _ _ _ h => tD_isN (tTD_tst h)
def negP (ta : EDen) : EDen := fun Δ st => bd (ta Δ st) fun d st1 => (intOf d).map fun i => (.ok (.int (-i)), st1)
theorem de_neg (ha : PE X a (tD X.K E ta)) : PE X (.UnaryOp .USub a pos) (tD X.K E (negP ta)) := imE (pe_un un_neg ha) fun σ H Q h => by
  obtain ⟨W, st, h⟩ := h
  refine ⟨W, st, h.seq.mono fun d st1 W1 H1 e1 i1 q v rv => ?_⟩
  obtain ⟨Δ, r, st', L, I, e, k⟩ := q.2
  cases rv <;> simp only [intOf] at e <;> cases e
  exact ⟨_, rfl, k W1 H1 (Le.refl _ _) I _ (.int _)⟩

/-! ### in, not in: plain values in a list or tuple; one sign in a text -/
def toV : D → Option V
  | .non => some .non
  | .bl b => some (.bl b)
  | .int i => some (.int i)
  | .str x => some (.str x)
  | _ => none
def toVs : List D → Option (List V)
  | [] => some []
  | d :: ds => (toV d).bind fun v => (toVs ds).map fun vs => v :: vs
theorem toV_of {K : PySem.W.Frag} {W : Wd} {v v' : V} {d : D} (r : Rp K W H v d) (h : toV d = some v') : v = v' ∧ flatV v = true := by
  cases r <;> simp only [toV] at h <;> cases h <;> exact ⟨rfl, rfl⟩
theorem toVs_of {K : PySem.W.Frag} {W : Wd} : ∀ {ds : List D} {vs vs' : List V}, Rps K W H vs ds → toVs ds = some vs' → vs = vs' ∧ vs.all flatV = true
  | [], _, _, .nil, h => by cases h; exact ⟨rfl, rfl⟩
  | d :: ds, _, vs', .cons r t, h => by
    simp only [toVs] at h
    cases e : toV d with
    | none => rw [e] at h; cases h
    | some w =>
      rw [e] at h
      cases e2 : toVs ds with
      | none => rw [e2] at h; cases h
      | some ws =>
        rw [e2] at h
        cases h
        obtain ⟨rfl, f1⟩ := toV_of r e
        obtain ⟨rfl, f2⟩ := toVs_of t e2
        exact ⟨rfl, by rw [List.all_cons, f1, f2]; rfl⟩
def inB : D → D → Option Bool
  | x, .lst ds => (toV x).bind fun v => (toVs ds).map fun vs => inV v vs
  | x, .tup ds => (toV x).bind fun v => (toVs ds).map fun vs => inV v vs
  | .str x, .str y => if x.cps = #[x.cps.getD 0 0] then some (decide (x.cps.getD 0 0 ∈ y.cps.toList)) else none
  | _, _ => none
def inD (x y : D) : Option D := (inB x y).map .bl
theorem or_inG {op : CmpOp} {neg : Bool} (h1 : OpR X (compareOp op) (rIn X.K neg)) (h2 : OpR X (compareOp op) (fun x y H Q => ∃ (c : Nat) (z : Str), x = .str ⟨#[c]⟩ ∧ y = .str z ∧ Q (.bl (if neg then !decide (c ∈ z.cps.toList) else decide (c ∈ z.cps.toList))) H)) :
    OpR X (compareOp op) (rBinD X.K fun x y => (inB x y).map fun b => .bl (if neg then !b else b)) := by
  intro pins s σ H x y v u Q I rx ry q
  obtain ⟨W, st, d1, d2, d, r1, r2, iv, hf, k⟩ := q
  simp only at hf
  cases e : inB d1 d2 with
  | none => rw [e] at hf; cases hf
  | some b =>
    rw [e] at hf
    cases hf
    unfold inB at e
    split at e
    · rename_i ds
      cases e1 : toV d1 with
      | none => rw [e1] at e; cases e
      | some v1 =>
        rw [e1] at e
        cases e2 : toVs ds with
        | none => rw [e2] at e; cases e
        | some vs =>
          rw [e2] at e
          cases e
          cases r2 with
          | lst n2 s2 q2 =>
            obtain ⟨rfl, f1⟩ := toV_of r1 e1
            obtain ⟨rfl, f2⟩ := toVs_of q2 e2
            exact h1 pins s σ H _ _ v u Q I rx ry ⟨_, _, rfl, .inl (sq_l s2), f1, f2, k _ _ (Same.refl _) (.bl _)⟩
    · rename_i ds
      cases e1 : toV d1 with
      | none => rw [e1] at e; cases e
      | some v1 =>
        rw [e1] at e
        cases e2 : toVs ds with
        | none => rw [e2] at e; cases e
        | some vs =>
          rw [e2] at e
          cases e
          cases r2 with
          | tup s2 q2 =>
            obtain ⟨rfl, f1⟩ := toV_of r1 e1
            obtain ⟨rfl, f2⟩ := toVs_of q2 e2
            exact h1 pins s σ H _ _ v u Q I rx ry ⟨_, _, rfl, .inr (sq_t s2), f1, f2, k _ _ (Same.refl _) (.bl _)⟩
    · rename_i x y
      split at e
      · rename_i hx
        cases e
        cases r1
        cases r2
        refine h2 pins s σ H _ _ v u Q I rx ry ⟨x.cps.getD 0 0, y, ?_, rfl, k _ _ (Same.refl _) (.bl _)⟩
        obtain ⟨cps⟩ := x
        simp only at hx
        rw [← hx]
      · cases e
    · cases e
theorem or_in : OpR X (compareOp .In) (rBinD X.K inD) := or_inG (neg := false) op_in_seq op_in_sign
/-! ### isinstance(x, (T, U)) -/
variable {y1 y2 : Str} {p p1 p2 : Pos} {kk : Nat} {tpos : Pos}
theorem de_isi2 (t1 t2 : Ty) (hm : X.mg "isinstance" = none) (hm1 : X.mg y1 = none) (hm2 : X.mg y2 = none) (hv1 : bootBuiltins y1 = some (.type t1.name)) (hv2 : bootBuiltins y2 = some (.type t2.name)) (ha : PE X a (tD X.K E ta)) (hg : Gl X "isinstance" := by rfl) (hg1 : Gl X y1 := by rfl) (hg2 : Gl X y2 := by rfl)
    (hn1 : y1 ≠ "__name__" := by decide) (hdb1 : (y1 == ("__debug__" : Str)) = false := by decide) (hn2 : y2 ≠ "__name__" := by decide) (hdb2 : (y2 == ("__debug__" : Str)) = false := by decide)
    (hs : starEach (a :: [.Tuple [.Name y1 p1, .Name y2 p2] kk tpos]) X.env = (false, eval a X.env) :: starEach [.Tuple [.Name y1 p1, .Name y2 p2] kk tpos] X.env := by rfl) (hpl : (backTo pos (starEach [.Tuple [.Name y1 p1, .Name y2 p2] kk tpos] X.env)).any (·.1) = false := by rfl)
    (hs2 : starEach ([.Tuple [.Name y1 p1, .Name y2 p2] kk tpos]) X.env = (false, eval (.Tuple [.Name y1 p1, .Name y2 p2] kk tpos) X.env) :: starEach [] X.env := by rfl)
    (hs3 : starEach ([.Name y1 p1, .Name y2 p2]) X.env = (false, eval (.Name y1 p1) X.env) :: starEach [.Name y2 p2] X.env := by rfl) (hs4 : starEach ([.Name y2 p2]) X.env = (false, eval (.Name y2 p2) X.env) :: starEach [] X.env := by rfl) :
    PE X (.Call (.Name "isinstance" p) [a, .Tuple [.Name y1 p1, .Name y2 p2] kk tpos] [] pos) (tD X.K E (isisP [t1, t2] ta)) := by
  refine imE (pe_callB call_isiT hg hm (by decide +kernel) (pa_cons ha (pa_cons (pe_tup (pa_cons (pe_bltn hg1 hm1 hv1 (show RelV (.ty t1.name) _ from rfl) hn1 hdb1) (pa_cons (pe_bltn hg2 hm2 hv2 (show RelV (.ty t2.name) _ from rfl) hn2 hdb2) pa_nil hs4) hs3)) pa_nil hs2) hs) (by decide) (by decide) hs hpl) fun σ H Q h => ?_
  obtain ⟨W, st, h⟩ := h
  refine ⟨W, st, h.seq.mono fun d st1 W1 H1 e1 i1 q v rv => ?_⟩
  obtain ⟨Δ, r, st', L, I, e, k⟩ := q.2
  simp only at e
  cases q0 : isTys d [t1, t2] with
  | none => rw [q0] at e; cases e
  | some b0 =>
    rw [q0] at e
    cases e
    simp only [isTys] at q0
    cases q1 : isTy d t1 with
    | none => rw [q1] at q0; cases q0
    | some b1 =>
      rw [q1] at q0
      obtain ⟨u, hu, hk⟩ := isTy_kit rv t1 q1
      refine ⟨by show 2 ≤ sizeLine; decide, fun p np => ?_⟩
      have rv2 := rv.to (Le.of (same_new (o := .tup [.ty t1.name, .ty t2.name]) np) : Le W1 H1 W1 _)
      obtain ⟨u2, hu2, hk2⟩ := isTy_kit rv2 t1 q1
      refine ⟨v, p, [.ty t1.name, .ty t2.name], u2, [.type t1.name, .type t2.name], b0, rfl, upd_same, .cons (.ty _) (.cons (.ty _) .nil), hu2, ?_, k W1 _ (Le.of (same_new np)) (I.same (same_new np)) _ (.bl _)⟩
      refine kitAny_cons (hk2 t1 b1 q1) (fun hb => ?_) fun hb => ?_
      · subst hb
        simp only [Option.bind] at q0
        cases q2 : isTy d t2 with
        | none => rw [q2] at q0; cases q0
        | some b2 =>
          rw [q2] at q0
          refine kitAny_cons (r := b0) (hk2 t2 b2 q2) (fun hb => ?_) fun hb => ?_
          · subst hb; cases q0; exact kitAny_nil
          · subst hb; cases q0; rfl
      · subst hb; cases q0; rfl

/-! ### zip of two lists, of two tuples -/
def zipL : List D → List D → List D
  | x :: xs, y :: ys => .tup [x, y] :: zipL xs ys
  | _, _ => []
theorem zipL_length : ∀ xs ys : List D, (zipL xs ys).length = min xs.length ys.length
  | [], _ => by simp [zipL]
  | _ :: _, [] => by simp [zipL]
  | x :: xs, y :: ys => by
    simp only [zipL, List.length_cons, zipL_length xs ys]
    omega
theorem zipL_get : ∀ (xs ys : List D) (i : Nat) (d : D), (zipL xs ys)[i]? = some d → ∃ x y, xs[i]? = some x ∧ ys[i]? = some y ∧ d = .tup [x, y]
  | [], _, _, _, h => by simp [zipL] at h
  | _ :: _, [], _, _, h => by simp [zipL] at h
  | x :: xs, y :: ys, 0, d, h => by simp [zipL] at h; exact ⟨x, y, rfl, rfl, h.symm⟩
  | x :: xs, y :: ys, i + 1, d, h => by
    obtain ⟨x', y', h1, h2, h3⟩ := zipL_get xs ys i d (by simpa [zipL] using h)
    exact ⟨x', y', by simpa using h1, by simpa using h2, h3⟩
def zipF : List D → Option (List D)
  | [.lst xs, .lst ys] => some (zipL xs ys)
  | [.tup xs, .tup ys] => some (zipL xs ys)
  | _ => none
def zipP (tr : ADen) : IDen := fun Δ st => bd (tr Δ st) fun ds st1 => (zipF ds).map fun r => (.ok r, st1)
theorem di_zip {elts : List Expr} {tr : ADen} (hm : X.mg "zip" = none) (ha : PA X [a, b] (tAD X.K E tr)) (hg : Gl X "zip" := by rfl) (hs : starEach [a, b] X.env = (false, eval a X.env) :: starEach [b] X.env := by rfl) (hpl : (backTo pos (starEach [b] X.env)).any (·.1) = false := by rfl) :
    PI X (.Tuple elts kk tpos) (.Call (.Name "zip" p) [a, b] [] pos) (tI X.K E (zipP tr)) := by
  refine ⟨fun pins s σ H R I h => (RZ.pi_zipA hg hm ha hs hpl).run pins s σ H R I ?_⟩
  obtain ⟨W, st, h⟩ := h
  refine ⟨W, st, h.seq.mono fun ds st1 W1 H1 e1 i1 q vs rs => ?_⟩
  obtain ⟨Δ, r, L, iv, e, k⟩ := q.2.val (m := fun _ => zipF ds)
  unfold zipF at e
  split at e
  · rename_i xs ys
    cases e
    obtain ⟨v, v', rfl, rv, rv'⟩ := rps2 rs
    cases rv with
    | @lst a vx _ n1 s1 q1 =>
      cases rv' with
      | @lst b vy _ n2 s2 q2 =>
        refine ⟨a, b, vx, vy, rfl, .inl ⟨sq_l s1, sq_l s2, k W1 H1 (Le.refl _ _) iv _ ⟨fun H => SqL X.K H a vx ∧ SqL X.K H b vy, YPair (fun i => vx[i]?) (fun i => vy[i]?), ?_, fun W2 H e2 => ⟨sq_l (e2.ext _ _ n1 s1), sq_l (e2.ext _ _ n2 s2)⟩, fun i W2 H st2 x H' d e2 i2 hd y => ?_⟩⟩⟩
        · exact walk_zip (by rw [zipL_length, q1.length, q2.length])
        · obtain ⟨T, x1, x2, rfl, nT, rfl, f1, f2⟩ := y
          obtain ⟨d1, d2, g1, g2, rfl⟩ := zipL_get _ _ _ _ hd
          obtain ⟨w1, m1, r1⟩ := q1.get g1
          obtain ⟨w2, m2, r2⟩ := q2.get g2
          rw [show vx[i]? = some x1 from f1] at m1
          rw [show vy[i]? = some x2 from f2] at m2
          cases m1
          cases m2
          exact ⟨same_new nT, rp_tup i2 nT (.cons (r1.tow e2) (.cons (r2.tow e2) .nil))⟩
  · rename_i xs ys
    cases e
    obtain ⟨v, v', rfl, rv, rv'⟩ := rps2 rs
    cases rv with
    | @tup a vx _ s1 q1 =>
      cases rv' with
      | @tup b vy _ s2 q2 =>
        have up : ∀ {c : Addr} {vs : List V} {W2 : Wd} {H : Hp}, (¬ W1.N c ∧ Rd H1 c (.tup vs)) ∨ WrT X.K c vs → Lw W1 H1 W2 H → SqT X.K H c vs := fun {c vs W2 H} s e2 => by
          rcases s with ⟨n, s⟩ | s
          · rcases s with s | ⟨o, s⟩
            · exact .inl (.inl (e2.ext _ _ n s))
            · exact .inl (.inr ⟨o, e2.ext _ _ n s⟩)
          · exact .inr s
        refine ⟨a, b, vx, vy, rfl, .inr ⟨sq_t s1, sq_t s2, k W1 H1 (Le.refl _ _) iv _ ⟨fun H => SqT X.K H a vx ∧ SqT X.K H b vy, YPair (fun i => vx[i]?) (fun i => vy[i]?), ?_, fun W2 H e2 => ⟨up s1 e2, up s2 e2⟩, fun i W2 H st2 x H' d e2 i2 hd y => ?_⟩⟩⟩
        · refine ⟨fun i H hi q => ?_, fun H q => ⟨vx, vy, q.1, q.2, by rw [zipL_length, q1.length, q2.length]; omega⟩, fun i H v H' _ q y => ?_⟩
          · rw [zipL_length] at hi
            have h1 : i < vx.length := by rw [q1.length]; omega
            have h2 : i < vy.length := by rw [q2.length]; omega
            exact ⟨vx, vy, vx[i], vy[i], q.1, q.2, by simp [h1], by simp [h2]⟩
          · obtain ⟨T, x, z, h1, h2, h3, h4, h5⟩ := y
            exact ⟨T, x, z, h1, h2, h3, h4 vx q.1, h5 vy q.2⟩
        · obtain ⟨T, x1, x2, rfl, nT, rfl, f1, f2⟩ := y
          obtain ⟨d1, d2, g1, g2, rfl⟩ := zipL_get _ _ _ _ hd
          obtain ⟨w1, m1, r1⟩ := q1.get g1
          obtain ⟨w2, m2, r2⟩ := q2.get g2
          rw [show vx[i]? = some x1 from f1] at m1
          rw [show vy[i]? = some x2 from f2] at m2
          cases m1
          cases m2
          exact ⟨same_new nT, rp_tup i2 nT (.cons (r1.tow e2) (.cons (r2.tow e2) .nil))⟩
  · cases e

/-! ### a, b = x, y; name = [..] -/
def parP (i j : Nat) (tr : ADen) : SDen := fun Δ st => bd (tr Δ st) fun ds st1 => match ds with
  | [x, y] => some (.ok (.nx ((Δ.set i (some x)).set j (some y))), st1)
  | _ => none
theorem ds_par {i j : Nat} {x y : Str} {px py pt : Pos} {kt k2 : Nat} {pt2 : Pos} {tr : ADen} (hN : X.N.Nodup) (ha : PA X [a, b] (tAD X.K E tr)) (hc : X.calm = true := by rfl) (hi : X.N[i]? = some x := by rfl) (hj : X.N[j]? = some y := by rfl) (hij : i ≠ j := by decide)
    (hx : X.env.scope.names.lookup x = some .local := by rfl) (hy : X.env.scope.names.lookup y = some .local := by rfl)
    (hw : swappedStores [.Tuple [.Name x px, .Name y py] kt pt] (.Tuple [a, b] k2 pt2) X.env = pure (some [x, y]) := by rfl)
    (hs : swapsWithSole [.Tuple [.Name x px, .Name y py] kt pt] (.Tuple [a, b] k2 pt2) pos.line X.env = pure false := by rfl) :
    PS X (.Assign [.Tuple [.Name x px, .Name y py] kt pt] (.Tuple [a, b] k2 pt2) pos) (tSD X.K E (parP i j tr)) := by
  refine imS (ps_par hc hN hi hj hij hx hy ha hw hs) fun D σ H h => ?_
  obtain ⟨W, st, h⟩ := h
  refine ⟨W, st, h.seq.mono fun ds st1 W1 H1 e1 i1 q vs rs => ?_⟩
  obtain ⟨Δ, r, st', L, I, e, k⟩ := q.2
  simp only at e
  split at e
  · cases e
    obtain ⟨v, v', rfl, rv, rv'⟩ := rps2 rs
    exact ⟨v, v', rfl, k W1 H1 (Le.refl _ _) I _ ((L.set rv).set rv')⟩
  · cases e
theorem ds_setLc {i : Nat} {y : Str} {py spos : Pos} {elt iter : Expr} {ifs : List Expr} {scope : Scope} (t : Tgt) (own : List (Str × Nat)) {tg : Expr} {ti : IDen} {tt : TDen} {te : EDen} (hc : X.calm = true) (hN : X.N.Nodup) (hs : ∀ i ∈ t.slots, i ∈ own.map (·.2)) (hi : PI X tg iter (tI X.K E ti)) (ok : BlkOk X.N X.env.scope scope own)
    (hg : ∀ (s : Shared) (H : Hp) (C : Addr) (cl : List (Str × Addr)) (fp : List Addr), PG (X.blk s H scope (compEnvC scope cl C X.env) fp) tg (t.g X.K))
    (ht : ∀ (s : Shared) (H : Hp) (C : Addr) (cl : List (Str × Addr)) (fp : List Addr), PTs (X.blk s H scope (compEnvC scope cl C X.env) fp) ifs (tTD X.K E0 tt))
    (he : ∀ (s : Shared) (H : Hp) (C : Addr) (cl : List (Str × Addr)) (fp : List Addr), PE (X.blk s H scope (compEnvC scope cl C X.env) fp) elt (tD X.K E0 te)) (hy : X.N[i]? = some y := by rfl) (hyl : X.env.scope.names.lookup y = some .local := by rfl)
    (hsw : swapsWith (.ListComp elt [⟨tg, iter, ifs, 0⟩] scope pos) (some (.Name y py)) spos.line X.env = pure true := by exact sw_true rfl rfl rfl (by decide +kernel)) (hf : ∀ x, foldedSetIterable iter X.env x = pure x := by intro _; rfl) :
    PS X (.Assign [.Name y py] (.ListComp elt [⟨tg, iter, ifs, 0⟩] scope pos) spos) (tSD X.K E (asP (.one i) (lcP ti t tt te (own.map (·.2))))) := by
  refine imS (ps_setLc hc hN hy hyl hsw hi ok hg ht he hf) fun D σ H h => ?_
  obtain ⟨W, st, h⟩ := h
  refine tD_lc (X := X) (E := E) hs ⟨W, st, h.seq.mono fun d st1 W1 H1 e1 i1 q v rv => ?_⟩
  obtain ⟨Δ, r, st', L, I, e, k⟩ := q.2
  cases e
  exact k W1 H1 (Le.refl _ _) I _ (L.set rv)

/-! ### sep.join(a list of texts) -/
def joinF : D → D → Option D
  | .str a, .lst ds => (strsD ds).bind fun ys => if (ys.map (·.length)).sum + ys.length * a.length ≤ big then some (.str (Txt.join a ys)) else none
  | .str a, .tup ds => (strsD ds).bind fun ys => if (ys.map (·.length)).sum + ys.length * a.length ≤ big then some (.str (Txt.join a ys)) else none
  | _, _ => none
theorem de_join {apos : Pos} (ha : PE X a (tD X.K E ta)) (hb : PE X b (tD X.K E tb)) (hs : starEach [b] X.env = [(false, eval b X.env)] := by rfl) (hbase : attributeBase a "join" X.env (eval a X.env) = eval a X.env := by rfl) (hline : (apos.endLine == pos.line) = true := by rfl)
    (hstr : ∀ Δ st d st1, ta Δ st = some (.ok d, st1) → ∃ z, d = .str z) :
    PE X (.Call (.Attribute a "join" apos) [b] [] pos) (tD X.K E (binP joinF ta tb)) := by
  refine imE (pe_join ha hb hs hbase hline) fun σ H Q h => ?_
  obtain ⟨W, st, Δ0, r0, st0, L0, I0, e0, k0⟩ := h
  have h : tGw X.K W st E (binP joinF ta tb) σ H _ := ⟨Δ0, r0, st0, L0, I0, e0, k0⟩
  refine ⟨W, st, ?_⟩
  have h2 := h.seq
  obtain ⟨Δ, r, st', L, I, e, k⟩ := h2
  refine ⟨Δ, r, st', L, I, e, ?_⟩
  cases r with
  | error x => exact k
  | ok d =>
    intro W1 H1 e1 i1 v rv
    obtain ⟨z, rfl⟩ := hstr Δ st d st' e
    cases rv
    refine ⟨⟨z, rfl⟩, W1, st', (k W1 H1 e1 i1).2.seq.mono fun y st2 W2 H2 e2 i2 q2 u ru => ?_⟩
    obtain ⟨Δ', d', L', I', hf, k'⟩ := q2.2.val (m := fun _ => joinF (.str z) y)
    have key : ∀ {ds : List D} {xs : List V} {p : Addr}, Rps X.K W2 H2 xs ds → (SqL X.K H2 p xs ∨ SqT X.K H2 p xs) → u = .ref p → ((strsD ds).bind fun ys => if (ys.map (·.length)).sum + ys.length * z.length ≤ big then some (D.str (Txt.join z ys)) else none) = some d' →
        ∃ a p, ∃ ys : List Str, V.str z = .str a ∧ [u] = [.ref p] ∧ (SqL X.K H2 p (ys.map V.str) ∨ SqT X.K H2 p (ys.map V.str)) ∧ (ys.map (·.length)).sum + ys.length * a.length ≤ 16777216 ∧ Q (.str (Txt.join a ys)) H2 := fun {ds xs p} rs hq hu hd => by
      cases e3 : strsD ds with
      | none => rw [e3] at hd; cases hd
      | some ys =>
        rw [e3] at hd
        simp only [Option.bind] at hd
        split at hd
        · rename_i hb
          cases hd
          rw [strsD_of e3] at rs
          rw [rs.strs] at hq
          exact ⟨z, p, ys, rfl, by rw [hu], hq, Nat.le_trans hb (by decide), k' W2 H2 (Le.refl _ _) I' _ (.str _)⟩
        · cases hd
    unfold joinF at hf
    cases ru with
    | lst n s r => exact key r (.inl (sq_l s)) rfl hf
    | tup s r => exact key r (.inr (sq_t s)) rfl hf
    | _ => cases hf
end
end Dn

set_option Elab.async false
set_option linter.all false
set_option maxRecDepth 100000
set_option maxHeartbeats 4000000
namespace Dn
open PySem PySem.Spec PyProof.Rows L2
/-! ### what a law draws from: a list of five, changed by its places -/
def BagSt.item (s : BagSt) : Int → Option D
  | 0 => some (.lst (s.cells.map .int))
  | 1 => some (.int s.at_)
  | 2 => some (.int s.rest)
  | 3 => some (.int s.seed)
  | 4 => some (.int s.cnt)
  | _ => none
def BagSt.put (s : BagSt) : Int → D → Option BagSt
  | 1, .int n => if 0 ≤ n then some { s with at_ := n.toNat } else none
  | 2, .int n => some { s with rest := n }
  | 3, .int n => some { s with seed := n }
  | 4, .int n => some { s with cnt := n }
  | _, _ => none
def isBag (Δ : Dl) (i : Nat) : Bool := match Δ[i]? with | some (some (.hnd 0)) => true | _ => false
def bagIx (i : Nat) (k : Int) : EDen := fun Δ st => if isBag Δ i = true then (st.bag.bind fun s => s.item k).map fun d => (.ok d, st) else none
def bagSet (i : Nat) (k : Int) (te : EDen) : SDen := fun Δ st => bd (te Δ st) fun d st1 =>
  if isBag Δ i = true then (st1.bag.bind fun s => s.put k d).map fun s' => (.ok (.nx Δ), { st1 with bag := some s' }) else none
section
variable {K : PySem.W.Frag} {W : Wd} {H : Hp} {σ : L2.St} {Δ : Dl} {i : Nat}
theorem isBag_at (L : LocD K W H σ Δ) (h : isBag Δ i = true) : ∃ a, σ[i]? = some (some (.ref a)) ∧ W.h 0 = some a := by
  unfold isBag at h
  split at h
  · rename_i q
    obtain ⟨v, h1, h2⟩ := L.2 i _ q
    cases h2 with
    | hnd n e => exact ⟨_, h1, e⟩
  · cases h
end
section
variable {X : Cx} {E : XK} {e : Expr} {te : EDen} {i : Nat} {x : Str} {px p pos pos' : Pos} {j : Nat}
theorem bag_k {k : Int} {s : BagSt} {d : D} (h : s.item k = some d) : k = 0 ∨ k = 1 ∨ k = 2 ∨ k = 3 ∨ k = 4 := by
  unfold BagSt.item at h
  split at h <;> simp_all
theorem de_bagIx (k : Int) (hN : X.N[i]? = some x := by rfl) (hv : Vis X.env.scope x := by first | exact Or.inl rfl | exact Or.inr (Or.inl rfl) | exact Or.inr (Or.inr rfl)) (hd : (x == ("__debug__" : Str)) = false := by decide)
    (hcd : (x == ("__classdict__" : Str)) = false := by decide) : PE X (.Subscript (.Name x px) (.Constant (.int k) j p) pos) (tD X.K E (bagIx i k)) := by
  refine imE (pe_ix ix_list (pe_var hN hv hd hcd) pe_int (fun _ _ => rfl)) fun σ H Q h => ?_
  obtain ⟨W, st, Δ, r, st', L, I, e, w⟩ := h
  unfold bagIx at e
  split at e
  · rename_i hb
    obtain ⟨b, h1, h2⟩ := isBag_at L hb
    cases hs : st.bag with
    | none => rw [hs] at e; cases e
    | some s =>
      rw [hs] at e
      simp only [Option.bind] at e
      cases hi : s.item k with
      | none => rw [hi] at e; cases e
      | some d =>
        rw [hi] at e
        cases e
        obtain ⟨b', g1, gM, l, g2, g3, g4⟩ := I.bag s hs
        rw [h2] at g1
        cases g1
        have key : ∀ v, atI [V.ref l, .int s.at_, .int s.rest, .int s.seed, .int s.cnt] k = some v → Rp X.K W H v d → tOp (rIxL X.K) (tVar i) (tC (.int k)) σ H Q := fun v a r => ⟨.ref b, h1, b, _, k, v, rfl, rfl, sq_l g4, a, w W H (Le.refl _ _) I v r⟩
        rcases bag_k hi with rfl | rfl | rfl | rfl | rfl <;> simp only [BagSt.item] at hi <;> cases hi
        · exact key (.ref l) rfl (.lst g2 g3 (Rps.of_ints _))
        · exact key _ rfl (.int _)
        · exact key _ rfl (.int _)
        · exact key _ rfl (.int _)
        · exact key _ rfl (.int _)
  · cases e
theorem bag_put {s s' : BagSt} {k : Int} {d : D} (h : s.put k d = some s') : ∃ n j : Int, d = .int n ∧ ixN 5 k = some j.toNat ∧ (∀ l : Addr, [V.ref l, .int s.at_, .int s.rest, .int s.seed, .int s.cnt].set j.toNat (.int n) = [V.ref l, .int s'.at_, .int s'.rest, .int s'.seed, .int s'.cnt]) ∧ s'.cells = s.cells := by
  unfold BagSt.put at h
  split at h
  · split at h
    · rename_i n hn
      cases h
      refine ⟨n, 1, rfl, rfl, fun l => ?_, rfl⟩
      show [V.ref l, .int n, .int s.rest, .int s.seed, .int s.cnt] = [V.ref l, .int ((n.toNat : Nat) : Int), .int s.rest, .int s.seed, .int s.cnt]
      rw [Int.toNat_of_nonneg hn]
    · cases h
  · cases h; exact ⟨_, 2, rfl, rfl, fun l => rfl, rfl⟩
  · cases h; exact ⟨_, 3, rfl, rfl, fun l => rfl, rfl⟩
  · cases h; exact ⟨_, 4, rfl, rfl, fun l => rfl, rfl⟩
  · cases h
/-- the state's own list changes -/
theorem Holds.bagUpd {K : PySem.W.Frag} {W : Wd} {H : Hp} {st : Sta} {b l : Addr} {s' : BagSt} (I : Holds K W H st) (hb : W.h 0 = some b) (hM : W.M b) (hl : ¬ W.N l) (g3 : H l = some (.lst (s'.cells.map V.int))) : Holds K W (upd H b (.lst [.ref l, .int s'.at_, .int s'.rest, .int s'.seed, .int s'.cnt])) { st with bag := some s' } := by
  have hN := W.sub _ hM
  have th : ∀ a, H a ≠ none → upd H b (.lst [.ref l, .int s'.at_, .int s'.rest, .int s'.seed, .int s'.cnt]) a ≠ none := fun a h z => by
    by_cases hp : a = b
    · subst hp; rw [upd_same] at z; cases z
    · rw [upd_ne hp] at z
      exact h z
  refine ⟨fun a n => th a (I.there a n), I.inj, fun n a h => th a (I.hdl n a h), (fun z => nomatch z), fun s h => ?_, fun a ns h => ?_, fun n c h => ?_, I.bd⟩
  · cases h
    exact ⟨b, hb, hM, l, hl, by rw [upd_ne (fun e => hl (by rw [e]; exact hN))]; exact g3, upd_same⟩
  · rcases I.scr a ns h with ⟨h2, h3⟩ | h3
    · have hp : a ≠ b := fun e => h2 (by rw [e]; exact hN)
      refine .inl ⟨h2, ?_⟩
      rcases h3 with q | ⟨u, q⟩
      · exact .inl (by rw [upd_ne hp]; exact q)
      · exact .inr ⟨u, by rw [upd_ne hp]; exact q⟩
    · exact .inr h3
  · obtain ⟨h0, p, h1, h2, h3⟩ := I.own n c h
    have hp : p ≠ b := fun e => h0 (I.inj n 0 b (by rw [← e]; exact h1) hb)
    exact ⟨h0, p, h1, h2, h3.tow (lw_upd hN) (upd_ne hp)⟩
theorem ds_bagSet (k : Int) (he : PE X e (tD X.K E te)) (hN : X.N[i]? = some x := by rfl) (hv : Vis X.env.scope x := by first | exact Or.inl rfl | exact Or.inr (Or.inl rfl) | exact Or.inr (Or.inr rfl)) (hd : (x == ("__debug__" : Str)) = false := by decide)
    (hcd : (x == ("__classdict__" : Str)) = false := by decide) (hs : swapsWithSole [.Subscript (.Name x px) (.Constant (.int k) j p) pos'] e pos.line X.env = pure false := by rfl) (hw : swappedStores [.Subscript (.Name x px) (.Constant (.int k) j p) pos'] e X.env = pure none := by rfl)
    (h1 : List.map (fun x => x.snd) (assignEach [.Subscript (.Name x px) (.Constant (.int k) j p) pos'] X.env) = [assign (.Subscript (.Name x px) (.Constant (.int k) j p) pos') X.env] := by rfl) :
    PS X (.Assign [.Subscript (.Name x px) (.Constant (.int k) j p) pos'] e pos) (tSD X.K E (bagSet i k te)) := by
  refine imS (ps_asg he (pg_sub (pe_var hN hv hd hcd) pe_int set_list) hs hw h1) fun D σ H h => ?_
  obtain ⟨W, st, h⟩ := h
  obtain ⟨Δ0, r0, st0, L0, I0, e0, w0⟩ := id h
  refine ⟨W, st, ?_⟩
  have h2 := h.seq
  obtain ⟨Δ1, r1, st1, L1, I1, e1, w1⟩ := h2
  refine ⟨Δ1, r1, st1, L1, I1, e1, ?_⟩
  cases r1 with
  | error x => exact w1
  | ok d =>
    intro W1 H1 le1 i1 v rv
    obtain ⟨Δ, r, st', L, I, e, k'⟩ := (w1 W1 H1 le1 i1).2
    simp only at e
    split at e
    · rename_i hb
      obtain ⟨b, q1, q2⟩ := isBag_at L hb
      cases hsb : st1.bag with
      | none => rw [hsb] at e; cases e
      | some s =>
        rw [hsb] at e
        simp only [Option.bind] at e
        cases hi : s.put k d with
        | none => rw [hi] at e; cases e
        | some s' =>
          rw [hi] at e
          cases e
          obtain ⟨b', g1, gM, l, g2, g3, g4⟩ := I.bag s hsb
          rw [q2] at g1
          cases g1
          obtain ⟨n, j', rfl, hix, hset, hcells⟩ := bag_put hi
          cases rv
          have J := I.bagUpd (s' := s') q2 gM g2 (by rw [hcells]; exact g3)
          refine ⟨.ref b, q1, b, _, k, j'.toNat, rfl, rfl, g4, hix, ?_⟩
          rw [hset l]
          have le2 : Le W1 H1 W1 (upd H1 b (.lst [.ref l, .int s'.at_, .int s'.rest, .int s'.seed, .int s'.cnt])) := ⟨fun a o n h => by rw [upd_ne (fun z => n (by rw [z]; exact gM))]; exact h, fun _ h => .inl h, fun _ h => .inl h, fun _ h => h, fun _ _ h => h, fun _ _ h => .inl h, fun a h z => (by
            by_cases hp : a = b
            · subst hp; rw [upd_same] at z; cases z
            · rw [upd_ne hp] at z; exact h z), rfl⟩
          exact k' W1 _ le2 J σ (L.to le2)
    · cases e
end
end Dn

set_option Elab.async false
set_option linter.all false
set_option maxRecDepth 100000
set_option maxHeartbeats 4000000
namespace Dn
open PySem PySem.Spec PyProof.Rows L2 PySem.Froz
/-! ### sets of texts: what set(xs) holds, and sorted(set(xs)) -/
def putS (l : List Str) (x : Str) : List Str := if x ∈ l then l else x :: l
def metS (xs : List Str) : List Str := xs.foldl putS []
structure TxAt (P : Program) (w : World) (h : Heap) (a : Addr) (D : SD) (l : List Str) : Prop where
  ob : h.get? a = some (sObj "set" D)
  ok : TxOk P w D l
  nd : l.Nodup
  up : Ris D.2.2.place.toList
  led : w.params.followText "set-order" = true ∨ D.2.2.led = true
section
variable {P : Program} {w : World} {A : Around} {E : Value → Shared → Prop} {s : Shared} {a : Addr} {D : SD} {l : List Str}
theorem TxAt.keep {h h' : Heap} (T : TxAt P w h a D l) (k : ∀ o, h.get? a = some o → h'.get? a = some o) : TxAt P w h' a D l := ⟨k _ T.ob, T.ok, T.nd, T.up, T.led⟩
end
end Dn

set_option Elab.async false
set_option linter.all false
set_option maxRecDepth 100000
set_option maxHeartbeats 4000000
namespace Dn
open PySem PySem.Spec PyProof.Rows L2 PySem.Froz
/-! ### texts in their order -/
def leS (a b : Str) : Prop := ¬ (b.cps.toList < a.cps.toList)
instance (a b : Str) : Decidable (leS a b) := inferInstanceAs (Decidable (¬ _))
theorem leS_trans {a b c : Str} (h1 : leS a b) (h2 : leS b c) : leS a c := List.le_trans (List.not_lt.mp h1) (List.not_lt.mp h2) |> List.not_lt.mpr
theorem str_ext {a b : Str} (h : a.cps.toList = b.cps.toList) : a = b := by
  cases a; cases b
  congr 1
  exact Array.toList_inj.mp h
theorem leS_anti {a b : Str} (h1 : leS a b) (h2 : leS b a) : a = b := str_ext (List.le_antisymm (List.not_lt.mp h1) (List.not_lt.mp h2))
theorem leS_total (a b : Str) : leS a b ∨ leS b a := by
  by_cases c : b.cps.toList < a.cps.toList
  · exact .inr (List.lt_asymm c)
  · exact .inl c
def insS (x : Str) : List Str → List Str
  | [] => [x]
  | y :: l => if leS x y then x :: y :: l else y :: insS x l
def srtS (l : List Str) : List Str := l.foldr insS []
theorem insS_perm (x : Str) : ∀ l : List Str, (insS x l).Perm (x :: l)
  | [] => .refl _
  | y :: l => by
    unfold insS
    split
    · exact .refl _
    · exact ((insS_perm x l).cons y).trans (List.Perm.swap x y l)
theorem insS_ord (x : Str) : ∀ l : List Str, l.Pairwise leS → (insS x l).Pairwise leS
  | [], _ => by unfold insS; exact List.pairwise_singleton _ _
  | y :: l, h => by
    obtain ⟨h1, h2⟩ := List.pairwise_cons.mp h
    unfold insS
    split
    · rename_i c
      refine List.pairwise_cons.mpr ⟨fun z hz => ?_, h⟩
      rcases List.mem_cons.mp hz with e | e
      · exact e ▸ c
      · exact leS_trans c (h1 z e)
    · rename_i c
      refine List.pairwise_cons.mpr ⟨fun z hz => ?_, insS_ord x l h2⟩
      rcases List.mem_cons.mp ((insS_perm x l).mem_iff.mp hz) with e | e
      · rw [e]; exact (leS_total x y).resolve_left c
      · exact h1 z e
theorem srtS_perm : ∀ l : List Str, (srtS l).Perm l
  | [] => .refl _
  | x :: l => (insS_perm x _).trans ((srtS_perm l).cons x)
theorem srtS_ord : ∀ l : List Str, (srtS l).Pairwise leS
  | [] => .nil
  | x :: l => insS_ord x _ (srtS_ord l)
theorem srtS_len (l : List Str) : (srtS l).length = l.length := (srtS_perm l).length_eq
theorem rising_ord : ∀ (l : List Str) (p : Str), risingS p l = true → (p :: l).Pairwise leS
  | [], p, _ => List.pairwise_singleton _ _
  | x :: l, p, h => by
    unfold risingS at h
    rw [Bool.and_eq_true, ltCps_eq] at h
    have o := rising_ord l x h.2
    have px : leS p x := by
      have := h.1
      unfold leS
      simpa using this
    refine List.pairwise_cons.mpr ⟨fun z hz => ?_, o⟩
    rcases List.mem_cons.mp hz with e | e
    · exact e ▸ px
    · exact leS_trans px ((List.pairwise_cons.mp o).1 z e)
theorem sorted_ord {l : List Str} (h : sortedS l = true) : l.Pairwise leS := by
  cases l with
  | nil => exact .nil
  | cons x r => exact rising_ord r x h
/-- one order only -/
theorem srtS_one {ys xs : List Str} (p : ys.Perm xs) (h : ys.Pairwise leS) : ys = srtS xs :=
  List.Perm.eq_of_pairwise (fun _ _ _ _ a b => leS_anti a b) h (srtS_ord xs) (p.trans (srtS_perm xs).symm)
section
variable {P : Program} {w : World} {A : Around} {E : Value → Shared → Prop} {s : Shared} {a : Addr} {D : SD} {l : List Str}
end

/-! ### sorted(xs), sorted(set(xs)) as data -/
def sortF : List D → Option D
  | [.lst ds] => (strsD ds).bind fun ss => if ss.length < 64 then some (.lst ((srtS ss).map .str)) else none
  | _ => none
section
variable {X : Cx}
theorem cr_sortD : CallR X (.builtin "sorted") (rCD X.K sortF) := by
  intro pins s σ H xs us Q I r h
  obtain ⟨W, st, ds, d, rs, iv, hf, k⟩ := h
  unfold sortF at hf
  split at hf
  · rename_i es
    cases q : strsD es with
    | none => rw [q] at hf; cases hf
    | some ss =>
      rw [q] at hf
      simp only [Option.bind] at hf
      split at hf
      · rename_i few
        cases hf
        obtain ⟨v, rfl, rv⟩ := rps1 rs
        cases rv with
        | lst n1 s1 q1 =>
          rw [strsD_of q] at q1
          rw [q1.strs] at s1
          exact cr_sortedS pins s σ H _ us Q I r ⟨_, ss, rfl, sq_l s1, few, fun ys p pm so np => by
            rw [srtS_one pm (sorted_ord so)]
            exact k _ _ (same_new np) (rp_lst iv np (Rps.of_strs _))⟩
      · cases hf
  · cases hf
/-- sorted(set(xs)) -/
def sosD : D → Option D
  | .lst ds => (strsD ds).bind fun ss => if ss.length < 64 then some (.lst ((srtS (metS ss)).map .str)) else none
  | .tup ds => (strsD ds).bind fun ss => if ss.length < 64 then some (.lst ((srtS (metS ss)).map .str)) else none
  | _ => none
def sosP (te : EDen) : EDen := fun Δ st => bd (te Δ st) fun d st1 => (sosD d).map fun r => (.ok r, st1)
variable {E : XK} {a : Expr} {te : EDen} {p p2 q pos : Pos}
end
end Dn

set_option Elab.async false
set_option linter.all false
set_option maxRecDepth 100000
set_option maxHeartbeats 4000000
namespace Dn
open PySem PySem.Spec PyProof.Rows L2
/-! ### a call with keywords only -/
def pick {α : Type} (is : List Nat) (xs : List α) : List α := is.filterMap fun i => xs[i]?
theorem vals_get : ∀ {vs : List V} {us : List Value} {i : Nat}, Vals vs us → (vs[i]? = none ∧ us[i]? = none) ∨ ∃ v u, vs[i]? = some v ∧ us[i]? = some u ∧ RelV v u
  | _, _, _, .nil => .inl ⟨rfl, rfl⟩
  | _, _, 0, .cons h _ => .inr ⟨_, _, rfl, rfl, h⟩
  | _, _, i + 1, .cons _ t => by
    rcases vals_get (i := i) t with h | h
    · exact .inl (by simpa using h)
    · exact .inr (by simpa using h)
theorem pick_vals {vs : List V} {us : List Value} (h : Vals vs us) : ∀ is : List Nat, Vals (pick is vs) (pick is us)
  | [] => .nil
  | i :: is => by
    unfold pick
    rcases vals_get (i := i) h with ⟨a, b⟩ | ⟨v, u, a, b, c⟩
    · rw [List.filterMap_cons, List.filterMap_cons, a, b]
      exact pick_vals h is
    · rw [List.filterMap_cons, List.filterMap_cons, a, b]
      exact .cons c (pick_vals h is)
theorem rps_or {K : PySem.W.Frag} {W : Wd} {H : Hp} {vs : List V} {ds : List D} (h : Rps K W H vs ds) (i : Nat) : (vs[i]? = none ∧ ds[i]? = none) ∨ ∃ v d, vs[i]? = some v ∧ ds[i]? = some d ∧ Rp K W H v d := by
  cases q : ds[i]? with
  | none =>
    refine .inl ⟨?_, rfl⟩
    rw [List.getElem?_eq_none_iff] at q ⊢
    rw [h.length]
    exact q
  | some d =>
    obtain ⟨v, a, b⟩ := h.get q
    exact .inr ⟨v, d, a, rfl, b⟩
theorem pick_rps {K : PySem.W.Frag} {W : Wd} {H : Hp} {vs : List V} {ds : List D} (h : Rps K W H vs ds) : ∀ is : List Nat, Rps K W H (pick is vs) (pick is ds)
  | [] => .nil
  | i :: is => by
    unfold pick
    rcases rps_or h i with ⟨a, b⟩ | ⟨v, d, a, b, c⟩
    · rw [List.filterMap_cons, List.filterMap_cons, a, b]
      exact pick_rps h is
    · rw [List.filterMap_cons, List.filterMap_cons, a, b]
      exact .cons c (pick_rps h is)
section
variable {X : Cx} {k : Nat} {f : Addr} {fd : FuncData} {ps ks : List Str} {is : List Nat} {F : FDen} {E : XK} {x : Str} {p pos kpos : Pos} {kws : List Keyword} {nm : Option Str} {e : Expr} {te : EDen} {tr : ADen}
theorem imK {t t' : TA} (h : PK X kws t) (q : ∀ σ H Q, t' σ H Q → t σ H Q) : PK X kws t' := ⟨fun pos pins s σ H Q I w => h.run pos pins s σ H Q I (q _ _ _ w)⟩
theorem dk_nil : PK X [] (tAD X.K E nilP) := by
  refine imK pk_nil fun σ H Q h => ?_
  obtain ⟨W, st0, h⟩ := h
  exact h.ret (fun _ => rfl) [] .nil
theorem dk_cons (ha : PE X e (tD X.K E te)) (hr : PK X kws (tAD X.K E tr)) : PK X (⟨nm, e, kpos⟩ :: kws) (tAD X.K E (consP te tr)) := by
  refine imK (pk_cons ha hr) fun σ H Q h => ?_
  obtain ⟨W, st0, h⟩ := h
  refine ⟨W, st0, h.seq.mono fun d st1 W1 H1 e1 i1 q v rv => ?_⟩
  refine ⟨W1, st1, q.2.seq.mono fun ds st2 W2 H2 e2 i2 q2 vs rs => ?_⟩
  exact q2.2.ret (fun _ => rfl) _ (.cons (rv.to e2) rs)
def kwF (m : Nat) (is : List Nat) (F : FDen) : FDen := fun ds st => if ds.length = m then F (pick is ds) st else none
end

/-! ### the bag is made -/
def bagF (n0 : Int) : FDen := fun ds st => match ds, st.scr, st.bag with
  | [.opq (.ref a)], some (b, ns), none => if a = b ∧ ns.length ≤ 63 then some (.ok (.hnd 0), { st with bag := some ⟨ns, 0, 0, n0 + ns.length, 0⟩ }) else none
  | _, _, _ => none
section
variable {P : Program} {w : World} {K : PySem.W.Frag} {mg : Str → Option Value} {base : Heap} {f : Addr} {fd : FuncData} {st : Stmt}
theorem scr_seq {W : Wd} {H : Hp} {a : Addr} {ns : List Int} (h : ScrAt K W H a ns) : SqL K H a (ns.map V.int) := by
  rcases h with ⟨_, h⟩ | h
  · exact .inl h
  · exact .inr h
theorem ok_bag (n0 : Int) {p1 p2 p3 p4 p5 p6 q1 q2 q3 q4 q5 q6 q7 q8 q9 : Pos} {k2p : Pos} {j1 j2 j3 j4 j5 : Nat} (G : Fun K "_law_bag" "_law_bag" st f fd) (S : FnScope ["_law_script"] ["_law_script"] (defScope st)) (m1 : mg "list" = none) (m2 : mg "len" = none)
    (v0 : (defScope st).names.lookup ("_law_script" : Str) = some NameKind.local) (v1 : (defScope st).names.lookup ("list" : Str) = some NameKind.globalImplicit) (v2 : (defScope st).names.lookup ("len" : Str) = some NameKind.globalImplicit)
    (hB : defBody st = [.Return (some (.List [.Call (.Name "list" p1) [.Subscript (.Name "_law_script" p2) (.Slice none (some (.Constant (.int 63) j1 p3)) none p4) p5] [] p6, .Constant (.int 0) j2 q1, .Constant (.int 0) j3 q2,
      .BinOp (.Constant (.int n0) j4 q3) .Add (.Call (.Name "len" q4) [.Name "_law_script" q5] [] q6) q7, .Constant (.int 0) j5 q8] q9)) k2p]) : FnOk P w K mg base (L2.CX P w) 1 f fd ["_law_script"] (spF K (bagF n0)) := by
  refine G.okX S (fun vs H Q E h => ?_) (fun cdv A outer s H vs Q E hr h => ?_)
  · obtain ⟨W, ds, st, r, st', rs, iv, e, _⟩ := h
    unfold bagF at e
    split at e
    · rw [rs.length]; rfl
    · cases e
  · obtain ⟨W, ds, st0, r, st', rs, iv, e, wn⟩ := h
    rw [hB]
    refine ⟨_, pss_one (ps_ret (pe_lst (pa_cons (pe_callTy call_list_of (show Gl _ _ from v1) m1 PyProof.Rows.boot_list (pa_cons (pe_slice sl_list (pv 0 (hv := .inl v0)) po_none (po_some pe_int)) pa_nil)) (pa_cons pe_int (pa_cons pe_int
      (pa_cons (pe_op op_add pe_int (pe_callB call_len_seq (show Gl _ _ from v2) m2 PySem.boot_len (pa_cons (pv 0 (hv := .inl v0)) pa_nil))) (pa_cons pe_int pa_nil))))))), ?_⟩
    unfold bagF at e
    split at e
    · rename_i a b ns es ec
      split at e
      · rename_i cd
        obtain ⟨rfl, h63⟩ := cd
        cases e
        have sc := iv.scr a ns es
        have sq := scr_seq sc
        cases rs with
        | cons r1 r2 =>
          cases r1
          cases r2
          refine ⟨.ref a, rfl, 63, rfl, a, ns.map V.int, rfl, sq, fun c nc => ?_⟩
          have cut : cutV (ns.map V.int) none (some 63) = ns.map V.int := by
            unfold cutV
            rw [HT.sIx_none, show HT.sIx (ns.map V.int).length (ns.map V.int).length (some 63) = min 63 (ns.map V.int).length from HT.sIx_nat _ _ 63, List.drop_zero, Nat.sub_zero, List.length_map, Nat.min_eq_right h63, List.take_of_length_le (by rw [List.length_map] <;> exact Nat.le_refl _)]
          refine ⟨c, _, rfl, .inl (.inl (.inl upd_same)), fun l nl => ?_⟩
          rw [cut] at nl ⊢
          have s1 : Same H (upd H c (.lst (ns.map V.int))) := same_new nc
          have s2 : Same H (upd (upd H c (.lst (ns.map V.int))) l (.lst (ns.map V.int))) := fun x u e => same_new nl x u (s1 x u e)
          refine ⟨.ref a, rfl, a, ns.map V.int, rfl, .inl (s2.seq sq), n0, (ns.map V.int).length, rfl, rfl, Nat.le_trans (show 5 ≤ 64 by decide) (by rw [sizeLine_eq]; omega), fun b nb => ?_⟩
          rw [List.length_map]
          generalize hG : upd (upd H c (.lst (ns.map V.int))) l (.lst (ns.map V.int)) = G0 at nb s2 ⊢
          have s3 : Same H (upd G0 b (.lst [.ref l, .int 0, .int 0, .int (n0 + ns.length), .int 0])) := fun x u e => same_new nb x u (s2 x u e)
          have nHb : H b = none := by
            cases q : H b with
            | none => rfl
            | some o => rw [s2 b o q] at nb; cases nb
          have nHl : H l = none := by
            cases q : H l with
            | none => rfl
            | some o => rw [s1 l o q] at nl; cases nl
          have gl : G0 l = some (.lst (ns.map V.int)) := by rw [← hG, upd_same]
          have lb : l ≠ b := fun z => by rw [z, nb] at gl; cases gl
          let W1 : Wd := ⟨fun x => W.M x ∨ x = b, fun x => W.N x ∨ x = b, fun n => if n = 0 then some b else W.h n, W.C, fun x h => h.imp (W.sub x) id⟩
          have dom0 := iv.dom ec
          have h1' : ∀ n x, W.h n = some x → W1.h n = some x := fun n x e => by
            have nz : n ≠ 0 := fun z => by rw [z, dom0] at e; cases e
            show (if n = 0 then some b else W.h n) = some x
            rw [if_neg nz]
            exact e
          have h0' : W1.h 0 = some b := rfl
          have back : ∀ n x, n ≠ 0 → W1.h n = some x → W.h n = some x := fun n x nz e => by
            have e' : (if n = 0 then some b else W.h n) = some x := e
            rw [if_neg nz] at e'
            exact e'
          have fresh : ∀ n, W.h n ≠ some b := fun n e => iv.hdl n b e nHb
          have le : Le W H W1 (upd G0 b (.lst [.ref l, .int 0, .int 0, .int (n0 + ns.length), .int 0])) := by
            refine ⟨fun x o _ e => s3 x o e, fun x h => ?_, fun x h => ?_, fun x h => .inl h, h1', fun n x e => ?_, same_some s3, rfl⟩
            · rcases h with h | h
              · exact .inl h
              · exact .inr (by rw [h]; exact nHb)
            · rcases h with h | h
              · exact .inl h
              · exact .inr (by rw [h]; exact nHb)
            · by_cases z1 : n = 0
              · rw [z1, h0'] at e
                cases e
                exact .inr nHb
              · exact .inl (back n x z1 e)
          have ne_b : ∀ x, H x ≠ none → x ≠ b := fun x h z => h (by rw [z]; exact nHb)
          have sm : ∀ x, H x ≠ none → (upd G0 b (.lst [.ref l, .int 0, .int 0, .int (n0 + ns.length), .int 0])) x ≠ none := fun x h => by
            cases q : H x with
            | none => exact absurd q h
            | some o => rw [s3 x o q]; exact fun z => nomatch z
          refine wn W1 _ le ⟨fun x h => ?_, fun n m x e1 e2 => ?_, fun n x e => ?_, (fun z => nomatch z), fun s h => ?_, fun x zs h => ?_, fun n c h => ?_, fun n x e => ?_⟩ _ (.hnd 0 h0')
          · rcases h with h | h
            · exact sm x (iv.there x h)
            · rw [h, upd_same]; exact fun z => nomatch z
          · by_cases z1 : n = 0
            · by_cases z2 : m = 0
              · rw [z1, z2]
              · rw [z1, h0'] at e1
                cases e1
                exact absurd (back m _ z2 e2) (fresh m)
            · by_cases z2 : m = 0
              · rw [z2, h0'] at e2
                cases e2
                exact absurd (back n _ z1 e1) (fresh n)
              · exact iv.inj n m x (back n x z1 e1) (back m x z2 e2)
          · by_cases z1 : n = 0
            · rw [z1, h0'] at e
              cases e
              rw [upd_same]; exact fun z => nomatch z
            · exact sm x (iv.hdl n x (back n x z1 e))
          · cases h
            refine ⟨b, h0', .inr rfl, l, fun z => ?_, by rw [upd_ne lb]; exact gl, upd_same⟩
            rcases z with z | z
            · exact iv.there l z nHl
            · exact lb z
          · have h2 := iv.scr x zs h
            rcases h2 with ⟨h3, h4⟩ | h4
            · have hx : H x ≠ none := by
                rcases h4 with q | ⟨u, q⟩
                · rw [q]; exact fun z => nomatch z
                · rw [q]; exact fun z => nomatch z
              refine .inl ⟨fun z => z.elim h3 (ne_b x hx), ?_⟩
              rcases h4 with q | ⟨u, q⟩
              · exact .inl (s3 _ _ q)
              · exact .inr ⟨u, s3 _ _ q⟩
            · exact .inr h4
          · obtain ⟨hz, p, g1, g2, g3⟩ := iv.own n c h
            obtain ⟨o, ho⟩ := g3.there
            exact ⟨hz, p, h1' n p g1, .inl g2, g3.tow le.w ((s3 _ _ ho).trans ho.symm)⟩
          · by_cases z1 : n = 0
            · exact Nat.le_trans (Nat.le_of_eq z1) (Nat.zero_le _)
            · exact iv.bd n x (back n x z1 e)
      · cases e
    · cases e
end
end Dn
namespace Dn
open PySem PySem.Spec PyProof.Rows L2
/-- a def called with as many values as it has parameters -/
def gd (n : Nat) (g : FDen) : FDen := fun ds st => if ds.length = n then g ds st else none
theorem gd_len {n : Nat} {g : FDen} (ds : List D) (st : Sta) (r : Except Exc D × Sta) (h : gd n g ds st = some r) : ds.length = n := by
  unfold gd at h
  split at h
  · assumption
  · cases h
theorem gd_run {n : Nat} {g : FDen} (ds : List D) (st : Sta) (r : Except Exc D × Sta) (h : gd n g ds st = some r) : g ds st = some r := by
  unfold gd at h
  split at h
  · exact h
  · cases h
end Dn
namespace Dn
open PySem PySem.Spec PyProof.Rows L2
theorem fn_void {P : Program} {w : World} {K : PySem.W.Frag} {mg : Str → Option Value} {base : Heap} {CX : CXT} {k : Nat} {f : Addr} {fd : FuncData} {ps : List Str} : FnOk P w K mg base CX k f fd ps (spF K fun _ _ => none) :=
  ⟨fun _ _ _ _ h => (by obtain ⟨_, _, _, _, _, _, _, e, _⟩ := h; cases e), fun _ _ _ _ _ _ _ _ _ _ _ _ _ h => (by obtain ⟨_, _, _, _, _, _, _, e, _⟩ := h; cases e)⟩
end Dn

set_option Elab.async false
set_option linter.all false
set_option maxRecDepth 100000
set_option maxHeartbeats 4000000
namespace Dn
open PySem PySem.Spec PyProof.Rows L2
/-! ### objects of an own class: fields -/
def lkD (f : Str) : List Str → List D → Option D
  | n :: ns, d :: ds => if n = f then some d else lkD f ns ds
  | _, _ => none
def ptD (f : Str) (d : D) : List Str → List D → List Str × List D
  | n :: ns, x :: ds => if n = f then (n :: ns, d :: ds) else (n :: (ptD f d ns ds).1, x :: (ptD f d ns ds).2)
  | _, _ => ([f], [d])
def Sta.look (st : Sta) (n : Nat) : Option Cell := (st.own.find? fun p => p.1 == n).map (·.2)
def Sta.drop (st : Sta) (n : Nat) : Sta := { st with own := st.own.filter fun p => p.1 != n }
def Sta.put (st : Sta) (n : Nat) (c : Cell) : Sta := { st with own := (n, c) :: (st.own.filter fun p => p.1 != n) }
section
variable {K : PySem.W.Frag} {W W' : Wd} {H H' : Hp} {st : Sta}
theorem look_mem {n : Nat} {c : Cell} (h : st.look n = some c) : (n, c) ∈ st.own := by
  unfold Sta.look at h
  cases q : st.own.find? fun p => p.1 == n with
  | none => rw [q] at h; cases h
  | some p =>
    rw [q] at h
    cases h
    have e : p.1 = n := by
      have := List.find?_some q
      simpa using this
    have m := List.mem_of_find?_eq_some q
    rw [← e]
    exact m
theorem lk_of {f : Str} : ∀ {ns : List Str} {ds : List D} {fs : List (Str × V)} {d : D}, fs.map (·.1) = ns → Rps K W H (fs.map (·.2)) ds → lkD f ns ds = some d → ∃ v, fs.lookup f = some v ∧ Rp K W H v d
  | [], _, _, _, _, _, h => by simp [lkD] at h
  | _ :: _, [], _, _, _, _, h => by simp [lkD] at h
  | n :: ns, x :: ds, fs, d, e, r, h => by
    cases fs with
    | nil => cases e
    | cons p fs =>
      obtain ⟨g, v⟩ := p
      rw [List.map_cons] at e r
      injection e with e1 e2
      simp only at e1
      cases r with
      | cons r1 r2 =>
        unfold lkD at h
        by_cases c : n = f
        · rw [if_pos c] at h
          cases h
          refine ⟨v, ?_, r1⟩
          rw [List.lookup_cons, e1, c]
          simp
        · rw [if_neg c] at h
          obtain ⟨v', h1, h2⟩ := lk_of e2 r2 h
          refine ⟨v', ?_, h2⟩
          rw [List.lookup_cons, e1]
          have : (f == n) = false := beq_eq_false_iff_ne.mpr fun z => c z.symm
          rw [this]
          exact h1
theorem lk_none {f : Str} : ∀ {ns : List Str} {fs : List (Str × V)}, fs.map (·.1) = ns → f ∉ ns → fs.lookup f = none
  | [], [], _, _ => rfl
  | [], _ :: _, e, _ => by cases e
  | _ :: _, [], e, _ => by cases e
  | n :: ns, (g, v) :: fs, e, h => by
    injection e with e1 e2
    simp only at e1
    rw [List.lookup_cons, e1]
    have : (f == n) = false := beq_eq_false_iff_ne.mpr fun z => h (by rw [z]; exact List.mem_cons_self)
    rw [this]
    exact lk_none e2 fun z => h (List.mem_cons_of_mem _ z)
theorem pt_of {f : Str} {v : V} {d : D} (rv : Rp K W H v d) : ∀ {ns : List Str} {ds : List D} {fs : List (Str × V)}, fs.map (·.1) = ns → Rps K W H (fs.map (·.2)) ds →
    (putF f v fs).map (·.1) = (ptD f d ns ds).1 ∧ Rps K W H ((putF f v fs).map (·.2)) (ptD f d ns ds).2
  | [], ds, fs, e, r => by
    cases fs with
    | nil =>
      cases r
      exact ⟨rfl, .cons rv .nil⟩
    | cons _ _ => cases e
  | n :: ns, ds, fs, e, r => by
    cases fs with
    | nil => cases e
    | cons p fs =>
      obtain ⟨g, u⟩ := p
      injection e with e1 e2
      simp only at e1
      subst e1
      cases r with
      | cons r1 r2 =>
        by_cases c : g = f
        · unfold putF ptD
          rw [if_pos c, if_pos c]
          exact ⟨congrArg (g :: ·) e2, .cons rv r2⟩
        · obtain ⟨h1, h2⟩ := pt_of rv e2 r2
          unfold putF ptD
          rw [if_neg c, if_neg c]
          exact ⟨congrArg (g :: ·) h1, .cons r1 h2⟩
/-- what a value shows as an object of the class C -/
def insOf (st : Sta) (C : Addr) : D → Option (List Str × List D)
  | .obj C' ns ds => if C' = C then some (ns, ds) else none
  | .hnd n => match st.look n with
    | some (.ins C' ns ds) => if C' = C then some (ns, ds) else none
    | _ => none
  | _ => none
theorem ins_of {C : Addr} {v : V} {d : D} {ns : List Str} {ds : List D} (I : Holds K W H st) (r : Rp K W H v d) (h : insOf st C d = some (ns, ds)) : ∃ a dx fs, v = .ref a ∧ H a = some (.ins C dx fs) ∧ fs.map (·.1) = ns ∧ Rps K W H (fs.map (·.2)) ds := by
  unfold insOf at h
  split at h
  · split at h
    · rename_i c
      cases h
      subst c
      cases r with
      | obj n s z q => exact ⟨_, _, _, rfl, s, z, q⟩
    · cases h
  · split at h
    · split at h
      · rename_i c
        cases h
        subst c
        rename_i n C' ns' ds' hl
        obtain ⟨_, p, h1, h2, dx, fs, h3, h4, h5⟩ := I.own _ _ (look_mem hl)
        cases r with
        | hnd n e =>
          rw [h1] at e
          cases e
          exact ⟨_, dx, fs, rfl, h3, h4, h5⟩
      · cases h
    · cases h
  · cases h
end
def fldP (C : Addr) (f : Str) (te : EDen) : EDen := fun Δ st => bd (te Δ st) fun d st1 => ((insOf st1 C d).bind fun p => lkD f p.1 p.2).map fun r => (.ok r, st1)
section
variable {X : Cx} {E : XK} {e : Expr} {te : EDen} {C : Addr} {f : Str} {pos : Pos}
theorem de_fld (c : Cls X.K C) (n : NoAttr X.K C f) (he : PE X e (tD X.K E te)) (hb : attributeBase e f X.env (eval e X.env) = eval e X.env := by rfl) : PE X (.Attribute e f pos) (tD X.K E (fldP C f te)) := by
  refine imE (pe_fld he hb) fun σ H Q h => ?_
  obtain ⟨W, st0, h⟩ := h
  refine ⟨W, st0, h.seq.mono fun d st1 W1 H1 e1 i1 q v rv => ?_⟩
  obtain ⟨Δ, r, L, I, hr, k⟩ := q.2.val (m := fun _ => (insOf st1 C d).bind fun p => lkD f p.1 p.2)
  cases hi : insOf st1 C d with
  | none => rw [hi] at hr; cases hr
  | some p =>
    rw [hi] at hr
    obtain ⟨a, dx, fs, rfl, h1, h2, h3⟩ := ins_of I rv hi
    obtain ⟨u, h4, h5⟩ := lk_of h2 h3 hr
    exact ⟨a, C, dx, fs, u, rfl, h1, c, n, h4, k W1 H1 (Le.refl _ _) I u h5⟩
end

section
variable {K : PySem.W.Frag} {W : Wd} {H : Hp} {st : Sta} {p : Addr}
theorem le_updM {o : HO} (m : W.M p) : Le W H W (upd H p o) := ⟨fun a u n h => by rw [upd_ne (fun e => n (by rw [e]; exact m))]; exact h, fun _ h => .inl h, fun _ h => .inl h, fun _ h => h, fun _ _ h => h, fun _ _ h => .inl h, fun a h z => (by
  by_cases hp : a = p
  · subst hp; rw [upd_same] at z; cases z
  · rw [upd_ne hp] at z; exact h z), rfl⟩
/-- one of the state's own things changes -/
theorem Holds.ownUpd {n : Nat} {c c' : Cell} {o : HO} (I : Holds K W H st) (hm : (n, c) ∈ st.own) (hh : W.h n = some p) (hM : W.M p) (hc : CellAt K W (upd H p o) p c') : Holds K W (upd H p o) (st.put n c') := by
  have hN := W.sub _ hM
  have le := le_updM (H := H) (o := o) hM
  have n0 : n ≠ 0 := (I.own n c hm).1
  refine ⟨fun a z => le.stay a (I.there a z), I.inj, fun m a z => le.stay a (I.hdl m a z), I.dom, fun s h => ?_, fun a ns h => ?_, fun m c2 h => ?_, I.bd⟩
  · obtain ⟨b, h1, h2, l, h3, h4, h5⟩ := I.bag s h
    have bp : b ≠ p := fun e => n0 (I.inj n 0 p hh (e ▸ h1))
    have lp : l ≠ p := fun e => h3 (e ▸ hN)
    exact ⟨b, h1, h2, l, h3, by rw [upd_ne lp]; exact h4, by rw [upd_ne bp]; exact h5⟩
  · rcases I.scr a ns h with ⟨h2, h3⟩ | h3
    · have ap : a ≠ p := fun e => h2 (by rw [e]; exact hN)
      refine .inl ⟨h2, ?_⟩
      rcases h3 with q | ⟨u, q⟩
      · exact .inl (by rw [upd_ne ap]; exact q)
      · exact .inr ⟨u, by rw [upd_ne ap]; exact q⟩
    · exact .inr h3
  · rcases List.mem_cons.mp h with e | h
    · cases e
      exact ⟨n0, p, hh, hM, hc⟩
    · have hmem := (List.mem_filter.mp h).1
      have hne : m ≠ n := by simpa using (List.mem_filter.mp h).2
      obtain ⟨h0, q, h1, h2, h3⟩ := I.own m c2 hmem
      have qp : q ≠ p := fun e => hne (I.inj m n p (e ▸ h1) hh)
      exact ⟨h0, q, h1, h2, h3.tow le.w (upd_ne qp)⟩
end
/-- o.f = e, o one of the state's own objects -/
def fstP (C : Addr) (f : Str) (to te : EDen) : SDen := fun Δ st => bd (te Δ st) fun d st1 => bd (to Δ st1) fun o st2 => match o with
  | .hnd n => match st2.look n with
    | some (.ins C' ns ds) => if C' = C ∧ ns.length < 1000 then some (.ok (.nx Δ), st2.put n (.ins C (ptD f d ns ds).1 (ptD f d ns ds).2)) else none
    | _ => none
  | _ => none
section
variable {X : Cx} {E : XK} {o e : Expr} {to te : EDen} {C : Addr} {f : Str} {pos pos' : Pos}
theorem ds_fld (c : Cls X.K C) (na : NoAttr X.K C f) (ho : PE X o (tD X.K E to)) (he : PE X e (tD X.K E te)) (hs : swapsWith e (some (.Attribute o f pos')) pos.line X.env = pure false := by rfl) : PS X (.Assign [.Attribute o f pos'] e pos) (tSD X.K E (fstP C f to te)) := by
  refine imS (ps_fld ho he hs) fun D σ H h => ?_
  obtain ⟨W, st0, h⟩ := h
  refine ⟨W, st0, h.seq.mono fun d st1 W1 H1 e1 i1 q v rv => ?_⟩
  refine ⟨W1, st1, q.2.seq.mono fun x st2 W2 H2 e2 i2 q2 u ru => ?_⟩
  obtain ⟨Δ, r, st', L, I, eq, k⟩ := q2.2
  simp only at eq
  split at eq
  · rename_i n
    split at eq
    · rename_i C' ns ds hl
      split at eq
      · rename_i hc
        cases eq
        obtain ⟨rfl, few⟩ := hc
        have hm := look_mem hl
        obtain ⟨n0, p, h1, h2, dx, fs, h3, h4, h5⟩ := I.own _ _ hm
        cases ru with
        | hnd n hh =>
          rw [h1] at hh
          cases hh
          have fl : fs.length < 1000 := by
            have := congrArg List.length h4
            rw [List.length_map] at this
            omega
          refine ⟨p, C', dx, fs, rfl, h3, c, na, fl, ?_⟩
          obtain ⟨g1, g2⟩ := pt_of (rv.to e2) h4 h5
          have le := le_updM (H := H2) (o := .ins C' dx (putF f v fs)) h2
          exact k W2 _ le (I.ownUpd hm h1 h2 ⟨dx, putF f v fs, upd_same, g1, g2.to le⟩) σ (L.to le)
      · cases eq
    · cases eq
  · cases eq
end
/-! ### making -/
def Wd.addO (W : Wd) (n : Nat) (x : Addr) : Wd := ⟨fun a => W.M a ∨ a = x, fun a => W.N a ∨ a = x, fun m => if m = n then some x else W.h m, W.C, fun a h => h.imp (W.sub a) id⟩
def Wd.delO (W : Wd) (x : Addr) : Wd := ⟨fun a => W.M a ∧ a ≠ x, fun a => W.N a ∧ a ≠ x, W.h, W.C, fun a h => ⟨W.sub a h.1, h.2⟩⟩
section
variable {K : PySem.W.Frag} {W W' : Wd} {H H' : Hp} {st : Sta} {x : Addr} {n : Nat}
theorem le_addO (I : Holds K W H st) (e : Same H H') (nx : H x = none) (hn : st.next < n) : Le W H (W.addO n x) H' := by
  refine ⟨fun a o _ h => e a o h, fun a h => ?_, fun a h => ?_, fun a h => .inl h, fun m a h => ?_, fun m a h => ?_, same_some e, rfl⟩
  · rcases h with h | h
    · exact .inl h
    · exact .inr (by rw [h]; exact nx)
  · rcases h with h | h
    · exact .inl h
    · exact .inr (by rw [h]; exact nx)
  · have := I.bd m a h
    show (if m = n then some x else W.h m) = some a
    rw [if_neg (by omega)]
    exact h
  · have h' : (if m = n then some x else W.h m) = some a := h
    by_cases c : m = n
    · rw [if_pos c] at h'
      cases h'
      exact .inr nx
    · rw [if_neg c] at h'
      exact .inl h'
theorem Holds.addO {c : Cell} (I : Holds K W H st) (e : Same H H') (nx : H x = none) (hn : n = st.next + 1) (hc : CellAt K (W.addO n x) H' x c) : Holds K (W.addO n x) H' { st with own := (n, c) :: st.own, next := n } := by
  have le := le_addO I e nx (by omega : st.next < n)
  have back : ∀ m a, m ≠ n → (W.addO n x).h m = some a → W.h m = some a := fun m a hm h => by
    have h' : (if m = n then some x else W.h m) = some a := h
    rw [if_neg hm] at h'
    exact h'
  have new : (W.addO n x).h n = some x := if_pos rfl
  have ox : ∃ o, H' x = some o := hc.there
  have fresh : ∀ m, W.h m ≠ some x := fun m h => I.hdl m x h nx
  refine ⟨fun a h => ?_, fun m k a h1 h2 => ?_, fun m a h => ?_, fun z => ?_, fun s h => ?_, fun a ns h => ?_, fun m c2 h => ?_, fun m a h => ?_⟩
  · rcases h with h | h
    · exact same_some e a (I.there a h)
    · obtain ⟨o, ho⟩ := ox
      rw [h, ho]; exact fun z => nomatch z
  · by_cases c1 : m = n
    · by_cases c2 : k = n
      · rw [c1, c2]
      · rw [c1, new] at h1
        cases h1
        exact absurd (back k _ c2 h2) (fresh k)
    · by_cases c2 : k = n
      · rw [c2, new] at h2
        cases h2
        exact absurd (back m _ c1 h1) (fresh m)
      · exact I.inj m k a (back m a c1 h1) (back k a c2 h2)
  · by_cases c1 : m = n
    · rw [c1, new] at h
      cases h
      obtain ⟨o, ho⟩ := ox
      rw [ho]; exact fun z => nomatch z
    · exact same_some e a (I.hdl m a (back m a c1 h))
  · show (if 0 = n then some x else W.h 0) = none
    rw [if_neg (by omega)]
    exact I.dom z
  · obtain ⟨b, h1, h2, l, h3, h4, h5⟩ := I.bag s h
    refine ⟨b, le.hh 0 b h1, .inl h2, l, fun z => ?_, e _ _ h4, e _ _ h5⟩
    rcases z with z | z
    · exact h3 z
    · rw [z, nx] at h4; cases h4
  · rcases I.scr a ns h with ⟨h2, h3⟩ | h3
    · refine .inl ⟨fun z => ?_, rd_same e h3⟩
      rcases z with z | z
      · exact h2 z
      · exact rd_some h3 (by rw [z]; exact nx)
    · exact .inr h3
  · rcases List.mem_cons.mp h with q | h
    · cases q
      exact ⟨by omega, x, new, .inr rfl, hc⟩
    · obtain ⟨h0, p, h1, h2, h3⟩ := I.own m c2 h
      obtain ⟨o, ho⟩ := h3.there
      exact ⟨h0, p, le.hh m p h1, .inl h2, h3.tow le.w ((e _ _ ho).trans ho.symm)⟩
  · show m ≤ n
    by_cases c1 : m = n
    · omega
    · have := I.bd m a (back m a c1 h)
      omega
theorem lw_delO : Lw W H (W.delO x) H := ⟨fun _ _ _ h => h, fun _ h => .inl h.1, fun _ _ h => h, rfl⟩
theorem Le.delO {W0 : Wd} {H0 : Hp} (e : Le W0 H0 W H) (n : ¬ W0.N x) : Le W0 H0 (W.delO x) H :=
  ⟨e.ext, fun a h => e.newM a h.1, fun a h => e.newN a h.1, fun a h => ⟨e.keep a h, fun z => n (by rw [← z]; exact h)⟩, e.hh, e.newH, e.stay, e.cl⟩
/-- one of the state's own things is plain data from now on -/
theorem Holds.delO (I : Holds K W H st) (hh : W.h n = some x) (n0 : n ≠ 0) : Holds K (W.delO x) H (st.drop n) := by
  refine ⟨fun a h => I.there a h.1, I.inj, I.hdl, I.dom, fun s h => ?_, fun a ns h => ?_, fun m c h => ?_, I.bd⟩
  · obtain ⟨b, h1, h2, l, h3, h4, h5⟩ := I.bag s h
    exact ⟨b, h1, ⟨h2, fun e => n0 (I.inj n 0 x hh (e ▸ h1))⟩, l, fun z => h3 z.1, h4, h5⟩
  · rcases I.scr a ns h with ⟨h2, h3⟩ | h3
    · exact .inl ⟨fun z => h2 z.1, h3⟩
    · exact .inr h3
  · have hmem := (List.mem_filter.mp h).1
    have hne : m ≠ n := by simpa using (List.mem_filter.mp h).2
    obtain ⟨h0, p, h1, h2, h3⟩ := I.own m c hmem
    exact ⟨h0, p, h1, ⟨h2, fun e => hne (I.inj m n x (e ▸ h1) hh)⟩, h3.tow lw_delO rfl⟩
end
end Dn

set_option Elab.async false
set_option linter.all false
set_option maxRecDepth 100000
set_option maxHeartbeats 4000000
namespace Dn
open PySem PySem.Spec PyProof.Rows L2
/-- C(..): __init__ run on a new object, which is plain data behind it -/
def mkF (C : Addr) (F : FDen) : FDen := fun ds st => match F (.hnd (st.next + 1) :: ds) { st with own := (st.next + 1, .ins C [] []) :: st.own, next := st.next + 1 } with
  | some (.ok .non, st') => (match st'.look (st.next + 1) with
    | some (.ins C' ns es) => if C' = C then some (.ok (.obj C ns es), st'.drop (st.next + 1)) else none
    | _ => none)
  | some (.error x, st') => some (.error x, st')
  | _ => none
section
variable {K : PySem.W.Frag} {W : Wd} {H : Hp} {st : Sta} {C : Addr} {F : FDen} {E : XK}
theorem mk_core {vs : List V} {ds : List D} {r : Except Exc D} {st2 : Sta} {Q : VK} {x dx : Addr} (rs : Rps K W H vs ds) (I : Holds K W H st) (e : mkF C F ds st = some (r, st2)) (w : Wnt K W E H (fun d _ W' H' => ∀ v, Rp K W' H' v d → Q v H') r st2)
    (nx : H x = none) (ndx : H dx = none) (ne : dx ≠ x) : spF K F (.ref x :: vs) (upd (upd H dx (.own x)) x (.ins C dx [])) (fun v H2 => v = .non ∧ Q (.ref x) H2) E := by
  have s1 : Same H (upd (upd H dx (.own x)) x (.ins C dx [])) := fun a u q => by
    have h1 : a ≠ dx := fun z => by rw [z, ndx] at q; cases q
    have h2 : a ≠ x := fun z => by rw [z, nx] at q; cases q
    rw [upd_ne h2, upd_ne h1]
    exact q
  have le := le_addO (n := st.next + 1) I s1 nx (Nat.lt_succ_self _)
  have I1 := I.addO (c := .ins C [] []) s1 nx rfl ⟨dx, [], upd_same, rfl, .nil⟩
  have new : (W.addO (st.next + 1) x).h (st.next + 1) = some x := if_pos rfl
  have nN : ¬ W.N x := fun z => I.there x z nx
  unfold mkF at e
  cases hF : F (.hnd (st.next + 1) :: ds) { st with own := (st.next + 1, .ins C [] []) :: st.own, next := st.next + 1 } with
  | none => rw [hF] at e; cases e
  | some p =>
    obtain ⟨ro, st'⟩ := p
    rw [hF] at e
    refine ⟨W.addO (st.next + 1) x, .hnd (st.next + 1) :: ds, _, ro, st', .cons (.hnd _ new) (rs.to le), I1, hF, ?_⟩
    cases ro with
    | error z =>
      simp only at e
      cases e
      exact fun W' dx' H' le' i' ex => w W' dx' H' (le.trans le') i' ex
    | ok d =>
      cases d with
      | non =>
        simp only at e
        split at e
        · rename_i C' ns es hl
          split at e
          · rename_i hc
            cases e
            subst hc
            intro W' H' le' i' v rv
            cases rv
            refine ⟨rfl, ?_⟩
            have hx := le'.hh _ _ new
            obtain ⟨n0, p, h1, h2, dx', fs, h3, h4, h5⟩ := i'.own _ _ (look_mem hl)
            rw [hx] at h1
            cases h1
            exact w (W'.delO x) H' ((le.trans le').delO nN) (i'.delO hx n0) _ (.obj (fun z => z.2 rfl) h3 h4 (h5.tow lw_delO))
          · cases e
        · cases e
      | _ => simp only at e; cases e
end
section
variable {X : Cx} {E : XK} {k : Nat} {f C : Addr} {fd : FuncData} {ps ks : List Str} {is : List Nat} {F : FDen} {x : Str} {p pos : Pos} {a : Expr} {es : List Expr} {kws : List Keyword} {tr tk : ADen} {ds : List Value} {dvs : List V} {dd : List D}
/-- C(e, .., k = v, ..): the keywords' values behind the others, by the places is -/
def mkkF (C : Addr) (n m : Nat) (is : List Nat) (F : FDen) (ds es : List D) : Sta → Mo D := fun st => if ds.length = n ∧ es.length = m then mkF C F (ds ++ pick is es) st else none
def makeKP (C : Addr) (n m : Nat) (is : List Nat) (F : FDen) (tr tk : ADen) : EDen := fun Δ st => bd (tr Δ st) fun ds st1 => bd (tk Δ st1) fun es st2 => mkkF C n m is F ds es st2
theorem de_makeK {n : Nat} (M : Mk X.K C f) (G : FnOk X.prog X.w X.K X.mg X.base (L2.CX X.prog X.w) k f fd ps (spF X.K F)) (hr : Room (k + 1) X.A) (hm : X.mg x = some (.ref C)) (hb : KBn X.K fd ps (n + 1) ks (fun us ws => us ++ pick is ws) (fun us zs => us ++ pick is zs)) (hx : Passes (L2.CX X.prog X.w) X E)
    (ha : PA X (a :: es) (tAD X.K E tr)) (hkw : PK X kws (tAD X.K E tk)) (hg : Gl X x := by rfl) (hall : (backToKw pos (keywordEach kws X.env)).all (·.1.isSome) = true := by rfl) (hks : (backToKw pos (keywordEach kws X.env)).filterMap (·.1) = ks := by rfl)
    (hdb : (x == ("__debug__" : Str)) = false := by decide) (he : starEach (a :: es) X.env = (false, eval a X.env) :: starEach es X.env := by rfl)
    (hpl : ((backTo pos (starEach (a :: es) X.env)).any (·.1) || (backToKw pos (keywordEach kws X.env)).any (·.1.isNone)) = false := by rfl) :
    PE X (.Call (.Name x p) (a :: es) kws pos) (tD X.K E (makeKP C n ks.length is F tr tk)) := by
  refine imE (pe_makeN M G hr hg hm hb hx ha hkw hall hks hdb he hpl) fun σ H Q h => ?_
  obtain ⟨W, st0, h⟩ := h
  refine ⟨W, st0, h.seq.mono fun ds st1 W1 H1 e1 i1 q vs rs => ?_⟩
  refine ⟨W1, st1, q.2.seq.mono fun es st2 W2 H2 e2 i2 q2 zs rz => ?_⟩
  obtain ⟨Δ, r, st', L, I, e, w⟩ := q2.2
  replace e : mkkF C n ks.length is F ds es st2 = some (r, st') := e
  unfold mkkF at e
  split at e
  · rename_i hl
    refine ⟨by rw [rs.length]; exact hl.1, by rw [rz.length]; exact hl.2, fun x dx nx ndx ne => ?_⟩
    exact mk_core ((rs.to e2).append (pick_rps rz is)) I e w nx ndx ne
  · cases e
/-- how a method with keyword-only parameters behind the others binds -/
theorem vals_app {us : List V} {vs : List Value} {zs : List V} {ws : List Value} (h : Vals us vs) (g : Vals zs ws) : Vals (us ++ pick is zs) (vs ++ pick is ws) := h.append (pick_vals g is)
end
/-! ### methods and properties -/
def methP (C : Addr) (m : Str) (F : FDen) (te : EDen) (tr : ADen) : EDen := fun Δ st => bd (te Δ st) fun d st1 => match insOf st1 C d with
  | some (ns, _) => if m ∈ ns then none else bd (tr Δ st1) fun ds st2 => F (d :: ds) st2
  | none => none
section
variable {X : Cx} {E : XK} {k : Nat} {f C g q : Addr} {fd : FuncData} {ps ks : List Str} {F : FDen} {m x : Str} {p pos apos : Pos} {a o : Expr} {es : List Expr} {te : EDen} {tr : ADen} {pl : Sem Bool} {ds : List Value} {dvs : List V} {dd : List D}
end
end Dn

set_option Elab.async false
set_option linter.all false
set_option maxRecDepth 100000
set_option maxHeartbeats 4000000
namespace Dn
open PySem PySem.Spec PyProof.Rows L2
/-! ### what a def made for itself is plain data once it is handed out -/
def frz (st0 : Sta) : Except Exc D × Sta → Mo D
  | (.ok (.hnd n), st') => if st0.next < n then (match st'.look n with
    | some (.ins C ns ds) => some (.ok (.obj C ns ds), st'.drop n)
    | some (.lst ds) => some (.ok (.lst ds), st'.drop n)
    | _ => none) else some (.ok (.hnd n), st')
  | p => some p
/-! ### lists of one's own, that grow -/
def newP (tr : ADen) : EDen := fun Δ st => bd (tr Δ st) fun ds st1 => if ds.length ≤ big then some (.ok (.hnd (st1.next + 1)), { st1 with own := (st1.next + 1, .lst ds) :: st1.own, next := st1.next + 1 }) else none
def appP (to te : EDen) : EDen := fun Δ st => bd (to Δ st) fun o st1 => match o with
  | .hnd n => match st1.look n with
    | some (.lst _) => bd (te Δ st1) fun d st2 => (match st2.look n with
      | some (.lst ds) => if ds.length < big then some (.ok .non, st2.put n (.lst (ds ++ [d]))) else none
      | _ => none)
    | _ => none
  | _ => none
section
variable {X : Cx} {E : XK} {o a : Expr} {es : List Expr} {tr : ADen} {to te : EDen} {pos apos cpos : Pos}
theorem de_newl (h : PA X es (tAD X.K E tr)) : PE X (.List es pos) (tD X.K E (newP tr)) := by
  refine imE (pe_lst h) fun σ H Q h => ?_
  obtain ⟨W, st0, h⟩ := h
  refine ⟨W, st0, h.seq.mono fun ds st1 W1 H1 e1 i1 q vs rs => ?_⟩
  obtain ⟨Δ, r, st', L, I, e, k⟩ := q.2
  simp only at e
  split at e
  · rename_i hl
    cases e
    refine ⟨by rw [rs.length]; exact Nat.le_trans hl (by decide), fun p np => ?_⟩
    have s1 : Same H1 (upd H1 p (.lst vs)) := same_new np
    have le := le_addO (n := st1.next + 1) I s1 np (Nat.lt_succ_self _)
    exact k _ _ le (I.addO (c := .lst ds) s1 np rfl ⟨vs, upd_same, rs.to le⟩) _ (.hnd _ (if_pos rfl))
  · cases e
theorem de_app (ho : PE X o (tD X.K E to)) (ha : PE X a (tD X.K E te)) (hbase : attributeBase o "append" X.env (eval o X.env) = eval o X.env := by rfl)
    (hfew : ((backTo cpos (starEach [a] X.env)).all (fun x => !x.1) && (backToKw cpos (keywordEach [] X.env)).all (fun x => x.1.isSome) && decide ([a].length + ([] : List Keyword).length + (if ([] : List Keyword).isEmpty then 0 else 1) < 30)) = true := by rfl)
    (hline : (apos.endLine == cpos.line) = true := by rfl) (hs : starEach [a] X.env = (false, eval a X.env) :: starEach [] X.env := by rfl) (hplain : (backTo cpos (starEach [] X.env)).any (·.1) = false := by rfl) :
    PE X (.Call (.Attribute o "append" apos) [a] [] cpos) (tD X.K E (appP to te)) := by
  refine imE (pe_bm PySem.F.plainAttrs_list PySem.F.slot_list_append PySem.F.type_list_append mt_append ho (pa_cons ha pa_nil hs) hbase hfew hline hs hplain) fun σ H Q h => ?_
  obtain ⟨W, st0, h⟩ := h
  refine ⟨W, st0, h.seq.mono fun x st1 W1 H1 e1 i1 q v rv => ?_⟩
  obtain ⟨Δ0, r0, s0, L0, I0, eq, w0⟩ := q.2
  simp only at eq
  split at eq
  · rename_i n
    split at eq
    · rename_i ds0 hl0
      obtain ⟨n0, p, h1, h2, us, h3, h4⟩ := I0.own _ _ (look_mem hl0)
      cases rv with
      | hnd n hh =>
        rw [h1] at hh
        cases hh
        refine ⟨.inl ⟨rfl, us, .inl (.inl h3)⟩, ?_⟩
        have h5 : tGw X.K W1 st1 E (fun Δ st => bd (te Δ st) fun d st2 => (match st2.look n with
          | some (.lst ds) => if ds.length < big then some (.ok .non, st2.put n (.lst (ds ++ [d]))) else none
          | _ => none)) σ H1 (fun r _ W' H' => ∀ v, Rp X.K W' H' v r → Q v H') := ⟨Δ0, r0, s0, L0, I0, eq, w0⟩
        refine ⟨W1, st1, h5.seq.mono fun d st2 W2 H2 e2 i2 q2 u ru => ?_⟩
        obtain ⟨Δ, r, st', L, I, e, k⟩ := q2.2
        simp only at e
        split at e
        · rename_i ds hl
          split at e
          · rename_i few
            cases e
            have hm := look_mem hl
            obtain ⟨_, p', g1, g2, us2, g3, g4⟩ := I.own _ _ hm
            have hp := e2.hh _ _ h1
            rw [hp] at g1
            cases g1
            refine ⟨p, us2, u, rfl, rfl, g3, by rw [g4.length]; exact Nat.lt_of_lt_of_le few (by decide), ?_⟩
            have le := le_updM (H := H2) (o := .lst (us2 ++ [u])) g2
            exact k W2 _ le (I.ownUpd hm hp g2 ⟨us2 ++ [u], upd_same, (g4.append (.cons ru .nil)).to le⟩) _ .non
          · cases e
        · cases e
    · cases eq
  · cases eq
end
/-! ### ~o of an own object -/
section
variable {X : Cx} {E : XK} {k : Nat} {f C : Addr} {fd : FuncData} {ps : List Str} {F : FDen} {o : Expr} {te : EDen} {pos : Pos}
end
end Dn

set_option Elab.async false
set_option linter.all false
set_option maxRecDepth 100000
set_option maxHeartbeats 4000000
namespace Dn
open PySem PySem.Spec PyProof.Rows L2
/-! ### lists read, whether plain data or one's own -/
def lstOf (st : Sta) : D → Option (List D)
  | .lst ds => some ds
  | .hnd n => match st.look n with
    | some (.lst ds) => some ds
    | _ => none
  | _ => none
theorem lst_of {K : PySem.W.Frag} {W : Wd} {H : Hp} {st : Sta} {v : V} {d : D} {ds : List D} (I : Holds K W H st) (r : Rp K W H v d) (h : lstOf st d = some ds) : ∃ a xs, v = .ref a ∧ H a = some (.lst xs) ∧ Rps K W H xs ds := by
  unfold lstOf at h
  split at h
  · cases h
    cases r with
    | lst n s q => exact ⟨_, _, rfl, s, q⟩
  · split at h
    · cases h
      rename_i n ds' hl
      obtain ⟨_, p, h1, h2, us, h3, h4⟩ := I.own _ _ (look_mem hl)
      cases r with
      | hnd n e =>
        rw [h1] at e
        cases e
        exact ⟨_, us, rfl, h3, h4⟩
    · cases h
  · cases h
def catP (ta tb : EDen) : EDen := fun Δ st => bd (ta Δ st) fun x st1 => bd (tb Δ st1) fun y st2 => match lstOf st2 x, lstOf st2 y with
  | some xs, some ys => if xs.length + ys.length ≤ big then some (.ok (.lst (xs ++ ys)), st2) else none
  | _, _ => none
def lenLP (ta : EDen) : EDen := fun Δ st => bd (ta Δ st) fun x st1 => (lstOf st1 x).map fun xs => (.ok (.int xs.length), st1)
def inDeep (x y : D) : Option D := match y with
  | .lst ds => (shP x).bind fun p => (toPys ds).bind fun q => if SeqAt.shaped (.list q) = true then some (.bl (q.any fun z => PyData.eqv z p)) else none
  | _ => none
section
variable {X : Cx} {E : XK} {a b : Expr} {ta tb : EDen} {pos p : Pos}
theorem de_cat (ha : PE X a (tD X.K E ta)) (hb : PE X b (tD X.K E tb)) : PE X (.BinOp a .Add b pos) (tD X.K E (catP ta tb)) := by
  refine imE (pe_op op_cat ha hb) fun σ H Q h => ?_
  obtain ⟨W, st0, h⟩ := h
  refine ⟨W, st0, h.seq.mono fun x st1 W1 H1 e1 i1 q v rv => ⟨W1, st1, q.2.seq.mono fun y st2 W2 H2 e2 i2 q2 u ru => ?_⟩⟩
  obtain ⟨Δ, r, st', L, I, e, k⟩ := q2.2
  simp only at e
  split at e
  · rename_i xs ys hx hy
    split at e
    · rename_i hz
      cases e
      obtain ⟨a1, us, rfl, h1, r1⟩ := lst_of I (rv.to e2) hx
      obtain ⟨a2, vs, rfl, h2, r2⟩ := lst_of I ru hy
      exact ⟨a1, a2, us, vs, rfl, rfl, h1, h2, by rw [r1.length, r2.length]; exact big_line hz, fun p np => k W2 _ (Le.of (same_new np)) (I.same (same_new np)) _ (rp_lst I np (r1.append r2))⟩
    · cases e
  · cases e
theorem de_lenL (hm : X.mg "len" = none) (ha : PE X a (tD X.K E ta)) (hg : Gl X "len" := by rfl) (he : starEach (a :: []) X.env = (false, eval a X.env) :: starEach [] X.env := by rfl) (hpl : (backTo pos (starEach [] X.env)).any (·.1) = false := by rfl) :
    PE X (.Call (.Name "len" p) [a] [] pos) (tD X.K E (lenLP ta)) := by
  refine imE (pe_callB call_len_seq hg hm PySem.boot_len (pa_cons ha pa_nil he) (by decide) (by decide) he hpl) fun σ H Q h => ?_
  obtain ⟨W, st0, h⟩ := h
  refine ⟨W, st0, h.seq.mono fun x st1 W1 H1 e1 i1 q v rv => ?_⟩
  obtain ⟨Δ, r, st', L, I, e, k⟩ := q.2
  simp only at e
  cases hx : lstOf st1 x with
  | none => rw [hx] at e; cases e
  | some xs =>
    rw [hx] at e
    cases e
    obtain ⟨a1, us, rfl, h1, r1⟩ := lst_of I rv hx
    exact ⟨a1, us, rfl, .inl (sq_l h1), by rw [r1.length]; exact k W1 H1 (Le.refl _ _) I _ (.int _)⟩
theorem or_inDeep (hu : X.A.units + 65 < cLine) : OpR X (compareOp .In) (rBinD X.K inDeep) := by
  intro pins s σ H x y v u Q I rx ry q
  obtain ⟨W, st, d1, d2, d, r1, r2, iv, hf, k⟩ := q
  unfold inDeep at hf
  split at hf
  · rename_i ds
    cases e1 : shP d1 with
    | none => rw [e1] at hf; cases hf
    | some p =>
      rw [e1] at hf
      cases e2 : toPys ds with
      | none => rw [e2] at hf; cases hf
      | some q =>
        rw [e2] at hf
        simp only [Option.bind] at hf
        split at hf
        · rename_i hs
          cases hf
          have g1 := shP_of e1
          have g2 : toPy (.lst ds) = some (.list q) := by unfold toPy; rw [e2] <;> rfl
          exact op_inD hu pins s σ H _ _ v u Q I rx ry ⟨p, q, r1.dp _ _ _ g1.1, r2.dp _ _ _ g2, g1.2, hs, k _ _ (Same.refl _) (.bl _)⟩
        · cases hf
  · cases hf
end
end Dn

set_option Elab.async false
set_option linter.all false
set_option maxRecDepth 100000
set_option maxHeartbeats 4000000
namespace Dn
open PySem PySem.Spec PyProof.Rows L2
/-! ### bit_length, the first place in a tuple of texts, enumerate -/
def bitsP (te : EDen) : EDen := fun Δ st => bd (te Δ st) fun d st1 => (intOf d).map fun i => (.ok (.int (Builtin.Int.intBits i : Nat)), st1)
section
variable {X : Cx} {E : XK} {o a : Expr} {te ta : EDen} {pos apos cpos p tpos : Pos} {kk : Nat}
theorem de_bits (ho : PE X o (tD X.K E te)) (hbase : attributeBase o "bit_length" X.env (eval o X.env) = eval o X.env := by rfl) (hline : (apos.endLine == pos.line) = true := by rfl) : PE X (.Call (.Attribute o "bit_length" apos) [] [] pos) (tD X.K E (bitsP te)) := by
  refine imE (pe_bits ho hbase hline) fun σ H Q h => ?_
  obtain ⟨W, st, h⟩ := h
  refine ⟨W, st, h.seq.mono fun d st1 W1 H1 e1 i1 q v rv => ?_⟩
  obtain ⟨Δ, r, st', L, I, e, k⟩ := q.2
  cases rv <;> simp only [intOf] at e <;> cases e
  exact ⟨_, rfl, k W1 H1 (Le.refl _ _) I _ (.int _)⟩
theorem zipIdx_get {ds : List D} {i : Nat} {d : D} (h : (ds.zipIdx.map fun p => D.tup [.int (p.2 : Nat), p.1])[i]? = some d) : ∃ x, ds[i]? = some x ∧ d = .tup [.int (i : Nat), x] := by
  rw [List.getElem?_map, List.getElem?_zipIdx] at h
  cases q : ds[i]? with
  | none => rw [q] at h; cases h
  | some x =>
    rw [q] at h
    simp only [Option.map] at h
    cases h
    exact ⟨x, rfl, by rw [Nat.zero_add]⟩
end
end Dn

set_option Elab.async false
set_option linter.all false
set_option maxRecDepth 100000
set_option maxHeartbeats 4000000
namespace Dn
open PySem PySem.Spec PyProof.Rows L2
/-! ### tuples whose object is known: tuple(a list), t.index(text) -/
def thawD : D → D
  | .ftp ds => .tup ds
  | d => d
def thP (te : EDen) : EDen := fun Δ st => bd (te Δ st) fun d st1 => some (.ok (thawD d), st1)
theorem rp_thaw {K : PySem.W.Frag} {W : Wd} {H : Hp} {v : V} {d : D} (r : Rp K W H v d) : Rp K W H v (thawD d) := by
  cases d <;> first | exact r | skip
  cases r with
  | ftp n s hd q => exact .tup (.inl ⟨n, .inr ⟨_, s⟩⟩) q
def ftupF : List D → Option D
  | [.lst ds] => some (.ftp ds)
  | _ => none
def placeF (d : D) (ds : List D) : Option D := match d with
  | .str z => (strsD ds).bind fun ss => if z ∈ ss then some (.int (ss.idxOf z : Nat)) else none
  | _ => none
section
variable {X : Cx} {E : XK} {o a : Expr} {te ta : EDen} {pos apos cpos : Pos}
theorem de_thaw (he : PE X o (tD X.K E te)) : PE X o (tD X.K E (thP te)) := by
  refine imE he fun σ H Q h => ?_
  obtain ⟨W, st, h⟩ := h
  refine ⟨W, st, h.seq.mono fun d st1 W1 H1 e1 i1 q v rv => ?_⟩
  exact q.2.ret (fun _ => rfl) v (rp_thaw rv)
theorem cr_ftup : CallR X (.type "tuple") (rCD X.K ftupF) := by
  intro pins s σ H xs us Q I r h
  obtain ⟨W, st, ds, d, rs, iv, hf, k⟩ := h
  unfold ftupF at hf
  split at hf
  · rename_i es
    cases hf
    obtain ⟨v, rfl, rv⟩ := rps1 rs
    cases rv with
    | @lst p ys _ n1 s1 q1 =>
      obtain ⟨u, rfl, rx⟩ := vals1 r
      cases rx
      obtain ⟨its, r', pl, hz⟩ := I.list (sq_l s1 : SqL X.K H p ys)
      have hlen := r'.length
      refine call_tuple_list pl.isList (fun h' kp => ?_) (by simp only [List.size_toArray] <;> omega)
      have I1 : Inv X pins σ H { s with heap := h' } := I.kept (t' := s.toks) kp
      have np : H h'.objs.size = none := I1.hok.fresh (Nat.le_refl _)
      have I2 : Inv X pins σ (upd H h'.objs.size (.frz { cls := .type "tuple", data := .seq its.toArray } (.tup ys))) { s with heap := h'.push { cls := .type "tuple", data := .seq its.toArray } } :=
        I1.laid (t' := s.toks) (fun b o e => Heap.get?_push_of_some _ e) (Nat.le_refl _) (show ObjOk X.prog X.w _ _ _ (.frz _ (.tup ys)) from ⟨Heap.get?_push_size _ rfl, hz, its, r', IsTup.new _ _⟩)
      exact ⟨.ref h'.objs.size, _, I2, rfl, k _ _ (same_new np) (.ftp (not_n iv np) upd_same rfl (q1.to (Le.of (same_new np))))⟩
  · cases hf
end
end Dn

set_option Elab.async false
set_option linter.all false
set_option maxRecDepth 100000
set_option maxHeartbeats 4000000
namespace Dn
open PySem PySem.Spec PyProof.Rows L2
/-! ### x in o, x not in o, o == p of own objects -/
section
variable {X : Cx} {E : XK} {k : Nat} {f C : Addr} {fd : FuncData} {ps : List Str} {F : FDen} {a b : Expr} {ta tb : EDen} {pos : Pos}
/-! ### o == p, both of the class -/
end
end Dn

set_option Elab.async false
set_option linter.all false
set_option maxRecDepth 100000
set_option maxHeartbeats 4000000
namespace Dn
open PySem PySem.Spec PyProof.Rows L2
/-! ### isinstance(x, C), C.NAME, C an own class -/
section
variable {X : Cx} {E : XK} {a : Expr} {ta : EDen} {C : Addr} {y f : Str} {p p2 pos : Pos}
/-- C.NAME, a constant of the class -/
theorem de_cval {mc : Value} {v : V} {u : Value} {d : D} (hm : X.mg y = some (.ref C)) (r : ClX.CRead X.K C mc) (kv : ClX.CVal X.K C mc f v u) (rd : ∀ W H', Rp X.K W H' v d) (hg : Gl X y := by rfl) (hdb : (y == ("__debug__" : Str)) = false := by decide)
    (hb : attributeBase (.Name y p) f X.env (eval (.Name y p) X.env) = eval (.Name y p) X.env := by rfl) : PE X (.Attribute (.Name y p) f pos) (tD X.K E (cstP d)) :=
  imE (ClX.pe_cval (pe_glob hg hm (show RelV (.ref C) _ from rfl) hdb) hb) fun σ H Q h => by
    obtain ⟨W, st0, h⟩ := h
    obtain ⟨Δ, x, L, I, e, k⟩ := h.val (m := fun _ => some d)
    cases e
    exact ⟨C, mc, v, u, rfl, r, kv, k W H (Le.refl _ _) I v (rd _ _)⟩
end
end Dn

set_option Elab.async false
set_option linter.all false
set_option maxRecDepth 100000
set_option maxHeartbeats 4000000
namespace Dn
open PySem PySem.Spec PyProof.Rows L2
/-! ### a def with defaults; an object that is still changed behind its making -/
section
variable {P : Program} {w : World} {K : PySem.W.Frag} {mg : Str → Option Value} {base : Heap}
theorem fn_denD {x qual : Str} {params : Arguments} {body : List Stmt} {scope : Scope} {dvs : List V} {kws : List (Str × V)} {f : Addr} {fd : FuncData} {N ps : List Str} {k : Nat} {F : FDen} (τ : SDen) (G : FunD K x qual params body scope dvs kws f fd) (S : FnScope N ps scope) (hlen : ∀ ds st r, F ds st = some r → ds.length = ps.length)
    (hden : ∀ ds st p, F ds st = some p → runD τ N.length ds st = some p)
    (hbody : ∀ (cdv : Value) (A : Around) (outer : List Env) (s : Shared) (H : Hp) (E : XK), Room k (A.deeper (envOfC qual scope s.heap.objs.size f cdv)) → Passes (L2.CX P w) (cxOf (L2.CX P w) P w K mg base N qual scope f cdv A outer s H E) E →
      PassesOwn (model P w) (A.deeper (envOfC qual scope s.heap.objs.size f cdv)) (envOfC qual scope s.heap.objs.size f cdv) (cxOf (L2.CX P w) P w K mg base N qual scope f cdv A outer s H E).xe →
      PSs (cxOf (L2.CX P w) P w K mg base N qual scope f cdv A outer s H E) body (tSD K E τ)) : FnOk P w K mg base (L2.CX P w) (k + 1) f fd ps (spF K F) := by
  refine G.ok S (fun vs H Q E h => ?_) (fun cdv A outer s H vs Q E hr h => ?_)
  · obtain ⟨W, ds, st, r, st', rs, iv, e, _⟩ := h
    rw [rs.length]
    exact hlen ds st _ e
  · obtain ⟨W, ds, st0, r, st', rs, iv, e, wn⟩ := h
    have hp : Passes (L2.CX P w) (cxOf (L2.CX P w) P w K mg base N qual scope f cdv A outer s H E) E := passes_call (takes_of rfl rfl rfl rfl) fun _ _ _ _ e => e
    refine ⟨tSD K E τ, hbody cdv A outer s H E hr hp (passes_of rfl), ?_⟩
    have q := hden ds st0 _ e
    unfold runD at q
    cases hm : τ (ds.map some ++ List.replicate (N.length - ds.length) none) st0 with
    | none => rw [hm] at q; cases q
    | some p =>
      obtain ⟨ro, st1⟩ := p
      rw [hm] at q
      simp only [Option.bind] at q
      refine ⟨W, st0, _, ro, st1, start_loc rs N, iv, hm, ?_⟩
      cases ro with
      | error z =>
        simp only [outR, Option.map] at q
        cases q
        exact wn
      | ok o =>
        cases o with
        | nx Δ1 => simp only [outR, Option.map] at q; cases q; exact fun W' H' e i σ' _ => wn W' H' e i .non .non
        | rt d => simp only [outR, Option.map] at q; cases q; exact fun W' H' e i v r => wn W' H' e i v r
        | bk Δ1 => simp only [outR, Option.map] at q; cases q
        | ct Δ1 => simp only [outR, Option.map] at q; cases q
end
section
variable {K : PySem.W.Frag} {W : Wd} {H : Hp} {st : Sta} {C : Addr} {F : FDen} {E : XK}
end
section
variable {X : Cx} {E : XK} {k : Nat} {f C : Addr} {fd : FuncData} {ps : List Str} {F : FDen} {x : Str} {p pos : Pos} {a : Expr} {es : List Expr} {tr : ADen} {ds : List Value} {dvs : List V} {dd : List D}
end
end Dn

set_option Elab.async false
set_option linter.all false
set_option maxRecDepth 100000
set_option maxHeartbeats 4000000
namespace Dn
open PySem PySem.Spec PyProof.Rows L2
theorem units65 {k : Nat} {A : Around} (r : Room k A) : A.units + 65 < cLine := by have := r.un; omega
end Dn

set_option Elab.async false
set_option linter.all false
set_option maxRecDepth 100000
set_option maxHeartbeats 4000000
namespace Dn
open PySem PySem.Spec PyProof.Rows L2
/-! ### o != p, both of an own class with an own == -/
section
variable {M : Model} {prog : Program} {w : World} {A : Around} {E : Value → Shared → Prop} {s : Shared} {K : PySem.W.Frag} {x C : Addr} {ox : Obj} {od : Option Obj}
end
section
variable {X : Cx} {E : XK} {k : Nat} {f C : Addr} {fd : FuncData} {ps : List Str} {F : FDen} {a b : Expr} {ta tb : EDen} {pos : Pos}
end
end Dn

set_option Elab.async false
set_option linter.all false
set_option maxRecDepth 100000
set_option maxHeartbeats 4000000
namespace Dn
open PySem PySem.Spec PyProof.Rows L2
/-! ### list comprehensions with two sources -/
theorem Lw.refl (W : Wd) (H : Hp) : Lw W H W H := ⟨fun _ _ _ h => h, fun _ h => .inl h, fun _ _ h => h, rfl⟩
theorem Lw.trans {W W1 W2 : Wd} {H H1 H2 : Hp} (a : Lw W H W1 H1) (b : Lw W1 H1 W2 H2) : Lw W H W2 H2 := by
  have key : ∀ x o, ¬ W.N x → H x = some o → ¬ W1.N x := fun x o n h z => by
    rcases a.newN x z with q | q
    · exact n q
    · rw [h] at q; cases q
  refine ⟨fun x o n h => b.ext x o (key x o n h) (a.ext x o n h), fun x h => ?_, fun n x h => b.hh n x (a.hh n x h), b.cl.trans a.cl⟩
  rcases b.newN x h with q | q
  · exact a.newN x q
  · by_cases n : W.N x
    · exact .inl n
    · cases e : H x with
      | none => exact .inr rfl
      | some o => rw [a.ext x o n e] at q; cases q
theorem LocD.tow {K : PySem.W.Frag} {W W1 : Wd} {H H1 : Hp} {σ : L2.St} {Δ : Dl} (h : LocD K W H σ Δ) (e : Lw W H W1 H1) : LocD K W1 H1 σ Δ := ⟨h.1, fun i d q => by
  obtain ⟨v, h1, h2⟩ := h.2 i d q
  exact ⟨v, h1, h2.tow e⟩⟩
theorem in_it {J : It} {n : Nat} {G : Hp → Prop} {Y : Nat → Hp → V → Hp → Prop} (w : Walk J n G Y) {g : TG} {tt : TT} {te : TE} {vs : List Nat} {σ : L2.St} {H1 : Hp} {D : Addr} {Nx : Hp → Prop} (Pv : Nat → Hp → Prop) (h0 : Pv 0 H1) (hG : ∀ i H, i ≤ n → Pv i H → G H)
    (hs : ∀ i x H H', i < n → Pv i H → Y i H x H' → g x (wipe σ vs) H' fun σ2 H2 => wipe σ2 vs = wipe σ vs ∧ tt σ2 H2 fun b H3 =>
      if b = true then te σ2 H3 fun y H4 => ∃ acc, H4 D = some (.lst acc) ∧ acc.length < sizeLine ∧ Pv (i + 1) (upd H4 D (.lst (acc ++ [y]))) else Pv (i + 1) H3) (hd : ∀ H, Pv n H → Nx H) :
    ∃ W1 : Nat → Nat → Hp → Prop, (∃ m, W1 0 m H1) ∧ ∀ j k H, W1 j k H →
      (J.stop j H ∧ Nx H) ∨ (J.go j H ∧ ∃ Nx1 : Hp → Prop, (∀ H', Nx1 H' → ∃ k', k' < k ∧ W1 (j + 1) k' H') ∧ ∀ x H', J.yld j H x H' → g x (wipe σ vs) H' fun σ2 H2 => wipe σ2 vs = wipe σ vs ∧ tt σ2 H2 fun b H3 =>
        if b = true then te σ2 H3 fun y H4 => ∃ acc, H4 D = some (.lst acc) ∧ acc.length < sizeLine ∧ Nx1 (upd H4 D (.lst (acc ++ [y]))) else Nx1 H3) := by
  refine ⟨fun i m H => m = n - i ∧ i ≤ n ∧ Pv i H, ⟨n, by simp, Nat.zero_le _, h0⟩, ?_⟩
  rintro i m H ⟨rfl, hi, p⟩
  have q := hG i H hi p
  by_cases hlt : i < n
  · refine .inr ⟨w.goes i H hlt q, Pv (i + 1), fun H' p' => ⟨n - (i + 1), by omega, rfl, hlt, p'⟩, fun x H' y => hs i x H H' hlt p (w.yields i H x H' hlt q y)⟩
  · have e : i = n := by omega
    subst e
    exact .inl ⟨w.stops H q, hd H p⟩
def lc2Go (t : Tgt) (tt : TDen) (ti1 : IDen) (t1 : Tgt) (tt1 : TDen) (te : EDen) (vs1 : List Nat) (Δ : Dl) : List D → Sta → List D → Mo D
  | [], st, acc => some (.ok (.lst acc), st)
  | d :: ds, st, acc => (t.put d Δ).bind fun Δ1 => match tt Δ1 st with
    | some (.ok true, st1) => (match ti1 Δ1 st1 with
      | some (.ok es, st2) => (match lcGo t1 tt1 te (wipeD Δ1 vs1) es st2 acc with
        | some (.ok (.lst acc2), st3) => lc2Go t tt ti1 t1 tt1 te vs1 Δ ds st3 acc2
        | _ => none)
      | _ => none)
    | some (.ok false, st1) => lc2Go t tt ti1 t1 tt1 te vs1 Δ ds st1 acc
    | _ => none
def lc2P (ti : IDen) (t : Tgt) (tt : TDen) (ti1 : IDen) (t1 : Tgt) (tt1 : TDen) (te : EDen) (vs vs1 : List Nat) : EDen := fun Δ st => bd (ti Δ st) fun ds st1 => lc2Go t tt ti1 t1 tt1 te vs1 (wipeD Δ vs) ds st1 []
section
variable {X : Cx} {E : XK} {σ : L2.St} {H : Hp} {Q : VK}
/-- the list D under construction, seen from the world in which it did not stand yet -/
structure Acc (K : PySem.W.Frag) (W1 : Wd) (H1 : Hp) (D : Addr) (W : Wd) (H : Hp) (st : Sta) (acc : List Dn.D) (vacc : List V) : Prop where
  le : Le W1 H1 W H
  hN : W.N D
  hM : ¬ W.M D
  hh : Holds K W H st
  hD : H D = some (.lst vacc)
  ra : Rps K W H vacc acc
theorem Acc.go {K : PySem.W.Frag} {W1 W W' : Wd} {H1 H H' : Hp} {D : Addr} {st st' : Sta} {acc : List Dn.D} {vacc : List V} (a : Acc K W1 H1 D W H st acc vacc) (e : Le W H W' H') (i : Holds K W' H' st') : Acc K W1 H1 D W' H' st' acc vacc := by
  have hD := e.ext _ _ a.hM a.hD
  refine ⟨a.le.trans e, e.keep D a.hN, fun z => ?_, i, hD, a.ra.to e⟩
  rcases e.newM D z with z | z
  · exact a.hM z
  · rw [a.hD] at z; cases z
theorem Acc.push {K : PySem.W.Frag} {W1 W : Wd} {H1 H : Hp} {D : Addr} {st : Sta} {acc : List Dn.D} {vacc : List V} {v : V} {y : Dn.D} (nD : H1 D = none) (a : Acc K W1 H1 D W H st acc vacc) (rv : Rp K W H v y) : Acc K W1 H1 D W (upd H D (.lst (vacc ++ [v]))) st (acc ++ [y]) (vacc ++ [v]) := by
  refine ⟨⟨fun x o n h => ?_, a.le.newM, a.le.newN, a.le.keep, a.le.hh, a.le.newH, fun x h z => ?_, a.le.cl⟩, a.hN, a.hM, a.hh.off a.hN a.hM, upd_same, (a.ra.append (.cons rv .nil)).tow (lw_upd a.hN)⟩
  · rw [upd_ne (ne_of_none h nD)]
    exact a.le.ext x o n h
  · by_cases hp : x = D
    · subst hp; rw [upd_same] at z; cases z
    · rw [upd_ne hp] at z; exact a.le.stay x h z
theorem tD_lc2 {ti ti1 : IDen} {t t1 : Tgt} {tt tt1 : TDen} {te : EDen} {vs vs1 : List Nat} (hs : ∀ i ∈ t.slots, i ∈ vs) (hs1 : ∀ i ∈ t1.slots, i ∈ vs1) (h : tD X.K E (lc2P ti t tt ti1 t1 tt1 te vs vs1) σ H Q) :
    tLc2 (tI X.K E ti) (t.g X.K) (tTD X.K E0 tt) (tI X.K E0 ti1) (t1.g X.K) (tTD X.K E0 tt1) (tD X.K E0 te) vs vs1 σ H Q := by
  obtain ⟨W0, st0, Δ0, r0, st0', L0, iv0, e0, k0⟩ := h
  unfold lc2P bd at e0
  cases hm : ti Δ0 st0 with
  | none => rw [hm] at e0; cases e0
  | some p =>
  obtain ⟨rr, st1⟩ := p
  rw [hm] at e0
  cases rr with
  | error x =>
    simp only at e0
    cases e0
    exact ⟨W0, st0, Δ0, .error x, _, L0, iv0, hm, k0⟩
  | ok ds =>
    simp only at e0
    refine ⟨W0, st0, Δ0, .ok ds, st1, L0, iv0, hm, fun W1 H1 e1 i1 J wk D nD => ?_⟩
    obtain ⟨G, Y, w, hG, hY⟩ := wk.ex
    have Lw0 : LocD X.K W1 H1 (L2.wipe σ vs) (wipeD Δ0 vs) := (L0.to e1).wipe vs
    have nMD : ¬ W1.M D := fun m => i1.there D (W1.sub _ m) nD
    let Pv : Nat → Hp → Prop := fun i H2 => ∃ W2 st acc vacc, Acc X.K W1 H1 D W2 H2 st acc vacc ∧ lc2Go t tt ti1 t1 tt1 te vs1 (wipeD Δ0 vs) (ds.drop i) st acc = some (r0, st0')
    refine ⟨fun i m H => m = ds.length - i ∧ i ≤ ds.length ∧ Pv i H, ⟨ds.length, by simp, Nat.zero_le _, ?_⟩, ?_⟩
    · exact ⟨W1.addN D, st1, [], [], ⟨le_addN nD, .inr rfl, nMD, i1.addN nD, upd_same, .nil⟩, by rw [List.drop_zero]; exact e0⟩
    rintro i m H2 ⟨rfl, hi, p⟩
    have hGi : G H2 := by
      obtain ⟨W2, _, _, _, a, _⟩ := p
      exact hG W2 H2 a.le.w
    by_cases hlt : i < ds.length
    · refine .inr ⟨w.goes i H2 hlt hGi, Pv (i + 1), fun H' p' => ⟨ds.length - (i + 1), by omega, rfl, hlt, p'⟩, fun x H3 hy0 => ?_⟩
      have hy := w.yields i H2 x H3 hlt hGi hy0
      obtain ⟨W2, st, acc, vacc, a, eg⟩ := p
      have hd : ds[i]? = some ds[i] := List.getElem?_eq_getElem hlt
      obtain ⟨sm, rx⟩ := hY i W2 H2 st x H3 ds[i] a.le.w a.hh hd hy
      have a3 := a.go (Le.of sm) (a.hh.same sm)
      rw [List.drop_eq_getElem_cons hlt] at eg
      simp only [lc2Go] at eg
      cases hp2 : t.put ds[i] (wipeD Δ0 vs) with
      | none => rw [hp2] at eg; cases eg
      | some Δ1 =>
        rw [hp2] at eg
        simp only [Option.bind] at eg
        refine put_ok t (Lw0.to a3.le) rx hp2 fun σ2 L2' hlen hoth => ⟨wipe_same hlen hoth hs, ?_⟩
        cases ht : tt Δ1 st with
        | none => rw [ht] at eg; cases eg
        | some q =>
          obtain ⟨rb, st2⟩ := q
          rw [ht] at eg
          cases rb with
          | error z => cases eg
          | ok b =>
            refine ⟨W2, st, Δ1, .ok b, st2, L2', a3.hh, ht, fun W4 H4 e4 i4 => ?_⟩
            have a4 := a3.go e4 i4
            cases b with
            | false => exact iteF ⟨W4, st2, acc, vacc, a4, eg⟩
            | true =>
              refine iteT ?_
              simp only at eg
              cases hti : ti1 Δ1 st2 with
              | none => rw [hti] at eg; cases eg
              | some q1 =>
                obtain ⟨ri, st3⟩ := q1
                rw [hti] at eg
                cases ri with
                | error z => cases eg
                | ok es =>
                  simp only at eg
                  cases hlc : lcGo t1 tt1 te (wipeD Δ1 vs1) es st3 acc with
                  | none => rw [hlc] at eg; cases eg
                  | some q2 =>
                    obtain ⟨rl, st4⟩ := q2
                    rw [hlc] at eg
                    cases rl with
                    | error z => cases eg
                    | ok dl =>
                      cases dl with
                      | lst acc2 =>
                        simp only at eg
                        refine ⟨W4, st2, Δ1, .ok es, st3, L2'.to e4, i4, hti, fun W5 H5 e5 i5 J1 wk1 => ?_⟩
                        obtain ⟨G1, Y1, w1, hG1, hY1⟩ := wk1.ex
                        have a5 := a4.go e5 i5
                        have Lw1 : LocD X.K W5 H5 (L2.wipe σ2 vs1) (wipeD Δ1 vs1) := ((L2'.to e4).to e5).wipe vs1
                        refine in_it w1 (fun j H' => ∃ W' st' acc' vacc', Acc X.K W1 H1 D W' H' st' acc' vacc' ∧ Lw W5 H5 W' H' ∧ lcGo t1 tt1 te (wipeD Δ1 vs1) (es.drop j) st' acc' = some (.ok (.lst acc2), st4))
                          ⟨W5, st3, acc, vacc, a5, Lw.refl _ _, by rw [List.drop_zero]; exact hlc⟩ (fun j H' _ hp => ?_) (fun j x1 H' H6 hj hp hy1 => ?_) (fun H' hp => ?_)
                        · obtain ⟨W', _, _, _, _, lw, _⟩ := hp
                          exact hG1 W' H' lw
                        · obtain ⟨W', st', acc', vacc', a', lw, el⟩ := hp
                          have hd1 : es[j]? = some es[j] := List.getElem?_eq_getElem hj
                          obtain ⟨sm1, rx1⟩ := hY1 j W' H' st' x1 H6 es[j] lw a'.hh hd1 hy1
                          have a6 := a'.go (Le.of sm1) (a'.hh.same sm1)
                          have lw6 := lw.trans (Le.of sm1).w
                          rw [List.drop_eq_getElem_cons hj] at el
                          simp only [lcGo] at el
                          cases hp3 : t1.put es[j] (wipeD Δ1 vs1) with
                          | none => rw [hp3] at el; cases el
                          | some Δ2 =>
                            rw [hp3] at el
                            simp only [Option.bind] at el
                            refine put_ok t1 (Lw1.tow lw6) rx1 hp3 fun σ3 L3 hlen1 hoth1 => ⟨wipe_same hlen1 hoth1 hs1, ?_⟩
                            cases ht1 : tt1 Δ2 st' with
                            | none => rw [ht1] at el; cases el
                            | some q3 =>
                              obtain ⟨rb1, st5⟩ := q3
                              rw [ht1] at el
                              cases rb1 with
                              | error z => cases el
                              | ok b1 =>
                                refine ⟨W', st', Δ2, .ok b1, st5, L3, a6.hh, ht1, fun W7 H7 e7 i7 => ?_⟩
                                have a7 := a6.go e7 i7
                                have lw7 := lw6.trans e7.w
                                cases b1 with
                                | false => exact iteF ⟨W7, st5, acc', vacc', a7, lw7, el⟩
                                | true =>
                                  refine iteT ?_
                                  simp only at el
                                  cases hte : te Δ2 st5 with
                                  | none => rw [hte] at el; cases el
                                  | some q4 =>
                                    obtain ⟨ry, st6⟩ := q4
                                    rw [hte] at el
                                    cases ry with
                                    | error z => cases el
                                    | ok y =>
                                      simp only at el
                                      split at el
                                      · rename_i hb
                                        refine ⟨W7, st5, Δ2, .ok y, st6, L3.to e7, i7, hte, fun W8 H8 e8 i8 v rv => ?_⟩
                                        have a8 := a7.go e8 i8
                                        exact ⟨vacc', a8.hD, by rw [a8.ra.length]; exact Nat.lt_of_lt_of_le hb (by decide), W8, st6, acc' ++ [y], vacc' ++ [v], a8.push nD rv, (lw7.trans e8.w).trans (lw_upd a8.hN), el⟩
                                      · cases el
                        · obtain ⟨W', st', acc', vacc', a', lw, el⟩ := hp
                          rw [List.drop_length] at el
                          simp only [lcGo] at el
                          cases el
                          exact ⟨W', _, _, vacc', a', eg⟩
                      | _ => cases eg
    · have ei : i = ds.length := by omega
      subst ei
      refine .inl ⟨w.stops H2 hGi, ?_⟩
      obtain ⟨W2, st, acc, vacc, a, eg⟩ := p
      rw [List.drop_length] at eg
      simp only [lc2Go] at eg
      cases eg
      exact k0 (W2.delN D a.hM) H2 (e1.trans (a.le.delN fun z => i1.there D z nD)) a.hh.delN _ (.lst (fun z => z.2 rfl) a.hD (a.ra.tow lw_delN))
theorem de_lc2 {elt iter iter1 : Expr} {ifs ifs1 : List Expr} {scope : Scope} (t t1 : Tgt) (own : List (Str × Nat)) (vs1 : List Nat) {pos : Pos} {tg tg1 : Expr} {ti ti1 : IDen} {tt tt1 : TDen} {te : EDen} (hc : X.calm = true) (hN : X.N.Nodup) (hs : ∀ i ∈ t.slots, i ∈ own.map (·.2)) (hs1 : ∀ i ∈ t1.slots, i ∈ vs1) (hv : ∀ i ∈ vs1, i ∈ own.map (·.2)) (hi : PI X tg iter (tI X.K E ti)) (ok : BlkOk X.N X.env.scope scope own)
    (hg : ∀ (s : Shared) (H : Hp) (C : Addr) (cl : List (Str × Addr)) (fp : List Addr), PG (X.blk s H scope (compEnvC scope cl C X.env) fp) tg (t.g X.K))
    (ht : ∀ (s : Shared) (H : Hp) (C : Addr) (cl : List (Str × Addr)) (fp : List Addr), PTs (X.blk s H scope (compEnvC scope cl C X.env) fp) ifs (tTD X.K E0 tt))
    (hi1 : ∀ (s : Shared) (H : Hp) (C : Addr) (cl : List (Str × Addr)) (fp : List Addr), PI (X.blk s H scope (compEnvC scope cl C X.env) fp) tg1 iter1 (tI X.K E0 ti1))
    (hg1 : ∀ (s : Shared) (H : Hp) (C : Addr) (cl : List (Str × Addr)) (fp : List Addr), PG (X.blk s H scope (compEnvC scope cl C X.env) fp) tg1 (t1.g X.K))
    (ht1 : ∀ (s : Shared) (H : Hp) (C : Addr) (cl : List (Str × Addr)) (fp : List Addr), PTs (X.blk s H scope (compEnvC scope cl C X.env) fp) ifs1 (tTD X.K E0 tt1))
    (he : ∀ (s : Shared) (H : Hp) (C : Addr) (cl : List (Str × Addr)) (fp : List Addr), PE (X.blk s H scope (compEnvC scope cl C X.env) fp) elt (tD X.K E0 te)) (hf : ∀ x, foldedSetIterable iter X.env x = pure x := by intro _; rfl) (hf1 : ∀ env x, foldedSetIterable iter1 env x = pure x := by intro _ _; rfl) :
    PE X (.ListComp elt [⟨tg, iter, ifs, 0⟩, ⟨tg1, iter1, ifs1, 0⟩] scope pos) (tD X.K E (lc2P ti t tt ti1 t1 tt1 te (own.map (·.2)) vs1)) :=
  imE (pe_lc2 hc hN hi ok hv hg ht hi1 hg1 ht1 he hf hf1) fun _ _ _ => tD_lc2 hs hs1
end
end Dn

set_option Elab.async false
set_option linter.all false
set_option maxRecDepth 100000
set_option maxHeartbeats 4000000
namespace Dn
open PySem PySem.Spec PyProof.Rows L2
/-! ### enumerate(a tuple) -/
theorem meets_enumerate_new1 {v : Value} {o : Obj} {Hs : Heap → Prop} (B : Begins v o Hs) :
    Meets (Builtin.«enumerate.__new__» ⟨[.type "enumerate", v], []⟩) (fun _ R s => Hs s.heap ∧
      R (.ok (.ret (.ref (s.heap.push o).objs.size))) { s with heap := (s.heap.push o).push { cls := .type "enumerate", data := .fields #[.none, .bool false, .ref s.heap.objs.size, rawInt 0, .none, .none] } }) :=
  .of_wp fun prog w A R s h => by
    obtain ⟨hp, g, d, tk, os⟩ := s; obtain ⟨h1, h⟩ := h
    have hsub := sub_enumerate
    have q1 : ∀ {A' : Around} {E : Value → Shared → Prop} {Q : Value → Shared → Prop}, Q (.ref hp.objs.size) ⟨hp.push o, g, d, tk, os⟩ → wpAny (model prog w) A' (pyIter v) Q E ⟨hp, g, d, tk, os⟩ :=
      fun q => B.iter prog w _ _ ⟨hp, g, d, tk, os⟩ _ h1 q
    wp_walk using q1
    refine wpAny_stack_any fun st => wpAny_pure ?_
    split
    · rename_i c _ _ _ _ _
      cases (c == Value.type "enumerate")
      · wp_walk using q1
        exact ⟨_, rfl, h⟩
      · wp_walk using q1
        exact ⟨_, rfl, h⟩
    · wp_walk using q1
      exact ⟨_, rfl, h⟩
section
variable {prog : Program} {w : World} {A : Around} {E : Value → Shared → Prop} {s : Shared}
theorem enum_begins1 {v : Value} {o : Obj} {Hs : Heap → Prop} {Q : Value → Shared → Prop} (B : Begins v o Hs) (h1 : Hs s.heap)
    (h : ∀ h', IsEnum h' (s.heap.objs.size + 1) s.heap.objs.size 0 .none → h'.get? s.heap.objs.size = some o → h'.objs.size = s.heap.objs.size + 2 →
      (∀ b o, s.heap.get? b = some o → h'.get? b = some o) → Q (.ref (s.heap.objs.size + 1)) { s with heap := h' }) :
    wpAny (model prog w) A (call (.type "enumerate") [v]) Q E s := by
  refine callType_new PySem.F.called_enumerate (by decide) (PySem.F.typeCall_enumerate_1 _) (PySem.F.newCall_enumerate_1 _) (fun obj => PySem.F.args_object_init_2 obj _) PySem.F.entry_enumerate_new
    (meets_enumerate_new1 B) ⟨h1, ?_⟩
  have hz : (s.heap.push o).objs.size = s.heap.objs.size + 1 := Heap.size_push ..
  show _ ∧ _
  rw [hz]
  have he : IsEnum ((s.heap.push o).push { cls := .type "enumerate", data := .fields #[.none, .bool false, .ref s.heap.objs.size, rawInt 0, .none, .none] }) (s.heap.objs.size + 1) s.heap.objs.size 0 .none := by
    have := Heap.get?_push_size (s.heap.push o) (o := { cls := .type "enumerate", data := .fields #[.none, .bool false, .ref s.heap.objs.size, rawInt 0, .none, .none] }) rfl
    rw [hz] at this; exact this
  refine ⟨⟨_, he, rfl⟩, h _ he (Heap.get?_push_of_some _ (Heap.get?_push_size _ B.free)) (by rw [Heap.size_push, hz]) fun b o x => Heap.get?_push_of_some _ (Heap.get?_push_of_some _ x)⟩
end
def IteT (K : PySem.W.Frag) (a : Addr) : It :=
  ⟨fun i H => ∃ (xs : List V) (x : V), SqT K H a xs ∧ xs[i]? = some x, fun i H v H' => ∃ T x, v = .ref T ∧ H T = none ∧ H' = upd H T (.tup [.int (i : Nat), x]) ∧ ∀ xs, SqT K H a xs → xs[i]? = some x, fun i H => ∃ xs : List V, SqT K H a xs ∧ xs.length ≤ i⟩
theorem turn_enumT {P : Program} {w : World} {K : PySem.W.Frag} {elts : List Expr} {kk : Nat} {tpos : Pos} (a e it : Addr) (hai : a ≠ it) (hae : a ≠ e) :
    Turn P w K (.Tuple elts kk tpos) (IteT K a) [e, it] e (fun i h => (∃ old, IsEnum h e it ((i : Nat) : Int) old) ∧ h.IsTupleIter it a i ∧ e ≠ it) where
  mem := by simp
  obj := fun i h st b hb => by
    obtain ⟨⟨old, he⟩, ⟨o, ho, hc, hd⟩, _⟩ := st
    have e' : b = e ∨ b = it := by simpa using hb
    rcases e' with z | z
    · rw [z]; exact ⟨_, he, fun v q => nomatch q⟩
    · rw [z]; exact ⟨o, ho, fun v q => by rw [hd] at q; cases q⟩
  keep := fun i h h' st k => let ⟨⟨old, he⟩, hi, hne⟩ := st; ⟨⟨old, k e (by simp) _ he⟩, hi.at fun o q => k it (by simp) o q, hne⟩
  item := by
    intro X hP hw hK hc i pins s σ H E I hf st hg
    subst hP hw hK
    obtain ⟨⟨old, he⟩, hit, hne⟩ := st
    obtain ⟨xs, x, hq, hx⟩ := hg
    obtain ⟨its, rv, p, hz⟩ := I.tuple hq
    obtain ⟨u, hu, ru⟩ := rv.get hx
    have hel : e < s.heap.objs.size := Heap.lt_size he
    have hil : it < s.heap.objs.size := by obtain ⟨_, q, _⟩ := hit; exact Heap.lt_size q
    have hlt : i < its.toArray.size := by
      have := (List.getElem?_eq_some_iff.mp hu).1
      simpa using this
    refine wpAny_pyNext_enum_itemC (Draws.tuple (A := X.A.in1) (I.ok.hd hc) it a hai its.toArray) he ⟨hit, (show s.heap.IsTuple a its.toArray from p)⟩ hlt hne (by simp [hne, Ne.symm hae]) fun u' h' tk hP ho hst' hT hsz hk => ?_
    obtain ⟨hit', _⟩ := hst'
    have eu : u' = u := by
      have h1 : its.toArray[i]? = some u := by simpa using hu
      rw [h1] at hP
      exact (Option.some.inj hP).symm
    subst eu
    refine ⟨_, rfl, wpAny_letOwnedTupleGo_enum (s := { s with heap := h', toks := tk + 1 }) ho fun h'' he' sb => ?_⟩
    have hT2 : h''.get? s.heap.objs.size = some { cls := .type "tuple", data := .seq #[.int i tk, u'] } := (sb.2 _ (Nat.ne_of_gt hel)).trans hT
    have new : ObjOk X.prog X.w (upd H s.heap.objs.size (.tup [.int (i : Nat), x])) h'' s.heap.objs.size (.tup [.int (i : Nat), x]) :=
      ⟨by show 2 ≤ sizeLine; decide, [.int i tk, u'], .cons ⟨_, rfl⟩ (.cons ru .nil), ⟨_, hT2, rfl, _, rfl⟩⟩
    have I1 : Inv X pins σ (upd H s.heap.objs.size (.tup [.int (i : Nat), x])) { s with heap := h'', toks := tk + 1 } :=
      I.turnedNew (ch := [e, it]) (fun b ob hb q => (sb.2 b (fun z => hb (by simp [z]))).trans (hk b ob (fun z => hb (by simp [z])) (fun z => hb (by simp [z])) q)) hf (Nat.le_refl _) new
    refine ⟨.ref s.heap.objs.size, _, I1, rfl, ⟨_, x, rfl, I.hok.fresh (Nat.le_refl _), rfl, fun ys hy => by rw [I.tuple_inj hy hq]; exact hx⟩, ⟨⟨u', ?_⟩, hit'.at fun o q => (sb.2 it (Ne.symm hne)).trans q, hne⟩, fun b hb => ?_⟩
    · have e1 : ((i + 1 : Nat) : Int) = (i : Int) + 1 := by omega
      rw [e1]; exact he'
    · have hb' : b < s.heap.objs.size := by
        have e' : b = e ∨ b = it := by simpa using hb
        rcases e' with z | z
        · rw [z]; exact hel
        · rw [z]; exact hil
      rw [upd_ne (Nat.ne_of_lt hb')]
      exact (hf b hb).1
  done := by
    intro X hP hw hK hc i pins s σ H E I hf st hg
    subst hP hw hK
    obtain ⟨⟨old, he⟩, hit, hne⟩ := st
    obtain ⟨xs, hq, hx⟩ := hg
    obtain ⟨its, rv, p, hz⟩ := I.tuple hq
    obtain ⟨f0, f1, f2, f3, f4, f5⟩ := hf it (by simp)
    have hl := rv.length
    refine wpAny_pyNext_enum_endD (n := i) (P := fun _ _ => False) (St := fun j h => j = i ∧ h.IsTupleIter it a i ∧ h.IsTuple a its.toArray) (fp := [it, a]) ?_ he ⟨rfl, hit, (show s.heap.IsTuple a its.toArray from p)⟩ fun h' eb => ⟨rfl, I.turned (t' := s.toks) (fun b o hb q => eb b o hb q) f0 f1 f3 f4 f5⟩
    have hh : X.A.in1.handled = none := I.ok.hd hc
    exact ⟨fun _ _ st => let ⟨o, ho, _⟩ := st.2.1; ⟨o, ho⟩, fun _ _ _ st hk => ⟨st.1, st.2.1.at fun o e => hk it (by simp) o e, st.2.2.at fun o e => hk a (by simp) o e⟩, fun j s Q E hj st hQ => by have := st.1; omega,
      fun s Q E st hE => wpAny_nextOf_tuple_end hh st.2.1 st.2.2 (by simp; omega) hE⟩
  self := fun A i s Q E st h => let ⟨⟨_, he⟩, _⟩ := st; wpAny_pyIter_enum he h
def iEnumT (K : PySem.W.Frag) (ta : TA) : TI := fun σ H R => ta σ H fun vs H1 => ∃ a xs, vs = [.ref a] ∧ ((SqT K H1 a xs ∧ R (IteT K a) H1) ∨ (SqL K H1 a xs ∧ R (Ite K a) H1))
theorem pi_enumT {X : Cx} {e : Expr} {ta : TA} {p pos tpos : Pos} {elts : List Expr} {kk : Nat} (hg : Gl X "enumerate") (hm : X.mg "enumerate" = none) (ha : PA X [e] ta) (hs : starEach [e] X.env = [(false, eval e X.env)] := by rfl) :
    PI X (.Tuple elts kk tpos) (.Call (.Name "enumerate" p) [e] [] pos) (iEnumT X.K ta) := by
  refine ⟨fun pins s σ H R I h => ?_⟩
  refine Call_ (ld_blt I hg hm boot_enumerate (PyProof.Rows.callWith_type1 (thn (ha.run pos pins s σ H _ I h) fun us s1 ⟨vs, H1, I1, r1, q1⟩ => ?_) hs rfl))
  obtain ⟨a, xs, ex, hq⟩ := q1
  subst ex
  cases r1 with
  | cons r rr =>
    cases rr
    cases r
    have fpo : ∀ b, b ∈ [s1.heap.objs.size + 1, s1.heap.objs.size] → s1.heap.objs.size ≤ b := fun b hb => by
      have e' : b = s1.heap.objs.size + 1 ∨ b = s1.heap.objs.size := by simpa using hb
      rcases e' with z | z
      · rw [z]; exact Nat.le_add_right _ _
      · rw [z]; exact Nat.le_refl _
    rcases hq with ⟨hq, q⟩ | ⟨hq, q⟩
    · obtain ⟨its, rv, p', hz⟩ := I1.tuple hq
      have hlt : a < s1.heap.objs.size := by obtain ⟨o, ho, _⟩ := p'; exact Heap.lt_size ho
      refine enum_begins1 (begins_tuple a its.toArray) (show s1.heap.IsTuple a its.toArray from p') fun h' he hit hsz hk => wpAny_pyIter_enum he ?_
      have I2 : Inv X pins σ H1 { s1 with heap := h' } := I1.kept (t' := s1.toks) hk
      refine ⟨s1.heap.objs.size + 1, [s1.heap.objs.size + 1, s1.heap.objs.size], _, _, H1, rfl, I2, turn_enumT a (s1.heap.objs.size + 1) s1.heap.objs.size (Nat.ne_of_lt hlt) (Nat.ne_of_lt (Nat.lt_succ_of_lt hlt)), ⟨⟨.none, he⟩, ⟨_, hit, rfl, rfl⟩, Nat.succ_ne_self _⟩, fun b hb => ?_, q⟩
      exact I1.fpOk (fpo b hb) (I1.hok.fresh (fpo b hb))
    · obtain ⟨its, rv, p', hz⟩ := I1.list hq
      refine call_enumerate_list p'.isList fun h' he hit hsz hk => wpAny_pyIter_enum he ?_
      have I2 : Inv X pins σ H1 { s1 with heap := h' } := I1.kept (t' := s1.toks) hk
      refine ⟨s1.heap.objs.size + 1, [s1.heap.objs.size + 1, s1.heap.objs.size], _, _, H1, rfl, I2, turn_enum a (s1.heap.objs.size + 1) s1.heap.objs.size, ⟨⟨.none, he⟩, hit, Nat.succ_ne_self _⟩, fun b hb => ?_, q⟩
      exact I1.fpOk (fpo b hb) (I1.hok.fresh (fpo b hb))
theorem walk_enumT {K : PySem.W.Frag} {a : Addr} {xs : List V} : Walk (IteT K a) xs.length (fun H => SqT K H a xs) (YPair (fun i => some (.int (i : Nat))) (fun i => xs[i]?)) := by
  refine ⟨fun i _ hi q => ⟨xs, xs[i], q, by simp [hi]⟩, fun _ q => ⟨xs, q, Nat.le_refl _⟩, fun i H v H' _ q y => ?_⟩
  obtain ⟨T, x, h1, h2, h3, h4⟩ := y
  exact ⟨T, .int (i : Nat), x, h1, h2, h3, rfl, h4 xs q⟩
def enu2F : List D → Option (List D)
  | [.lst ds] => some (ds.zipIdx.map fun p => .tup [.int (p.2 : Nat), p.1])
  | [.tup ds] => some (ds.zipIdx.map fun p => .tup [.int (p.2 : Nat), p.1])
  | _ => none
def enu2P (tr : ADen) : IDen := fun Δ st => bd (tr Δ st) fun ds st1 => (enu2F ds).map fun r => (.ok r, st1)
section
variable {X : Cx} {E : XK} {a : Expr} {pos p tpos : Pos} {kk : Nat}
theorem di_enum2 {elts : List Expr} {tr : ADen} (hm : X.mg "enumerate" = none) (ha : PA X [a] (tAD X.K E tr)) (hg : Gl X "enumerate" := by rfl) (hs : starEach [a] X.env = [(false, eval a X.env)] := by rfl) :
    PI X (.Tuple elts kk tpos) (.Call (.Name "enumerate" p) [a] [] pos) (tI X.K E (enu2P tr)) := by
  refine ⟨fun pins s σ H R I h => (pi_enumT hg hm ha hs).run pins s σ H R I ?_⟩
  obtain ⟨W, st, h⟩ := h
  refine ⟨W, st, h.seq.mono fun ds st1 W1 H1 e1 i1 q vs rs => ?_⟩
  obtain ⟨Δ, r, L, iv, e, k⟩ := q.2.val (m := fun _ => enu2F ds)
  unfold enu2F at e
  split at e
  · rename_i xs
    cases e
    obtain ⟨v, rfl, rv⟩ := rps1 rs
    cases rv with
    | @lst c vx _ n1 s1 q1 =>
      refine ⟨c, vx, rfl, .inr ⟨sq_l s1, k W1 H1 (Le.refl _ _) iv _ ⟨fun H => SqL X.K H c vx, YPair (fun i => some (.int (i : Nat))) (fun i => vx[i]?), ?_, fun W2 H e2 => sq_l (e2.ext _ _ n1 s1), fun i W2 H st2 x H' d e2 i2 hd y => ?_⟩⟩⟩
      · have l : (xs.zipIdx.map fun p => D.tup [.int (p.2 : Nat), p.1]).length = vx.length := by rw [List.length_map, List.length_zipIdx, q1.length]
        rw [l]
        exact walk_enum
      · obtain ⟨T, x1, x2, rfl, nT, rfl, f1, f2⟩ := y
        obtain ⟨d2, g2, rfl⟩ := zipIdx_get hd
        obtain ⟨w2, m2, r2⟩ := q1.get g2
        rw [show vx[i]? = some x2 from f2] at m2
        cases m2
        cases (show some (V.int (i : Nat)) = some x1 from f1)
        exact ⟨same_new nT, rp_tup i2 nT (.cons (.int _) (.cons (r2.tow e2) .nil))⟩
  · rename_i xs
    cases e
    obtain ⟨v, rfl, rv⟩ := rps1 rs
    cases rv with
    | @tup c vx _ s1 q1 =>
      have up : ∀ {W2 : Wd} {H : Hp}, Lw W1 H1 W2 H → SqT X.K H c vx := fun {W2 H} e2 => by
        rcases s1 with ⟨n, s⟩ | s
        · rcases s with s | ⟨o, s⟩
          · exact .inl (.inl (e2.ext _ _ n s))
          · exact .inl (.inr ⟨o, e2.ext _ _ n s⟩)
        · exact .inr s
      refine ⟨c, vx, rfl, .inl ⟨sq_t s1, k W1 H1 (Le.refl _ _) iv _ ⟨fun H => SqT X.K H c vx, YPair (fun i => some (.int (i : Nat))) (fun i => vx[i]?), ?_, fun W2 H e2 => up e2, fun i W2 H st2 x H' d e2 i2 hd y => ?_⟩⟩⟩
      · have l : (xs.zipIdx.map fun p => D.tup [.int (p.2 : Nat), p.1]).length = vx.length := by rw [List.length_map, List.length_zipIdx, q1.length]
        rw [l]
        exact walk_enumT
      · obtain ⟨T, x1, x2, rfl, nT, rfl, f1, f2⟩ := y
        obtain ⟨d2, g2, rfl⟩ := zipIdx_get hd
        obtain ⟨w2, m2, r2⟩ := q1.get g2
        rw [show vx[i]? = some x2 from f2] at m2
        cases m2
        cases (show some (V.int (i : Nat)) = some x1 from f1)
        exact ⟨same_new nT, rp_tup i2 nT (.cons (.int _) (.cons (r2.tow e2) .nil))⟩
  · cases e
end
/-! ### def f(a, .., *v); methods by positional values -/
section
variable {P : Program} {w : World} {K : PySem.W.Frag} {mg : Str → Option Value} {base : Heap}
end
section
variable {X : Cx} {E : XK} {k : Nat} {f C : Addr} {fd : FuncData} {ps : List Str} {F : FDen} {m : Str} {pos apos : Pos} {a o : Expr} {es : List Expr} {te : EDen} {tr : ADen} {pl : Sem Bool} {sp : Sp} {ta : TE} {t : TA}
def tMethR (C : Addr) (m : Str) (sp : Sp) (E : XK) (ta : TE) (t : TA) : TE := fun σ H Q => ta σ H fun x H1 => ∃ a dx fs, x = .ref a ∧ H1 a = some (.ins C dx fs) ∧ fs.lookup m = none ∧ t σ H1 fun vs H2 => sp (.ref a :: vs) H2 Q E
theorem pe_methR0 (he : PE X o ta) (c : Cls X.K C) (hm : Meth X.K C m f) (G : FnR X.prog X.w X.K X.mg X.base (L2.CX X.prog X.w) k f sp) (hr : Room k X.A) (hx : Passes (L2.CX X.prog X.w) X E)
    (ht : eval (.Call (.Attribute o m apos) [] [] pos) X.env = (do
      let ov ← eval o X.env
      standAt apos.atName
      let (f, first) ← holding [ov] (getMethod ov m pl)
      callWith pos f first (backTo pos (starEach [] X.env)) (backToKw pos (keywordEach [] X.env))) := by rfl) :
    PE X (.Call (.Attribute o m apos) [] [] pos) (tMethR C m sp E ta tNil) := by
  refine ⟨fun pins s σ H Q I h => ?_⟩
  refine PySem.W.methodCall_KW (pl := pl) (thn (he.run pins s σ H _ I h) fun u s1 ⟨x, H1, I1, rx, a, dx, fs, ex, ea, l, q⟩ => ?_) ht
  subst ex
  obtain rfl : u = Value.ref a := rx
  refine getmeth_ok I1 ea c hm l ?_
  exact PySem.W.callWith_K0 (first := [.ref a]) I1.kIn hm.kp (wpAny_call (run_fnR (us := [.ref a]) (vs := [.ref a]) G hr hx I1 (.cons rfl .nil) q))
theorem de_methR0 (c : Cls X.K C) (hm : Meth X.K C m f) (G : FnR X.prog X.w X.K X.mg X.base (L2.CX X.prog X.w) k f (spF X.K F)) (hr : Room k X.A) (hx : Passes (L2.CX X.prog X.w) X E)
    (he : PE X o (tD X.K E te))
    (ht : eval (.Call (.Attribute o m apos) [] [] pos) X.env = (do
      let ov ← eval o X.env
      standAt apos.atName
      let (f, first) ← holding [ov] (getMethod ov m pl)
      callWith pos f first (backTo pos (starEach [] X.env)) (backToKw pos (keywordEach [] X.env))) := by rfl) :
    PE X (.Call (.Attribute o m apos) [] [] pos) (tD X.K E (methP C m F te nilP)) := by
  refine imE (pe_methR0 he c hm G hr hx ht) fun σ H Q h => ?_
  obtain ⟨W, st0, h⟩ := h
  refine ⟨W, st0, h.seq.mono fun d st1 W1 H1 e1 i1 q v rv => ?_⟩
  obtain ⟨Δ0, r0, s0, L0, I0, eq, w0⟩ := q.2
  simp only at eq
  split at eq
  · rename_i ns ds hi
    split at eq
    · cases eq
    · rename_i hn
      obtain ⟨a, dx, fs, rfl, h1, h2, h3⟩ := ins_of I0 rv hi
      exact ⟨a, dx, fs, rfl, h1, lk_none h2 hn, W1, [d], st1, r0, s0, .cons rv .nil, I0, eq, w0⟩
  · cases eq
/-- o.m(e, ..), no defaults: by the values alone -/
theorem fn_plain {fd : FuncData} {ps : List Str} {P : Program} {w : World} {K : PySem.W.Frag} {mg : Str → Option Value} {base : Heap} {CX : CXT} {sp : Sp} (G : FnOk P w K mg base CX k f fd ps sp) (hb : Binds K fd ps []) : FnR P w K mg base CX k f sp :=
  (G.raw hb .nil).imp fun vs H Q E h => by rw [List.append_nil]; exact h
end
end Dn

set_option Elab.async false
set_option linter.all false
set_option maxRecDepth 100000
set_option maxHeartbeats 4000000
namespace Dn
open PySem PySem.Spec PyProof.Rows L2
/-! ### comparisons of own objects as tests -/
section
variable {X : Cx} {E : XK} {k : Nat} {f C : Addr} {fd : FuncData} {ps : List Str} {F : FDen} {a b : Expr} {ta tb : EDen} {pos : Pos} {σ : L2.St} {H : Hp} {Q : VK}
end
/-! ### keywords behind positional values, the keyword-only parameters all given -/
theorem kbn_mkD {K : PySem.W.Frag} {x qual : Str} {params : Arguments} {body : List Stmt} {scope : Scope} {kws : List (Str × V)} {f : Addr} {fd : FuncData} {ps : List Str} (F : FunD K x qual params body scope [] kws f fd) (n : Nat) (ks : List Str) (is : List Nat)
    (h : ∀ (kV doc pm : Value) (an : Option Addr) (cdv ct : Value) (us ws : List Value), us.length = n → ws.length = ks.length → bindArgs (PySem.W.fnOf x qual params body scope .none kV doc pm an cdv ct) ⟨us, ks.zip ws⟩ = pure (ps.zip (us ++ pick is ws))) :
    KBn K fd ps n ks (fun us ws => us ++ pick is ws) (fun us zs => us ++ pick is zs) := by
  obtain ⟨oc, od, dV, kV, doc, pm, an, cdv, ct, osl, rfl, lk, hcd, hD, hK⟩ := F.ex
  rcases hD with ⟨_, rfl⟩ | ⟨e, _⟩
  · exact ⟨fun s us ws _ hu hw => .of_eq (h kV doc pm an cdv ct us ws hu hw), fun ru rz => vals_app ru rz⟩
  · exact absurd rfl e
/-! ### xs.index(text) -/
def lixP (te ta : EDen) : EDen := fun Δ st => bd (te Δ st) fun x st1 => match x with
  | .lst ds => bd (ta Δ st1) fun d st2 => (placeF d ds).map fun r => (.ok r, st2)
  | _ => none
section
variable {X : Cx} {E : XK} {o a : Expr} {te ta : EDen} {pos apos cpos : Pos}
end
end Dn

set_option Elab.async false
set_option linter.all false
set_option maxRecDepth 100000
set_option maxHeartbeats 4000000
namespace Dn
open PySem PySem.Spec PyProof.Rows L2
/-! ### sorted(a tuple of texts) -/
section
variable {prog : Program} {w : World} {A : Around} {E : Value → Shared → Prop} {s : Shared}
theorem collect_tup {l : Addr} {vs : List Value} {Q : List Value → Shared → Prop} (hl : IsTup s.heap l vs.toArray)
    (h : Q vs { s with heap := (s.heap.push (seqObj "list" #[] 0)).update s.heap.objs.size (Obj.mapSeq (· ++ vs.toArray)) }) (hsz : vs.length ≤ sizeLine) :
    wpAny (model prog w) A (PySem.collect (.ref l)) Q E s := by
  obtain ⟨o, ho, hc, n, hd⟩ := id hl
  unfold PySem.collect
  refine wpAny_bind (wpAny_runValue (codeAny_builtin entry_proto_collect' ?_))
  show wpAny _ _ (do again (.builtin "list.__iadd__" ⟨[← newList [], .ref l], []⟩)) _ _ s
  refine wpAny_bind (wpAny_newList (wpAny_pure ⟨Code.quiet_builtin _ (by decide +kernel), codeAny_builtin entry_list_iadd' ?_⟩))
  show wpAny _ _ (Builtin.List.listExtendWith (.ref s.heap.objs.size) (.ref l) (.ref s.heap.objs.size)) _ _ { s with heap := s.heap.push (seqObj "list" #[] 0) }
  unfold Builtin.List.listExtendWith
  have ho' : (s.heap.push (seqObj "list" #[] 0)).get? l = some o := Heap.get?_push_of_some _ ho
  refine wpAny_bind (wpAny_typeOf (T := "tuple") ⟨o, ho', hc⟩ ?_)
  have ht : (Value.type "tuple" == Value.type "tuple") = true := by rfl
  rw [if_pos (by rw [ht]; simp)]
  refine wpAny_bind (listItems_at ho' hd ?_)
  refine wpAny_bind (listItems_at (xs := #[]) (n := 0) (Heap.get?_push_size _ rfl) rfl ?_)
  rw [if_neg (by simp)]
  refine wpAny_bind (listUpdate_at (xs := #[]) (n := 0) (Heap.get?_push_size _ rfl) rfl ?_ (Nat.zero_le _) (by show (#[] ++ vs.toArray).size ≤ sizeLine + 1; simp only [Array.size_append, List.size_toArray, List.length_nil]; omega))
  refine wpAny_pure ?_
  show wpAny (model prog w) A (do
      let o ← load s.heap.objs.size
      match o.data with
      | .seq xs _ => pure xs.toList
      | _ => unsupported "internal:collect") Q E { s with heap := (s.heap.push (seqObj "list" #[] 0)).update s.heap.objs.size (Obj.mapSeq (· ++ vs.toArray)) }
  refine wpAny_bind (wpAny_load (get?_update_seq (Heap.get?_push_size _ rfl) _) ?_)
  show wpAny _ _ (pure ((#[] : Array Value) ++ vs.toArray).toList) Q E _
  rw [show ((#[] : Array Value) ++ vs.toArray).toList = vs by simp]
  exact wpAny_pure h
theorem sortedKT {κ : KeyKind} (hO : κ.OneLt) {l : Addr} {vs : List Value} {Q : Value → Shared → Prop} (hl : IsTup s.heap l vs.toArray) (h0 : KeysOf κ (pairsOf vs)) (hkk : ∀ v₁ v₂ rest, vs = v₁ :: v₂ :: rest → keyKind' (v₁ :: v₂ :: rest).toArray = pure oneType') (h64 : vs.length < 64)
    (h : ∀ st' : SortSt, (arrOf st').Perm (pairsOf vs) → SortedToK κ (arrOf st') (pairsOf vs).size → Q (.ref (s.heap.objs.size + 1)) { s with heap := sortedAll s.heap vs ((arrOf st').map (·.2)) }) :
    wpAny (model prog w) A (call (.builtin "sorted") [.ref l]) Q E s := by
  refine Calls.call_function_entry kind_sorted plain_sorted entry_sorted (args_sorted1 _) ?_
  unfold Builtin.«sorted»
  refine wpAny_bind (m := checkCount "sorted" 1 1 _) (wpAny_pure ?_)
  refine wpAny_bind (collect_tup hl ?_ (by rw [sizeLine_eq]; omega))
  refine wpAny_bind (wpAny_newList ?_)
  have hsz : ((s.heap.push (seqObj "list" #[] 0)).update s.heap.objs.size (Obj.mapSeq (· ++ vs.toArray))).objs.size = s.heap.objs.size + 1 := by
    rw [Heap.size_update, size_push']
  have hoL : (((s.heap.push (seqObj "list" #[] 0)).update s.heap.objs.size (Obj.mapSeq (· ++ vs.toArray))).push (seqObj "list" vs.toArray 0)).get? (s.heap.objs.size + 1) = some (seqObj "list" vs.toArray 0) := by
    rw [← hsz]; exact Heap.get?_push_size _ rfl
  show wpAny _ _ _ _ _ { s with heap := ((s.heap.push (seqObj "list" #[] 0)).update s.heap.objs.size (Obj.mapSeq (· ++ vs.toArray))).push (seqObj "list" vs.toArray 0) }
  rw [hsz]
  refine wpAny_bind (wpAny_holding (wpAny_call_entry slot_list_sort ⟨_, hoL, rfl⟩ entry_list_sort (list_sort_treeK hO hoL h0 hkk h64 fun st' a1 a2 => ⟨_, rfl, ?_⟩) (args_list_sort _)))
  exact wpAny_pure ⟨_, rfl, h st' a1 a2⟩
theorem sorted_strsT {l : Addr} {vs : List Value} {ss : List Str} {Q : Value → Shared → Prop} (hl : IsTup s.heap l vs.toArray) (hS : StrsAre vs ss) (h64 : vs.length < 64)
    (h : ∀ (out : Array Value) (ss' : List Str), StrsAre out.toList ss' → ss'.Perm ss → sortedS ss' = true → Q (.ref (s.heap.objs.size + 1)) { s with heap := sortedAll s.heap vs out }) :
    wpAny (model prog w) A (call (.builtin "sorted") [.ref l]) Q E s := by
  refine sortedKT strKind_oneLt hl hS.keysOf (fun v₁ v₂ rest e => keyKind_strs (by rw [← e]; exact hS)) h64 fun st' hp hs => ?_
  obtain ⟨ss', h1, h2, h3⟩ := sorted_out_str hS hp hs
  exact h _ ss' h1 h2 h3
end
def sort2F : List D → Option D
  | [.lst ds] => (strsD ds).bind fun ss => if ss.length < 64 then some (.lst ((srtS ss).map .str)) else none
  | [.tup ds] => (strsD ds).bind fun ss => if ss.length < 64 then some (.lst ((srtS ss).map .str)) else none
  | _ => none
section
variable {X : Cx}
theorem cr_sort2 : CallR X (.builtin "sorted") (rCD X.K sort2F) := by
  intro pins s σ H xs us Q I r h
  obtain ⟨W, st, ds, d, rs, iv, hf, k⟩ := h
  unfold sort2F at hf
  split at hf
  · rename_i es
    exact cr_sortD pins s σ H xs us Q I r ⟨W, st, _, d, rs, iv, hf, k⟩
  · rename_i es
    cases q : strsD es with
    | none => rw [q] at hf; cases hf
    | some ss =>
      rw [q] at hf
      simp only [Option.bind] at hf
      split at hf
      · rename_i few
        cases hf
        obtain ⟨v, rfl, rv⟩ := rps1 rs
        cases rv with
        | @tup p ys _ s1 q1 =>
          rw [strsD_of q] at q1
          have hy := q1.strs
          subst hy
          obtain ⟨its, rv, hl, _⟩ := I.tuple (sq_t s1)
          rw [Vals.ref1 r]
          have hlen0 := rv.length
          rw [List.length_map] at hlen0
          refine sorted_strsT hl rv.strs (by rw [← hlen0]; exact few) fun out ys h1 h2 h3 => ?_
          obtain ⟨ep, he'⟩ := PyProof.Rows.sortedAll_at s.heap its out
          have hlen : (ys.map V.str).length ≤ sizeLine := by rw [List.length_map, h2.length_eq]; exact small64 few
          have np : H (s.heap.objs.size + 1) = none := I.hok.fresh (Nat.le_succ _)
          refine ⟨.ref _, upd H (s.heap.objs.size + 1) (.lst (ys.map V.str)), I.laid (t' := s.toks) (fun _ _ => PyProof.Rows.sortedAll_old) (Nat.le_succ _) ⟨hlen, out.toList, ep, vals_of_strs h1, he'⟩, rfl, ?_⟩
          rw [srtS_one h2 (sorted_ord h3)] at *
          exact k _ _ (same_new np) (rp_lst iv np (Rps.of_strs _))
      · cases hf
  · cases hf
end
end Dn

set_option Elab.async false
set_option linter.all false
set_option maxRecDepth 100000
set_option maxHeartbeats 4000000
namespace Dn
open PySem PySem.Spec PyProof.Rows L2
/-! ### def f(a, .., *v, m=()); o.m(*e) -/
section
variable {CX : CXT} {P : Program} {w : World} {K : PySem.W.Frag} {mg : Str → Option Value} {base : Heap} {k : Nat} {f : Addr} {name qual : Str} {params : Arguments} {body : List Stmt} {scope : Scope} {dV doc pm cdv ct oc : Value} {an od : Option Addr}
  {osl : Array (Option Value)} {N ps : List Str} {sp : Sp} {D T0 : Addr}
end
section
variable {P : Program} {w : World} {K : PySem.W.Frag} {mg : Str → Option Value} {base : Heap}
end
section
variable {X : Cx} {E : XK} {k : Nat} {g C : Addr} {F : FDen} {m : Str} {p pos apos : Pos} {e o : Expr} {te ty : EDen}
end
end Dn

set_option Elab.async false
set_option linter.all false
set_option maxRecDepth 100000
set_option maxHeartbeats 4000000
namespace Dn
open PySem PySem.Spec PyProof.Rows L2
/-! ### lists of one's own: insert, [x] * n, item stored; what is handed out within a tuple -/
section
variable {X : Cx} {E : XK} {o a b : Expr} {to te : EDen} {tr : ADen} {pos apos cpos : Pos}
/-- o[i] = e, o a list of one's own -/
def setOP (to ti te : EDen) : SDen := fun Δ st => bd (te Δ st) fun d st1 => bd (to Δ st1) fun o st2 => bd (ti Δ st2) fun i st3 => match o, i with
  | .hnd n, .int k => match st3.look n with
    | some (.lst ds) => (ixN ds.length k).map fun j => (.ok (.nx Δ), st3.put n (.lst (ds.set j d)))
    | _ => none
  | _, _ => none
theorem rps_set {K : PySem.W.Frag} {W : Wd} {H : Hp} {v : V} {d : D} (r : Rp K W H v d) : ∀ {vs : List V} {ds : List D} (j : Nat), Rps K W H vs ds → Rps K W H (vs.set j v) (ds.set j d)
  | _, _, _, .nil => .nil
  | _, _, 0, .cons a t => .cons r t
  | _, _, j + 1, .cons a t => .cons a (rps_set r j t)
theorem ds_setO {i e : Expr} {ti : EDen} {pos' : Pos} (ho : PE X o (tD X.K E to)) (hi : PE X i (tD X.K E ti)) (he : PE X e (tD X.K E te))
    (ha : ∀ v, assign (.Subscript o i pos') X.env v = (do
      let ov ← holding [v] (eval o X.env)
      let iv ← holding [v, ov] (eval i X.env)
      standAt pos'
      holding [v, ov, iv] (setItem ov iv v)
      release [v, ov, iv] []) := by intro _; rfl)
    (hs : swapsWithSole [.Subscript o i pos'] e pos.line X.env = pure false := by rfl) (hw : swappedStores [.Subscript o i pos'] e X.env = pure none := by rfl)
    (h1 : List.map (fun x => x.snd) (assignEach [.Subscript o i pos'] X.env) = [assign (.Subscript o i pos') X.env] := by rfl) :
    PS X (.Assign [.Subscript o i pos'] e pos) (tSD X.K E (setOP to ti te)) := by
  refine imS (ps_asg he (pg_sub ho hi set_list ha) hs hw h1) fun D σ H h => ?_
  obtain ⟨W, st0, h⟩ := h
  refine ⟨W, st0, h.seq.mono fun d st1 W1 H1 e1 i1 q v rv => ?_⟩
  refine ⟨W1, st1, q.2.seq.mono fun x st2 W2 H2 e2 i2 q2 u ru => ?_⟩
  refine ⟨W2, st2, q2.2.seq.mono fun y st3 W3 H3 e3 i3 q3 u3 r3 => ?_⟩
  obtain ⟨Δ, r, st', L, I, eq, k⟩ := q3.2
  simp only at eq
  split at eq
  · rename_i n kk
    split at eq
    · rename_i ds hl
      cases hj : ixN ds.length kk with
      | none => rw [hj] at eq; cases eq
      | some j =>
        rw [hj] at eq
        cases eq
        have hm := look_mem hl
        obtain ⟨n0, p, h1, h2, us, h3, h4⟩ := I.own _ _ hm
        have ru3 := ru.to e3
        cases ru3 with
        | hnd n hh =>
          rw [h1] at hh
          cases hh
          cases r3
          refine ⟨p, us, kk, j, rfl, rfl, h3, by rw [h4.length]; exact hj, ?_⟩
          have le := le_updM (H := H3) (o := .lst (us.set j v)) h2
          exact k W3 _ le (I.ownUpd hm h1 h2 ⟨us.set j v, upd_same, (rps_set ((rv.to e2).to e3) j h4).to le⟩) σ (L.to le)
    · cases eq
  · cases eq
end
/-! ### min(i, j), int(b), len(o) of own objects, f(e, ..) by positional values alone -/
section
variable {X : Cx}
end
section
variable {X : Cx} {E : XK} {k : Nat} {f C : Addr} {fd : FuncData} {ps : List Str} {F : FDen} {a e : Expr} {es : List Expr} {ta : EDen} {tr : ADen} {p pos : Pos} {x : Str} {sp : Sp} {t : TA}
end
end Dn

set_option Elab.async false
set_option linter.all false
set_option maxRecDepth 100000
set_option maxHeartbeats 4000000
namespace Dn
open PySem PySem.Spec PyProof.Rows L2
/-! ### a, b, c = x, y, z -/
section
variable {X : Cx} {E : XK} {a b c : Expr} {pos : Pos}
end
end Dn

set_option Elab.async false
set_option linter.all false
set_option maxRecDepth 100000
set_option maxHeartbeats 4000000
namespace Dn
open PySem PySem.Spec PyProof.Rows L2
/-! ### o.m(e, .., k = v) of a def with a star parameter and one keyword-only parameter -/
def FnRK (P : Program) (w : World) (K : PySem.W.Frag) (mg : Str → Option Value) (base : Heap) (CX : CXT) (k : Nat) (f : Addr) (km : Str) (sp : Sp) : Prop :=
  ∀ (A : Around) (outer : List Env) (s : Shared) (H : Hp) (us : List Value) (vs : List V) (mu : Value) (mv : V) (Q : VK) (E : XK), Room k A → Env0 P w K mg base A outer s H → Vals vs us → RelV mv mu → sp (vs ++ [mv]) H Q E →
    codeAny (model P w) A (.call (.ref f) ⟨us, [(km, mu)]⟩) (CR CX outer P w H s Q E) s
theorem FnRK.mono {P : Program} {w : World} {K : PySem.W.Frag} {mg : Str → Option Value} {base : Heap} {CX : CXT} {j k : Nat} {f : Addr} {km : Str} {sp : Sp} (F : FnRK P w K mg base CX j f km sp) (h : j ≤ k) : FnRK P w K mg base CX k f km sp := fun A outer s H us vs mu mv Q E hr => F A outer s H us vs mu mv Q E (hr.mono h)
section
variable {P : Program} {w : World} {K : PySem.W.Frag} {mg : Str → Option Value} {base : Heap}
end
section
variable {X : Cx} {E : XK} {k : Nat} {f C : Addr} {F : FDen} {m km : Str} {pos apos kpos : Pos} {a o e : Expr} {es : List Expr} {te : EDen} {tr tk : ADen} {pl : Sem Bool}
end
end Dn

set_option Elab.async false
set_option linter.all false
set_option maxRecDepth 100000
set_option maxHeartbeats 4000000
namespace Dn
open PySem PySem.Spec PyProof.Rows L2
/-! ### tuple(a list of one's own) -/
def tupHP (ta : EDen) : EDen := fun Δ st => bd (ta Δ st) fun x st1 => (lstOf st1 x).map fun xs => (.ok (.tup xs), st1)
section
variable {X : Cx} {E : XK} {a : Expr} {ta : EDen} {p pos : Pos}
theorem de_tupH (hm : X.mg "tuple" = none) (ha : PE X a (tD X.K E ta)) (hg : Gl X "tuple" := by rfl) (he : starEach (a :: []) X.env = (false, eval a X.env) :: starEach [] X.env := by rfl) (hpl : (backTo pos (starEach [] X.env)).any (·.1) = false := by rfl) :
    PE X (.Call (.Name "tuple" p) [a] [] pos) (tD X.K E (tupHP ta)) := by
  refine imE (pe_callTy call_tuple_of hg hm (by decide +kernel) (pa_cons ha pa_nil he) (by decide) (by decide) he hpl) fun σ H Q h => ?_
  obtain ⟨W, st0, h⟩ := h
  refine ⟨W, st0, h.seq.mono fun x st1 W1 H1 e1 i1 q v rv => ?_⟩
  obtain ⟨Δ, r, st', L, I, e, k⟩ := q.2
  simp only at e
  cases hx : lstOf st1 x with
  | none => rw [hx] at e; cases e
  | some xs =>
    rw [hx] at e
    cases e
    obtain ⟨a1, us, rfl, h1, r1⟩ := lst_of I rv hx
    exact ⟨_, _, rfl, .inl ⟨sq_l h1, fun p np => k W1 _ (Le.of (same_new np)) (I.same (same_new np)) _ (rp_tup I np r1)⟩⟩
end
end Dn

set_option Elab.async false
set_option linter.all false
set_option maxRecDepth 100000
set_option maxHeartbeats 4000000
namespace Dn
open PySem PySem.Spec PyProof.Rows L2
/-! ### str(..) of an int or a text -/
section
variable {X : Cx}
end
end Dn

set_option Elab.async false
set_option linter.all false
set_option maxRecDepth 100000
set_option maxHeartbeats 4000000
namespace Dn
open PySem PySem.Spec PyProof.Rows L2
/-! ### while, by fuel -/
section
variable {X : Cx} {E : XK}
end
/-! ### text.split(sep) -/
section
variable {X : Cx} {E : XK} {a : Expr} {ta : EDen} {pos : Pos}
/-! ### int(..) of a text -/
/-! ### a tuple of the module -/
end
end Dn

set_option Elab.async false
set_option linter.all false
set_option maxRecDepth 100000
set_option maxHeartbeats 4000000
namespace Dn
open PySem PySem.Spec PyProof.Rows L2
/-! ### try: body, except (A, B, C) as n: suite, where each exception of the body is one of the three -/
theorem fly_more {B h h' : Heap} {l : List Env} {a : Addr} {Z : Obj → Prop} (k : ∀ b o, h.get? b = some o → h'.get? b = some o) (x : HandSPX.FlyingZ B l a Z h) : HandSPX.FlyingZ B l a Z h' := by
  obtain ⟨f1, f2, f3, oe, vs, T, oT, ts, e1, e2, e3, e4, e5, e6, e7, e8, e9⟩ := x
  exact ⟨fun b o e => k b o (f1 b o e), f2, Heap.FunFrames.of_keeps (fun b o e _ => ⟨o, k b o e, rfl⟩) f3, oe, vs, T, oT, ts, k _ _ e1, e2, e3, e4, e5, e6, k _ _ e7, e8, e9⟩
/-- what is wished of the body's exceptions; slot i is the name's -/
def wTrio (K : PySem.W.Frag) (cs : List Value) (i : Nat) (ts : Addr → Value → Option Addr → TS) (D : Ends) : WX := fun cls d σ H =>
  PySem.W.exmAny K cls cs = some true ∧ ∀ a, H a = none → ts a cls d ⟨fun σ' H' => D.nx (σ'.set i none) H', D.rt, fun σ' H' => D.bk (σ'.set i none) H', fun σ' H' => D.ct (σ'.set i none) H'⟩ (σ.set i (some (.ref a))) H
section
variable {X : Cx}
theorem ps_trio {x1 x2 x3 n : Str} {c1 c2 c3 : Value} {i kk : Nat} {body rest : List Stmt} {b0 : Stmt} {p1 p2 p3 tp ep pos : Pos} {tb : WX → TS} {ts : Addr → Value → Option Addr → TS}
    (hs : X.stack = X.env :: X.outer) (hf : X.env.frame = some X.env.locals) (nd : X.N.Nodup) (hi : X.N[i]? = some n) (hl : X.env.kindOf n = some .local)
    (n1 : L2.Names X x1 c1) (n2 : L2.Names X x2 c2) (n3 : L2.Names X x3 c3)
    (hb : ∀ (W : WX) (pn : List (Addr × Obj)) (xe : Value → Shared → Prop), Takes (X.tr pn xe) W → PassesOwn (model X.prog X.w) X.A X.env xe → PSs (X.tr pn xe) body (tb W))
    (hsu : ∀ (a : Addr) (oe : Obj) (cls : Value) (d : Option Addr) (pn : List (Addr × Obj)), Zc cls d oe → (∃ vs, oe.data = .fields vs) → PSs (X.suite a ((a, oe) :: pn)) (b0 :: rest) (ts a cls d)) :
    PS X (.Try body [.ExceptHandler (some (.Tuple [.Name x1 p1, .Name x2 p2, .Name x3 p3] kk tp)) (some n) (b0 :: rest) ep] [] [] pos) (fun D σ H => tb (wTrio X.K [c1, c2, c3] i ts D) D σ H) := by
  refine ⟨fun pins s σ H D I start => ?_⟩
  have ok := I.ok
  have fr : X.A.frames = some (X.env :: X.outer) := by rw [ok.frames, hs]
  let hd : ExceptHandler := .ExceptHandler (some (.Tuple [.Name x1 p1, .Name x2 p2, .Name x3 p3] kk tp)) (some n) (b0 :: rest) ep
  let caught : Value → Shared → Prop := fun e s₁ => wpAny (model X.prog X.w) X.A (noteFrame e X.env) (fun _ s₂ => wpAny (model X.prog X.w) X.A (setFlight e none) (fun _ s₃ => wpAny (model X.prog X.w) X.A (handleBy e X.env [hd]) (SP X pins D) X.xe s₃) X.xe s₂) X.xe s₁
  refine wpAny_Try_except (wpAny_mono ((hb (wTrio X.K [c1, c2, c3] i ts D) (X.pn ++ pins) caught (fun u s' air => ?_) PassesOwn.looking).run [] s σ H D (I.toTry _) start) (fun fl s1 q => ?_) fun _ _ z => z)
  · obtain ⟨a, B, sI, pins', σ', H', cls, d, rfl, Jt, nb, up, sky, na, os, ag, hm, hyes⟩ := air
    have J : Inv X pins σ' H' sI := Jt.ofTry ok
    show wpAny (model X.prog X.w) X.A (noteFrame (.ref a) X.env) _ _ _
    refine Sky.land Zc.steady fr hf (by rw [← hs]; exact sky) fun g1 fl1 up1 => ?_
    have J1 : Inv X pins σ' H' { s' with heap := g1 } := J.landed nb fl1.1 (up.trans up1) os ag
    obtain ⟨oe, vs, he, hz, hd'⟩ := fl1.there
    have off : a ∉ frs (X.env :: X.outer) := fun hm => by
      obtain ⟨_, o', e', hnf⟩ := fl1.2.2.1.mem hm
      rw [he] at e'
      cases e'
      exact hnf _ hd'
    have nL : a ≠ X.env.locals := fun z => off (List.mem_filterMap.mpr ⟨X.env, List.mem_cons_self, by rw [hf, z]⟩)
    have nF : a ∉ X.fs := fun hm => by
      obtain ⟨e, q1, q2⟩ := List.mem_filterMap.mp hm
      exact off (List.mem_filterMap.mpr ⟨e, List.mem_cons_of_mem _ q1, q2⟩)
    have S1 := J1.suite he hd' na nL nF
    have ld : ∀ {x : Str} {c : Value} {p : Pos} {Q : Value → Shared → Prop} {E : Value → Shared → Prop}, L2.Names X x c → Q c { s' with heap := g1 } → wpAny (model X.prog X.w) (X.A.mark (some (.ref a))) (eval (.Name x p) X.env) Q E { s' with heap := g1 } := fun {x c p Q E} hc q => by
      obtain ⟨hg, hdb, hm | ⟨hm, hv, hnn⟩⟩ := hc
      · exact ld_glob (X := X.suite a ((a, oe) :: (X.pn ++ pins))) S1 hg hm q hdb
      · exact ld_blt (X := X.suite a ((a, oe) :: (X.pn ++ pins))) S1 hg hm hv q hnn hdb
    refine wpAny_handleBy_cons (codeAny_handlers_test ?_) (by intro q; cases q)
    refine wpAny_Tuple (wpAny_items_cons (ld n1 (wpAny_items_cons (ld n2 (wpAny_items_cons (ld n3 (wpAny_items_nil ⟨by rw [sizeLine_eq]; simp, ?_⟩)))))))
    have kp : ∀ b o, g1.get? b = some o → (g1.push { cls := .type "tuple", data := .seq [c1, c2, c3].toArray }).get? b = some o := fun _ _ z => Heap.get?_push_of_some _ z
    have fl2 := fly_more kp fl1
    have LT : PySem.W.Looks (model X.prog X.w) g1 (typeOf (.ref a)) cls := fun A Q E s k q => wpAny_typeOf_ref (k _ _ he) (by rw [hz.1]; exact q)
    refine (PySem.W.exm_tup3 (M := model X.prog X.w) (J1.kIn.keeps kp) (LT.keeps kp) (Heap.get?_push_size g1 rfl) hm).here ?_
    refine codeAny_handlers_suite_as (HandSPX.lands_againZ fl2 fun g3 fl3 up3 => ?_)
    have J3 : Inv X pins σ' H' { s' with heap := g3 } := J.landed nb fl3.1 (((up.trans up1).trans (Heap.UpToSlots.of_keeps kp)).trans up3) os ag
    obtain ⟨oe3, vs3, he3, hz3, hd3⟩ := fl3.there
    have S3 := J3.suite he3 hd3 na nL nF
    refine store_ok (X := X.suite a ((a, oe3) :: (X.pn ++ pins))) (v := .ref a) S3 nd hi (.inl hl) rfl (fun s5 S5 => ?_) (.inr hl)
    refine wpAny_mono ((hsu a oe3 cls d (X.pn ++ pins) hz3 ⟨_, hd3⟩).run [] s5 _ H' _ S5 (hyes a na)) (fun f s6 hsp => ?_) (fun _ _ z => z.elim)
    have fin : ∀ {σ6 : L2.St} {H6 : Hp} {Q : Shared → Prop}, Inv (X.suite a ((a, oe3) :: (X.pn ++ pins))) [] σ6 H6 s6 → (∀ s7, Inv X pins (σ6.set i none) H6 s7 → Q s7) → wpAny (model X.prog X.w) X.A (do bindName X.env n .none; unbindBehindTheSuite X.env n ep) (fun _ s7 => Q s7) X.xe s6 := fun S6 hq => gone_ok (S6.unsuite ok) nd hi hl hq
    cases f with
    | ret u =>
      obtain ⟨v6, σ6, H6, S6, r6, q6⟩ := hsp
      exact fin S6 fun s7 J7 => ⟨_, _, _, J7, r6, q6⟩
    | next =>
      obtain ⟨σ6, H6, S6, q6⟩ := hsp
      exact fin S6 fun s7 J7 => ⟨_, _, J7, q6⟩
    | brk =>
      obtain ⟨σ6, H6, S6, q6⟩ := hsp
      exact fin S6 fun s7 J7 => ⟨_, _, J7, q6⟩
    | cont =>
      obtain ⟨σ6, H6, S6, q6⟩ := hsp
      exact fin S6 fun s7 J7 => ⟨_, _, J7, q6⟩
  · cases fl with
    | ret u =>
      obtain ⟨v, σ', H', J', r, q⟩ := q
      exact ⟨v, σ', H', J'.ofTry ok, r, q⟩
    | next =>
      obtain ⟨σ', H', J', q⟩ := q
      exact wpAny_execs_nil ⟨σ', H', J'.ofTry ok, q⟩
    | brk =>
      obtain ⟨σ', H', J', q⟩ := q
      exact ⟨σ', H', J'.ofTry ok, q⟩
    | cont =>
      obtain ⟨σ', H', J', q⟩ := q
      exact ⟨σ', H', J'.ofTry ok, q⟩
end
end Dn

set_option Elab.async false
set_option linter.all false
set_option maxRecDepth 100000
set_option maxHeartbeats 4000000
namespace Dn
open PySem PySem.Spec PyProof.Rows L2
open PySem.W PySem.Calls PySem.HandSPX
/-! ### own exceptions with an __init__ of their own, over any of the built-in bases -/
/-- own classes, then what is built in -/
def OwnThen (tl l : List Value) : Prop := ∃ cs : List Addr, l = cs.map Value.ref ++ tl
section
variable {tl l : List Value}
theorem OwnThen.has (h : OwnThen tl l) (X : String) : l.contains (.type X) = tl.contains (.type X) := by
  obtain ⟨cs, rfl⟩ := h
  induction cs with
  | nil => rfl
  | cons c cs ih =>
    rw [List.map_cons, List.cons_append, List.contains_cons, ih]
    rfl
theorem OwnThen.ne (h : OwnThen tl l) (n : tl ≠ []) : l.isEmpty = false := by
  obtain ⟨cs, rfl⟩ := h
  cases cs with
  | nil =>
    cases tl with
    | nil => exact absurd rfl n
    | cons _ _ => rfl
  | cons _ _ => rfl
theorem OwnThen.pass (h : OwnThen tl l) (self : Value) (p : refuseLoop self "__setattr__" tl = pure ()) : refuseLoop self "__setattr__" l = pure () := by
  obtain ⟨cs, rfl⟩ := h
  induction cs with
  | nil => exact p
  | cons c cs ih =>
    rw [List.map_cons, List.cons_append, refuseLoop_ref]
    exact ih
theorem OwnThen.own {c : Addr} (h : OwnThen tl l) : OwnThen tl (.ref c :: l) := by
  obtain ⟨cs, rfl⟩ := h
  exact ⟨c :: cs, rfl⟩
end
/-- a built-in base -/
structure BaseX (B newId initId : String) (tl : List Value) : Prop where
  F : ExcBaseFacts B newId initId tl
  S : StoreFacts B tl "object.__setattr__" "object"
  ne : tl ≠ []
theorem base_value : BaseX "ValueError" "ValueError.__new__" "ValueError.__init__" [.type "ValueError", .type "Exception", .type "BaseException", .type "object"] := ⟨PySem.F.excBase_ValueError, PySem.F.store_ValueError, List.cons_ne_nil _ _⟩
section
variable {P : Program} {w : World} {A : Around} {E : Value → Shared → Prop} {R : Result → Shared → Prop} {hp : Heap} {gs : Array GenState} {dr : Drawn} {t : Nat} {os : OsState} {K : PySem.W.Frag} {B newId initId : String} {tl : List Value}
open Builtin Builtin.ObjectAttr
/-- the look-ups of a store in an exception's own dict -/
theorem osa_in {name : Str} {tk : Tok} {v : Value} {x C : Addr} {fv : Array Value} {od : Option Addr} {ob : Option Obj} {cd : ClassData} (b : BaseX B newId initId tl) (kin : K.In hp) (J : PySem.W.InstAt hp x { cls := .ref C, dict := od, data := .fields fv } C ob)
    (hcd : PySem.W.clsIn K C = some cd) (hm : OwnThen tl cd.mro) (free : PySem.W.findIn K (.ref C) name = some none)
    (rest : wpAny (model P w) A.in1 (storeInOwnDict (.ref x) (.ref C) (.str name tk) name v false) (fun f s' => match f with | .done f => R (.ok f) s' | .again _ => False) (fun e s' => R (.error e) s') ⟨hp, gs, dr, t, os⟩) :
    codeAny (model P w) A (.call (.builtin "object.__setattr__") ⟨[.ref x, .str name tk, v], []⟩) R ⟨hp, gs, dr, t, os⟩ := by
  have SO := PySem.F.store_object
  have obj : cd.mro.contains (.type "object") = true := (hm.has "object").trans b.S.hasOwner
  have isO : PySem.W.Looks (model P w) hp (isInstance (.ref x) (.type "object")) true := J.type.andThen (PySem.W.looks_mroIn kin (by unfold PySem.W.mroIn; rw [hcd, Option.bind_some, if_neg (by rw [hm.ne b.ne]; decide), obj]))
  have L1 : PySem.W.Looks (model P w) hp (mroOf (.ref C)) cd.mro := (PySem.W.looks_clsIn kin hcd).andThen .now
  have L2 : PySem.W.Looks (model P w) hp (storeTaker? none) none := .now
  refine codeAny_call_builtin SO.slot.plain SO.entry (@PySem.W.check_slot (model P w) _ _ ⟨hp, gs, dr, t, os⟩ "object.__setattr__" "object" "__setattr__" (.ref x) [.str name tk, v] [] _ SO.kind SO.split isO (SO.args (.ref x) (.str name tk) v) ?_)
  rw [PySem.W.osa_eq, refuse_eq]
  refine wpAny_bind (wpAny_bind (J.type.at (wpAny_bind (L1.at ?_))))
  rw [hm.pass _ (b.S.passes _)]
  refine wpAny_pure (wpAny_bind (J.type.at (wpAny_bind ((PySem.W.looks_findIn kin free).at (wpAny_bind (L2.at ?_))))))
  refine wpAny_mono rest (fun f s' h => ?_) fun _ _ z => z
  cases f with
  | done f => exact h
  | again c => exact h.elim
theorem osa_first {name : Str} {tk : Tok} {v : Value} {x C : Addr} {fv : Array Value} {cd : ClassData} (b : BaseX B newId initId tl) (kin : K.In hp) (hx : hp.get? x = some { cls := .ref C, data := .fields fv }) (hcd : PySem.W.clsIn K C = some cd) (hm : OwnThen tl cd.mro) (hh : cd.hasDict = true) (free : PySem.W.findIn K (.ref C) name = some none)
    (go : ∀ h' tk' dx, (∀ c o, c ≠ x → hp.get? c = some o → h'.get? c = some o) → hp.objs.size ≤ dx → dx ≠ x → h'.get? x = some { cls := .ref C, dict := some dx, data := .fields fv } → h'.Ns1 dx (fun y => if y = name then some v else none) → R (.ok (.ret .none)) ⟨h', gs, dr, tk', os⟩) :
    codeAny (model P w) A (.call (.builtin "object.__setattr__") ⟨[.ref x, .str name tk, v], []⟩) R ⟨hp, gs, dr, t, os⟩ := by
  have xs : x ≠ hp.objs.size := Nat.ne_of_lt (Heap.lt_size hx)
  refine osa_in b kin (od := none) (ob := none) ⟨hx, rfl, rfl, trivial⟩ hcd hm free ?_
  have lc : PySem.W.Looks (model P w) hp (classData C) cd := PySem.W.looks_clsIn kin hcd
  obtain ⟨c1, c2, c3, c4, c5, hd, c7, c8, c9, c10, c11⟩ := cd
  dsimp only at hh
  subst hh
  unfold storeInOwnDict ownDictForStores
  repeat (first | with_reducible refine store_in_new ?_ ?_ | with_reducible refine wpAny_loadPart_at hx ?_ | with_reducible refine lc.at ?_ | wp_step)
  · exact ⟨_, #[], _, (Heap.get?_update_ne _ _ _ _ xs.symm).trans (Heap.get?_push_at rfl rfl), rfl, fun e he => absurd he (by simp), fun _ => rfl⟩
  · intro h' tk' ns same
    have hx1 : (hp.push { cls := .type "dict", data := .dict #[] }).get? x = some { cls := .ref C, data := .fields fv } := Heap.get?_push_of_some _ hx
    exact go h' tk' hp.objs.size (fun c o hc ho => (same.2 c (Nat.ne_of_lt (Heap.lt_size ho))).trans ((Heap.get?_update_ne _ _ _ _ hc).trans (Heap.get?_push_of_some _ ho))) (Nat.le_refl _) xs.symm ((same.2 x xs).trans (Heap.get?_update_self _ hx1 rfl)) ns
theorem osa_next {name : Str} {tk : Tok} {v : Value} {x C dx : Addr} {fv : Array Value} {cd : ClassData} {m0 : Str → Option Value} {nl : List Str} (b : BaseX B newId initId tl) (kin : K.In hp) (hx : hp.get? x = some { cls := .ref C, dict := some dx, data := .fields fv }) (ns : hp.Ns1 dx m0) (hw : Within m0 nl) (hz : nl.length ≤ 1000)
    (hcd : PySem.W.clsIn K C = some cd) (hm : OwnThen tl cd.mro) (hh : cd.hasDict = true) (free : PySem.W.findIn K (.ref C) name = some none)
    (go : ∀ h' tk', (∀ c o, c ≠ dx → hp.get? c = some o → h'.get? c = some o) → h'.Ns1 dx (fun y => if y = name then some v else m0 y) → R (.ok (.ret .none)) ⟨h', gs, dr, tk', os⟩) :
    codeAny (model P w) A (.call (.builtin "object.__setattr__") ⟨[.ref x, .str name tk, v], []⟩) R ⟨hp, gs, dr, t, os⟩ := by
  obtain ⟨oD, esD, epD, ho, hd0, hc0⟩ := ns.count hw
  refine osa_in b kin (od := some dx) (ob := some oD) ⟨hx, rfl, rfl, ho⟩ hcd hm free ?_
  have lc : PySem.W.Looks (model P w) hp (classData C) cd := PySem.W.looks_clsIn kin hcd
  obtain ⟨c1, c2, c3, c4, c5, hd, c7, c8, c9, c10, c11⟩ := cd
  dsimp only at hh
  subst hh
  unfold storeInOwnDict ownDictForStores
  repeat (first | with_reducible refine PySem.OEX.store_in_old ns hw hz ?_ | with_reducible refine wpAny_loadPart_at hx ?_ | with_reducible refine lc.at ?_ | wp_step)
  intro h' tk' ns' same
  exact go h' tk' (fun c o hc ho => (same.2 c hc).trans ho) ns'
end
end Dn

set_option Elab.async false
set_option linter.all false
set_option maxRecDepth 100000
set_option maxHeartbeats 4000000
namespace Dn
open PySem PySem.Spec PyProof.Rows L2
open PySem.HandSPX (excO)
/-- what the written part says of an own exception class -/
structure OexG (K : PySem.W.Frag) (C : Addr) : Prop where
  cls : ∃ B newId initId tl nm q N bs bm sn sub ab col dd k0 k1 k2 k3 k5, BaseX B newId initId tl ∧ K.lookup C = some (excClassObj nm q C N bs bm true sn sub ab col dd k0 k1 k2 k3 k5 newId) ∧ OwnThen tl bm
  sa : PySem.W.findIn K (.ref C) "__setattr__" = some (some (.builtin "object.__setattr__"))
  exC : PySem.W.subIn K (.ref C) (.type "BaseException") = some true
  tyC : PySem.W.typeIn K (.ref C) = some (.type "type")
  kC : PySem.W.keepIn K (.ref C) = true
section
variable {X : Cx} {pins : List (Addr × Obj)} {σ : L2.St} {H : Hp} {s : Shared} {a C dx : Addr} {f : Str} {y : V} {u : Value} {fs : List (Str × V)} {Q : Unit → Shared → Prop} {E : Value → Shared → Prop} {A : Around}
theorem OexG.cd {K : PySem.W.Frag} (T : OexG K C) : ∃ B newId initId tl cd, BaseX B newId initId tl ∧ PySem.W.clsIn K C = some cd ∧ OwnThen tl cd.mro ∧ cd.hasDict = true := by
  obtain ⟨B, newId, initId, tl, nm, q, N, bs, bm, sn, sub, ab, col, dd, k0, k1, k2, k3, k5, hB, hC, hbm⟩ := T.cls
  exact ⟨B, newId, initId, tl, { name := nm, bases := bs, mro := .ref C :: bm, ns := N, qualname := q, hasDict := true, slotNames := sn, subclasses := sub, abstract := ab, collection := col, hasDel := false }, hB, by unfold PySem.W.clsIn; rw [hC] <;> rfl, hbm.own, rfl⟩
/-- the first field -/
theorem fst_field (T : OexG X.K C) (I : Inv X pins σ H s) (e : H a = some (exo a C none)) (free : PySem.W.findIn X.K (.ref C) f = some none) (ry : RelV y u)
    (go : ∀ dx s', H dx = none → dx ≠ a → Inv X pins σ (upd (upd H dx (exd dx [(f, y)])) a (exo a C (some dx))) s' → Q () s') : wpAny (model X.prog X.w) A (setAttr (.ref a) f u) Q E s := by
  obtain ⟨B, newId, initId, tl, cd, hB, hcd, hm, hh⟩ := T.cd
  obtain ⟨t1, ho⟩ := exo_at I.hok e
  obtain ⟨hp, gs, dr, t, os⟩ := s
  refine PySem.W.set_plain I.kIn (ox := { cls := .ref C, dict := none, data := .fields #[.ref t1, .none, .none, .none, .bool false, .none] }) (od := none) ⟨ho, rfl, rfl, trivial⟩ T.sa (osa_first hB I.kIn ho hcd hm hh free fun h' tk' dx keep lo ne hx ns => ?_)
  have fresh : H dx = none := I.hok.fresh lo
  have off : ∀ {c : Addr} {o : Obj}, hp.get? c = some o → c ≠ dx := fun q => Nat.ne_of_lt (Nat.lt_of_lt_of_le (Heap.lt_size q) lo)
  have offA : ∀ {c : Addr}, H c = none → c ≠ a := fun n z => by rw [z, e] at n; cases n
  let H2 := upd (upd H dx (exd dx [(f, y)])) a (exo a C (some dx))
  have same : ∀ {c : Addr} {o : HO}, c ≠ a → H c = some o → H2 c = some o := fun hc q => by
    show upd _ a _ _ = _
    rw [upd_ne hc, upd_ne (ne_of_none q fresh)]
    exact q
  refine go dx _ fresh ne (I.un (t' := tk') (H' := H2) { keep := fun c o q n _ _ => keep c o (offA n) q, slot := fun c o q n _ _ => ⟨o.slots, keep c o (offA n) q⟩, free := fun c o q n _ => ?_, there := fun c o q _ => ?_, tups := fun c xs q => same (at_ne e q exo_tup) q, frzs := fun c o v q => same (at_ne e q exo_frz) q, tbls := fun c ps q => ⟨#[], ?_⟩ } fun c o q => ?_)
  · show upd _ a _ c = none
    rw [upd_ne (offA n), upd_ne (off q)]
    exact n
  · by_cases hc : c = a
    · exact ⟨_, by rw [hc]; exact hx⟩
    · exact ⟨o, keep c o hc q⟩
  · rw [same (at_ne e q exo_tbl) q]
    simp
  · by_cases hc : c = a
    · subst hc
      rw [show H2 c = some (exo c C (some dx)) from upd_same] at q
      cases q
      exact exo_ok hx
    · rw [show H2 c = upd H dx (exd dx [(f, y)]) c from upd_ne hc] at q
      by_cases hd : c = dx
      · subst hd
        rw [upd_same] at q
        cases q
        exact exd_ok ns (relO_put (fs := []) ry fun g => True.intro)
      · rw [upd_ne hd] at q
        refine (I.hok c o q).stay (fun b v hb z => keep b v ?_ z) (fun b hb => same (at_ne e hb exo_own) hb) fun b xs hb => same (at_ne e hb exo_tup) hb
        rcases hb with hb | hb
        · rw [hb]; exact hc
        · exact at_ne e hb exo_own
/-- a further field -/
theorem nxt_field (T : OexG X.K C) (I : Inv X pins σ H s) (e : H a = some (exo a C (some dx))) (ed : H dx = some (exd dx fs)) (hl : fs.length ≤ 900) (free : PySem.W.findIn X.K (.ref C) f = some none) (ry : RelV y u)
    (go : ∀ s', Inv X pins σ (upd H dx (exd dx ((f, y) :: fs))) s' → Q () s') : wpAny (model X.prog X.w) A (setAttr (.ref a) f u) Q E s := by
  obtain ⟨B, newId, initId, tl, cd, hB, hcd, hm, hh⟩ := T.cd
  obtain ⟨t1, ho⟩ := exo_at I.hok e
  obtain ⟨mA, ns, rel⟩ := exd_at I.hok ed
  have hw := within_of rel
  obtain ⟨hp, gs, dr, t, os⟩ := s
  obtain ⟨oD, _, _, hoD, _, _⟩ := ns.count hw
  refine PySem.W.set_plain I.kIn (ox := { cls := .ref C, dict := some dx, data := .fields #[.ref t1, .none, .none, .none, .bool false, .none] }) (od := some oD) ⟨ho, rfl, rfl, hoD⟩ T.sa (osa_next hB I.kIn ho ns hw (by rw [List.length_map]; omega) hcd hm hh free fun h' tk' keep ns' => ?_)
  have there : ∃ o, h'.get? dx = some o := by
    obtain ⟨o, _, _, e', _⟩ := ns'
    exact ⟨o, e'⟩
  exact go _ (I.write (t' := tk') (x := dx) (e := dx) (o := exd dx ((f, y) :: fs)) (by rw [ed]; exact True.intro) (.inl rfl) keep there (exd_ok ns' (relO_put ry rel)))
end
/-- self.f = e within the __init__ -/
def tFld (K : PySem.W.Frag) (f : Str) (to te : TE) : TS := fun D σ H => te σ H fun y H1 => to σ H1 fun x H2 => ∃ a C : Addr, x = .ref a ∧ OexG K C ∧ PySem.W.findIn K (.ref C) f = some none ∧
  ((H2 a = some (exo a C none) ∧ ∀ dx, H2 dx = none → dx ≠ a → D.nx σ (upd (upd H2 dx (exd dx [(f, y)])) a (exo a C (some dx)))) ∨
    ∃ (dx : Addr) (fs : List (Str × V)), H2 a = some (exo a C (some dx)) ∧ H2 dx = some (exd dx fs) ∧ fs.length ≤ 900 ∧ D.nx σ (upd H2 dx (exd dx ((f, y) :: fs))))
section
variable {X : Cx} {o e : Expr} {es : List Expr} {to te : TE} {ta : TA} {f : Str} {p p' pos : Pos}
theorem ps_fld (ho : PE X o to) (he : PE X e te) (hs : swapsWith e (some (.Attribute o f p')) pos.line X.env = pure false := by rfl) : PS X (.Assign [.Attribute o f p'] e pos) (tFld X.K f to te) := by
  refine ⟨fun pins s σ H D I h => ?_⟩
  refine plainObj_wpAny_Assign_Attribute (thn (he.run pins s σ H _ I h) fun v s1 ⟨y, H1, I1, r1, q1⟩ => thn (ho.run pins s1 σ H1 _ I1 q1) fun u s2 ⟨x, H2, I2, r2, q⟩ => ?_) hs
  obtain ⟨a, C, ex, T, free, q⟩ := q
  subst ex
  obtain rfl : u = Value.ref a := r2
  rcases q with ⟨ea, q⟩ | ⟨dx, fs, ea, ed, hl, q⟩
  · exact fst_field T I2 ea free r1 fun dx s' n ne J => ⟨σ, _, J, q dx n ne⟩
  · exact nxt_field T I2 ea ed hl free r1 fun s' J => ⟨σ, _, J, q⟩
/-- C(e, ..) -/
theorem pmk_own_init {CX : CXT} {x : Str} {C fI : Addr} {k : Nat} {fd : FuncData} {ps : List Str} {sp : Sp} (T : OexG X.K C) (iC : PySem.W.findIn X.K (.ref C) "__init__" = some (some (.ref fI))) (tI : PySem.W.typeIn X.K (.ref fI) = some (.type "function"))
    (F1 : FnOk X.prog X.w X.K X.mg X.base CX k fI fd ps sp) (hr : Room (k + 1) X.A) (hb : Binds X.K fd ps []) (hx : Passes CX X (fun _ _ _ => False)) (hg : Gl X x) (hm : X.mg x = some (.ref C)) (ha : PA X (e :: es) ta)
    (hdb : (x == ("__debug__" : Str)) = false := by decide) (he : starEach (e :: es) X.env = (false, eval e X.env) :: starEach es X.env := by rfl) (hpl : (backTo pos (starEach es X.env)).any (·.1) = false := by rfl) :
    PMk X (.Call (.Name x p) (e :: es) [] pos) (tMkO C sp [] ta) := by
  intro pins s σ H Q I h
  obtain ⟨B, newId, initId, tl, nm, q, N, bs, bm, sn, sub, ab, col, dd, k0, k1, k2, k3, k5, hB, hC, hbm⟩ := T.cls
  refine wpAny_Call_Name_kw (ld_glob I hg hm (PySem.W.callWith_K (h₀ := X.base) I.ok.mod.kin T.kC (thn (ha.run pos pins s σ H _ I h) fun us s1 ⟨vs, H1, I1, r1, q1⟩ => ⟨I1.kIn, ?_⟩) he hpl) hdb)
  obtain ⟨hz, q1⟩ := q1
  show wpAny _ _ (call (.ref C) us) _ _ _
  obtain ⟨hp, gs, dr, tk, os⟩ := s1
  have hsz : hp.objs.size ≤ hp.objs.size + 1 := Nat.le_succ _
  have hn : H1 (hp.objs.size + 1) = none := I1.hok.fresh hsz
  have hq := q1 (hp.objs.size + 1) hn
  rw [List.append_nil] at hq
  have keep : ∀ b o, hp.get? b = some o → ((hp.push (PySem.W.kdv_tup us)).push (excO C hp.objs.size)).get? b = some o := fun b o e => Heap.get?_push_of_some _ (Heap.get?_push_of_some _ e)
  have here : ((hp.push (PySem.W.kdv_tup us)).push (excO C hp.objs.size)).get? (hp.objs.size + 1) = some (excO C hp.objs.size) := by heap_get
  have I2 : Inv X pins σ (upd H1 (hp.objs.size + 1) (exo (hp.objs.size + 1) C none)) ⟨(hp.push (PySem.W.kdv_tup us)).push (excO C hp.objs.size), gs, dr, tk, os⟩ := I1.laid (t' := tk) keep hsz (exo_ok here)
  have r2 : Vals (V.ref (hp.objs.size + 1) :: vs) (Value.ref (hp.objs.size + 1) :: us) := .cons rfl r1
  have hl : (Value.ref (hp.objs.size + 1) :: us).length = ps.length := by rw [← r2.length]; exact F1.len _ _ _ _ hq
  have hus : us.length ≤ sizeLine := by rw [← Paired.length r1, sizeLine_eq]; omega
  have bd := hb _ (Value.ref (hp.objs.size + 1) :: us) I2.kIn (by rw [List.append_nil]; exact hl)
  rw [List.append_nil] at bd
  refine wpAny_call (PySem.HandSPX.call_own hB.F (fun Y => hbm.has Y) (I1.kIn _ _ hC) (PySem.W.looks_findIn I1.kIn iC) (fun self => PySem.W.bind_fn I1.kIn self tI) hus
    (codeAny_mono (F1.run _ X.stack _ _ ⟨Value.ref (hp.objs.size + 1) :: us, []⟩ (Value.ref (hp.objs.size + 1) :: us) _ _ (fun _ _ _ => False) (hr.make C us []) (I2.env0.make C us []) bd r2 hq) fun r s' z => ?_))
  cases r with
  | error er => exact hx pins σ _ _ er s' I2 z
  | ok fl =>
    cases fl with
    | ret u =>
      obtain ⟨v, H2, os2, bare2, un2, hok2, rv, ev, d, fs, ea, ed, hd1, q2⟩ := z
      subst ev
      obtain ⟨h2, g2, d2, t2, os'⟩ := s'
      exact ⟨rv, mk_end (raises_own T.exC T.tyC) I1 hsz keep un2 hok2 os2 bare2 ea ed hd1 q2⟩
    | next => exact False.elim z
    | brk => exact False.elim z
    | cont => exact False.elim z
end
/-! ### the __init__ of an error class: its fields, then its code -/
/-- at a: the fields stored one after the other, the first one last -/
def spI (C : Addr) (n : Nat) (names : List Str) (code : Str) : Sp := fun vs H Q _ => ∃ (a : Addr) (us : List V), vs = .ref a :: us ∧ us.length = n ∧ H a = some (exo a C none) ∧
  ∀ d, H d = none → d ≠ a → ∀ H', H' a = some (exo a C (some d)) → H' d = some (exd d (("code", .str code) :: (names.zip us).reverse)) → (∀ b, b ≠ a → b ≠ d → H' b = H b) → Q .non H'
section
variable {P : Program} {w : World} {K : PySem.W.Frag} {mg : Str → Option Value} {base : Heap} {C : Addr}
theorem fn_init1 {qual : Str} {st : Stmt} {f : Addr} {fd : FuncData} {v fn : Str} {c : Str} (G : L2.Fun K "__init__" qual st f fd) (S : FnScope ["self", v] ["self", v] (defScope st)) (T : OexG K C) (n1 : PySem.W.findIn K (.ref C) fn = some none) (n2 : PySem.W.findIn K (.ref C) "code" = some none)
    (hb : ∀ (cdv : Value) (A : Around) (outer : List Env) (s : Shared) (H : Hp) (E : XK), PSs (cxOf (L2.CX P w) P w K mg base ["self", v] qual (defScope st) f cdv A outer s H E) (defBody st) (tSeq (tFld K fn (tVar 0) (tVar 1)) (tFld K "code" (tVar 0) (tC (.str c))))) :
    FnOk P w K mg base (L2.CX P w) 1 f fd ["self", v] (spI C 1 [fn] c) := by
  refine G.okX S (fun vs H Q E h => ?_) fun cdv A outer s H vs Q E hr h => ?_
  · obtain ⟨a, us, rfl, hl, _⟩ := h
    rw [List.length_cons, hl]; rfl
  · obtain ⟨a, us, rfl, hl, ea, go⟩ := h
    match us, hl with
    | [y], _ =>
      refine ⟨_, hb cdv A outer s H E, ?_⟩
      refine ⟨y, rfl, .ref a, rfl, a, C, rfl, T, n1, .inl ⟨ea, fun d nd ne => ?_⟩⟩
      have ead : upd (upd H d (exd d [(fn, y)])) a (exo a C (some d)) d = some (exd d [(fn, y)]) := by rw [upd_ne ne, upd_same]
      refine ⟨.ref a, rfl, a, C, rfl, T, n2, .inr ⟨d, [(fn, y)], upd_same, ead, by simp, ?_⟩⟩
      refine go d nd ne _ (by rw [upd_ne (Ne.symm ne), upd_same]) upd_same fun b h1 h2 => by rw [upd_ne h2, upd_ne h1, upd_ne h2]
end
end Dn

set_option Elab.async false
set_option linter.all false
set_option maxRecDepth 100000
set_option maxHeartbeats 4000000
namespace Dn
open PySem PySem.Spec PyProof.Rows L2
/-! ### raise C(e, ..), C an own class whose __init__ stores its values, then its code -/
theorem Rps.rev {K : PySem.W.Frag} {W : Wd} {H : Hp} : ∀ {vs : List V} {ds : List D}, Rps K W H vs ds → Rps K W H vs.reverse ds.reverse
  | _, _, .nil => .nil
  | _, _, .cons a t => by
    rw [List.reverse_cons, List.reverse_cons]
    exact (Rps.rev t).append (.cons a .nil)
def raiseP (C : Addr) (names : List Str) (code : Str) (tr : ADen) : SDen := fun Δ st => bd (tr Δ st) fun ds st1 => if ds.length = names.length then some (.error (C, "code" :: names.reverse, .str code :: ds.reverse), st1) else none
section
variable {X : Cx} {E : XK} {e : Expr} {es : List Expr} {tr : ADen} {pos pos' p : Pos} {x : Str} {C fI : Addr} {k : Nat} {fd : FuncData} {ps names : List Str} {code : Str}
theorem tSD_raise {D : Ends} {σ : L2.St} {H : Hp} (hn : names.length ≤ 1000) (h : tSD X.K E (raiseP C names code tr) D σ H) :
    tMkO C (spI C names.length names code) [] (tAD X.K E tr) σ H (fun cls d H' => E cls d H') := by
  obtain ⟨W, st0, h⟩ := h
  refine ⟨W, st0, (h.seq (k := fun ds _ st1 => if ds.length = names.length then some (.error (C, "code" :: names.reverse, .str code :: ds.reverse), st1) else none)).mono fun ds st1 W1 H1 e1 i1 q vs rs => ?_⟩
  obtain ⟨Δ, r, st', L, I, e, w⟩ := q.2
  simp only at e
  split at e
  · rename_i hl
    cases e
    have hv : vs.length = names.length := by rw [rs.length]; exact hl
    refine ⟨by omega, fun a na => ⟨a, vs ++ [], rfl, by rw [List.append_nil]; exact hv, upd_same, fun d nd hne H' h1 h2 h3 => ⟨rfl, d, _, h1, h2, ?_, ?_⟩⟩⟩
    · rw [upd_ne hne] at nd
      exact nd
    · rw [upd_ne hne] at nd
      rw [List.append_nil]
      have sm : Same H1 (upd (del H' a) d (.xd (("code", .str code) :: (names.zip vs).reverse))) := fun b u hb => by
        have b1 : b ≠ d := fun z => by rw [z, nd] at hb; cases hb
        have b2 : b ≠ a := fun z => by rw [z, na] at hb; cases hb
        rw [upd_ne b1, del_ne b2, h3 b b2 b1, upd_ne b2]
        exact hb
      refine w W1 d _ (Le.of sm) (i1.same sm) ⟨not_n i1 nd, _, upd_same, ?_, ?_⟩
      · rw [List.map_cons, List.map_reverse, List.map_fst_zip (by omega)]
      · rw [List.map_cons, List.map_reverse, List.map_snd_zip (by omega)]
        exact .cons (.str code) ((rs.to (Le.of sm)).rev)
  · cases e
theorem ds_raise (T : OexG X.K C) (iC : PySem.W.findIn X.K (.ref C) "__init__" = some (some (.ref fI))) (tI : PySem.W.typeIn X.K (.ref fI) = some (.type "function"))
    (F1 : FnOk X.prog X.w X.K X.mg X.base (L2.CX X.prog X.w) k fI fd ps (spI C names.length names code)) (hr : Room (k + 1) X.A) (hb : Binds X.K fd ps []) (hx : Passes (L2.CX X.prog X.w) X (fun _ _ _ => False)) (hc : X.calm = true) (tk : Takes X (fun cls d _ H' => E cls d H'))
    (hm : X.mg x = some (.ref C)) (ha : PA X (e :: es) (tAD X.K E tr)) (hg : Gl X x := by rfl) (hn : names.length ≤ 1000 := by decide)
    (hdb : (x == ("__debug__" : Str)) = false := by decide) (he : starEach (e :: es) X.env = (false, eval e X.env) :: starEach es X.env := by rfl) (hpl : (backTo pos (starEach es X.env)).any (·.1) = false := by rfl) :
    PS X (.Raise (some (.Call (.Name x p) (e :: es) [] pos)) none pos') (tSD X.K E (raiseP C names code tr)) :=
  imS (ps_raise hc tk (pmk_own_init T iC tI F1 hr hb hx hg hm ha hdb he hpl)) fun D σ H h => tSD_raise hn h
end
end Dn

set_option Elab.async false
set_option linter.all false
set_option maxRecDepth 100000
set_option maxHeartbeats 4000000
namespace Dn
open PySem PySem.Spec PyProof.Rows L2
/-! ### err.f, err the exception that is handled: its object is pinned, its dict is known -/
def xfldP (a dx : Addr) (f : Str) (te : EDen) : EDen := fun Δ st => bd (te Δ st) fun d st1 => match d with
  | .xcp a' dx' ns ds => if a' = a ∧ dx' = dx then (lkD f ns ds).map fun r => (.ok r, st1) else none
  | _ => none
structure PinX (cs : List Addr) (p : Addr × Obj) (dx : Addr) : Prop where
  cls : ∃ C ∈ cs, p.2.cls = .ref C
  dict : p.2.dict = some dx
  data : ∃ vs, p.2.data = .fields vs
/-- the classes cs: fields of the names fs are read plainly -/
structure XClss (K : PySem.W.Frag) (cs : List Addr) (fs : List Str) : Prop where
  xf : ∀ C ∈ cs, XfC K C
  no : ∀ C ∈ cs, ∀ f ∈ fs, PySem.W.findIn K (.ref C) f = some none
theorem de_xfld {X : Cx} {E : XK} {p : Addr × Obj} {dx : Addr} {cs : List Addr} {fs : List Str} {f : Str} {e : Expr} {te : EDen} {pos : Pos} (hp : p ∈ X.pn) (hx : PinX cs p dx) (T : XClss X.K cs fs) (hf : f ∈ fs) (he : PE X e (tD X.K E te))
    (hb : attributeBase e f X.env (eval e X.env) = eval e X.env := by rfl) : PE X (.Attribute e f pos) (tD X.K E (xfldP p.1 dx f te)) := by
  refine ⟨fun pins s σ H Q I h => ?_⟩
  obtain ⟨W, st0, h⟩ := h
  have h2 : tD X.K E te σ H fun x H1 => x = .ref p.1 ∧ ∃ (gs : List (Str × V)) (v : V), H1 dx = some (.xd gs) ∧ gs.lookup f = some v ∧ Q v H1 := by
    refine ⟨W, st0, h.seq.mono fun d st1 W1 H1 e1 i1 q v rv => ?_⟩
    obtain ⟨Δ, r, st', L, J, e, w⟩ := q.2
    simp only at e
    split at e
    · rename_i a' dx' ns ds
      split at e
      · rename_i hc
        obtain ⟨rfl, rfl⟩ := hc
        cases rv with
        | xcp n1 n2 n3 n4 =>
          rename_i gs
          cases hl : lkD f ns ds with
          | none => rw [hl] at e; cases e
          | some d' =>
            rw [hl] at e
            cases e
            obtain ⟨v, g1, g2⟩ := lk_of n3 n4 hl
            exact ⟨rfl, gs, v, n2, g1, w W1 H1 (Le.refl _ _) J v g2⟩
      · cases e
    · cases e
  refine attr_of hb (thn (he.run pins s σ H _ I h2) fun u s1 hh => ?_)
  obtain ⟨x, H1, I1, rx, ex, gs, v, ea, l, q⟩ := hh
  subst ex
  obtain rfl : u = Value.ref p.1 := rx
  have ha := (I1.pin p (List.mem_append_left _ hp)).1
  obtain ⟨C, hC, ec⟩ := hx.cls
  obtain ⟨us, hd⟩ := hx.data
  have ok : ObjOk X.prog X.w H1 s1.heap dx (.xd gs) := I1.hok dx _ ea
  obtain ⟨mA, ns, rel⟩ := ok
  obtain ⟨od, ho, hl⟩ := lookIn_ns ns
  obtain ⟨u, hu, ru⟩ := RelO.some_of (v := v) (o := mA f) (by rw [← l]; exact rel f)
  have at_ : PySem.W.InstAt s1.heap p.1 p.2 C (some od) := ⟨ha, ec, by unfold PySem.W.notCls; rw [hd] <;> rfl, by rw [hx.dict]; exact ho⟩
  have X1 := T.xf C hC
  exact HandSPX.exc_get I1.kIn at_ X1.ga X1.gg X1.exC (PySem.W.findObj_own X1.hdC (T.no C hC f hf) rfl (by rw [hl, hu])) (handed_of ru) ⟨v, H1, I1.tok _, ru, q⟩

/-! ### a def that gets the handled exception -/
abbrev noX : XK := fun _ _ _ => False
/-- room for it -/
structure Rm (k : Nat) (A : Around) : Prop where
  depth : A.depth < recursionLimit
  un : A.units + k + 64 < cLine
structure Ru (A : Around) : Prop where
  units : A.units + 64 < cLine
theorem Rm.of {k : Nat} {A : Around} (r : Room k A) : Rm 100 A := ⟨r.depth, by have := r.un; omega⟩
structure FnX (P : Program) (w : World) (K : PySem.W.Frag) (mg : Str → Option Value) (base : Heap) (cs : List Addr) (f : Addr) (fd : FuncData) (ps : List Str) (F : Addr → Addr → FDen) : Prop where
  run : ∀ (A : Around) (outer : List Env) (s : Shared) (H : Hp) (args : Args) (us : List Value) (vs : List V) (Q : VK) (p : Addr × Obj) (dx : Addr), Rm 100 A → L2H.PinOk outer H s p → PinX cs p dx → Env0 P w K mg base A outer s H →
    BindsTo s fd args (ps.zip us) → Vals vs us → vs.length = ps.length → spF K (F p.1 dx) vs H Q noX → codeAny (model P w) A (.call (.ref f) args) (CR (L2.CX P w) outer P w H s Q noX) s
section
variable {P : Program} {w : World} {K : PySem.W.Frag} {mg : Str → Option Value} {base : Heap}
theorem fn_denX {cs : List Addr} {x qual : Str} {st : Stmt} {f : Addr} {fd : FuncData} {N ps : List Str} {F : Addr → Addr → FDen} (τ : Addr → Addr → SDen) (G : L2.Fun K x qual st f fd) (S : FnScope N ps (defScope st))
    (hden : ∀ a dx ds st q, F a dx ds st = some q → runD (τ a dx) N.length ds st = some q)
    (hbody : ∀ (cdv : Value) (A : Around) (outer : List Env) (s : Shared) (H : Hp) (p : Addr × Obj) (dx : Addr), Ru (A.deeper (envOfC qual (defScope st) s.heap.objs.size f cdv)) → PinX cs p dx →
      PSs (L2H.cxH (L2.CX P w) P w K mg base N qual (defScope st) f cdv A outer s H noX p) (defBody st) (tSD K noX (τ p.1 dx))) : FnX P w K mg base cs f fd ps F := by
  obtain ⟨oc, od, kV, doc, pm, an, cdv, ct, osl, rfl, lk, hcd⟩ := G.ex
  refine ⟨fun A outer s H args us vs Q p dx dep pin px e0 hb r hl hsp => ?_⟩
  obtain ⟨W, ds, st0, rr, st1, rs, iv, eF, wn⟩ := hsp
  have kin : K.In s.heap := e0.mod.kin.keeps fun b o e => (e0.bs b o e).1
  have lim : s.heap.NoLimit := e0.mod.nolimit.keeps fun b o e => (e0.bs b o e).1
  have kinds : ∀ y ∈ ps.zip us, (defScope st).names.lookup y.1 = some .local ∨ ((defScope st).names.lookup y.1 = some .cell ∧ ((cellsFrom (s.heap.objs.size + 1) (defScope st).names []).lookup y.1).isSome = true) := fun ⟨n, v⟩ hy =>
    (S.par n (List.of_mem_zip hy).1).imp (fun q => q) fun q => ⟨q, PySem.W.cellsFrom_some _ _ _ (.inl q)⟩
  have q0 := hden p.1 dx ds st0 _ eF
  unfold runD at q0
  cases hm : τ p.1 dx (ds.map some ++ List.replicate (N.length - ds.length) none) st0 with
  | none => rw [hm] at q0; cases q0
  | some z =>
    obtain ⟨ro, st2⟩ := z
    rw [hm] at q0
    simp only [Option.bind] at q0
    have start : tSD K noX (τ p.1 dx) { nx := fun _ H' => Q .non H', rt := Q } (L2.start N vs) H := by
      refine ⟨W, st0, _, ro, st2, start_loc rs N, iv, hm, ?_⟩
      cases ro with
      | error z =>
        simp only [outR, Option.map] at q0
        cases q0
        exact wn
      | ok o =>
        cases o with
        | rt d =>
          simp only [outR, Option.map] at q0
          cases q0
          exact wn
        | nx Δ =>
          simp only [outR, Option.map] at q0
          cases q0
          exact fun W' H' e i σ' _ => wn W' H' e i .non .non
        | bk Δ => simp only [outR, Option.map] at q0; cases q0
        | ct Δ => simp only [outR, Option.map] at q0; cases q0
    refine codeAny_call_function dep.depth (kin _ _ lk) rfl S.co S.gen rfl (PySem.W.codeRec_of kin hcd) (hb _ _ _ _ ?_)
    refine wpAny_newFunctionEnv_cells S.kind kinds fun env he s1 x => ?_
    subst he
    refine ⟨lim.keeps x.toInCall.keep, codeAny_func ?_⟩
    have hr2 : Ru (A.deeper (envOfC qual (defScope st) s.heap.objs.size f cdv)) := ⟨by have := dep.un; show A.units + 3 + 64 < _; omega⟩
    have I := L2H.inv_startH (CX := L2.CX P w) (P := P) (w := w) (K := K) (mg := mg) (base := base) (E := noX) S pin e0 hl r x
    refine wpAny_mono ((hbody cdv A outer s H p dx hr2 px).run [] s1 _ H _ I start) (fun fl s' hs => ?_) fun e s' hs => hs
    cases fl with
    | ret u =>
      obtain ⟨v, σ', H', J, rv, q⟩ := hs
      exact ⟨v, H', J.os, J.bare, J.base, J.hok, rv, q⟩
    | next =>
      obtain ⟨σ', H', J, q⟩ := hs
      exact ⟨.non, H', J.os, J.bare, J.base, J.hok, rfl, q⟩
    | brk =>
      obtain ⟨_, _, _, q⟩ := hs
      exact q.elim
    | cont =>
      obtain ⟨_, _, _, q⟩ := hs
      exact q.elim
end
/-- f(e, ..) there -/
def callokP (F : FDen) (tr : ADen) : EDen := fun Δ st => bd (tr Δ st) fun ds st1 => match F ds st1 with
  | some (.ok r, st2) => some (.ok r, st2)
  | _ => none
section
variable {X : Cx} {E : XK} {a : Expr} {es : List Expr} {tr : ADen} {pos q : Pos} {x : Str} {f : Addr} {fd : FuncData} {ps : List Str} {F : Addr → Addr → FDen} {cs : List Addr} {p : Addr × Obj} {dx : Addr}
theorem de_callX (G : FnX X.prog X.w X.K X.mg X.base cs f fd ps F) (dep : Rm 100 X.A) (hp : p ∈ X.pn) (px : PinX cs p dx) (hm : X.mg x = some (.ref f)) (hk : PySem.W.keepIn X.K (.ref f) = true) (hb : Binds X.K fd ps []) (hF : ∀ ds st r, F p.1 dx ds st = some r → ds.length = ps.length)
    (ha : PA X (a :: es) (tAD X.K E tr)) (hg : Gl X x := by rfl) (hdb : (x == ("__debug__" : Str)) = false := by decide) (he : starEach (a :: es) X.env = (false, eval a X.env) :: starEach es X.env := by rfl)
    (hpl : (backTo pos (starEach es X.env)).any (·.1) = false := by rfl) : PE X (.Call (.Name x q) (a :: es) [] pos) (tD X.K E (callokP (F p.1 dx) tr)) := by
  refine ⟨fun pins s σ H Q I h => ?_⟩
  obtain ⟨W, st0, h⟩ := h
  have h2 : tAD X.K E tr σ H fun vs H1 => vs.length = ps.length ∧ spF X.K (F p.1 dx) vs H1 Q noX := by
    refine ⟨W, st0, h.seq.mono fun ds st1 W1 H1 e1 i1 q vs rs => ?_⟩
    obtain ⟨Δ, r, st', L, J, e, w⟩ := q.2
    simp only at e
    split at e
    · rename_i r2 st2 eF
      cases e
      exact ⟨by rw [rs.length]; exact hF ds st1 _ eF, W1, ds, st1, _, _, rs, J, eF, w⟩
    · cases e
  refine wpAny_Call_Name_kw (ld_glob I hg hm (PySem.W.callWith_K (h₀ := X.base) I.ok.mod.kin hk (thn (ha.run pos pins s σ H _ I h2) fun us s1 ⟨vs, H1, I1, r1, hl, q1⟩ => ⟨I1.kIn, ?_⟩) he hpl) hdb)
  have P1 := I1.pin p (List.mem_append_left _ hp)
  have pin : L2H.PinOk X.stack H1 s1 p := ⟨P1.1, P1.2.1, fun hm => (List.mem_cons.mp (I1.stkSub p.1 hm)).elim P1.2.2.1 P1.2.2.2.1, P1.2.2.2.2⟩
  have bd := hb s1 us I1.kIn (by rw [List.append_nil, ← r1.length]; exact hl)
  rw [List.append_nil] at bd
  refine wpAny_call (codeAny_mono (G.run X.A X.stack s1 H1 ⟨us, []⟩ us vs Q p dx dep pin px I1.env0 bd r1 hl q1) fun r s' hq => ?_)
  cases r with
  | error e =>
    obtain ⟨_, _, _, _, _, _, _, _, _, _, _, _, z⟩ := hq
    exact z.elim
  | ok fl =>
    cases fl with
    | ret u => exact I1.after hq
    | next => exact False.elim hq
    | brk => exact False.elim hq
    | cont => exact False.elim hq
end
end Dn

set_option Elab.async false
set_option linter.all false
set_option maxRecDepth 100000
set_option maxHeartbeats 4000000
namespace Dn
open PySem PySem.Spec PyProof.Rows L2
/-! ### lambdas without parameters, or with one that has a default, as values -/
def lamFd (q : Str) (params : Arguments) (body : Expr) (scope : Scope) (cl : List (Str × Addr)) (dV pm cv ctv : Value) : FuncData := { PySem.W.kla_fn "<lambda>" q params body scope cl pm cv ctv with defaults := dV }
def lamObj (q : Str) (params : Arguments) (body : Expr) (scope : Scope) (cl : List (Str × Addr)) (dV pm cv ctv : Value) : Obj := { cls := .type "function", data := .func (lamFd q params body scope cl dV pm cv ctv) }
/-- at a: the function object of the lambda; its code object at c; b: its default's tuple at t -/
def LamO (cl : List (Str × Addr)) (q : Str) (params : Arguments) (body : Expr) (scope : Scope) (b : Bool) (a c t : Addr) : HO :=
  .ext fun h => ∃ pm ctv, h.get? a = some (lamObj q params body scope cl (if b = true then .ref t else .none) pm (.ref c) ctv)
theorem lamO_ok {P : Program} {w : World} {H : Hp} {h : Heap} {cl : List (Str × Addr)} {q : Str} {params : Arguments} {body : Expr} {scope : Scope} {b : Bool} {a c t : Addr} {pm ctv : Value} (e : h.get? a = some (lamObj q params body scope cl (if b = true then .ref t else .none) pm (.ref c) ctv)) :
    ObjOk P w H h a (LamO cl q params body scope b a c t) :=
  ⟨⟨pm, ctv, e⟩, ⟨_, e⟩, fun h1 h2 ⟨p1, p2, z⟩ k => ⟨p1, p2, k _ z⟩⟩
theorem lamO_at {P : Program} {w : World} {H : Hp} {h : Heap} {cl : List (Str × Addr)} {q : Str} {params : Arguments} {body : Expr} {scope : Scope} {b : Bool} {a c t : Addr} (ok : HOk P w H h) (e : H a = some (LamO cl q params body scope b a c t)) :
    ∃ pm ctv, h.get? a = some (lamObj q params body scope cl (if b = true then .ref t else .none) pm (.ref c) ctv) := by
  have x : ObjOk P w H h a (.ext fun h => ∃ pm ctv, h.get? a = some (lamObj q params body scope cl (if b = true then .ref t else .none) pm (.ref c) ctv)) := ok a _ e
  exact x.1
theorem codeO_at {P : Program} {w : World} {H : Hp} {h : Heap} {c : Addr} {q : Str} (ok : HOk P w H h) (e : H c = some (LamX.CodeO c q)) : h.CodeRec (.ref c) q := by
  have x : ObjOk P w H h c (.ext fun h => ∃ (oc : Obj) (vs : Array Value) (t : Tok), h.get? c = some oc ∧ oc.data = .fields vs ∧ vs[1]? = some (.str q t)) := ok c _ e
  obtain ⟨oc, vs, t, h1, h2, h3⟩ := x.1
  exact ⟨c, oc, vs, t, rfl, h1, h2, h3⟩
/-- the codes that the table tells -/
def TabOk (H : Hp) (N : Addr → Prop) (q : Str) (ps : Array Value) : Prop := TriplesOk ps.toList ∧ ∀ (pos : Pos) (cv : Value), codeAmong pos ps.toList = some cv → ∃ c, cv = .ref c ∧ ¬ N c ∧ H c = some (LamX.CodeO c q)
/-- the end of a lambda's making -/
theorem tail_at {M : Model} {A : Around} {E : Value → Shared → Prop} {s : Shared} {qual : Str} {params : Arguments} {body : Expr} {scope : Scope} {env : Env} {c P : Addr} {ps : Array Value} {pos : Pos} {mg : Str → Option Value} {clos : List (Str × Addr)} {Q : Value → Shared → Prop} (dV : Value)
    (hcl : closureFor scope env = pure clos) (hge : env.globals = mainGlobals) (hg : s.heap.Ns mainGlobals mg) (hcode : env.code = .ref c) (HC : PySem.W.CodeHd s.heap c P) (hP : s.heap.get? P = some { cls := .none, data := .fields ps }) (ht : TriplesOk ps.toList) (gP : mainGlobals ≠ P) (hb : s.heap.BuiltinsAt mg P)
    (hit : ∀ cv, codeAmong pos ps.toList = some cv → ∀ (ctv : Value) (g : Heap) (tk : Tok), (∀ b o, s.heap.get? b = some o → g.get? b = some o) → s.heap.objs.size ≤ g.objs.size →
      Q (.ref g.objs.size) { s with heap := g.push (lamObj qual params body scope clos dV ((mg "__name__").getD .none) cv ctv), toks := tk })
    (miss : codeAmong pos ps.toList = none → ∀ (c' : Addr) (ctv : Value) (g : Heap) (tk : Tok), (∀ b o, b ≠ P → s.heap.get? b = some o → g.get? b = some o) → s.heap.objs.size ≤ c' → c' < g.objs.size → g.CodeRec (.ref c') qual →
      g.get? P = some { cls := .none, data := .fields (ps ++ #[rawInt pos.line, rawInt pos.col, .ref c']) } → Q (.ref g.objs.size) { s with heap := g.push (lamObj qual params body scope clos dV ((mg "__name__").getD .none) (.ref c') ctv), toks := tk }) :
    wpAny M A (makeTail "<lambda>" qual params (.expr body) scope env dV .none none pos pos.line) Q E s := by
  obtain ⟨bm, ob, b1, b2, _, b4, b5, b6, b7, b8⟩ := hb
  unfold makeTail
  rw [hcl, hge]
  refine wpAny_bind (wpAny_pure ?_)
  have key : ∀ (ctv : Value) (g : Heap), (∀ b o, s.heap.get? b = some o → g.get? b = some o) → s.heap.objs.size ≤ g.objs.size →
      wpAny M A (functionCode env pos pos.line "<lambda>" qual params scope (.expr body) >>= fun cv => builtinsFor mainGlobals env.builtins >>= fun bl => nsGet mainGlobals "__name__" >>= fun nm => (pure Value.none : Sem Value) >>= fun dc =>
        newObj (.type "function") (.func { name := "<lambda>", qualname := qual, params := params, body := .expr body, scope := scope, globals := mainGlobals, closure := clos, closureTuple := ctv, code := cv, builtins := bl, defaults := dV, kwdefaults := .none, annotations := none, pyModule := nm.getD .none, doc := dc })) Q E { s with heap := g } := by
    intro ctv g kg sg
    have gP' : g.get? P = some { cls := .none, data := .fields ps } := kg _ _ hP
    have HC' := HC.keeps kg
    cases hc : codeAmong pos ps.toList with
    | some cv =>
      refine wpAny_bind (wpAny_functionCode_hit hcode (HC'.code gP' ht) hc ?_)
      refine wpAny_bind (wpAny_builtinsFor (hg.keeps kg) b1 b2 (kg _ _ b5) b6 b7 b8 ?_)
      refine wpAny_bind (wpAny_nsGet (hg.keeps kg) (wpAny_bind (wpAny_pure ?_)))
      exact wpAny_newObj_type (hit cv hc ctv g s.toks kg sg) (by size_fits)
    | none =>
      refine wpAny_bind (wpAny_functionCodeX hcode (HC'.code gP' ht) (HC'.tab gP') hc fun c' g2 tk x ge lt _ rec tb _ => ?_)
      have ns2 := (hg.keeps kg).extBut x gP
      refine wpAny_bind (wpAny_builtinsFor ns2 b1 b2 (x _ _ b4 (kg _ _ b5)) b6 b7 b8 ?_)
      refine wpAny_bind (wpAny_nsGet ns2 (wpAny_bind (wpAny_pure ?_)))
      exact wpAny_newObj_type (miss hc c' ctv g2 tk (fun b o n e => x b o n (kg b o e)) (Nat.le_trans sg ge) lt rec tb.2) (by size_fits)
  cases clos with
  | nil => exact wpAny_bind (wpAny_pure (key .none s.heap (fun _ _ e => e) (Nat.le_refl _)))
  | cons q r => exact wpAny_bind (wpAny_newTextTuple (key _ _ (fun b o e => Heap.get?_push_of_some _ e) (by rw [Heap.size_push]; omega)))
section
variable {X : Cx} {pins : List (Addr × Obj)} {σ : L2.St} {H : Hp} {s : Shared}
/-- what is behind the making: from H, the default's tuple (if any) at t already in it -/
def LamGo (X : Cx) (pins : List (Addr × Obj)) (σ : L2.St) (N : Addr → Prop) (P : Addr) (params : Arguments) (body : Expr) (scope : Scope) (b : Bool) (t : Addr) (H : Hp) (Q : Value → Shared → Prop) : Prop :=
  ∀ (f c' : Addr) (ps' : Array Value) (H1 : Hp) (s' : Shared), Inv X pins σ H1 s' → H f = none → H1 f = some (LamO (cloFrom X.env.cells scope.names []) (X.env.qual ++ "<lambda>") params body scope b f c' t) →
    ¬ N c' → H1 c' = some (LamX.CodeO c' (X.env.qual ++ "<lambda>")) → H1 P = some (.tbl ps') → TabOk H1 N (X.env.qual ++ "<lambda>") ps' → (∀ a o, a ≠ P → H a = some o → H1 a = some o) → Q (.ref f) s'
theorem lam_core {N : Addr → Prop} {c P : Addr} {params : Arguments} {body : Expr} {scope : Scope} {pos : Pos} {ps : Array Value} {E Q : Value → Shared → Prop} {b : Bool} {t : Addr} (I : Inv X pins σ H s) (TB : LamX.TabB X.base X.mg c P) (hcode : X.env.code = .ref c)
    (hP : H P = some (.tbl ps)) (ok : TabOk H N (X.env.qual ++ "<lambda>") ps) (hN : ∀ a, N a → H a ≠ none) (hfree : ∀ y ∈ scope.names, y.2 = .free → ∃ c, X.env.cells.lookup y.1 = some c)
    (go : LamGo X pins σ N P params body scope b t H Q) :
    wpAny (model X.prog X.w) X.A (makeTail "<lambda>" (X.env.qual ++ "<lambda>") params (.expr body) scope X.env (if b = true then .ref t else .none) .none none pos pos.line) Q E s := by
  obtain ⟨tri, told⟩ := ok
  have offN : ∀ {c}, H c = none → ¬ N c := fun z y => hN _ y z
  have tP : s.heap.get? P = some { cls := .none, data := .fields ps } := I.hok P _ hP
  refine tail_at _ (closure_ok hfree) I.ok.glob (I.mod.glob.keeps I.bk) hcode (TB.code.keeps I.bk) tP tri TB.gP (TB.bm.keeps I.bk) (fun cv hc ctv g tk kg sg => ?_) (fun hc c' ctv g tk kg ge lt rec tb => ?_)
  · obtain ⟨c', rfl, nc, hco⟩ := told pos cv hc
    have nf : H g.objs.size = none := I.hok.fresh sg
    have J := I.laid (t' := tk) (a := g.objs.size) (o := LamO (cloFrom X.env.cells scope.names []) (X.env.qual ++ "<lambda>") params body scope b g.objs.size c' t)
      (h' := g.push (lamObj (X.env.qual ++ "<lambda>") params body scope (cloFrom X.env.cells scope.names []) (if b = true then .ref t else .none) ((X.mg "__name__").getD .none) (.ref c') ctv))
      (fun a o e => Heap.get?_push_of_some _ (kg a o e)) sg (lamO_ok (Heap.get?_push_size _ rfl))
    have keep : ∀ a o, H a = some o → upd H g.objs.size (LamO (cloFrom X.env.cells scope.names []) (X.env.qual ++ "<lambda>") params body scope b g.objs.size c' t) a = some o := fun a o e => by
      rw [upd_ne (ne_of_none e nf)]; exact e
    exact go _ c' ps _ _ J nf upd_same nc (keep _ _ hco) (keep _ _ hP) ⟨tri, fun p' cv' z => by
      obtain ⟨c0, e1, e2, e3⟩ := told p' cv' z
      exact ⟨c0, e1, e2, keep _ _ e3⟩⟩ fun a o _ e => keep a o e
  · obtain ⟨c2, oc, vs, tt, e2, hoc, hd, hv⟩ := rec
    cases e2
    have sz : s.heap.objs.size ≤ g.objs.size := Nat.le_trans ge (Nat.le_of_lt lt)
    have nc : H c' = none := I.hok.fresh ge
    have nPc : P ≠ c' := ne_of_none hP nc
    have J1 := LamX.inv_table (t' := tk) (more := #[rawInt pos.line, rawInt pos.col, .ref c']) I hP (h' := g) (q := X.env.qual ++ "<lambda>") (c := c') kg tb ge ⟨oc, vs, tt, hoc, hd, hv⟩
    generalize hH1 : upd (upd H P (.tbl (ps ++ #[rawInt pos.line, rawInt pos.col, .ref c']))) c' (LamX.CodeO c' (X.env.qual ++ "<lambda>")) = H1 at J1
    have k1 : ∀ a o, a ≠ P → H a = some o → H1 a = some o := fun a o hb e => by
      rw [← hH1, upd_ne (ne_of_none e nc), upd_ne hb]; exact e
    have kP : H1 P = some (.tbl (ps ++ #[rawInt pos.line, rawInt pos.col, .ref c'])) := by rw [← hH1, upd_ne nPc, upd_same]
    have kc : H1 c' = some (LamX.CodeO c' (X.env.qual ++ "<lambda>")) := by rw [← hH1, upd_same]
    have nf : H1 g.objs.size = none := J1.hok.fresh (Nat.le_refl _)
    have nf0 : H g.objs.size = none := I.hok.fresh sz
    have J := J1.laid (t' := tk) (a := g.objs.size) (o := LamO (cloFrom X.env.cells scope.names []) (X.env.qual ++ "<lambda>") params body scope b g.objs.size c' t)
      (h' := g.push (lamObj (X.env.qual ++ "<lambda>") params body scope (cloFrom X.env.cells scope.names []) (if b = true then .ref t else .none) ((X.mg "__name__").getD .none) (.ref c') ctv))
      (fun a o e => Heap.get?_push_of_some _ e) (Nat.le_refl _) (lamO_ok (Heap.get?_push_size _ rfl))
    have keep : ∀ a o, H1 a = some o → upd H1 g.objs.size (LamO (cloFrom X.env.cells scope.names []) (X.env.qual ++ "<lambda>") params body scope b g.objs.size c' t) a = some o := fun a o e => by
      rw [upd_ne (ne_of_none e nf)]; exact e
    have eL : (ps ++ #[rawInt pos.line, rawInt pos.col, .ref c']).toList = ps.toList ++ [rawInt pos.line, rawInt pos.col, .ref c'] := by simp
    refine go _ c' _ _ _ J nf0 upd_same (offN nc) (keep _ _ kc) (keep _ _ kP) ⟨by rw [eL]; exact PySem.TriplesOk_snoc _ _ _ _ tri, fun p' cv' z => ?_⟩ fun a o hb e => keep a o (k1 a o hb e)
    rw [eL] at z
    rcases LamX.among_app _ tri z with z | z
    · obtain ⟨c0, e1, e2, e3⟩ := told p' cv' z
      have hb : c0 ≠ P := fun y => by
        rw [y, hP] at e3
        exact LamX.codeO_ne ps (Option.some.inj e3).symm
      exact ⟨c0, e1, e2, keep _ _ (k1 _ _ hb e3)⟩
    · exact ⟨c', z, offN nc, keep _ _ kc⟩
/-- no default -/
theorem lam_at0 {N : Addr → Prop} {c P : Addr} {params : Arguments} {body : Expr} {scope : Scope} {pos : Pos} {ps : Array Value} {E Q : Value → Shared → Prop} {t : Addr} (I : Inv X pins σ H s) (TB : LamX.TabB X.base X.mg c P) (hcode : X.env.code = .ref c)
    (hP : H P = some (.tbl ps)) (ok : TabOk H N (X.env.qual ++ "<lambda>") ps) (hN : ∀ a, N a → H a ≠ none) (hdef : defaultsOf params X.env = ([], [])) (hfree : ∀ y ∈ scope.names, y.2 = .free → ∃ c, X.env.cells.lookup y.1 = some c)
    (go : LamGo X pins σ N P params body scope false t H Q) : wpAny (model X.prog X.w) X.A (eval (.Lambda params body scope pos) X.env) Q E s := by
  refine PySem.W.kla_eval hdef ?_
  rw [makeFunction_eq]
  simp only [List.zip_nil_right, List.filterMap_nil, List.isEmpty_nil, if_true, pure_bind]
  exact lam_core (b := false) (t := t) I TB hcode hP ok hN hfree go
end
end Dn

set_option Elab.async false
set_option linter.all false
set_option maxRecDepth 100000
set_option maxHeartbeats 4000000
namespace Dn
open PySem PySem.Spec PyProof.Rows L2
/-! ### a lambda called wherever the base holds its maker's cells -/
/-- the maker's cells stand in the base: the names N, their values σ -/
structure CellsIn (base : Heap) (N : List Str) (cl : List (Str × Addr)) (σ : L2.St) : Prop where
  inj : ∀ y z c, cl.lookup y = some c → cl.lookup z = some c → y = z
  cell : ∀ y c, cl.lookup y = some c → ∃ v, base.IsCell c v
  val : ∀ (i : Nat) (x : Str) (v : V) (c : Addr), N[i]? = some x → σ[i]? = some (some v) → cl.lookup x = some c → ∃ u, RelV v u ∧ base.IsCell c (some u)
  len : σ.length = N.length
/-- the lambda's own names: none, or the one with the default; b: it has one, an -/
structure LamS2 (N : List Str) (cl : List (Str × Addr)) (scope : Scope) (b : Bool) (an : Str) : Prop where
  kind : scope.kind = .function
  co : scope.isCoroutine = false
  gen : scope.isGenerator = false
  nocell : ∀ y ∈ scope.names, y.2 ≠ .cell
  own : ∀ y ∈ scope.names, y.2 = .local → y.1 ∉ N
  free : ∀ y ∈ scope.names, y.2 = .free → ∃ c, cl.lookup y.1 = some c
  bnd : b = true → scope.names.lookup an = some .local
def lamS2B (sc : Scope) (N : List Str) (scope : Scope) (b : Bool) (an : Str) : Bool :=
  decide (scope.kind = .function) && (!scope.isCoroutine && (!scope.isGenerator && ((scope.names.all fun y => !decide (y.2 = .cell) && ((!decide (y.2 = .local) || !decide (y.1 ∈ N)) && (!decide (y.2 = .free) || decide (sc.names.lookup y.1 = some .cell)))) && (!b || decide (scope.names.lookup an = some .local)))))
theorem lamS2_by {sc scope : Scope} {N : List Str} {b : Bool} {an : Str} {n : Nat} (h : lamS2B sc N scope b an = true) : LamS2 N (cellsFrom n sc.names []) scope b an := by
  unfold lamS2B at h
  simp only [Bool.and_eq_true, Bool.or_eq_true, Bool.not_eq_true', decide_eq_true_eq, decide_eq_false_iff_not, List.all_eq_true] at h
  obtain ⟨h1, h2, h3, h4, h5⟩ := h
  refine ⟨h1, h2, h3, fun y hy => (h4 y hy).1, fun y hy e => ?_, fun y hy e => ?_, fun e => ?_⟩
  · rcases (h4 y hy).2.1 with z | z
    · exact absurd e z
    · exact z
  · rcases (h4 y hy).2.2 with z | z
    · exact absurd e z
    · exact cell_has z
  · rcases h5 with z | z
    · rw [e] at z; cases z
    · exact z
/-- how it binds nothing -/
def LamBind (params : Arguments) (body : Expr) (scope : Scope) (b : Bool) (an : Str) : Prop :=
  (b = false → ∀ (q : Str) (cl : List (Str × Addr)) (pm cv ctv : Value), bindArgs (lamFd q params body scope cl .none pm cv ctv) ⟨[], []⟩ = pure []) ∧
  (b = true → ∀ (q : Str) (cl : List (Str × Addr)) (dV pm cv ctv : Value), ∃ k : Option (Array Value) → Sem (List (Str × Value)), bindArgs (lamFd q params body scope cl dV pm cv ctv) ⟨[], []⟩ = (seqItems? dV >>= k) ∧ ∀ v, k (some #[v]) = pure [(an, v)])
abbrev lamE (q : Str) (cl : List (Str × Addr)) (L : Addr) (scope : Scope) (f c' : Addr) : Env := PySem.W.envX q scope L f (.ref c') (cloFrom cl scope.names [])
def lamC (P : Program) (w : World) (K : PySem.W.Frag) (mg : Str → Option Value) (base : Heap) (N : List Str) (cl : List (Str × Addr)) (q : Str) (A : Around) (outer : List Env) (s : Shared) (H : Hp) (E : XK) (scope : Scope) (f c' : Addr) : Cx where
  prog := P
  w := w
  K := K
  mg := mg
  base := base
  A := A.deeper (lamE q cl s.heap.objs.size scope f c')
  N := N
  s_0 := s
  H_0 := H
  env := lamE q cl s.heap.objs.size scope f c'
  outer := outer
  stack := lamE q cl s.heap.objs.size scope f c' :: outer
  ex := []
  fn := fun _ => false
  calm := true
  pn := []
  xe := fun e s' => wpAny (model P w) (A.deeper (lamE q cl s.heap.objs.size scope f c')) (leaving (lamE q cl s.heap.objs.size scope f c') e) (fun _ s'' => L2.CX P w outer H s E e s'') (fun e' s'' => L2.CX P w outer H s E e' s'') s'
theorem lam_passes {P : Program} {w : World} {K : PySem.W.Frag} {mg : Str → Option Value} {base : Heap} {N : List Str} {cl : List (Str × Addr)} {q : Str} {A : Around} {outer : List Env} {s : Shared} {H : Hp} {E : XK} {scope : Scope} {f c' : Addr} :
    Passes (L2.CX P w) (lamC P w K mg base N cl q A outer s H E scope f c') E := passes_call (takes_of rfl rfl rfl rfl) fun _ _ _ _ e => e
section
variable {P : Program} {w : World} {K : PySem.W.Frag} {mg : Str → Option Value} {base : Heap} {N : List Str} {cl : List (Str × Addr)} {σ : L2.St} {q : Str} {A : Around} {outer : List Env} {s : Shared} {H : Hp} {E : XK} {scope : Scope} {f c' : Addr} {b : Bool} {an : Str}
theorem lam_start {h₁ : Heap} {tk : Nat} {m : Str → Option Value} (e0 : Env0 P w K mg base A outer s H) (hd : A.handled = none) (CI : CellsIn base N cl σ) (L : LamS2 N cl scope b an) (hns : h₁.Ns s.heap.objs.size m) (kp : ∀ a o, s.heap.get? a = some o → h₁.get? a = some o) :
    Inv (lamC P w K mg base N cl q A outer s H E scope f c') [] σ H { s with heap := h₁, toks := tk } := by
  have cm : ∀ {y c}, (cloFrom cl scope.names []).lookup y = some c → cl.lookup y = some c := fun {y c} e => by
    rcases cloFrom_mem (PySem.mem_of_lookup e) with hm | ⟨h1, h2⟩
    · cases hm
    · obtain ⟨c1, hc⟩ := L.free _ h1 rfl
      have e2 : c = c1 := by rw [h2, show cl.lookup y = some c1 from hc] <;> rfl
      rw [e2]
      exact hc
  have has : ∀ {y}, scope.names.lookup y = some .free → ∃ c, (cloFrom cl scope.names []).lookup y = some c := fun {y} hl => mem_lookup (cloFrom_has (cells := cl) (acc := []) (PySem.mem_of_lookup hl))
  have up : ∀ {c v}, base.IsCell c v → s.heap.IsCell c v ∧ H c = none ∧ ∃ o, s.heap.get? c = some o := fun {c v} ⟨o, ho, hd⟩ => ⟨⟨o, (e0.bs c o ho).1, hd⟩, (e0.bs c o ho).2, o, (e0.bs c o ho).1⟩
  have on : ∀ {c v}, s.heap.IsCell c v → h₁.IsCell c v := fun {c v} ⟨o, ho, hd⟩ => ⟨o, kp c o ho, hd⟩
  have noA : ∀ a : Addr, a ∉ (lamC P w K mg base N cl q A outer s H E scope f c').ex := fun a z => absurd (show a ∈ ([] : List Addr) from z) (by simp)
  refine ⟨⟨e0.mod, L.kind, rfl, rfl, Nat.le_refl _, fun y z c e1 e2 => CI.inj y z c (cm e1) (cm e2), fun y hy => ?_, fun y c z _ => ?_, fun _ => hd, Around.frames_deeper e0.frames, .inr ⟨rfl, rfl⟩, fun a z => absurd z (noA a), e0.bs, e0.bsz, fun a _ _ => noA a,
      fun a z => absurd z (noA a), e0.funs, e0.frf⟩,
    rfl, e0.bare, Un.kept kp, ⟨_, hns, fun i y v e1 e2 e3 => ?_⟩, fun y c e => ?_, e0.hok.fresh (Nat.le_refl _), fun y c e => ?_, fun p hp => absurd (show p ∈ ([] : List (Addr × Obj)) ++ [] from hp) (by simp), e0.hok.kept kp, CI.len⟩
  · have hy : scope.names.lookup y = some .cell ∨ scope.names.lookup y = some .free := hy
    rcases hy with hy | hy
    · exact absurd rfl (L.nocell _ (PySem.mem_of_lookup hy))
    · exact has hy
  · have z : false = true := z
    cases z
  · have e3 : Vis scope y := e3
    rcases e3 with k | k | k
    · exact absurd (List.mem_of_getElem? e1) (L.own _ (PySem.mem_of_lookup k) rfl)
    · exact absurd rfl (L.nocell _ (PySem.mem_of_lookup k))
    · obtain ⟨c, hc⟩ := has k
      obtain ⟨u, ru, hu⟩ := CI.val i y v c e1 e2 (cm hc)
      exact ⟨u, ru, .inr ⟨.inr k, c, hc, on (up hu).1⟩⟩
  · obtain ⟨v, hv⟩ := CI.cell y c (cm e)
    exact ⟨v, on (up hv).1⟩
  · obtain ⟨v, hv⟩ := CI.cell y c (cm e)
    exact (up hv).2.1
theorem items_one {M : Model} {A : Around} {E : Value → Shared → Prop} {s : Shared} {t : Addr} {u : Value} {Q : Option (Array Value) → Shared → Prop} {o : Obj} {n : Nat} (ho : s.heap.get? t = some o) (hd : o.data = .seq #[u] n) (h : Q (some #[u]) s) : wpAny M A (seqItems? (.ref t)) Q E s := by
  simp only [seqItems?]
  refine wpAny_bind (wpAny_load ho ?_)
  rw [hd]
  exact wpAny_pure h
/-- f() -/
theorem clo_run {params : Arguments} {body : Expr} {t : Addr} {k : Nat} {tb : TE} {Q : VK} (e0 : Env0 P w K mg base A outer s H) (CI : CellsIn base N cl σ) (L : LamS2 N cl scope b an) (hB : LamBind params body scope b an) (hr : Room (k + 1) A)
    (hf : H f = some (LamO (cloFrom cl scope.names []) q params body scope b f c' t)) (hc : H c' = some (LamX.CodeO c' q)) (hT : b = true → H t = some (.tup [.int 0]))
    (hbody : Room k (A.deeper (lamE q cl s.heap.objs.size scope f c')) → PE (lamC P w K mg base N cl q A outer s H E scope f c') body tb) (h : tb σ H Q) :
    codeAny (model P w) A (.call (.ref f) ⟨[], []⟩) (CR (L2.CX P w) outer P w H s Q E) s := by
  obtain ⟨pm, ctv, of1⟩ := lamO_at e0.hok hf
  have lim : s.heap.NoLimit := e0.mod.nolimit.keeps fun b o e => (e0.bs b o e).1
  have go : ∀ binds : List (Str × Value), (∀ y ∈ binds, scope.names.lookup y.1 = some .local) →
      wpAny (model P w) A.in1 (newFunctionEnv scope mainGlobals (cloFrom cl scope.names []) binds (q ++ ".<locals>.") (some f) (.ref c') none builtinsNs) (fun env s₂ => s₂.heap.NoLimit ∧ codeAny (model P w) A (.expr body env) (CR (L2.CX P w) outer P w H s Q E) s₂) (fun e s' => CR (L2.CX P w) outer P w H s Q E (.error e) s') s := by
    intro binds hl
    refine wpAny_newFunctionEnv L.nocell hl (fun h₁ hns hsb => ⟨lim.fresh _ hsb, ?_⟩) L.kind
    have kp : ∀ a o, s.heap.get? a = some o → h₁.get? a = some o := fun a o e => hsb.extBut a o (Nat.ne_of_lt (Heap.lt_size e)) (Heap.get?_push_of_some _ e)
    have J := lam_start (q := q) (E := E) (f := f) (c' := c') (tk := s.toks + binds.length) e0 hr.hd CI L hns kp
    refine PySem.W.kla_codeExpr (wpAny_mono ((hbody (hr.deeper _)).run [] _ _ H Q J h) (fun v s' hq => ?_) fun e s' hq => hq)
    obtain ⟨w', H', J', rv, qq⟩ := hq
    exact ⟨w', H', J'.os, J'.bare, J'.base, J'.hok, rv, qq⟩
  cases b with
  | false =>
    have of2 : s.heap.get? f = some (lamObj q params body scope (cloFrom cl scope.names []) .none pm (.ref c') ctv) := of1
    refine PySem.W.kla_callFunE hr.depth of2 rfl L.co L.gen rfl (codeO_at e0.hok hc) ?_
    rw [show bindArgs (lamFd q params body scope (cloFrom cl scope.names []) .none pm (.ref c') ctv) ⟨[], []⟩ = pure [] from hB.1 rfl _ _ _ _ _]
    exact wpAny_pure (go [] fun y hy => absurd hy (by simp))
  | true =>
    obtain ⟨kb, e1, e2⟩ := hB.2 rfl q (cloFrom cl scope.names []) (.ref t) pm (.ref c') ctv
    have okT : ObjOk P w H s.heap t (.tup [.int 0]) := e0.hok t _ (hT rfl)
    obtain ⟨_, its, rv, o, ho, hcls, n, hd⟩ := okT
    have of2 : s.heap.get? f = some (lamObj q params body scope (cloFrom cl scope.names []) (.ref t) pm (.ref c') ctv) := of1
    cases rv with
    | @cons _ u _ r ru rr =>
      cases rr
      refine PySem.W.kla_callFunE hr.depth of2 rfl L.co L.gen rfl (codeO_at e0.hok hc) ?_
      rw [show bindArgs (lamFd q params body scope (cloFrom cl scope.names []) (.ref t) pm (.ref c') ctv) ⟨[], []⟩ = _ from e1]
      refine wpAny_bind (items_one ho hd ?_)
      rw [e2]
      exact wpAny_pure (go [(an, u)] fun y hy => by rw [List.mem_singleton.mp hy]; exact L.bnd rfl)
end
end Dn

set_option Elab.async false
set_option linter.all false
set_option maxRecDepth 100000
set_option maxHeartbeats 4000000
namespace Dn
open PySem PySem.Spec PyProof.Rows L2
/-! ### lambdas in the value layer -/
/-- the state's own thing n is the table of the code objects of the lambdas C, at P; no def below uses them -/
def TabIs (st : Sta) (n : Nat) (P : Addr) (C : CloT) : Prop := st.look n = some (.tab P C none)
open Classical in
noncomputable def lamP (n : Nat) (P : Addr) (C : CloT) (k : Nat) : EDen := fun _ st => if TabIs st n P C then some (.ok (.clo k), st) else none
section
variable {K : PySem.W.Frag} {W : Wd} {H H1 : Hp} {st : Sta}
theorem tab_of {n : Nat} {P : Addr} {C : CloT} {e : Option (Dl × L2.St)} (I : Holds K W H st) (h : st.look n = some (.tab P C e)) : n ≠ 0 ∧ W.h n = some P ∧ W.M P ∧ W.C = C ∧ (∃ ps, H P = some (.tbl ps) ∧ TabOk H W.N C.q ps) ∧ ∀ Δ σ, e = some (Δ, σ) → LocD K W H σ Δ := by
  obtain ⟨n0, p, h1, h2, h3, h4, ⟨ps, h5, h6, h7⟩, h8⟩ := I.own _ _ (look_mem h)
  subst h3
  exact ⟨n0, h1, h2, h4, ⟨ps, h5, h6, h7⟩, h8⟩
/-- the table grew, new things came -/
theorem Holds.tabUpd {P : Addr} {ps ps' : Array Value} (I : Holds K W H st) (hM : W.M P) (hP : H P = some (.tbl ps)) (hP1 : H1 P = some (.tbl ps')) (ok : TabOk H1 W.N W.C.q ps') (keep : ∀ b o, b ≠ P → H b = some o → H1 b = some o) : Le W H W H1 ∧ Holds K W H1 st := by
  have st1 : ∀ a, H a ≠ none → H1 a ≠ none := fun a h z => by
    by_cases c : a = P
    · rw [c, hP1] at z; cases z
    · cases e : H a with
      | none => exact h e
      | some o => rw [keep a o c e] at z; cases z
  have le : Le W H W H1 := ⟨fun a o n e => keep a o (fun z => n (by rw [z]; exact hM)) e, fun _ h => .inl h, fun _ h => .inl h, fun _ h => h, fun _ _ h => h, fun _ _ h => .inl h, st1, rfl⟩
  have off : ∀ {a : Addr} {o : HO}, H a = some o → (∀ q, o ≠ .tbl q) → a ≠ P := fun e d z => by
    rw [z, hP] at e
    exact d ps (Option.some.inj e).symm
  have lst : ∀ {a : Addr} {xs : List V}, H a = some (.lst xs) → H1 a = some (.lst xs) := fun e => keep _ _ (off e fun q z => by cases z) e
  refine ⟨le, fun a h => st1 a (I.there a h), I.inj, fun n a h => st1 a (I.hdl n a h), I.dom, fun s h => ?_, fun a ns h => ?_, fun n c h => ?_, I.bd⟩
  · obtain ⟨b, h1, h2, l, h3, h4, h5⟩ := I.bag s h
    exact ⟨b, h1, h2, l, h3, lst h4, lst h5⟩
  · rcases I.scr a ns h with ⟨h2, h3⟩ | h3
    · refine .inl ⟨h2, ?_⟩
      rcases h3 with h3 | ⟨o, h3⟩
      · exact .inl (lst h3)
      · exact .inr ⟨o, keep _ _ (off h3 fun q z => by cases z) h3⟩
    · exact .inr h3
  · obtain ⟨n0, p, h1, h2, h3⟩ := I.own n c h
    refine ⟨n0, p, h1, h2, ?_⟩
    cases c with
    | lst ds =>
      obtain ⟨vs, e1, e2⟩ := h3
      exact ⟨vs, lst e1, e2.to le⟩
    | ins C ns ds =>
      obtain ⟨dx, fs, e1, e2, e3⟩ := h3
      exact ⟨dx, fs, keep _ _ (off e1 fun q z => by cases z) e1, e2, e3.to le⟩
    | tab P2 C2 en =>
      obtain ⟨e1, e2, ⟨qs, e3, e4, e5⟩, e6⟩ := h3
      refine ⟨e1, e2, ?_, fun Δ σ q => LocD.to (e6 Δ σ q) le⟩
      by_cases c : p = P
      · refine ⟨ps', by rw [c]; exact hP1, ok.1, ?_⟩
        rw [← e2]
        exact ok.2
      · refine ⟨qs, keep _ _ c e3, e4, fun pos cv z => ?_⟩
        obtain ⟨d, g1, g2, g3⟩ := e5 pos cv z
        exact ⟨d, g1, g2, keep _ _ (off g3 fun q => LamX.codeO_ne q) g3⟩
/-- another cell for the same thing -/
theorem Holds.recell {n : Nat} {c c' : Cell} (I : Holds K W H st) (hm : (n, c) ∈ st.own) (hc : ∀ p, W.h n = some p → CellAt K W H p c → CellAt K W H p c') : Holds K W H (st.put n c') := by
  refine ⟨I.there, I.inj, I.hdl, I.dom, I.bag, I.scr, fun m d h => ?_, I.bd⟩
  rcases List.mem_cons.mp h with e | h
  · cases e
    obtain ⟨n0, p, h1, h2, h3⟩ := I.own _ _ hm
    exact ⟨n0, p, h1, h2, hc p h1 h3⟩
  · exact I.own _ _ (List.mem_filter.mp h).1
end
section
variable {X : Cx} {E : XK} {pos : Pos} {n k : Nat} {P c : Addr} {C : CloT} {params : Arguments} {body : Expr} {scope : Scope}
theorem lam_go {pins : List (Addr × Obj)} {σ : L2.St} {H H0 : Hp} {W : Wd} {st : Sta} {Q : VK} {b : Bool} {t : Addr} (J : Holds X.K W H st) (ht : TabIs st n P C) (hq : C.q = X.env.qual ++ "<lambda>")
    (hC : ∀ a c t, C.f k a c t = LamO (cloFrom X.env.cells scope.names []) (X.env.qual ++ "<lambda>") params body scope b a c t) (hd : C.d k = b) (hT : b = true → ¬ W.N t ∧ H0 t = some (.tup [.int 0])) (e0 : ∀ a o, H a = some o → H0 a = some o)
    (w : ∀ W' H', Le W H W' H' → Holds X.K W' H' st → ∀ v, Rp X.K W' H' v (.clo k) → Q v H') : LamGo X pins σ W.N P params body scope b t H0 fun v s' => ∃ y H1, Inv X pins σ H1 s' ∧ RelV y v ∧ Q y H1 := by
  intro f c' ps' H1 s' I1 nf hf nc hc hP1 ok1 keep
  obtain ⟨n0, h1, h2, h3, ⟨ps, h4, h5⟩, _⟩ := tab_of J ht
  obtain ⟨le, J1⟩ := J.tabUpd (H1 := H1) (ps' := ps') h2 h4 hP1 (by rw [h3, hq]; exact ok1) (fun a o na e => keep a o na (e0 a o e))
  have hP : H P ≠ none := by rw [h4]; exact fun z => nomatch z
  refine ⟨.ref f, H1, I1, rfl, w W H1 le J1 _ (.clo (c := c') (t := t) k (fun z => ?_) ?_ nc ?_ fun z => ?_)⟩
  · cases q : H f with
    | none => exact J.there f z q
    | some o => rw [e0 f o q] at nf; cases nf
  · rw [h3, hC]
    exact hf
  · rw [h3, hq]
    exact hc
  · rw [h3, hd] at z
    obtain ⟨z1, z2⟩ := hT z
    refine ⟨z1, keep t _ (fun y => ?_) z2⟩
    rw [y, e0 P _ h4] at z2
    cases z2
/-- a lambda -/
theorem de_lam (TB : LamX.TabB X.base X.mg c P) (hcode : X.env.code = .ref c) (hq : C.q = X.env.qual ++ "<lambda>") (hC : ∀ a c t, C.f k a c t = LamO (cloFrom X.env.cells scope.names []) (X.env.qual ++ "<lambda>") params body scope false a c t) (hd : C.d k = false)
    (hfree : ∀ y ∈ scope.names, y.2 = .free → ∃ c, X.env.cells.lookup y.1 = some c) (hdef : defaultsOf params X.env = ([], []) := by rfl) : PE X (.Lambda params body scope pos) (tD X.K E (lamP n P C k)) := by
  refine ⟨fun pins s σ H Q I h => ?_⟩
  obtain ⟨W, st0, Δ, r, st', Lo, J, e, w⟩ := h
  unfold lamP at e
  split at e
  · rename_i ht
    cases e
    obtain ⟨n0, h1, h2, h3, ⟨ps, h4, h5⟩, _⟩ := tab_of J ht
    rw [hq] at h5
    exact lam_at0 (N := W.N) (t := 0) I TB hcode h4 h5 J.there hdef hfree (lam_go J ht hq hC hd (fun z => nomatch z) (fun _ _ e => e) w)
  · cases e
end
/-- a lambda of the def with the names N: its number k, its meaning τ -/
def LamAt (P : Program) (w : World) (K : PySem.W.Frag) (mg : Str → Option Value) (base : Heap) (N : List Str) (cl : List (Str × Addr)) (C : CloT) (kk k : Nat) (τ : EDen) : Prop :=
  ∃ (params : Arguments) (body : Expr) (scope : Scope) (b : Bool) (an : Str), (∀ a c t, C.f k a c t = LamO (cloFrom cl scope.names []) C.q params body scope b a c t) ∧ C.d k = b ∧ LamS2 N cl scope b an ∧ LamBind params body scope b an ∧
    ∀ (A : Around) (outer : List Env) (s : Shared) (H : Hp) (E : XK) (f c' : Addr), Room kk (A.deeper (lamE C.q cl s.heap.objs.size scope f c')) → Passes (L2.CX P w) (lamC P w K mg base N cl C.q A outer s H E scope f c') E →
      PE (lamC P w K mg base N cl C.q A outer s H E scope f c') body (tD K E τ)
/-! ### try: return ('', ask()) except (A, B, C) as e: return (e.code, field(e)) -/
def whyR (cs : List Addr) (ff : List Str → List D → Option D) : Option (Except Exc D × Sta) → Mo D
  | some (.ok d, st) => some (.ok (.tup [.str "", d]), st)
  | some (.error (C, ns, es), st) => if C ∈ cs then (lkD "code" ns es).bind fun c => (ff ns es).map fun r => (.ok (.tup [c, r]), st) else none
  | none => none
open Classical in
/-- the def that does it: its argument is one of the lambdas, their maker's names hold σ0 -/
noncomputable def whyF (n : Nat) (P : Addr) (C : CloT) (cs : List Addr) (ff : List Str → List D → Option D) (τs : Nat → Option EDen) (σ0 : L2.St) : FDen := fun ds st => match ds with
  | [.clo k] => (match st.look n with
    | some (.tab P' C' (some (Δ, σ))) => if P' = P ∧ C' = C ∧ σ = σ0 then (match τs k with
      | some τ => (match whyR cs ff (τ Δ (st.put n (.tab P C none))) with
        | some (.ok d, st') => if TabIs st' n P C then some (.ok d, st'.put n (.tab P C (some (Δ, σ0)))) else none
        | _ => none)
      | none => none) else none
    | _ => none)
  | _ => none
/-- the suite -/
def fldS (F : Addr → Addr → FDen) (a dx : Addr) : SDen := rtP (tupP (consP (xfldP a dx "code" (varP 1)) (consP (callokP (F a dx) (consP (varP 1) nilP)) nilP)))
def tsWhy (K : PySem.W.Frag) (cs : List Addr) (F : Addr → Addr → FDen) : Addr → Value → Option Addr → TS := fun a cls d D σ H => ∃ C dx, cls = .ref C ∧ d = some dx ∧ C ∈ cs ∧ tSD K noX (fldS F a dx) D σ H
/-- the lambda at f is called; Tr: what is known of it -/
def tAct (K : PySem.W.Frag) (f : Addr) (Tr : Hp → Prop) (τ : EDen) (σX : L2.St) (W : WX) : TE := fun σ H Q => σ[0]? = some (some (.ref f)) ∧ Tr H ∧ tD K (fun cls d H' => W cls d σ H') τ σX H Q
def tWhy (K : PySem.W.Frag) (cs : List Addr) (F : Addr → Addr → FDen) (c1 c2 c3 : Value) (f : Addr) (Tr : Hp → Prop) (τ : EDen) (σX : L2.St) : TS := fun D σ H =>
  tRet (tTup (tCons (tC (.str "")) (tCons (tAct K f Tr τ σX (wTrio K [c1, c2, c3] 1 (tsWhy K cs F) D)) tNil))) D σ H
/-- how the function value f is called: its meaning is τ -/
def Called (P : Program) (w : World) (K : PySem.W.Frag) (mg : Str → Option Value) (base : Heap) (kk : Nat) (f : Addr) (Tr : Hp → Prop) (τ : EDen) (σX : L2.St) : Prop :=
  ∀ (A : Around) (outer : List Env) (s1 : Shared) (H1 : Hp) (Q : VK) (E : XK), Env0 P w K mg base A outer s1 H1 → Room kk A → Tr H1 → tD K E τ σX H1 Q → codeAny (model P w) A (.call (.ref f) ⟨[], []⟩) (CR (L2.CX P w) outer P w H1 s1 Q E) s1
section
variable {P : Program} {w : World} {K : PySem.W.Frag} {mg : Str → Option Value} {base : Heap} {y n qual x1 x2 x3 xf : Str} {sc : Scope} {g gf : Addr} {cdv c1 c2 c3 : Value} {A : Around} {outer : List Env} {s : Shared} {H : Hp} {f : Addr} {Tr : Hp → Prop} {τ : EDen} {σX : L2.St} {kk : Nat}
  {cs : List Addr} {F : Addr → Addr → FDen} {fdf : FuncData} {psf fs : List Str}
abbrev zW (P : Program) (w : World) (K : PySem.W.Frag) (mg : Str → Option Value) (base : Heap) (y n qual : Str) (sc : Scope) (g : Addr) (cdv : Value) (A : Around) (outer : List Env) (s : Shared) (H : Hp) : Cx := cxOf (L2.CX P w) P w K mg base [y, n] qual sc g cdv A outer s H noX
theorem act_pe (ca : Called P w K mg base kk f Tr τ σX) (hfn : ∀ (H1 : Hp) (h1 : Heap), HOk P w H1 h1 → Tr H1 → PySem.W.FnAt f h1) {pn : List (Addr × Obj)} {xe : Value → Shared → Prop} {W : WX} {p1 p2 : Pos}
    (tk : Takes ((zW P w K mg base y n qual sc g cdv A outer s H).tr pn xe) W) (hr : Room kk (A.deeper (envOfC qual sc s.heap.objs.size g cdv))) (hv : Vis sc y) (hd : (y == ("__debug__" : Str)) = false) (hcd : (y == ("__classdict__" : Str)) = false) :
    PE ((zW P w K mg base y n qual sc g cdv A outer s H).tr pn xe) (.Call (.Name y p1) [] [] p2) (tAct K f Tr τ σX W) := by
  refine ⟨fun pins s0 σ HZ Q I h => ?_⟩
  obtain ⟨hs, hf, ht⟩ := h
  refine wpAny_Call_Name_kw (thn ((pe_var (pos := p1) (i := 0) rfl hv hd hcd).run pins s0 σ HZ (fun v H1 => v = .ref f ∧ H1 = HZ) I ⟨.ref f, hs, rfl, rfl⟩) fun u s1 ⟨v, H1, I1, r1, ev, eH⟩ => ?_)
  subst ev
  rw [eH] at I1
  obtain rfl : u = Value.ref f := r1
  refine PySem.W.callWith_F0 (hfn _ _ I1.hok hf) ?_
  refine wpAny_call (codeAny_mono (ca _ (envOfC qual sc s.heap.objs.size g cdv :: outer) s1 HZ Q (fun cls d H' => W cls d σ H') I1.env0 hr hf ht) fun r s' hq => ?_)
  cases r with
  | error e => exact tk _ _ (XE.of_call I1 (fun cls d H' h => h) hq)
  | ok fl =>
    cases fl with
    | ret u => exact I1.after hq
    | next => exact False.elim hq
    | brk => exact False.elim hq
    | cont => exact False.elim hq
theorem why_ps {j1 j2 j3 j4 : Nat} {q1 q2 q3 q4 q5 q6 q7 q8 q9 q10 q11 q12 q13 q14 q15 q16 q17 q18 : Pos} (ca : Called P w K mg base kk f Tr τ σX) (hfn : ∀ (H1 : Hp) (h1 : Heap), HOk P w H1 h1 → Tr H1 → PySem.W.FnAt f h1)
    (hr : Room kk (A.deeper (envOfC qual sc s.heap.objs.size g cdv))) (hv : Vis sc y) (hd : (y == ("__debug__" : Str)) = false) (hcd : (y == ("__classdict__" : Str)) = false) (hvn : sc.names.lookup n = some .local) (hdn : (n == ("__debug__" : Str)) = false) (hcn : (n == ("__classdict__" : Str)) = false) (hyn : y ≠ n)
    (n1 : L2.Names (zW P w K mg base y n qual sc g cdv A outer s H) x1 c1) (n2 : L2.Names (zW P w K mg base y n qual sc g cdv A outer s H) x2 c2) (n3 : L2.Names (zW P w K mg base y n qual sc g cdv A outer s H) x3 c3)
    (T : XClss K cs fs) (hcode : ("code" : Str) ∈ fs) (Gf : FnX P w K mg base cs gf fdf psf F) (hF : ∀ a dx ds st r, F a dx ds st = some r → ds.length = psf.length) (hm : mg xf = some (.ref gf)) (hk : PySem.W.keepIn K (.ref gf) = true) (hb : Binds K fdf psf []) (hgf : sc.names.lookup xf = some .globalImplicit) (hdf : (xf == ("__debug__" : Str)) = false) :
    PS (zW P w K mg base y n qual sc g cdv A outer s H) (.Try [.Return (some (.Tuple [.Constant (.str "") j1 q1, .Call (.Name y q2) [] [] q3] j2 q4)) q5]
      [.ExceptHandler (some (.Tuple [.Name x1 q6, .Name x2 q7, .Name x3 q8] j3 q9)) (some n) [.Return (some (.Tuple [.Attribute (.Name n q10) "code" q11, .Call (.Name xf q12) [.Name n q13] [] q14] j4 q15)) q16] q17] [] [] q18)
      (tWhy K cs F c1 c2 c3 f Tr τ σX) := by
  refine imS (ps_trio (i := 1) (tb := fun W => tRet (tTup (tCons (tC (.str "")) (tCons (tAct K f Tr τ σX W) tNil)))) (ts := tsWhy K cs F) rfl rfl (show [y, n].Nodup by simpa using hyn) rfl hvn n1 n2 n3
    (fun W pn xe tk _ => pss_one (ps_ret (pe_tup (pa_cons pe_str (pa_cons (act_pe ca hfn tk hr hv hd hcd) pa_nil)))))
    (fun a oe cls d pn hz hd => ⟨fun pins s0 σ H0 D I h => ?_⟩)) fun D σ H0 h => h
  obtain ⟨C, dx, rfl, rfl, hC, h⟩ := h
  have hr' : Rm 100 ((zW P w K mg base y n qual sc g cdv A outer s H).suite a ((a, oe) :: pn)).A := ⟨hr.depth, by have := hr.un; show (A.deeper (envOfC qual sc s.heap.objs.size g cdv)).units + 100 + 64 < cLine; omega⟩
  have px : PinX cs (a, oe) dx := ⟨⟨C, hC, hz.1⟩, hz.2, hd⟩
  have ve : PE ((zW P w K mg base y n qual sc g cdv A outer s H).suite a ((a, oe) :: pn)) (.Name n q10) (tD K noX (varP 1)) := de_var 1 rfl (.inl hvn) hdn hcn
  have ve2 : PE ((zW P w K mg base y n qual sc g cdv A outer s H).suite a ((a, oe) :: pn)) (.Name n q13) (tD K noX (varP 1)) := de_var 1 rfl (.inl hvn) hdn hcn
  exact (dss_one (ds_ret (de_tup (da_cons (de_xfld (p := (a, oe)) (dx := dx) List.mem_cons_self px T hcode ve) (da_cons (de_callX (p := (a, oe)) (dx := dx) Gf hr' List.mem_cons_self px hm hk hb (hF a dx) (da_cons ve2 da_nil) hgf hdf) da_nil))))).run pins s0 σ H0 D I h
end
end Dn

set_option Elab.async false
set_option linter.all false
set_option maxRecDepth 100000
set_option maxHeartbeats 4000000
namespace Dn
open PySem PySem.Spec PyProof.Rows L2
theorem consP_at {ta : EDen} {tr : ADen} {Δ : Dl} {st st1 st2 : Sta} {d : D} {ds : List D} (h1 : ta Δ st = some (.ok d, st1)) (h2 : tr Δ st1 = some (.ok ds, st2)) : consP ta tr Δ st = some (.ok (d :: ds), st2) := by
  unfold consP
  rw [h1]
  simp only [bd]
  rw [h2]
section
variable {P : Program} {w : World} {K : PySem.W.Frag} {mg : Str → Option Value} {base : Heap}
/-- THE RULE for the def that calls its argument within a try -/
theorem fn_why {x y n qual x1 x2 x3 xf : Str} {st : Stmt} {g gf C1 C2 C3 : Addr} {fd fdf : FuncData} {cs : List Addr} {F : Addr → Addr → FDen} {ff : List Str → List D → Option D} {psf fs : List Str} {j1 j2 j3 j4 : Nat} {q1 q2 q3 q4 q5 q6 q7 q8 q9 q10 q11 q12 q13 q14 q15 q16 q17 q18 : Pos}
    {nn kk : Nat} {P0 : Addr} {CC : CloT} {τs : Nat → Option EDen} {N : List Str} {cl : List (Str × Addr)} {σ0 : L2.St} (CI : CellsIn base N cl σ0) (hL : ∀ k τ, τs k = some τ → LamAt P w K mg base N cl CC kk k τ)
    (G : L2.Fun K x qual st g fd) (S : FnScope [y, n] [y] (defScope st))
    (hB : defBody st = [.Try [.Return (some (.Tuple [.Constant (.str "") j1 q1, .Call (.Name y q2) [] [] q3] j2 q4)) q5]
      [.ExceptHandler (some (.Tuple [.Name x1 q6, .Name x2 q7, .Name x3 q8] j3 q9)) (some n) [.Return (some (.Tuple [.Attribute (.Name n q10) "code" q11, .Call (.Name xf q12) [.Name n q13] [] q14] j4 q15)) q16] q17] [] [] q18])
    (hv : (defScope st).names.lookup y = some .local) (hvn : (defScope st).names.lookup n = some .local) (g1 : (defScope st).names.lookup x1 = some .globalImplicit) (g2 : (defScope st).names.lookup x2 = some .globalImplicit) (g3 : (defScope st).names.lookup x3 = some .globalImplicit) (hgf : (defScope st).names.lookup xf = some .globalImplicit)
    (m1 : mg x1 = some (.ref C1)) (m2 : mg x2 = some (.ref C2)) (m3 : mg x3 = some (.ref C3)) (hm : mg xf = some (.ref gf))
    (hcs : ∀ C ∈ cs, PySem.W.exmAny K (.ref C) [.ref C1, .ref C2, .ref C3] = some true) (T : XClss K cs fs) (hcode : ("code" : Str) ∈ fs) (Gf : FnX P w K mg base cs gf fdf psf F) (hF : ∀ a dx ds st r, F a dx ds st = some r → ds.length = psf.length)
    (hff : ∀ a dx ns es r st0, ff ns es = some r → F a dx [.xcp a dx ns es] st0 = some (.ok r, st0)) (hkf : PySem.W.keepIn K (.ref gf) = true) (hbf : Binds K fdf psf [])
    (hyn : y ≠ n := by decide) (hd : (y == ("__debug__" : Str)) = false := by decide) (hcd : (y == ("__classdict__" : Str)) = false := by decide) (hdn : (n == ("__debug__" : Str)) = false := by decide) (hcn : (n == ("__classdict__" : Str)) = false := by decide)
    (d1 : (x1 == ("__debug__" : Str)) = false := by decide) (d2 : (x2 == ("__debug__" : Str)) = false := by decide) (d3 : (x3 == ("__debug__" : Str)) = false := by decide) (hdf : (xf == ("__debug__" : Str)) = false := by decide) :
    FnOk P w K mg base (L2.CX P w) (kk + 2) g fd [y] (spF K (whyF nn P0 CC cs ff τs σ0)) := by
  obtain ⟨oc0, od, kV, doc, pm, an0, cdv, ct, osl, rfl, lk, hcdv⟩ := G.ex
  refine ⟨fun vs H Q E h => ?_, fun A outer s H args us vs Q E hr e0 hb r h => ?_⟩
  · obtain ⟨W, ds, st0, rr, st', rs, iv, e, _⟩ := h
    unfold whyF at e
    split at e
    · rw [rs.length]; rfl
    · cases e
  · obtain ⟨W1, ds, st1, rr, st2, rs, I, e, wn⟩ := h
    have hlen : us.length = ds.length := by rw [← r.length, rs.length]
    unfold whyF at e
    split at e
    · rename_i k
      split at e
      · rename_i P' C' Δ σ hlk
        split at e
        · rename_i hc
          obtain ⟨rfl, rfl, rfl⟩ := hc
          split at e
          · rename_i τ hτ
            obtain ⟨_, _, _, hWC, _, hL0⟩ := tab_of I hlk
            have L := hL0 Δ σ rfl
            obtain ⟨params, body, scope, b, an, hC, hdk, LS, LB, hbody⟩ := hL k τ hτ
            obtain ⟨v, rfl, rv⟩ := rps1 rs
            have I' : Holds K W1 H (st1.put nn (.tab P' C' none)) := I.recell (look_mem hlk) fun q _ hc => by
              obtain ⟨c1, c2, c3, _⟩ := hc
              exact ⟨c1, c2, c3, fun Δ2 σ2 z => nomatch z⟩
            split at e
            case h_2 => cases e
            rename_i dR st3 hw
            split at e
            case isFalse => cases e
            rename_i htab
            cases e
            have up : ∀ {W' : Wd} {H' : Hp}, Le W1 H W' H' → Holds K W' H' st3 → Holds K W' H' (st3.put nn (.tab P' C' (some (Δ, σ)))) := fun {W' H'} le J => J.recell (look_mem htab) fun q _ hc => by
              obtain ⟨c1, c2, c3, _⟩ := hc
              exact ⟨c1, c2, c3, fun Δ2 σ2 z => by cases z; exact L.to le⟩
            cases rv with
            | @clo f c' t k nf ef nc ec hT =>
              rw [hWC, hC] at ef
              rw [hWC] at ec
              rw [hWC, hdk] at hT
              let Tr : Hp → Prop := fun H1 => H1 f = some (LamO (cloFrom cl scope.names []) C'.q params body scope b f c' t) ∧ H1 c' = some (LamX.CodeO c' C'.q) ∧ (b = true → H1 t = some (.tup [.int 0]))
              have ca : Called P w K mg base (kk + 1) f Tr τ σ := fun A outer s1 H1 Q E e0 hr ⟨t1, t2, t3⟩ h => clo_run (k := kk) e0 CI LS LB hr t1 t2 t3 (fun hr2 => hbody A outer s1 H1 E f c' hr2 lam_passes) h
              have hfn : ∀ (H1 : Hp) (h1 : Heap), HOk P w H1 h1 → Tr H1 → PySem.W.FnAt f h1 := fun H1 h1 ok z => by
                obtain ⟨pm, ctv, z2⟩ := lamO_at ok z.1
                exact ⟨_, _, _, _, z2⟩
              have tr0 : Tr H := ⟨ef, ec, fun z => (hT z).2⟩
              refine codeAny_mono (LamX.run_ofS (CX := L2.CX P w) (E := noX) (N := [y, n]) (ps := [y]) (us := us) (vs := [.ref f]) (Q := Q) lk hcdv S hr e0 hb r rfl fun hr' => ?_) fun z s' hz => ?_
              · have nm : ∀ {z : Str} {C : Addr}, (defScope st).names.lookup z = some .globalImplicit → (z == ("__debug__" : Str)) = false → mg z = some (.ref C) → L2.Names (zW P w K mg base y n qual (defScope st) g cdv A outer s H) z (.ref C) := fun h1 h2 h3 => ⟨h1, h2, .inl h3⟩
                rw [hB]
                refine ⟨_, pss_one (why_ps (cs := cs) (F := F) ca hfn hr' (.inl hv) hd hcd hvn hdn hcn hyn (nm g1 d1 m1) (nm g2 d2 m2) (nm g3 d3 m3) T hcode Gf hF hm hkf hbf hgf hdf), ?_⟩
                refine ⟨rfl, tr0, ?_⟩
                show tD K _ τ σ H _
                cases hτ : τ Δ (st1.put nn (.tab P' C' none)) with
                | none => rw [hτ] at hw; cases hw
                | some z =>
                  obtain ⟨rz, sz⟩ := z
                  rw [hτ] at hw
                  refine ⟨W1, _, Δ, rz, sz, L, I', hτ, ?_⟩
                  cases rz with
                  | ok d =>
                    simp only [whyR] at hw
                    cases hw
                    intro W' H' le J v rv
                    refine ⟨by rw [sizeLine_eq]; simp, fun p np => ?_⟩
                    exact wn W' _ (le.trans (Le.of (same_new np))) (up (le.trans (Le.of (same_new np))) (J.same (same_new np))) _ (rp_tup J np (.cons (.str "") (.cons rv .nil)))
                  | error z =>
                    obtain ⟨C, ns, es⟩ := z
                    simp only [whyR] at hw
                    split at hw
                    · rename_i hC
                      cases h1 : lkD "code" ns es with
                      | none => rw [h1] at hw; cases hw
                      | some cd =>
                        rw [h1] at hw
                        cases h2 : ff ns es with
                        | none => rw [h2] at hw; cases hw
                        | some r2 =>
                          rw [h2] at hw
                          cases hw
                          intro W' dx H' le J ex
                          refine ⟨hcs C hC, fun a na => ⟨C, dx, rfl, rfl, hC, ?_⟩⟩
                          obtain ⟨nd, gs, e1, e2, e3⟩ := ex
                          refine ⟨W', st3, [none, some (.xcp a dx ns es)], .ok (.rt (.tup [cd, r2])), st3, ⟨rfl, fun i d hi => ?_⟩, J, ?_, ?_⟩
                          · match i, hi with
                            | 0, hi => cases hi
                            | 1, hi =>
                              cases hi
                              exact ⟨.ref a, rfl, .xcp nd e1 e2 e3⟩
                            | i + 2, hi => cases hi
                          · have k1 : (varP 1 : EDen) [none, some (.xcp a dx ns es)] st3 = some (.ok (.xcp a dx ns es), st3) := rfl
                            have k2 : xfldP a dx "code" (varP 1) [none, some (.xcp a dx ns es)] st3 = some (.ok cd, st3) := by
                              unfold xfldP
                              rw [k1]
                              simp [bd, h1]
                            have k3 : callokP (F a dx) (consP (varP 1) nilP) [none, some (.xcp a dx ns es)] st3 = some (.ok r2, st3) := by
                              have k4 : (consP (varP 1) nilP : ADen) [none, some (.xcp a dx ns es)] st3 = some (.ok [.xcp a dx ns es], st3) := rfl
                              unfold callokP
                              rw [k4]
                              simp [bd, hff a dx ns es r2 st3 h2]
                            have k6 := consP_at k2 (consP_at k3 (rfl : (nilP : ADen) [none, some (.xcp a dx ns es)] st3 = some (.ok [], st3)))
                            unfold fldS rtP tupP
                            rw [k6]
                            simp [bd, big]
                          · exact fun W2 H2 le2 J2 v rv => wn W2 H2 (le.trans le2) (up (le.trans le2) J2) v rv
                    · cases hw
              · cases z with
                | error er =>
                  obtain ⟨_, _, _, _, _, _, _, _, _, _, _, _, z⟩ := hz
                  exact z.elim
                | ok fl =>
                  cases fl with
                  | ret u => exact hz
                  | next => exact hz
                  | brk => exact hz
                  | cont => exact hz
          · cases e
        · cases e
      · cases e
    · cases e
end
end Dn

set_option Elab.async false
set_option linter.all false
set_option maxRecDepth 100000
set_option maxHeartbeats 4000000
namespace Dn
open PySem PySem.Spec PyProof.Rows L2
/-! ### a def called with lambdas: what is below stands on a base that holds the cells -/
theorem cf_mem {x : Str} {c : Addr} : ∀ {names : List (Str × NameKind)} {n : Nat} {acc : List (Str × Addr)}, (x, c) ∈ cellsFrom n names acc → (x, c) ∈ acc ∨ (x, NameKind.cell) ∈ names
  | [], _, _, h => .inl h
  | (y, k) :: r, n, acc, h => by
    unfold cellsFrom at h
    split at h
    · rename_i hk
      rcases cf_mem h with z | z
      · rcases List.mem_cons.mp z with e | z
        · cases e
          refine .inr ?_
          rw [show k = NameKind.cell from beq_iff_eq.mp hk]
          exact List.mem_cons_self
        · exact .inl z
      · exact .inr (List.mem_cons_of_mem _ z)
    · rcases cf_mem h with z | z
      · exact .inl z
      · exact .inr (List.mem_cons_of_mem _ z)
section
variable {X : Cx} {pins : List (Addr × Obj)} {σ : L2.St} {H : Hp} {s : Shared}
def cellAs (cl : List (Str × Addr)) : List Addr := cl.filterMap fun p => cl.lookup p.1
theorem cellAs_iff {cl : List (Str × Addr)} {c : Addr} : c ∈ cellAs cl ↔ ∃ y, cl.lookup y = some c := by
  unfold cellAs
  rw [List.mem_filterMap]
  constructor
  · rintro ⟨p, _, h⟩; exact ⟨p.1, h⟩
  · rintro ⟨y, h⟩; exact ⟨(y, c), PySem.mem_of_lookup h, h⟩
theorem base_cells (I : Inv X pins σ H s) (hfn : ∀ y, X.fn y = true) (hck : ∀ x c, X.env.cells.lookup x = some c → X.env.scope.names.lookup x = some .cell) :
    ∃ base, Env0 X.prog X.w X.K X.mg base X.A X.stack s H ∧ CellsIn base X.N X.env.cells σ := by
  let l := (List.range s.heap.objs.size).filter fun b => !((X.base.get? b).isSome || decide (b ∈ cellAs X.env.cells))
  have inl : ∀ {b}, b ∈ l → X.base.get? b = none ∧ b ∉ cellAs X.env.cells := fun {b} h => by
    have z := (List.mem_filter.mp h).2
    simp only [Bool.not_eq_true', Bool.or_eq_false_iff, decide_eq_false_iff_not] at z
    refine ⟨?_, z.2⟩
    cases e : X.base.get? b with
    | none => rfl
    | some o => rw [e] at z; exact absurd z.1 (by simp)
  have lin : ∀ {b o}, s.heap.get? b = some o → X.base.get? b = none → b ∉ cellAs X.env.cells → b ∈ l := fun {b o} e h1 h2 => by
    refine List.mem_filter.mpr ⟨List.mem_range.mpr (Heap.lt_size e), ?_⟩
    simp [h1, h2]
  have up : ∀ {b o}, X.base.get? b = some o → (PySem.W.hideAll s.heap l).get? b = some o := fun {b o} e => PySem.W.hideAll_get l (I.bk b o e) fun hm => by rw [(inl hm).1] at e; cases e
  have upc : ∀ {c o}, c ∈ cellAs X.env.cells → s.heap.get? c = some o → (PySem.W.hideAll s.heap l).get? c = some o := fun {c o} hc e => PySem.W.hideAll_get l e fun hm => (inl hm).2 hc
  have dn : ∀ {b o}, (PySem.W.hideAll s.heap l).get? b = some o → s.heap.get? b = some o ∧ (X.base.get? b = some o ∨ b ∈ cellAs X.env.cells) := fun {b o} e => by
    have e1 := PySem.W.of_hideAll l e
    refine ⟨e1, ?_⟩
    cases q : X.base.get? b with
    | some u =>
      have := I.bk b u q
      rw [e1] at this
      exact .inl (this ▸ rfl)
    | none =>
      refine .inr (Classical.byContradiction fun z => ?_)
      rw [PySem.W.hideAll_none l (lin e1 q z)] at e
      cases e
  have cellH : ∀ {c v}, c ∈ cellAs X.env.cells → s.heap.IsCell c v → (PySem.W.hideAll s.heap l).IsCell c v := fun {c v} hc ⟨o, ho, hd⟩ => ⟨o, upc hc ho, hd⟩
  obtain ⟨mb, b1, b2⟩ := I.mod.blt
  refine ⟨PySem.W.hideAll s.heap l, ⟨I.ok.frames, ⟨I.mod.kin.keeps fun b o e => up e, I.mod.glob.keeps fun b o e => up e, ⟨mb, b1.keeps fun b o e => up e, b2⟩, I.mod.nolimit.keeps fun b o e => up e⟩, fun b o e => ?_, by rw [PySem.W.hideAll_size]; exact Nat.le_refl _, ?_, I.stkFree, I.hok, I.bare⟩, ?_⟩
  · obtain ⟨e1, e2⟩ := dn e
    refine ⟨e1, ?_⟩
    rcases e2 with e2 | e2
    · exact (I.bs b o e2).2
    · obtain ⟨y, hy⟩ := cellAs_iff.mp e2
      exact I.freeC y b hy
  · refine funFrames_none I.stack fun L hL => ?_
    obtain ⟨hb, o, ho, _⟩ := I.stack.mem hL
    refine PySem.W.hideAll_none l (lin ho hb fun hc => ?_)
    obtain ⟨y, hy⟩ := cellAs_iff.mp hc
    rcases List.mem_cons.mp (I.stkSub L hL) with e | e
    · obtain ⟨v, o1, h1, h2⟩ := I.cell y L hy
      obtain ⟨m, ns, _⟩ := I.loc
      obtain ⟨o2, es, ep, h3, h4, _⟩ := id ns
      rw [← e] at h3
      rw [h1] at h3
      cases h3
      rw [h2] at h4
      cases h4
    · obtain ⟨_, o1, h1, _⟩ := I.ok.funs.mem e
      exact absurd (Heap.lt_size h1) (Nat.not_lt.mpr (I.ok.cab y L (hfn y) hy))
  · refine ⟨I.ok.inj, fun y c hy => ?_, fun i x v c h1 h2 h3 => ?_, I.len⟩
    · obtain ⟨v, hv⟩ := I.cell y c hy
      exact ⟨v, cellH (cellAs_iff.mpr ⟨y, hy⟩) hv⟩
    · obtain ⟨m, _, hl⟩ := I.loc
      have hk := hck x c h3
      obtain ⟨u, ru, q⟩ := hl i x v h1 h2 (.inr (.inl hk))
      refine ⟨u, ru, ?_⟩
      rcases q with ⟨k, _⟩ | ⟨_, c2, e2, hc2⟩
      · have k' : X.env.scope.names.lookup x = some .local := k
        rw [hk] at k'; cases k'
      · rw [h3] at e2
        cases e2
        exact cellH (cellAs_iff.mpr ⟨x, h3⟩) hc2
end
/-- the def run where the maker's names are told -/
def EnvR (n : Nat) (P : Addr) (C : CloT) (F : L2.St → FDen) (Δ : Dl) (ds : List D) (st : Sta) (p : D × Sta) : Prop :=
  TabIs st n P C ∧ ∀ σ, ∃ st2, F σ ds (st.put n (.tab P C (some (Δ, σ)))) = some (.ok p.1, st2) ∧ st2.look n = some (.tab P C (some (Δ, σ))) ∧ st2.put n (.tab P C none) = p.2
open Classical in
noncomputable def envP (n : Nat) (P : Addr) (C : CloT) (F : L2.St → FDen) (tr : ADen) : EDen := fun Δ st => bd (tr Δ st) fun ds st1 => if h : ∃ p, EnvR n P C F Δ ds st1 p then some (.ok h.choose.1, h.choose.2) else none
theorem EnvR.uniq {n : Nat} {P : Addr} {C : CloT} {F : L2.St → FDen} {Δ : Dl} {ds : List D} {st : Sta} {p q : D × Sta} (h : EnvR n P C F Δ ds st p) (g : EnvR n P C F Δ ds st q) : p = q := by
  obtain ⟨s1, a1, _, a3⟩ := h.2 []
  obtain ⟨s2, b1, _, b3⟩ := g.2 []
  rw [a1] at b1
  have e := Option.some.inj b1
  have e1 : p.1 = q.1 := Except.ok.inj (congrArg Prod.fst e)
  have e2 : s1 = s2 := congrArg Prod.snd e
  exact Prod.ext e1 (by rw [← a3, ← b3, e2])
theorem env_at {n : Nat} {P : Addr} {C : CloT} {F : L2.St → FDen} {tr : ADen} {Δ : Dl} {ds : List D} {st st1 : Sta} {p : D × Sta} (h : tr Δ st = some (.ok ds, st1)) (g : EnvR n P C F Δ ds st1 p) : envP n P C F tr Δ st = some (.ok p.1, p.2) := by
  unfold envP
  rw [h]
  simp only [bd]
  have ex : ∃ p, EnvR n P C F Δ ds st1 p := ⟨p, g⟩
  rw [dif_pos ex, ex.choose_spec.uniq g]
section
variable {X : Cx} {E : XK} {a : Expr} {tr : ADen} {pos p : Pos} {x : Str} {g P0 : Addr} {fd : FuncData} {ps : List Str} {n k : Nat} {C : CloT} {F : L2.St → FDen}
theorem de_env (G : ∀ (base : Heap) (σ : L2.St), CellsIn base X.N X.env.cells σ → FnOk X.prog X.w X.K X.mg base (L2.CX X.prog X.w) k g fd ps (spF X.K (F σ))) (hr : Room k X.A) (hfn : ∀ y, X.fn y = true) (hck : ∀ x c, X.env.cells.lookup x = some c → X.env.scope.names.lookup x = some .cell)
    (hm : X.mg x = some (.ref g)) (hk : PySem.W.keepIn X.K (.ref g) = true) (hb : Binds X.K fd ps []) (ha : PA X [a] (tAD X.K E tr)) (hg : Gl X x := by rfl) (hdb : (x == ("__debug__" : Str)) = false := by decide)
    (he : starEach [a] X.env = (false, eval a X.env) :: starEach [] X.env := by rfl) (hpl : (backTo pos (starEach [] X.env)).any (·.1) = false := by rfl) :
    PE X (.Call (.Name x p) [a] [] pos) (tD X.K E (envP n P0 C F tr)) := by
  refine ⟨fun pins s σ H Q I h => ?_⟩
  obtain ⟨W, st0, h⟩ := h
  have h2 : tAD X.K E tr σ H fun vs H1 => spF X.K (F σ) vs H1 Q noX := by
    refine ⟨W, st0, h.seq.mono fun ds st1 W1 H1 e1 i1 q vs rs => ?_⟩
    obtain ⟨Δ, r, st', L, J, e, w⟩ := q.2
    simp only at e
    split at e
    · rename_i hex
      cases e
      have sp := hex.choose_spec
      obtain ⟨st2, f1, f2, f3⟩ := sp.2 σ
      have J2 : Holds X.K W1 H1 (st1.put n (.tab P0 C (some (Δ, σ)))) := J.recell (look_mem sp.1) fun q _ hc => by
        obtain ⟨c1, c2, c3, _⟩ := hc
        exact ⟨c1, c2, c3, fun Δ2 σ2 z => by cases z; exact L⟩
      refine ⟨W1, ds, _, _, st2, rs, J2, f1, fun W' H' le J' v rv => w W' H' le ?_ v rv⟩
      have J3 := J'.recell (c' := .tab P0 C none) (look_mem f2) fun q _ hc => by
        obtain ⟨c1, c2, c3, _⟩ := hc
        exact ⟨c1, c2, c3, fun Δ2 σ2 z => nomatch z⟩
      rw [f3] at J3
      exact J3
    · cases e
  refine wpAny_Call_Name_kw (ld_glob I hg hm (PySem.W.callWith_K (h₀ := X.base) I.ok.mod.kin hk (thn (ha.run pos pins s σ H _ I h2) fun us s1 ⟨vs, H1, I1, r1, q1⟩ => ⟨I1.kIn, ?_⟩) he hpl) hdb)
  obtain ⟨base, e0, CI⟩ := base_cells I1 hfn hck
  have G1 := G base σ CI
  have hl : us.length = ps.length := by rw [← r1.length]; exact G1.len _ _ _ _ q1
  have bd := hb s1 us I1.kIn (by rw [List.append_nil]; exact hl)
  rw [List.append_nil] at bd
  refine wpAny_call (codeAny_mono (G1.run X.A X.stack s1 H1 ⟨us, []⟩ us vs Q noX hr e0 bd r1 q1) fun r s' hq => ?_)
  cases r with
  | error e =>
    obtain ⟨_, _, _, _, _, _, _, _, _, _, _, _, z⟩ := hq
    exact z.elim
  | ok fl =>
    cases fl with
    | ret u => exact I1.after hq
    | next => exact False.elim hq
    | brk => exact False.elim hq
    | cont => exact False.elim hq
end
end Dn

set_option Elab.async false
set_option linter.all false
set_option maxRecDepth 100000
set_option maxHeartbeats 4000000
namespace Dn
open PySem PySem.Spec PyProof.Rows L2
/-! ### the lambdas of a def's text -/
abbrev LamT := Arguments × Expr × Scope
def lamsE : Nat → Expr → List LamT
  | 0, _ => []
  | n + 1, e => match e with
    | .Lambda a b s _ => [(a, b, s)]
    | .BoolOp _ es _ => es.flatMap (lamsE n)
    | .BinOp a _ b _ => lamsE n a ++ lamsE n b
    | .UnaryOp _ a _ => lamsE n a
    | .IfExp a b c _ => lamsE n a ++ (lamsE n b ++ lamsE n c)
    | .Compare a _ es _ => lamsE n a ++ es.flatMap (lamsE n)
    | .Call f es _ _ => lamsE n f ++ es.flatMap (lamsE n)
    | .List es _ => es.flatMap (lamsE n)
    | .Tuple es _ _ => es.flatMap (lamsE n)
    | _ => []
def lamsS : Nat → Stmt → List LamT
  | 0, _ => []
  | n + 1, s => match s with
    | .Return (some e) _ => lamsE n e
    | .Assign _ e _ => lamsE n e
    | .Expr e _ => lamsE n e
    | .If c a b _ => lamsE n c ++ (a.flatMap (lamsS n) ++ b.flatMap (lamsS n))
    | .For _ _ a _ _ => a.flatMap (lamsS n)
    | .While _ a _ _ => a.flatMap (lamsS n)
    | _ => []
def lamT (st : Stmt) : List LamT := (defBody st).flatMap (lamsS 12)
def lamK (st : Stmt) (k : Nat) : LamT := (lamT st).getD k (defArgs st, .Tuple [] 0 ⟨0, 0, 0, 0⟩, defScope st)
def lamD (st : Stmt) (k : Nat) : Bool := !(lamK st k).1.args.isEmpty
/-- the table of the def's lambdas, its cells at cl -/
def CCl (st : Stmt) (q : Str) (cl : List (Str × Addr)) : CloT := ⟨fun k a c t => LamO (cloFrom cl (lamK st k).2.2.names []) q (lamK st k).1 (lamK st k).2.1 (lamK st k).2.2 (lamD st k) a c t, q, lamD st⟩
theorem lamAt_mk {P : Program} {w : World} {K : PySem.W.Frag} {mg : Str → Option Value} {base : Heap} {N : List Str} {st : Stmt} {kk k n : Nat} {τ : EDen} {q : Str} {params : Arguments} {body : Expr} {scope sc : Scope} {b : Bool} {an : Str} (hK : lamK st k = (params, body, scope)) (hd : (!params.args.isEmpty) = b) (L : lamS2B sc N scope b an = true) (LB : LamBind params body scope b an)
    (hbody : ∀ (A : Around) (outer : List Env) (s : Shared) (H : Hp) (E : XK) (f c' : Addr), Room kk (A.deeper (lamE q (cellsFrom n sc.names []) s.heap.objs.size scope f c')) → Passes (L2.CX P w) (lamC P w K mg base N (cellsFrom n sc.names []) q A outer s H E scope f c') E →
      PE (lamC P w K mg base N (cellsFrom n sc.names []) q A outer s H E scope f c') body (tD K E τ)) : LamAt P w K mg base N (cellsFrom n sc.names []) (CCl st q (cellsFrom n sc.names [])) kk k τ := by
  refine ⟨params, body, scope, b, an, fun a c t => ?_, ?_, lamS2_by L, LB, hbody⟩
  · show LamO (cloFrom _ (lamK st k).2.2.names []) q (lamK st k).1 (lamK st k).2.1 (lamK st k).2.2 (!(lamK st k).1.args.isEmpty) a c t = _
    rw [hK, ← hd]
    rfl
  · show (!(lamK st k).1.args.isEmpty) = b
    rw [hK]
    exact hd
theorem de_lamK {X : Cx} {E : XK} {st : Stmt} {n k m : Nat} {P c : Addr} {params : Arguments} {body : Expr} {scope sc : Scope} {an : Str} {pos : Pos} (TB : LamX.TabB X.base X.mg c P) (hcode : X.env.code = .ref c) (hK : lamK st k = (params, body, scope)) (hd : (!params.args.isEmpty) = false) (L : lamS2B sc X.N scope false an = true) (hcl : X.env.cells = cellsFrom m sc.names [])
    (hdef : defaultsOf params X.env = ([], []) := by rfl) : PE X (.Lambda params body scope pos) (tD X.K E (lamP n P (CCl st (X.env.qual ++ "<lambda>") X.env.cells) k)) :=
  de_lam TB hcode rfl (fun a c t => by
    show LamO (cloFrom X.env.cells (lamK st k).2.2.names []) _ (lamK st k).1 (lamK st k).2.1 (lamK st k).2.2 (!(lamK st k).1.args.isEmpty) a c t = _
    rw [hK, ← hd]) (by
    show (!(lamK st k).1.args.isEmpty) = false
    rw [hK]; exact hd) (by rw [hcl]; exact (lamS2_by L).free) hdef
theorem cells_kind {sc : Scope} {n : Nat} (h : (sc.names.all fun y => !decide (y.2 = .cell) || decide (sc.names.lookup y.1 = some .cell)) = true) : ∀ x c, (cellsFrom n sc.names []).lookup x = some c → sc.names.lookup x = some .cell := fun x c e => by
  rcases cf_mem (PySem.mem_of_lookup e) with z | z
  · cases z
  · have := List.all_eq_true.mp h _ z
    simpa using this
/-! ### a law whose text holds lambdas -/
def st0L (P : Addr) (CC : CloT) (a : Addr) (ns : List Int) : Sta := ⟨none, some (a, ns), [(1, .tab P CC none)], 1⟩
def spL (K : PySem.W.Frag) (P : Addr) : Sp := fun vs H Q _ => ∃ (a : Addr) (ns : List Int), vs = [.ref a] ∧ ns.length ≤ 63 ∧ SqL K H a (ns.map V.int) ∧ H P = some (.tbl #[]) ∧ ∀ H', Q (.bl true) H'
theorem fn_law {P : Program} {w : World} {K : PySem.W.Frag} {mg : Str → Option Value} {base : Heap} {x qual lp : Str} {st : Stmt} {f P0 c : Addr} {N : List Str} {k : Nat} {kV doc pm ct oc : Value} {an od : Option Addr} {osl : Array (Option Value)} (τ : CloT → SDen)
    (lk : K.lookup f = some ⟨oc, od, .func (PySem.W.fnOf x qual (defArgs st) (defBody st) (defScope st) .none kV doc pm an (.ref c) ct), osl⟩) (hcd : PySem.W.codeIn K (.ref c) qual = true) (S : FnScope N [lp] (defScope st)) (q : Str)
    (hbody : ∀ (A : Around) (outer : List Env) (s : Shared) (H : Hp) (E : XK), Room k (A.deeper (envOfC qual (defScope st) s.heap.objs.size f (.ref c))) →
      Passes (L2.CX P w) (cxOf (L2.CX P w) P w K mg base N qual (defScope st) f (.ref c) A outer s H E) E → PassesOwn (model P w) (A.deeper (envOfC qual (defScope st) s.heap.objs.size f (.ref c))) (envOfC qual (defScope st) s.heap.objs.size f (.ref c)) (cxOf (L2.CX P w) P w K mg base N qual (defScope st) f (.ref c) A outer s H E).xe →
      PSs (cxOf (L2.CX P w) P w K mg base N qual (defScope st) f (.ref c) A outer s H E) (defBody st) (tSD K E (τ (CCl st q (cellsFrom (s.heap.objs.size + 1) (defScope st).names [])))))
    (ht : ∀ (CC : CloT) (a : Addr) (ns : List Int), ns.length ≤ 63 → ∃ st', runD (τ CC) N.length [.opq (.ref a)] (st0L P0 CC a ns) = some (.ok (.bl true), st')) :
    FnOk P w K mg base (L2.CX P w) (k + 1) f (PySem.W.fnOf x qual (defArgs st) (defBody st) (defScope st) .none kV doc pm an (.ref c) ct) [lp] (spL K P0) := by
  refine fn_of lk hcd S (fun vs H Q E h => ?_) fun A outer s H vs Q E hr h => ?_
  · obtain ⟨a, ns, rfl, _⟩ := h
    rfl
  · obtain ⟨a, ns, rfl, hl, hS, hP, hQ⟩ := h
    have hp : Passes (L2.CX P w) (cxOf (L2.CX P w) P w K mg base N qual (defScope st) f (.ref c) A outer s H E) E := passes_call (takes_of rfl rfl rfl rfl) fun _ _ _ _ e => e
    generalize hCC : CCl st q (cellsFrom (s.heap.objs.size + 1) (defScope st).names []) = CC
    have hB := hbody A outer s H E hr hp (passes_of rfl)
    rw [hCC] at hB
    refine ⟨tSD K E (τ CC), hB, ?_⟩
    obtain ⟨st', e⟩ := ht CC a ns hl
    let W : Wd := ⟨fun b => b = P0, fun b => b = P0, fun n => if n = 1 then some P0 else none, CC, fun _ h => h⟩
    have hW : ∀ {n : Nat} {b : Addr}, W.h n = some b → n = 1 ∧ b = P0 := fun {n b} h => by
      have h' : (if n = 1 then some P0 else none) = some b := h
      by_cases c : n = 1
      · rw [if_pos c] at h'
        exact ⟨c, (Option.some.inj h').symm⟩
      · rw [if_neg c] at h'; cases h'
    have iv : Holds K W H (st0L P0 CC a ns) := by
      refine ⟨fun b h => ?_, fun n m b h1 h2 => ?_, fun n b h => ?_, fun _ => rfl, (fun _ h => nomatch h), fun b zs h => ?_, fun n cc h => ?_, fun n b h => ?_⟩
      · rw [show b = P0 from h, hP]; exact fun z => nomatch z
      · rw [(hW h1).1, (hW h2).1]
      · rw [(hW h).2, hP]; exact fun z => nomatch z
      · cases h
        have ne : ∀ {o : HO}, H a = some o → (∀ q, o ≠ .tbl q) → a ≠ P0 := fun {o} e d z => by
          rw [z, hP] at e
          exact d #[] (Option.some.inj e).symm
        rcases hS with h | h
        · refine .inl ⟨?_, h⟩
          rcases h with h | ⟨o, h⟩
          · exact ne h fun q z => by cases z
          · exact ne h fun q z => by cases z
        · exact .inr h
      · rcases List.mem_singleton.mp h with z
        cases z
        refine ⟨by decide, P0, rfl, rfl, rfl, rfl, ⟨#[], hP, True.intro, fun pos cv z => ?_⟩, fun _ _ z => nomatch z⟩
        have z' : codeAmong pos [] = some cv := z
        simp [codeAmong] at z'
      · rw [(hW h).1]; exact Nat.le_refl 1
    have L : LocD K W H (L2.start N [.ref a]) ([D.opq (.ref a)].map some ++ List.replicate (N.length - [D.opq (.ref a)].length) none) := start_loc (.cons (.opq _) .nil) N
    unfold runD at e
    cases hm : τ CC ([D.opq (.ref a)].map some ++ List.replicate (N.length - [D.opq (.ref a)].length) none) (st0L P0 CC a ns) with
    | none => rw [hm] at e; cases e
    | some p =>
      obtain ⟨ro, st1⟩ := p
      rw [hm] at e
      simp only [Option.bind] at e
      refine ⟨W, _, _, ro, st1, L, iv, hm, ?_⟩
      cases ro with
      | error z => simp only [outR, Option.map] at e; cases e
      | ok o =>
        cases o with
        | rt d =>
          simp only [outR, Option.map] at e
          cases e
          intro W' H' _ _ v rv
          cases rv
          exact hQ H'
        | nx Δ => simp only [outR, Option.map] at e; cases e
        | bk Δ => simp only [outR, Option.map] at e; cases e
        | ct Δ => simp only [outR, Option.map] at e; cases e
/-! ### a if t else b as a test -/
/-! ### the end -/
theorem lawAt_mk {l : PySem.W.OpenLaw} {w : World} {K : PySem.W.Frag} {CX : CXT} {k : Nat} {x : Str} {mg : Str → Option Value} {fa c0 P0 : Addr} {h : Heap} {fd : FuncData} (t1 : h.get? P0 = some { cls := .none, data := .fields #[] }) (t2 : K.lookup P0 = none) (t3 : PySem.W.CodeHd h c0 P0)
    (hb : ∀ (s : Shared) (u : Value), BindsTo s fd ⟨[u], []⟩ [(x, u)]) (hF : ∀ base : Heap, K.In base → base.Ns mainGlobals mg → LamX.TabB base mg c0 P0 → FnOk l.prog w K mg base CX k fa fd [x] (spL K P0)) : LamX.LawAtS l w K CX k 63 x mg fa h :=
  ⟨fd, [(c0, P0)], spL K P0, List.forall_mem_cons.mpr ⟨t1, fun _ h => nomatch h⟩, List.forall_mem_cons.mpr ⟨t2, fun _ h => nomatch h⟩, List.forall_mem_cons.mpr ⟨t3, fun _ h => nomatch h⟩, hb,
    fun H a ns hl _ hP hS => ⟨a, ns, rfl, hl, hS, hP (c0, P0) List.mem_cons_self, fun _ => rfl⟩, fun base h1 h2 h3 => hF base h1 h2 (h3 (c0, P0) List.mem_cons_self)⟩
/-- own classes, then tl -/
def ownB (tl : List Value) : List Value → Bool
  | .ref _ :: r => ownB tl r
  | l => decide (l = tl)
theorem own_by {tl : List Value} : ∀ {l : List Value}, ownB tl l = true → OwnThen tl l
  | [], h => ⟨[], of_decide_eq_true h⟩
  | v :: r, h => by
    cases v with
    | ref c => exact (own_by (l := r) h).own
    | _ => exact ⟨[], of_decide_eq_true h⟩
end Dn

set_option Elab.async false
set_option linter.all false
set_option maxRecDepth 100000
set_option maxHeartbeats 4000000
namespace Dn
open PySem PySem.Spec PyProof.Rows L2
/-! ### f(e, .., k = v, ..) -/
end Dn

set_option Elab.async false
set_option linter.all false
set_option maxRecDepth 100000
set_option maxHeartbeats 4000000
namespace Dn
open PySem PySem.Spec PyProof.Rows L2
/-! ### x in t, x of any kind, t a tuple of data -/
section
variable {X : Cx}
end
/-! ### keywords behind positional values, of a plain def -/
end Dn

set_option Elab.async false
set_option linter.all false
set_option maxRecDepth 100000
set_option maxHeartbeats 4000000
namespace Dn
open PySem PySem.Spec PyProof.Rows L2
/-! ### the __init__ of an error class with two fields -/
section
variable {P : Program} {w : World} {K : PySem.W.Frag} {mg : Str → Option Value} {base : Heap} {C : Addr}
theorem fn_init2 {qual : Str} {st : Stmt} {f : Addr} {fd : FuncData} {v1 v2 fn1 fn2 : Str} {c : Str} (G : L2.Fun K "__init__" qual st f fd) (S : FnScope ["self", v1, v2] ["self", v1, v2] (defScope st)) (T : OexG K C)
    (n1 : PySem.W.findIn K (.ref C) fn1 = some none) (n2 : PySem.W.findIn K (.ref C) fn2 = some none) (n3 : PySem.W.findIn K (.ref C) "code" = some none)
    (hb : ∀ (cdv : Value) (A : Around) (outer : List Env) (s : Shared) (H : Hp) (E : XK), PSs (cxOf (L2.CX P w) P w K mg base ["self", v1, v2] qual (defScope st) f cdv A outer s H E) (defBody st) (tSeq (tFld K fn1 (tVar 0) (tVar 1)) (tSeq (tFld K fn2 (tVar 0) (tVar 2)) (tFld K "code" (tVar 0) (tC (.str c)))))) :
    FnOk P w K mg base (L2.CX P w) 1 f fd ["self", v1, v2] (spI C 2 [fn1, fn2] c) := by
  refine G.okX S (fun vs H Q E h => ?_) fun cdv A outer s H vs Q E hr h => ?_
  · obtain ⟨a, us, rfl, hl, _⟩ := h
    rw [List.length_cons, hl]; rfl
  · obtain ⟨a, us, rfl, hl, ea, go⟩ := h
    match us, hl with
    | [y, z], _ =>
      refine ⟨_, hb cdv A outer s H E, ?_⟩
      refine ⟨y, rfl, .ref a, rfl, a, C, rfl, T, n1, .inl ⟨ea, fun d nd ne => ?_⟩⟩
      have ead : upd (upd H d (exd d [(fn1, y)])) a (exo a C (some d)) d = some (exd d [(fn1, y)]) := by rw [upd_ne ne, upd_same]
      refine ⟨z, rfl, .ref a, rfl, a, C, rfl, T, n2, .inr ⟨d, [(fn1, y)], upd_same, ead, by simp, ?_⟩⟩
      refine ⟨.ref a, rfl, a, C, rfl, T, n3, .inr ⟨d, [(fn2, z), (fn1, y)], by rw [upd_ne (Ne.symm ne), upd_same], upd_same, by simp, ?_⟩⟩
      refine go d nd ne _ (by rw [upd_ne (Ne.symm ne), upd_ne (Ne.symm ne), upd_same]) upd_same fun b h1 h2 => by rw [upd_ne h2, upd_ne h2, upd_ne h1, upd_ne h2]
end
end Dn

set_option Elab.async false
set_option linter.all false
set_option maxRecDepth 100000
set_option maxHeartbeats 4000000
namespace Dn
open PySem PySem.Spec PyProof.Rows L2
open PySem.HandSPX (excO)
/-! ### raise C(), C an own class whose __init__ stores its code alone -/
section
variable {X : Cx} {E : XK} {k : Nat} {fd : FuncData} {ps : List Str} {sp : Sp} {C fI : Addr} {x : Str} {p pos pos' : Pos} {code : Str}
end
/-! ### C.m(..), m a staticmethod of the class C -/
section
variable {X : Cx} {E : XK} {k n : Nat} {g C : Addr} {fd : FuncData} {ps ks : List Str} {is : List Nat} {F : FDen} {y m : Str} {p pos apos : Pos} {a : Expr} {es : List Expr} {kws : List Keyword} {tr tk : ADen} {pl : Sem Bool}
end
end Dn

set_option Elab.async false
set_option linter.all false
set_option maxRecDepth 100000
set_option maxHeartbeats 4000000
namespace Dn
open PySem PySem.Spec PyProof.Rows L2
/-! ### the definitions of the defs of the texts, law by law in Fx*: what is read of a caught error -/
abbrev XFS : List Str := ["code", "value", "at", "path", "word", "line", "name", "piece", "user", "subject", "most", "limit"]
def ff1 (f : Str) (ns : List Str) (es : List D) : Option D := (lkD f ns es).map fun d => .tup [d]
def ff2 (f g : Str) (ns : List Str) (es : List D) : Option D := (lkD f ns es).bind fun d => (lkD g ns es).map fun d2 => .tup [d, d2]
def ffC (c : Str) (ns : List Str) (es : List D) : Option D :=
  if c ∈ (["InvalidName", "InvalidNumber", "InvalidMark", "InvalidLimit"] : List Str) then ff1 "value" ns es
  else if c ∈ (["InvalidTable", "InvalidBases", "InvalidFact", "InvalidCommand"] : List Str) then ff1 "at" ns es
  else if c ∈ (["InvalidStep", "InvalidTurn", "UnlikeEnds"] : List Str) then ff1 "path" ns es
  else if c ∈ (["InvalidText", "InvalidPage"] : List Str) then (if c = "InvalidText" then ff1 "word" ns es else ff1 "line" ns es)
  else if c ∈ (["DuplicateName", "UnknownName"] : List Str) then ff1 "name" ns es
  else if c ∈ (["Circular", "UnknownPiece"] : List Str) then ff1 "piece" ns es
  else if c ∈ (["InUse", "TooMany"] : List Str) then (if c = "InUse" then ff2 "piece" "user" ns es else ff2 "subject" "most" ns es)
  else if c ∈ (["Full", "TooDeep"] : List Str) then (if c = "Full" then ff1 "limit" ns es else ff1 "most" ns es)
  else some (.tup [])
def ffX (ns : List Str) (es : List D) : Option D := match lkD "code" ns es with
  | some (.str c) => ffC c ns es
  | _ => none
def d_l_field (a dx : Addr) : SDen :=
    (sqP (asP (.one 1) (xfldP a dx "code" (varP 0)))
    (sqP (ifP (tstP (binP inD (varP 1) (tupP (consP (cstP (.str "InvalidName")) (consP (cstP (.str "InvalidNumber")) (consP (cstP (.str "InvalidMark")) (consP (cstP (.str "InvalidLimit")) nilP))))))) (rtP (tupP (consP (xfldP a dx "value" (varP 0)) nilP))) nxP)
    (sqP (ifP (tstP (binP inD (varP 1) (tupP (consP (cstP (.str "InvalidTable")) (consP (cstP (.str "InvalidBases")) (consP (cstP (.str "InvalidFact")) (consP (cstP (.str "InvalidCommand")) nilP))))))) (rtP (tupP (consP (xfldP a dx "at" (varP 0)) nilP))) nxP)
    (sqP (ifP (tstP (binP inD (varP 1) (tupP (consP (cstP (.str "InvalidStep")) (consP (cstP (.str "InvalidTurn")) (consP (cstP (.str "UnlikeEnds")) nilP)))))) (rtP (tupP (consP (xfldP a dx "path" (varP 0)) nilP))) nxP)
    (sqP (ifP (tstP (binP inD (varP 1) (tupP (consP (cstP (.str "InvalidText")) (consP (cstP (.str "InvalidPage")) nilP))))) (rtP (tupP (consP (ifP (tstP (binP eqD (varP 1) (cstP (.str "InvalidText")))) (xfldP a dx "word" (varP 0)) (xfldP a dx "line" (varP 0))) nilP))) nxP)
    (sqP (ifP (tstP (binP inD (varP 1) (tupP (consP (cstP (.str "DuplicateName")) (consP (cstP (.str "UnknownName")) nilP))))) (rtP (tupP (consP (xfldP a dx "name" (varP 0)) nilP))) nxP)
    (sqP (ifP (tstP (binP inD (varP 1) (tupP (consP (cstP (.str "Circular")) (consP (cstP (.str "UnknownPiece")) nilP))))) (rtP (tupP (consP (xfldP a dx "piece" (varP 0)) nilP))) nxP)
    (sqP (ifP (tstP (binP inD (varP 1) (tupP (consP (cstP (.str "InUse")) (consP (cstP (.str "TooMany")) nilP))))) (rtP (ifP (tstP (binP eqD (varP 1) (cstP (.str "InUse")))) (tupP (consP (xfldP a dx "piece" (varP 0)) (consP (xfldP a dx "user" (varP 0)) nilP))) (tupP (consP (xfldP a dx "subject" (varP 0)) (consP (xfldP a dx "most" (varP 0)) nilP))))) nxP)
    (sqP (ifP (tstP (binP inD (varP 1) (tupP (consP (cstP (.str "Full")) (consP (cstP (.str "TooDeep")) nilP))))) (rtP (tupP (consP (ifP (tstP (binP eqD (varP 1) (cstP (.str "Full")))) (xfldP a dx "limit" (varP 0)) (xfldP a dx "most" (varP 0))) nilP))) nxP)
    (rtP (tupP nilP)))))))))))
def F_l_field (a dx : Addr) : FDen := gd 1 (runD (d_l_field a dx) 2)
theorem gd_run2 {n N : Nat} {τ : Addr → Addr → SDen} : ∀ a dx ds st q, gd n (runD (τ a dx) N) ds st = some q → runD (τ a dx) N ds st = some q := fun _ _ => gd_run
theorem gd_len2 {n N : Nat} {τ : Addr → Addr → SDen} : ∀ a dx ds st r, gd n (runD (τ a dx) N) ds st = some r → ds.length = n := fun _ _ => gd_len
/-- what the reading of the caught error gives -/
abbrev FfOk : Prop := ∀ (a dx : Addr) (ns : List Str) (es : List D) (r : D) (st0 : Sta), ffX ns es = some r → F_l_field a dx [.xcp a dx ns es] st0 = some (.ok r, st0)
end Dn

set_option Elab.async false
set_option linter.all false
set_option maxRecDepth 100000
set_option maxHeartbeats 4000000
namespace Dn
open PySem PySem.Spec PyProof.Rows L2
def d_l_pull : SDen :=
    (sqP (ifP (andT (tstP (binP eqD (bagIx 0 2) (cstP (.int 0)))) (tstP (binP ltD (bagIx 0 1) (bltP lenF (consP (bagIx 0 0) nilP))))) (sqP (asP (.one 3) (binP ixD (bagIx 0 0) (bagIx 0 1)))
    (sqP (bagSet 0 1 (binP addD (bagIx 0 1) (cstP (.int 1))))
    (ifP (tstP (binP geD (varP 3) (binP (intD powI) (cstP (.int 10)) (cstP (.int 18))))) (bagSet 0 2 (varP 3)) (bagSet 0 3 (binP (intD modI) (bltP intF (consP (binP addD (binP addD (binP mulD (bagIx 0 3) (cstP (.int 48611))) (binP mulD (binP (intD modI) (bltP intF (consP (varP 3) nilP)) (cstP (.int 2147483423))) (cstP (.int 15013)))) (cstP (.int 29))) nilP)) (cstP (.int 2147483579))))))) nxP)
    (sqP (ifP (tstP (binP gtD (bagIx 0 2) (cstP (.int 0)))) (sqP (asP (.one 4) (binP (intD modI) (bltP intF (consP (bagIx 0 2) nilP)) (varP 1)))
    (sqP (bagSet 0 2 (binP (intD fdivI) (bagIx 0 2) (varP 1)))
    (rtP (varP 4)))) nxP)
    (sqP (bagSet 0 4 (binP addD (bagIx 0 4) (cstP (.int 1))))
    (sqP (asP (.one 2) (bagIx 0 3))
    (sqP (bagSet 0 3 (binP (intD modI) (bltP intF (consP (binP addD (binP addD (binP addD (binP mulD (binP mulD (varP 2) (varP 2)) (cstP (.int 5))) (binP mulD (varP 2) (cstP (.int 31153)))) (binP mulD (bagIx 0 4) (cstP (.int 1299827)))) (cstP (.int 70001))) nilP)) (cstP (.int 2147483549))))
    (rtP (binP (intD modI) (bltP intF (consP (binP addD (binP (intD fdivI) (bagIx 0 3) (cstP (.int 71))) (binP mulD (binP (intD modI) (bltP intF (consP (bagIx 0 3) nilP)) (cstP (.int 7907))) (cstP (.int 61)))) nilP)) (varP 1))))))))
def F_l_pull : FDen := gd 2 (runD (d_l_pull) 5)
def d_l_any : SDen :=
    (rtP (binP ixD (varP 1) (callP F_l_pull (consP (varP 0) (consP (bltP lenF (consP (varP 1) nilP)) nilP)))))
def F_l_any : FDen := gd 2 (runD (d_l_any) 2)
def d_l_names : SDen :=
    (sqP (asP (.one 2) (cstP (.str "abcdefghijklmnopqrstuvwxyz")))
    (sqP (asP (.one 3) (binP joinF (cstP (.str "")) (lcP (rng1P (consP (callP F_l_pull (consP (varP 0) (consP (cstP (.int 4)) nilP))) nilP)) (.one 6) yesT (callP F_l_any (consP (varP 0) (consP (varP 2) nilP))) [6])))
    (sqP (asP (.tup [4, 5]) (tupP (consP (callP F_l_pull (consP (varP 0) (consP (binP addD (bltP lenF (consP (varP 3) nilP)) (cstP (.int 1))) nilP))) (consP (callP F_l_pull (consP (varP 0) (consP (cstP (.int 26)) nilP))) nilP))))
    (rtP (lcP (rng1P (consP (varP 1) nilP)) (.one 6) yesT (binP addD (binP addD (slP (varP 3) noP (soP (varP 4))) (binP ixD (varP 2) (binP (intD modI) (bltP intF (consP (binP addD (varP 5) (binP mulD (cstP (.int 7)) (varP 6))) nilP)) (cstP (.int 26))))) (slP (varP 3) (soP (varP 4)) noP)) [6])))))
def F_l_names : FDen := gd 2 (runD (d_l_names) 7)
def d_l_columns : SDen :=
    (rtP (lcP (rng1P (consP (varP 1) nilP)) (.one 4) yesT (bltP tupleF (consP (lcP (rng1P (consP (varP 3) nilP)) (.one 5) yesT (callP F_l_pull (consP (varP 0) (consP (varP 2) nilP))) [5]) nilP)) [4]))
def F_l_columns : FDen := gd 4 (runD (d_l_columns) 6)
def d_l_added : SDen :=
    (rtP (bltP tupleF (consP (lcP (zipP (consP (varP 0) (consP (varP 1) nilP))) (.tup [4, 5]) yesT (binP (intD modI) (bltP intF (consP (binP addD (varP 4) (binP mulD (varP 2) (varP 5))) nilP)) (varP 3)) [4, 5]) nilP)))
def F_l_added : FDen := gd 4 (runD (d_l_added) 6)
def d_l_spread_out : SDen :=
    (sqP (asP (.one 3) (lstP nilP))
    (sqP (foP (rng1P (consP (varP 2) nilP)) (.one 4) (asP (.one 3) (binP addD (varP 3) (lcP (itP (varP 0)) (.one 5) yesT (callP F_l_added (consP (varP 5) (consP (varP 1) (consP (varP 4) (consP (varP 2) nilP))))) [5]))))
    (rtP (varP 3))))
def F_l_spread_out : FDen := gd 3 (runD (d_l_spread_out) 6)
def d_l_column_ranks : SDen :=
    (sqP (asP (.one 3) (lstP (consP (tupP (consP (cstP (.int 0)) (consP (lstP (consP (bltP tupleF (consP (binP mulD (lstP (consP (cstP (.int 0)) nilP)) (varP 2)) nilP)) nilP)) nilP))) nilP)))
    (sqP (foP (itP (varP 0)) (.one 4) (sqP (asP (.one 5) (newP nilP))
    (sqP (foP (itP (varP 3)) (.tup [6, 7]) (exP (appP (varP 5) (ifP (tstP (binP inDeep (varP 4) (varP 7))) (tupP (consP (varP 6) (consP (varP 7) nilP))) (tupP (consP (binP addD (varP 6) (cstP (.int 1))) (consP (callP F_l_spread_out (consP (varP 7) (consP (varP 4) (consP (varP 1) nilP)))) nilP)))))))
    (asP (.one 3) (catP (varP 3) (varP 5))))))
    (rtP (lcP (itP (varP 3)) (.one 8) yesT (binP ixD (varP 8) (cstP (.int 0))) [8]))))
def F_l_column_ranks : FDen := gd 3 (runD (d_l_column_ranks) 9)
def d_l_world : SDen :=
    (sqP (parP 3 4 (consP (binP addD (cstP (.int 2)) (callP F_l_pull (consP (varP 0) (consP (cstP (.int 2)) nilP)))) (consP (binP addD (cstP (.int 1)) (callP F_l_pull (consP (varP 0) (consP (cstP (.int 3)) nilP)))) nilP)))
    (sqP (asP (.one 5) (callP F_l_columns (consP (varP 0) (consP (binP addD (bltP lenF (consP (varP 1) nilP)) (varP 2)) (consP (varP 3) (consP (varP 4) nilP))))))
    (rtP (tupP (consP (bltP sortF (consP (varP 1) nilP)) (consP (varP 2) (consP (callP F_l_column_ranks (consP (varP 5) (consP (varP 3) (consP (varP 4) nilP)))) nilP)))))))
def F_l_world : FDen := gd 3 (runD (d_l_world) 6)
def d_is_word : SDen :=
    (rtP (andV (isiP .str (varP 0)) (andV (chP leD leD (cstP (.int 1)) (bltP lenF (consP (varP 0) nilP)) (varP 1)) (bltP allF (consP (lcP (itP (varP 0)) (.one 2) yesT (chP leD leD (cstP (.str "a")) (varP 2) (cstP (.str "z"))) [2]) nilP)))))
def F_is_word : FDen := gd 2 (runD (d_is_word) 3)
def d_is_name : SDen :=
    (rtP (callP F_is_word (consP (varP 0) (consP (cstP (.int 4)) nilP))))
def F_is_name : FDen := gd 1 (runD (d_is_name) 1)
def d_checked_names (C : Nat → Addr) : SDen :=
    (sqP (ifP (notT (truP (isisP [.lst, .tup] (varP 0)))) (raiseP (C 22) ["value"] "InvalidName" (consP (varP 0) nilP)) nxP)
    (sqP (foP (itP (thP (varP 0))) (.one 2) (ifP (notT (truP (callP F_is_name (consP (varP 2) nilP)))) (raiseP (C 22) ["value"] "InvalidName" (consP (varP 2) nilP)) nxP))
    (sqP (foP (enu2P (consP (thP (varP 0)) nilP)) (.tup [3, 2]) (ifP (tstP (binP inD (varP 2) (slP (thP (varP 0)) noP (soP (varP 3))))) (raiseP (C 26) ["name"] "DuplicateName" (consP (varP 2) nilP)) nxP))
    (sqP (ifP (tstP (binP gtD (bltP lenF (consP (thP (varP 0)) nilP)) (varP 1))) (raiseP (C 27) ["subject", "most"] "TooMany" (consP (cstP (.str "names")) (consP (varP 1) nilP))) nxP)
    (rtP (bltP ftupF (consP (bltP sort2F (consP (thP (varP 0)) nilP)) nilP)))))))
def F_checked_names (C : Nat → Addr) : FDen := gd 2 (runD (d_checked_names C) 4)
def d_is_number : SDen :=
    (rtP (andV (isiP .int (varP 0)) (andV (notV (isiP .bl (varP 0))) (chP leD leD (varP 1) (varP 0) (varP 2)))))
def F_is_number : FDen := gd 3 (runD (d_is_number) 3)
def d_single_bits : SDen :=
    (rtP (lcP (rng1P (consP (bitsP (varP 0)) nilP)) (.one 1) (truP (binP andD (binP (intD shrI) (varP 0) (varP 1)) (cstP (.int 1)))) (binP (intD shlI) (cstP (.int 1)) (varP 1)) [1]))
def F_single_bits : FDen := gd 1 (runD (d_single_bits) 2)
def d_fits : SDen :=
    (sqP (asP (.one 2) (binP ixD (varP 0) (varP 1)))
    (sqP (ifP (notT (truP (callP F_is_number (consP (varP 2) (consP (cstP (.int 0)) (consP (cstP (.int 12)) nilP)))))) (rtP (cstP (.bl false))) nxP)
    (sqP (ifP (tstP (binP eqD (varP 1) (cstP (.int 0)))) (rtP (binP eqD (varP 2) (cstP (.int 0)))) nxP)
    (sqP (asP (.one 3) (callP F_single_bits (consP (varP 1) nilP)))
    (sqP (ifP (notT (truP (bltP allF (consP (lcP (itP (varP 3)) (.one 5) yesT (binP inD (binP ixD (varP 0) (binP xorD (varP 1) (varP 5))) (tupP (consP (binP subD (varP 2) (cstP (.int 1))) (consP (varP 2) nilP)))) [5]) nilP)))) (rtP (cstP (.bl false))) nxP)
    (sqP (asP (.one 4) (lcP (itP (varP 3)) (.one 5) (tstP (binP eqD (binP ixD (varP 0) (binP xorD (varP 1) (varP 5))) (binP subD (varP 2) (cstP (.int 1))))) (varP 5) [5]))
    (rtP (bltP allF (consP (lc2P (itP (varP 4)) (.one 6) yesT (itP (varP 4)) (.one 7) (tstP (binP ltD (varP 6) (varP 7))) (binP eqD (binP ixD (varP 0) (binP xorD (binP xorD (varP 1) (varP 6)) (varP 7))) (binP subD (varP 2) (cstP (.int 2)))) [6, 7] [7]) nilP)))))))))
def F_fits : FDen := gd 2 (runD (d_fits) 8)
def d_check_table (C : Nat → Addr) : SDen :=
    (sqP (ifP (orT (notT (truP (isisP [.lst, .tup] (varP 0)))) (tstP (binP neD (bltP lenF (consP (varP 0) nilP)) (binP (intD shlI) (cstP (.int 1)) (varP 1))))) (raiseP (C 24) ["at"] "InvalidTable" (consP (negP (cstP (.int 1))) nilP)) nxP)
    (foP (rng1P (consP (bltP lenF (consP (varP 0) nilP)) nilP)) (.one 2) (ifP (notT (truP (callP F_fits (consP (varP 0) (consP (varP 2) nilP))))) (raiseP (C 24) ["at"] "InvalidTable" (consP (varP 2) nilP)) nxP)))
def F_check_table (C : Nat → Addr) : FDen := gd 2 (runD (d_check_table C) 3)
def d_Structure_init (C : Nat → Addr) : SDen :=
    (sqP (asP (.one 4) (callP (F_checked_names C) (consP (varP 1) (consP (cstP (.int 6)) nilP))))
    (sqP (ifP (notT (truP (callP F_is_number (consP (varP 3) (consP (cstP (.int 0)) (consP (cstP (.int 9)) nilP)))))) (raiseP (C 23) ["value"] "InvalidNumber" (consP (varP 3) nilP)) nxP)
    (sqP (asP (.one 5) (binP addD (bltP lenF (consP (thP (varP 4)) nilP)) (varP 3)))
    (sqP (ifP (tstP (binP gtD (varP 5) (cstP (.int 12)))) (raiseP (C 27) ["subject", "most"] "TooMany" (consP (cstP (.str "elements")) (consP (cstP (.int 12)) nilP))) nxP)
    (sqP (exP (callP (F_check_table C) (consP (varP 2) (consP (varP 5) nilP))))
    (sqP (fstP (C 0) "_names" (varP 0) (varP 4))
    (sqP (fstP (C 0) "_unseen" (varP 0) (varP 3))
    (fstP (C 0) "_table" (varP 0) (bltP tupleF (consP (varP 2) nilP))))))))))
def F_Structure_init (C : Nat → Addr) : FDen := gd 4 (runD (d_Structure_init C) 6)
def d_l_same (F : FDen) : SDen :=
    (sqP (ifP (truP (isisP [.lst, .tup] (varP 1))) (sqP (ifP (orT (tstP (binP neD (isiP .lst (varP 0)) (isiP .lst (varP 1)))) (tstP (binP neD (isiP .tup (varP 0)) (isiP .tup (varP 1))))) (rtP (cstP (.bl false))) nxP)
    (rtP (andV (binP eqD (bltP lenF (consP (varP 0) nilP)) (bltP lenF (consP (varP 1) nilP))) (bltP allF (consP (lcP (zipP (consP (varP 0) (consP (varP 1) nilP))) (.tup [2, 3]) yesT (callP F (consP (varP 2) (consP (varP 3) nilP))) [2, 3]) nilP))))) nxP)
    (sqP (ifP (orT (tstP (isNP (varP 1))) (tstP (isNP (varP 0)))) (rtP (andV (isNP (varP 1)) (isNP (varP 0)))) nxP)
    (sqP (ifP (orT (tstP (binP neD (isiP .bl (varP 0)) (isiP .bl (varP 1)))) (tstP (binP neD (isiP .int (varP 0)) (isiP .int (varP 1))))) (rtP (cstP (.bl false))) nxP)
    (rtP (andV (binP eqD (isiP .str (varP 0)) (isiP .str (varP 1))) (binP eqD (varP 0) (varP 1)))))))
def F_l_same : Nat → FDen
  | 0 => fun _ _ => none
  | n + 1 => gd 2 (runD (d_l_same (F_l_same n)) 4)
def d_Structure_table (C : Nat → Addr) : SDen :=
    (rtP (bltP listF (consP (fldP (C 0) "_table" (varP 0)) nilP)))
def F_Structure_table (C : Nat → Addr) : FDen := gd 1 (runD (d_Structure_table C) 1)
def d_l_open : SDen :=
    (rtP (binP addD (binP (intD modI) (bltP intF (consP (varP 0) nilP)) (binP (intD shlI) (cstP (.int 1)) (varP 1))) (binP (intD shlI) (binP (intD shrI) (varP 0) (varP 1)) (binP addD (varP 1) (cstP (.int 1))))))
def F_l_open : FDen := gd 2 (runD (d_l_open) 2)
def d_l_gone : SDen :=
    (sqP (asP (.tup [3, 4]) (tupP (consP (lixP (binP ixD (varP 0) (cstP (.int 0))) (varP 1)) (consP (binP ixD (varP 0) (cstP (.int 2))) nilP))))
    (sqP (asP (.one 5) (ifP (truP (varP 2)) (binP (intD shlI) (cstP (.int 1)) (varP 3)) (cstP (.int 0))))
    (sqP (asP (.one 6) (lcP (rng1P (consP (binP (intD fdivI) (bltP lenF (consP (varP 4) nilP)) (cstP (.int 2))) nilP)) (.one 7) yesT (binP subD (binP ixD (varP 4) (binP addD (callP F_l_open (consP (varP 7) (consP (varP 3) nilP))) (varP 5))) (binP ixD (varP 4) (varP 5))) [7]))
    (rtP (tupP (consP (lcP (itP (binP ixD (varP 0) (cstP (.int 0)))) (.one 8) (tstP (binP neD (varP 8) (varP 1))) (varP 8) [8]) (consP (binP ixD (varP 0) (cstP (.int 1))) (consP (varP 6) nilP))))))))
def F_l_gone : FDen := gd 3 (runD (d_l_gone) 9)
end Dn

set_option Elab.async false
set_option linter.all false
set_option maxRecDepth 100000
set_option maxHeartbeats 4000000
namespace Dn
open PySem PySem.Spec PyProof.Rows L2
/-! ### reading denotations -/
section
variable {α β : Type} {a : α} {st st1 : Sta} {k : α → Sta → Mo β} {Δ : Dl}
theorem bd_ok : bd (some (.ok a, st)) k = k a st := rfl
theorem omap_some {f : α → β} : Option.map f (some a) = some (f a) := rfl
theorem obind_some {f : α → Option β} : Option.bind (some a) f = f a := rfl
theorem if_t {x y : α} : (if true = true then x else y) = x := if_pos rfl
theorem if_f {x y : α} : (if false = true then x else y) = y := if_neg Bool.false_ne_true
end
/-- a list made of pure items -/
theorem lc_pure {t : Tgt} {te : EDen} {Δ : Dl} {st : Sta} (g : D → D) : ∀ (ds acc : List D), (∀ d ∈ ds, ∃ Δ1, t.put d Δ = some Δ1 ∧ te Δ1 st = some (.ok (g d), st)) → acc.length + ds.length ≤ big →
    lcGo t yesT te Δ ds st acc = some (.ok (.lst (acc ++ ds.map g)), st)
  | [], acc, _, _ => by simp [lcGo]
  | d :: ds, acc, h, hl => by
    obtain ⟨Δ1, h1, h2⟩ := h d List.mem_cons_self
    rw [List.length_cons] at hl
    unfold lcGo
    rw [h1, obind_some]
    show (match te Δ1 st with | some (.ok y, st2) => if acc.length < big then lcGo t yesT te Δ ds st2 (acc ++ [y]) else none | _ => none) = _
    rw [h2]
    simp only
    rw [if_pos (by omega), lc_pure g ds (acc ++ [g d]) (fun x hx => h x (List.mem_cons_of_mem _ hx)) (by rw [List.length_append, List.length_singleton]; omega), List.append_assoc] <;> rfl
theorem bls_map (bs : List Bool) : bls (bs.map .bl) = some bs := by
  induction bs with
  | nil => rfl
  | cons b bs ih => simp only [List.map_cons, bls, ih, Option.map]
def lowC (c : Nat) : Bool := decide (97 ≤ c) && decide (c ≤ 122)
def lowS (z : Str) : Bool := z.cps.toList.all lowC
theorem sLt_one (a b : Nat) : sLt ⟨#[a]⟩ ⟨#[b]⟩ = decide (a < b) := by
  unfold sLt
  simp only [List.cons_lt_cons_iff]
  simp
theorem leD_i (i j : Int) : leD (.int i) (.int j) = some (.bl (decide (i ≤ j))) := rfl
theorem leD_s (x y : Str) : leD (.str x) (.str y) = some (.bl (!sLt y x)) := rfl
theorem ltD_i (i j : Int) : ltD (.int i) (.int j) = some (.bl (decide (i < j))) := rfl
theorem ltD_s (x y : Str) : ltD (.str x) (.str y) = some (.bl (sLt x y)) := rfl
theorem gtD_i (i j : Int) : gtD (.int i) (.int j) = some (.bl (decide (j < i))) := rfl
theorem geD_i (i j : Int) : geD (.int i) (.int j) = some (.bl (decide (j ≤ i))) := rfl
theorem addD_i (i j : Int) : addD (.int i) (.int j) = some (.int (i + j)) := rfl
theorem subD_i (i j : Int) : subD (.int i) (.int j) = some (.int (i - j)) := rfl
theorem mulD_i (i j : Int) : mulD (.int i) (.int j) = (mulI i j).map .int := rfl
theorem lb0 : (0 ≤ big) = True := eq_true (by decide)
theorem lb1 : (1 ≤ big) = True := eq_true (by decide)
theorem lb2 : (2 ≤ big) = True := eq_true (by decide)
theorem lb3 : (3 ≤ big) = True := eq_true (by decide)
theorem lb4 : (4 ≤ big) = True := eq_true (by decide)
theorem lb5 : (5 ≤ big) = True := eq_true (by decide)
theorem lb6 : (6 ≤ big) = True := eq_true (by decide)
theorem lb7 : (7 ≤ big) = True := eq_true (by decide)
theorem lb8 : (8 ≤ big) = True := eq_true (by decide)
theorem lb9 : (9 ≤ big) = True := eq_true (by decide)
theorem lb10 : (10 ≤ big) = True := eq_true (by decide)
theorem lb11 : (11 ≤ big) = True := eq_true (by decide)
theorem lb12 : (12 ≤ big) = True := eq_true (by decide)
theorem s_a : Str.ofString "a" = ⟨#[97]⟩ := rfl
theorem s_z : Str.ofString "z" = ⟨#[122]⟩ := rfl
theorem sLt_a (c : Nat) : (!sLt ⟨#[c]⟩ ⟨#[97]⟩) = decide (97 ≤ c) := by
  rw [sLt_one, Bool.eq_iff_iff, Bool.not_eq_true', decide_eq_false_iff_not, decide_eq_true_eq]
  omega
theorem sLt_z (c : Nat) : (!sLt ⟨#[122]⟩ ⟨#[c]⟩) = decide (c ≤ 122) := by
  rw [sLt_one, Bool.eq_iff_iff, Bool.not_eq_true', decide_eq_false_iff_not, decide_eq_true_eq]
  omega
def lowD : D → D
  | .str z => .bl (lowC (z.cps.getD 0 0))
  | d => d
end Dn

set_option Elab.async false
set_option linter.all false
set_option maxRecDepth 100000
set_option maxHeartbeats 4000000
namespace Dn
open PySem PySem.Spec PyProof.Rows L2
theorem eqD_i (i j : Int) : eqD (.int i) (.int j) = some (.bl (i == j)) := rfl
theorem pw18 : intD powI (.int 10) (.int 18) = some (.int 1000000000000000000) := by
  show (powI 10 18).map D.int = _
  have : powI 10 18 = some 1000000000000000000 := by decide +kernel
  rw [this] <;> rfl
theorem mulK (i j : Int) (h : -two64 < j ∧ j < two64) : mulI i j = some (i * j) := if_pos (.inr h)
theorem mulS (i j : Int) (h : -two64 < i ∧ i < two64) : mulI i j = some (i * j) := if_pos (.inl h)
theorem modD (i j : Int) (h : 0 < j) : intD modI (.int i) (.int j) = some (.int (i % j)) := by
  show (modI i j).map D.int = _
  rw [show modI i j = some (i % j) from if_pos h] <;> rfl
theorem fdivD (i j : Int) (h : 0 < j ∧ j < 1073741824) : intD fdivI (.int i) (.int j) = some (.int (i / j)) := by
  show (fdivI i j).map D.int = _
  rw [show fdivI i j = some (i / j) from if_pos h] <;> rfl
def okB (b : BagSt) : Prop := 0 ≤ b.seed ∧ b.seed < 4294967296
theorem ixI (cs : List Int) (n : Nat) (h : n < cs.length) : ixD (.lst (cs.map D.int)) (.int n) = some (.int cs[n]) := by
  show atI _ _ = _
  unfold atI ixN
  rw [List.length_map, if_pos (by omega), if_pos (by omega)]
  simp [h]
theorem sq_step {t u : SDen} {Δ Δ1 : Dl} {st st1 : Sta} {r : Mo Out} (h : t Δ st = some (.ok (.nx Δ1), st1)) (h2 : u Δ1 st1 = r) : sqP t u Δ st = r := by
  unfold sqP
  rw [h]
  exact h2
theorem sq_ret {t u : SDen} {Δ : Dl} {st st1 : Sta} {d : D} (h : t Δ st = some (.ok (.rt d), st1)) : sqP t u Δ st = some (.ok (.rt d), st1) := by
  unfold sqP
  rw [h] <;> rfl
theorem run_ret {t : SDen} {n k : Nat} {ds : List D} {st st1 : Sta} {d : D} (hk : ds.length = k) (h : t (ds.map some ++ List.replicate (n - ds.length) none) st = some (.ok (.rt d), st1)) : gd k (runD t n) ds st = some (.ok d, st1) := by
  unfold gd runD
  rw [if_pos hk, h] <;> rfl
theorem if_tt {α : Type} {c : TDen} {a b : Den α} {Δ : Dl} {st st1 : Sta} {r : Mo α} (h : c Δ st = some (.ok true, st1)) (h2 : a Δ st1 = r) : ifP c a b Δ st = r := by
  unfold ifP
  rw [h]
  exact h2
theorem if_ff {α : Type} {c : TDen} {a b : Den α} {Δ : Dl} {st st1 : Sta} {r : Mo α} (h : c Δ st = some (.ok false, st1)) (h2 : b Δ st1 = r) : ifP c a b Δ st = r := by
  unfold ifP
  rw [h]
  exact h2
/-- the second half of a draw -/
theorem pull_tail (cells : List Int) (at_ : Nat) (rest seed cnt : Int) (x3 : Option D) (scr : Option (Addr × List Int)) (own : List (Nat × Cell)) (nx : Nat) (m : Int) (hb1 : 0 ≤ seed) (hb2 : seed < 4294967296) (h1 : 0 < m) (h2 : m < 1073741824) (u : SDen) (v : SDen)
    (hu : u = (ifP (tstP (binP gtD (bagIx 0 2) (cstP (.int 0)))) (sqP (asP (.one 4) (binP (intD modI) (bltP intF (consP (bagIx 0 2) nilP)) (varP 1))) (sqP (bagSet 0 2 (binP (intD fdivI) (bagIx 0 2) (varP 1))) (rtP (varP 4)))) nxP))
    (hv : v = (sqP (bagSet 0 4 (binP addD (bagIx 0 4) (cstP (.int 1)))) (sqP (asP (.one 2) (bagIx 0 3)) (sqP (bagSet 0 3 (binP (intD modI) (bltP intF (consP (binP addD (binP addD (binP addD (binP mulD (binP mulD (varP 2) (varP 2)) (cstP (.int 5))) (binP mulD (varP 2) (cstP (.int 31153)))) (binP mulD (bagIx 0 4) (cstP (.int 1299827)))) (cstP (.int 70001))) nilP)) (cstP (.int 2147483549))))
      (rtP (binP (intD modI) (bltP intF (consP (binP addD (binP (intD fdivI) (bagIx 0 3) (cstP (.int 71))) (binP mulD (binP (intD modI) (bltP intF (consP (bagIx 0 3) nilP)) (cstP (.int 7907))) (cstP (.int 61)))) nilP)) (varP 1))))))) :
    ∃ r b', sqP u v [some (.hnd 0), some (.int m), none, x3, none] ⟨some ⟨cells, at_, rest, seed, cnt⟩, scr, own, nx⟩ = some (.ok (.rt (.int r)), ⟨some b', scr, own, nx⟩) ∧ 0 ≤ r ∧ r < m ∧ okB b' := by
  subst hu
  subst hv
  have hs : -two64 < seed ∧ seed < two64 := by unfold two64; omega
  by_cases c : 0 < rest
  · refine ⟨rest % m, ⟨cells, at_, rest / m, seed, cnt⟩, sq_ret (if_tt (st1 := ⟨some ⟨cells, at_, rest, seed, cnt⟩, scr, own, nx⟩) (by simp only [gd, runD, callP, kwF, pick, rtP, sqP, asP, parP, nxP, ifP, andV, orV, notV, andT, orT, notT, truP, tstP, truD, isiP, isisP, isTys, isNP, notNP, isNon, varP, chP, cstP, bltP, binP, consP, nilP, lstP, tupP, lcP, itP, rng1P, rng2P, slP, noP, soP, intOf, negP, sosP, bd_ok, List.map, List.replicate, List.length_cons, List.length_nil, List.cons_append, List.nil_append, List.append_nil, List.getElem?_cons_zero, List.getElem?_cons_succ, List.filterMap, List.set, omap_some, obind_some, isTy, blOf, if_t, if_f, lenF, leD_i, leD_s, ltD_i, ltD_s, gtD_i, geD_i, addD_i, subD_i, mulD_i, itemsD, wipeD, Tgt.put, setAll, outR, lb0, lb1, lb2, lb3, lb4, lb5, lb6, lb7, lb8, lb9, lb10, lb11, lb12, allF, listF, tupleF, intF, eq_self_iff_true, if_true, if_false, decide_true, decide_false, Bool.true_and, Bool.false_and, Bool.and_true, Bool.and_false, Bool.not_true, Bool.not_false, Nat.sub_self, Nat.reduceAdd, Nat.reduceSub, Nat.reduceEqDiff, bagIx, isBag, BagSt.item, c]) ?_), Int.emod_nonneg _ (by omega), Int.emod_lt_of_pos _ h1, hb1, hb2⟩
    (apply sq_step; focus (simp only [gd, runD, callP, kwF, pick, rtP, sqP, asP, parP, nxP, ifP, andV, orV, notV, andT, orT, notT, truP, tstP, truD, isiP, isisP, isTys, isNP, notNP, isNon, varP, chP, cstP, bltP, binP, consP, nilP, lstP, tupP, lcP, itP, rng1P, rng2P, slP, noP, soP, intOf, negP, sosP, bd_ok, List.map, List.replicate, List.length_cons, List.length_nil, List.cons_append, List.nil_append, List.append_nil, List.getElem?_cons_zero, List.getElem?_cons_succ, List.filterMap, List.set, omap_some, obind_some, isTy, blOf, if_t, if_f, lenF, leD_i, leD_s, ltD_i, ltD_s, gtD_i, geD_i, addD_i, subD_i, mulD_i, itemsD, wipeD, Tgt.put, setAll, outR, lb0, lb1, lb2, lb3, lb4, lb5, lb6, lb7, lb8, lb9, lb10, lb11, lb12, allF, listF, tupleF, intF, eq_self_iff_true, if_true, if_false, decide_true, decide_false, Bool.true_and, Bool.false_and, Bool.and_true, Bool.and_false, Bool.not_true, Bool.not_false, Nat.sub_self, Nat.reduceAdd, Nat.reduceSub, Nat.reduceEqDiff, bagIx, isBag, BagSt.item, modD _ _ h1]; first | done | rfl))
    (apply sq_step; focus (simp only [gd, runD, callP, kwF, pick, rtP, sqP, asP, parP, nxP, ifP, andV, orV, notV, andT, orT, notT, truP, tstP, truD, isiP, isisP, isTys, isNP, notNP, isNon, varP, chP, cstP, bltP, binP, consP, nilP, lstP, tupP, lcP, itP, rng1P, rng2P, slP, noP, soP, intOf, negP, sosP, bd_ok, List.map, List.replicate, List.length_cons, List.length_nil, List.cons_append, List.nil_append, List.append_nil, List.getElem?_cons_zero, List.getElem?_cons_succ, List.filterMap, List.set, omap_some, obind_some, isTy, blOf, if_t, if_f, lenF, leD_i, leD_s, ltD_i, ltD_s, gtD_i, geD_i, addD_i, subD_i, mulD_i, itemsD, wipeD, Tgt.put, setAll, outR, lb0, lb1, lb2, lb3, lb4, lb5, lb6, lb7, lb8, lb9, lb10, lb11, lb12, allF, listF, tupleF, intF, eq_self_iff_true, if_true, if_false, decide_true, decide_false, Bool.true_and, Bool.false_and, Bool.and_true, Bool.and_false, Bool.not_true, Bool.not_false, Nat.sub_self, Nat.reduceAdd, Nat.reduceSub, Nat.reduceEqDiff, bagIx, bagSet, isBag, BagSt.item, BagSt.put, fdivD _ _ ⟨h1, h2⟩]; first | done | rfl))
    simp only [gd, runD, callP, kwF, pick, rtP, sqP, asP, parP, nxP, ifP, andV, orV, notV, andT, orT, notT, truP, tstP, truD, isiP, isisP, isTys, isNP, notNP, isNon, varP, chP, cstP, bltP, binP, consP, nilP, lstP, tupP, lcP, itP, rng1P, rng2P, slP, noP, soP, intOf, negP, sosP, bd_ok, List.map, List.replicate, List.length_cons, List.length_nil, List.cons_append, List.nil_append, List.append_nil, List.getElem?_cons_zero, List.getElem?_cons_succ, List.filterMap, List.set, omap_some, obind_some, isTy, blOf, if_t, if_f, lenF, leD_i, leD_s, ltD_i, ltD_s, gtD_i, geD_i, addD_i, subD_i, mulD_i, itemsD, wipeD, Tgt.put, setAll, outR, lb0, lb1, lb2, lb3, lb4, lb5, lb6, lb7, lb8, lb9, lb10, lb11, lb12, allF, listF, tupleF, intF, eq_self_iff_true, if_true, if_false, decide_true, decide_false, Bool.true_and, Bool.false_and, Bool.and_true, Bool.and_false, Bool.not_true, Bool.not_false, Nat.sub_self, Nat.reduceAdd, Nat.reduceSub, Nat.reduceEqDiff]
  · have m1 : mulD (.int seed) (.int seed) = some (.int (seed * seed)) := by show (mulI seed seed).map D.int = _; rw [mulS seed seed hs] <;> rfl
    have k5 : -two64 < (5 : Int) ∧ (5 : Int) < two64 := by decide
    let s2 : Int := (seed * seed * 5 + seed * 31153 + (cnt + 1) * 1299827 + 70001) % 2147483549
    have s2a : 0 ≤ s2 := Int.emod_nonneg _ (by decide)
    have s2b : s2 < 2147483549 := Int.emod_lt_of_pos _ (by decide)
    refine ⟨(s2 / 71 + s2 % 7907 * 61) % m, ⟨cells, at_, rest, s2, cnt + 1⟩, sq_step (if_ff (st1 := ⟨some ⟨cells, at_, rest, seed, cnt⟩, scr, own, nx⟩) (by simp only [gd, runD, callP, kwF, pick, rtP, sqP, asP, parP, nxP, ifP, andV, orV, notV, andT, orT, notT, truP, tstP, truD, isiP, isisP, isTys, isNP, notNP, isNon, varP, chP, cstP, bltP, binP, consP, nilP, lstP, tupP, lcP, itP, rng1P, rng2P, slP, noP, soP, intOf, negP, sosP, bd_ok, List.map, List.replicate, List.length_cons, List.length_nil, List.cons_append, List.nil_append, List.append_nil, List.getElem?_cons_zero, List.getElem?_cons_succ, List.filterMap, List.set, omap_some, obind_some, isTy, blOf, if_t, if_f, lenF, leD_i, leD_s, ltD_i, ltD_s, gtD_i, geD_i, addD_i, subD_i, mulD_i, itemsD, wipeD, Tgt.put, setAll, outR, lb0, lb1, lb2, lb3, lb4, lb5, lb6, lb7, lb8, lb9, lb10, lb11, lb12, allF, listF, tupleF, intF, eq_self_iff_true, if_true, if_false, decide_true, decide_false, Bool.true_and, Bool.false_and, Bool.and_true, Bool.and_false, Bool.not_true, Bool.not_false, Nat.sub_self, Nat.reduceAdd, Nat.reduceSub, Nat.reduceEqDiff, bagIx, isBag, BagSt.item, c]) rfl) ?_, Int.emod_nonneg _ (by omega), Int.emod_lt_of_pos _ h1, s2a, by show s2 < _; omega⟩
    (apply sq_step; focus (simp only [gd, runD, callP, kwF, pick, rtP, sqP, asP, parP, nxP, ifP, andV, orV, notV, andT, orT, notT, truP, tstP, truD, isiP, isisP, isTys, isNP, notNP, isNon, varP, chP, cstP, bltP, binP, consP, nilP, lstP, tupP, lcP, itP, rng1P, rng2P, slP, noP, soP, intOf, negP, sosP, bd_ok, List.map, List.replicate, List.length_cons, List.length_nil, List.cons_append, List.nil_append, List.append_nil, List.getElem?_cons_zero, List.getElem?_cons_succ, List.filterMap, List.set, omap_some, obind_some, isTy, blOf, if_t, if_f, lenF, leD_i, leD_s, ltD_i, ltD_s, gtD_i, geD_i, addD_i, subD_i, mulD_i, itemsD, wipeD, Tgt.put, setAll, outR, lb0, lb1, lb2, lb3, lb4, lb5, lb6, lb7, lb8, lb9, lb10, lb11, lb12, allF, listF, tupleF, intF, eq_self_iff_true, if_true, if_false, decide_true, decide_false, Bool.true_and, Bool.false_and, Bool.and_true, Bool.and_false, Bool.not_true, Bool.not_false, Nat.sub_self, Nat.reduceAdd, Nat.reduceSub, Nat.reduceEqDiff, bagIx, bagSet, isBag, BagSt.item, BagSt.put]; first | done | rfl))
    (apply sq_step; focus (simp only [gd, runD, callP, kwF, pick, rtP, sqP, asP, parP, nxP, ifP, andV, orV, notV, andT, orT, notT, truP, tstP, truD, isiP, isisP, isTys, isNP, notNP, isNon, varP, chP, cstP, bltP, binP, consP, nilP, lstP, tupP, lcP, itP, rng1P, rng2P, slP, noP, soP, intOf, negP, sosP, bd_ok, List.map, List.replicate, List.length_cons, List.length_nil, List.cons_append, List.nil_append, List.append_nil, List.getElem?_cons_zero, List.getElem?_cons_succ, List.filterMap, List.set, omap_some, obind_some, isTy, blOf, if_t, if_f, lenF, leD_i, leD_s, ltD_i, ltD_s, gtD_i, geD_i, addD_i, subD_i, mulD_i, itemsD, wipeD, Tgt.put, setAll, outR, lb0, lb1, lb2, lb3, lb4, lb5, lb6, lb7, lb8, lb9, lb10, lb11, lb12, allF, listF, tupleF, intF, eq_self_iff_true, if_true, if_false, decide_true, decide_false, Bool.true_and, Bool.false_and, Bool.and_true, Bool.and_false, Bool.not_true, Bool.not_false, Nat.sub_self, Nat.reduceAdd, Nat.reduceSub, Nat.reduceEqDiff, bagIx, isBag, BagSt.item]; first | done | rfl))
    (apply sq_step; focus (simp only [gd, runD, callP, kwF, pick, rtP, sqP, asP, parP, nxP, ifP, andV, orV, notV, andT, orT, notT, truP, tstP, truD, isiP, isisP, isTys, isNP, notNP, isNon, varP, chP, cstP, bltP, binP, consP, nilP, lstP, tupP, lcP, itP, rng1P, rng2P, slP, noP, soP, intOf, negP, sosP, bd_ok, List.map, List.replicate, List.length_cons, List.length_nil, List.cons_append, List.nil_append, List.append_nil, List.getElem?_cons_zero, List.getElem?_cons_succ, List.filterMap, List.set, omap_some, obind_some, isTy, blOf, if_t, if_f, lenF, leD_i, leD_s, ltD_i, ltD_s, gtD_i, geD_i, addD_i, subD_i, mulD_i, itemsD, wipeD, Tgt.put, setAll, outR, lb0, lb1, lb2, lb3, lb4, lb5, lb6, lb7, lb8, lb9, lb10, lb11, lb12, allF, listF, tupleF, intF, eq_self_iff_true, if_true, if_false, decide_true, decide_false, Bool.true_and, Bool.false_and, Bool.and_true, Bool.and_false, Bool.not_true, Bool.not_false, Nat.sub_self, Nat.reduceAdd, Nat.reduceSub, Nat.reduceEqDiff, bagIx, bagSet, isBag, BagSt.item, BagSt.put, m1, mulK _ 5 (by decide), mulK _ 31153 (by decide), mulK _ 1299827 (by decide), modD _ 2147483549 (by decide)]; first | done | rfl))
    simp only [gd, runD, callP, kwF, pick, rtP, sqP, asP, parP, nxP, ifP, andV, orV, notV, andT, orT, notT, truP, tstP, truD, isiP, isisP, isTys, isNP, notNP, isNon, varP, chP, cstP, bltP, binP, consP, nilP, lstP, tupP, lcP, itP, rng1P, rng2P, slP, noP, soP, intOf, negP, sosP, bd_ok, List.map, List.replicate, List.length_cons, List.length_nil, List.cons_append, List.nil_append, List.append_nil, List.getElem?_cons_zero, List.getElem?_cons_succ, List.filterMap, List.set, omap_some, obind_some, isTy, blOf, if_t, if_f, lenF, leD_i, leD_s, ltD_i, ltD_s, gtD_i, geD_i, addD_i, subD_i, mulD_i, itemsD, wipeD, Tgt.put, setAll, outR, lb0, lb1, lb2, lb3, lb4, lb5, lb6, lb7, lb8, lb9, lb10, lb11, lb12, allF, listF, tupleF, intF, eq_self_iff_true, if_true, if_false, decide_true, decide_false, Bool.true_and, Bool.false_and, Bool.and_true, Bool.and_false, Bool.not_true, Bool.not_false, Nat.sub_self, Nat.reduceAdd, Nat.reduceSub, Nat.reduceEqDiff, bagIx, isBag, BagSt.item, mulK _ 61 (by decide), modD _ 7907 (by decide), fdivD _ 71 (by decide), modD _ _ h1]
    rfl
theorem pull_ok (b : BagSt) (scr : Option (Addr × List Int)) (own : List (Nat × Cell)) (nx : Nat) (m : Int) (hb : okB b) (h1 : 0 < m) (h2 : m < 1073741824) :
    ∃ r b', F_l_pull [.hnd 0, .int m] ⟨some b, scr, own, nx⟩ = some (.ok (.int r), ⟨some b', scr, own, nx⟩) ∧ 0 ≤ r ∧ r < m ∧ okB b' := by
  obtain ⟨cells, at_, rest, seed, cnt⟩ := b
  obtain ⟨hb1, hb2⟩ := hb
  simp only at hb1 hb2
  have fin : ∀ {r b'}, d_l_pull [some (.hnd 0), some (.int m), none, none, none] ⟨some ⟨cells, at_, rest, seed, cnt⟩, scr, own, nx⟩ = some (.ok (.rt (.int r)), ⟨some b', scr, own, nx⟩) ∧ 0 ≤ r ∧ r < m ∧ okB b' →
      ∃ r b', F_l_pull [.hnd 0, .int m] ⟨some ⟨cells, at_, rest, seed, cnt⟩, scr, own, nx⟩ = some (.ok (.int r), ⟨some b', scr, own, nx⟩) ∧ 0 ≤ r ∧ r < m ∧ okB b' := fun {r b'} h => ⟨r, b', run_ret rfl h.1, h.2⟩
  unfold d_l_pull at fin
  have tail := fun rest' at' seed' x3 h1' h2' => pull_tail cells at' rest' seed' cnt x3 scr own nx m h1' h2' h1 h2 _ _ rfl rfl
  by_cases c1 : rest = 0
  · subst c1
    by_cases c2 : at_ < cells.length
    · have c2' : (at_ : Int) < (cells.length : Int) := by omega
      have ix := ixI cells at_ c2
      have pos : 0 ≤ (at_ : Int) + 1 := by omega
      by_cases c3 : 1000000000000000000 ≤ cells[at_]
      · obtain ⟨r, b', h, q⟩ := tail cells[at_] (at_ + 1) seed (some (.int cells[at_])) hb1 hb2
        refine fin ⟨sq_step (Δ1 := [some (.hnd 0), some (.int m), none, some (.int cells[at_]), none]) (st1 := ⟨some ⟨cells, at_ + 1, cells[at_], seed, cnt⟩, scr, own, nx⟩) ?_ h, q⟩
        refine if_tt (st1 := ⟨some ⟨cells, at_, 0, seed, cnt⟩, scr, own, nx⟩) (by simp only [gd, runD, callP, kwF, pick, rtP, sqP, asP, parP, nxP, ifP, andV, orV, notV, andT, orT, notT, truP, tstP, truD, isiP, isisP, isTys, isNP, notNP, isNon, varP, chP, cstP, bltP, binP, consP, nilP, lstP, tupP, lcP, itP, rng1P, rng2P, slP, noP, soP, intOf, negP, sosP, bd_ok, List.map, List.replicate, List.length_cons, List.length_nil, List.cons_append, List.nil_append, List.append_nil, List.getElem?_cons_zero, List.getElem?_cons_succ, List.filterMap, List.set, omap_some, obind_some, isTy, blOf, if_t, if_f, lenF, leD_i, leD_s, ltD_i, ltD_s, gtD_i, geD_i, addD_i, subD_i, mulD_i, itemsD, wipeD, Tgt.put, setAll, outR, lb0, lb1, lb2, lb3, lb4, lb5, lb6, lb7, lb8, lb9, lb10, lb11, lb12, allF, listF, tupleF, intF, eq_self_iff_true, if_true, if_false, decide_true, decide_false, Bool.true_and, Bool.false_and, Bool.and_true, Bool.and_false, Bool.not_true, Bool.not_false, Nat.sub_self, Nat.reduceAdd, Nat.reduceSub, Nat.reduceEqDiff, bagIx, isBag, BagSt.item, eqD_i, List.length_map, c2', beq_self_eq_true]) ?_
        (apply sq_step; focus (simp only [gd, runD, callP, kwF, pick, rtP, sqP, asP, parP, nxP, ifP, andV, orV, notV, andT, orT, notT, truP, tstP, truD, isiP, isisP, isTys, isNP, notNP, isNon, varP, chP, cstP, bltP, binP, consP, nilP, lstP, tupP, lcP, itP, rng1P, rng2P, slP, noP, soP, intOf, negP, sosP, bd_ok, List.map, List.replicate, List.length_cons, List.length_nil, List.cons_append, List.nil_append, List.append_nil, List.getElem?_cons_zero, List.getElem?_cons_succ, List.filterMap, List.set, omap_some, obind_some, isTy, blOf, if_t, if_f, lenF, leD_i, leD_s, ltD_i, ltD_s, gtD_i, geD_i, addD_i, subD_i, mulD_i, itemsD, wipeD, Tgt.put, setAll, outR, lb0, lb1, lb2, lb3, lb4, lb5, lb6, lb7, lb8, lb9, lb10, lb11, lb12, allF, listF, tupleF, intF, eq_self_iff_true, if_true, if_false, decide_true, decide_false, Bool.true_and, Bool.false_and, Bool.and_true, Bool.and_false, Bool.not_true, Bool.not_false, Nat.sub_self, Nat.reduceAdd, Nat.reduceSub, Nat.reduceEqDiff, bagIx, isBag, BagSt.item, ix]; first | done | rfl))
        (apply sq_step; focus (simp only [gd, runD, callP, kwF, pick, rtP, sqP, asP, parP, nxP, ifP, andV, orV, notV, andT, orT, notT, truP, tstP, truD, isiP, isisP, isTys, isNP, notNP, isNon, varP, chP, cstP, bltP, binP, consP, nilP, lstP, tupP, lcP, itP, rng1P, rng2P, slP, noP, soP, intOf, negP, sosP, bd_ok, List.map, List.replicate, List.length_cons, List.length_nil, List.cons_append, List.nil_append, List.append_nil, List.getElem?_cons_zero, List.getElem?_cons_succ, List.filterMap, List.set, omap_some, obind_some, isTy, blOf, if_t, if_f, lenF, leD_i, leD_s, ltD_i, ltD_s, gtD_i, geD_i, addD_i, subD_i, mulD_i, itemsD, wipeD, Tgt.put, setAll, outR, lb0, lb1, lb2, lb3, lb4, lb5, lb6, lb7, lb8, lb9, lb10, lb11, lb12, allF, listF, tupleF, intF, eq_self_iff_true, if_true, if_false, decide_true, decide_false, Bool.true_and, Bool.false_and, Bool.and_true, Bool.and_false, Bool.not_true, Bool.not_false, Nat.sub_self, Nat.reduceAdd, Nat.reduceSub, Nat.reduceEqDiff, bagIx, bagSet, isBag, BagSt.item, BagSt.put, if_pos pos, Int.toNat_natCast_add_one]; first | done | rfl))
        refine if_tt (st1 := ⟨some ⟨cells, at_ + 1, 0, seed, cnt⟩, scr, own, nx⟩) (by simp only [gd, runD, callP, kwF, pick, rtP, sqP, asP, parP, nxP, ifP, andV, orV, notV, andT, orT, notT, truP, tstP, truD, isiP, isisP, isTys, isNP, notNP, isNon, varP, chP, cstP, bltP, binP, consP, nilP, lstP, tupP, lcP, itP, rng1P, rng2P, slP, noP, soP, intOf, negP, sosP, bd_ok, List.map, List.replicate, List.length_cons, List.length_nil, List.cons_append, List.nil_append, List.append_nil, List.getElem?_cons_zero, List.getElem?_cons_succ, List.filterMap, List.set, omap_some, obind_some, isTy, blOf, if_t, if_f, lenF, leD_i, leD_s, ltD_i, ltD_s, gtD_i, geD_i, addD_i, subD_i, mulD_i, itemsD, wipeD, Tgt.put, setAll, outR, lb0, lb1, lb2, lb3, lb4, lb5, lb6, lb7, lb8, lb9, lb10, lb11, lb12, allF, listF, tupleF, intF, eq_self_iff_true, if_true, if_false, decide_true, decide_false, Bool.true_and, Bool.false_and, Bool.and_true, Bool.and_false, Bool.not_true, Bool.not_false, Nat.sub_self, Nat.reduceAdd, Nat.reduceSub, Nat.reduceEqDiff, pw18, c3]) ?_
        simp only [gd, runD, callP, kwF, pick, rtP, sqP, asP, parP, nxP, ifP, andV, orV, notV, andT, orT, notT, truP, tstP, truD, isiP, isisP, isTys, isNP, notNP, isNon, varP, chP, cstP, bltP, binP, consP, nilP, lstP, tupP, lcP, itP, rng1P, rng2P, slP, noP, soP, intOf, negP, sosP, bd_ok, List.map, List.replicate, List.length_cons, List.length_nil, List.cons_append, List.nil_append, List.append_nil, List.getElem?_cons_zero, List.getElem?_cons_succ, List.filterMap, List.set, omap_some, obind_some, isTy, blOf, if_t, if_f, lenF, leD_i, leD_s, ltD_i, ltD_s, gtD_i, geD_i, addD_i, subD_i, mulD_i, itemsD, wipeD, Tgt.put, setAll, outR, lb0, lb1, lb2, lb3, lb4, lb5, lb6, lb7, lb8, lb9, lb10, lb11, lb12, allF, listF, tupleF, intF, eq_self_iff_true, if_true, if_false, decide_true, decide_false, Bool.true_and, Bool.false_and, Bool.and_true, Bool.and_false, Bool.not_true, Bool.not_false, Nat.sub_self, Nat.reduceAdd, Nat.reduceSub, Nat.reduceEqDiff, bagSet, isBag, BagSt.put]
      · let s2 : Int := (seed * 48611 + cells[at_] % 2147483423 * 15013 + 29) % 2147483579
        have s2a : 0 ≤ s2 := Int.emod_nonneg _ (by decide)
        have s2b : s2 < 2147483579 := Int.emod_lt_of_pos _ (by decide)
        obtain ⟨r, b', h, q⟩ := tail 0 (at_ + 1) s2 (some (.int cells[at_])) s2a (by omega)
        refine fin ⟨sq_step (Δ1 := [some (.hnd 0), some (.int m), none, some (.int cells[at_]), none]) (st1 := ⟨some ⟨cells, at_ + 1, 0, s2, cnt⟩, scr, own, nx⟩) ?_ h, q⟩
        refine if_tt (st1 := ⟨some ⟨cells, at_, 0, seed, cnt⟩, scr, own, nx⟩) (by simp only [gd, runD, callP, kwF, pick, rtP, sqP, asP, parP, nxP, ifP, andV, orV, notV, andT, orT, notT, truP, tstP, truD, isiP, isisP, isTys, isNP, notNP, isNon, varP, chP, cstP, bltP, binP, consP, nilP, lstP, tupP, lcP, itP, rng1P, rng2P, slP, noP, soP, intOf, negP, sosP, bd_ok, List.map, List.replicate, List.length_cons, List.length_nil, List.cons_append, List.nil_append, List.append_nil, List.getElem?_cons_zero, List.getElem?_cons_succ, List.filterMap, List.set, omap_some, obind_some, isTy, blOf, if_t, if_f, lenF, leD_i, leD_s, ltD_i, ltD_s, gtD_i, geD_i, addD_i, subD_i, mulD_i, itemsD, wipeD, Tgt.put, setAll, outR, lb0, lb1, lb2, lb3, lb4, lb5, lb6, lb7, lb8, lb9, lb10, lb11, lb12, allF, listF, tupleF, intF, eq_self_iff_true, if_true, if_false, decide_true, decide_false, Bool.true_and, Bool.false_and, Bool.and_true, Bool.and_false, Bool.not_true, Bool.not_false, Nat.sub_self, Nat.reduceAdd, Nat.reduceSub, Nat.reduceEqDiff, bagIx, isBag, BagSt.item, eqD_i, List.length_map, c2', beq_self_eq_true]) ?_
        (apply sq_step; focus (simp only [gd, runD, callP, kwF, pick, rtP, sqP, asP, parP, nxP, ifP, andV, orV, notV, andT, orT, notT, truP, tstP, truD, isiP, isisP, isTys, isNP, notNP, isNon, varP, chP, cstP, bltP, binP, consP, nilP, lstP, tupP, lcP, itP, rng1P, rng2P, slP, noP, soP, intOf, negP, sosP, bd_ok, List.map, List.replicate, List.length_cons, List.length_nil, List.cons_append, List.nil_append, List.append_nil, List.getElem?_cons_zero, List.getElem?_cons_succ, List.filterMap, List.set, omap_some, obind_some, isTy, blOf, if_t, if_f, lenF, leD_i, leD_s, ltD_i, ltD_s, gtD_i, geD_i, addD_i, subD_i, mulD_i, itemsD, wipeD, Tgt.put, setAll, outR, lb0, lb1, lb2, lb3, lb4, lb5, lb6, lb7, lb8, lb9, lb10, lb11, lb12, allF, listF, tupleF, intF, eq_self_iff_true, if_true, if_false, decide_true, decide_false, Bool.true_and, Bool.false_and, Bool.and_true, Bool.and_false, Bool.not_true, Bool.not_false, Nat.sub_self, Nat.reduceAdd, Nat.reduceSub, Nat.reduceEqDiff, bagIx, isBag, BagSt.item, ix]; first | done | rfl))
        (apply sq_step; focus (simp only [gd, runD, callP, kwF, pick, rtP, sqP, asP, parP, nxP, ifP, andV, orV, notV, andT, orT, notT, truP, tstP, truD, isiP, isisP, isTys, isNP, notNP, isNon, varP, chP, cstP, bltP, binP, consP, nilP, lstP, tupP, lcP, itP, rng1P, rng2P, slP, noP, soP, intOf, negP, sosP, bd_ok, List.map, List.replicate, List.length_cons, List.length_nil, List.cons_append, List.nil_append, List.append_nil, List.getElem?_cons_zero, List.getElem?_cons_succ, List.filterMap, List.set, omap_some, obind_some, isTy, blOf, if_t, if_f, lenF, leD_i, leD_s, ltD_i, ltD_s, gtD_i, geD_i, addD_i, subD_i, mulD_i, itemsD, wipeD, Tgt.put, setAll, outR, lb0, lb1, lb2, lb3, lb4, lb5, lb6, lb7, lb8, lb9, lb10, lb11, lb12, allF, listF, tupleF, intF, eq_self_iff_true, if_true, if_false, decide_true, decide_false, Bool.true_and, Bool.false_and, Bool.and_true, Bool.and_false, Bool.not_true, Bool.not_false, Nat.sub_self, Nat.reduceAdd, Nat.reduceSub, Nat.reduceEqDiff, bagIx, bagSet, isBag, BagSt.item, BagSt.put, if_pos pos, Int.toNat_natCast_add_one]; first | done | rfl))
        refine if_ff (st1 := ⟨some ⟨cells, at_ + 1, 0, seed, cnt⟩, scr, own, nx⟩) (by simp only [gd, runD, callP, kwF, pick, rtP, sqP, asP, parP, nxP, ifP, andV, orV, notV, andT, orT, notT, truP, tstP, truD, isiP, isisP, isTys, isNP, notNP, isNon, varP, chP, cstP, bltP, binP, consP, nilP, lstP, tupP, lcP, itP, rng1P, rng2P, slP, noP, soP, intOf, negP, sosP, bd_ok, List.map, List.replicate, List.length_cons, List.length_nil, List.cons_append, List.nil_append, List.append_nil, List.getElem?_cons_zero, List.getElem?_cons_succ, List.filterMap, List.set, omap_some, obind_some, isTy, blOf, if_t, if_f, lenF, leD_i, leD_s, ltD_i, ltD_s, gtD_i, geD_i, addD_i, subD_i, mulD_i, itemsD, wipeD, Tgt.put, setAll, outR, lb0, lb1, lb2, lb3, lb4, lb5, lb6, lb7, lb8, lb9, lb10, lb11, lb12, allF, listF, tupleF, intF, eq_self_iff_true, if_true, if_false, decide_true, decide_false, Bool.true_and, Bool.false_and, Bool.and_true, Bool.and_false, Bool.not_true, Bool.not_false, Nat.sub_self, Nat.reduceAdd, Nat.reduceSub, Nat.reduceEqDiff, pw18, c3]) ?_
        simp only [gd, runD, callP, kwF, pick, rtP, sqP, asP, parP, nxP, ifP, andV, orV, notV, andT, orT, notT, truP, tstP, truD, isiP, isisP, isTys, isNP, notNP, isNon, varP, chP, cstP, bltP, binP, consP, nilP, lstP, tupP, lcP, itP, rng1P, rng2P, slP, noP, soP, intOf, negP, sosP, bd_ok, List.map, List.replicate, List.length_cons, List.length_nil, List.cons_append, List.nil_append, List.append_nil, List.getElem?_cons_zero, List.getElem?_cons_succ, List.filterMap, List.set, omap_some, obind_some, isTy, blOf, if_t, if_f, lenF, leD_i, leD_s, ltD_i, ltD_s, gtD_i, geD_i, addD_i, subD_i, mulD_i, itemsD, wipeD, Tgt.put, setAll, outR, lb0, lb1, lb2, lb3, lb4, lb5, lb6, lb7, lb8, lb9, lb10, lb11, lb12, allF, listF, tupleF, intF, eq_self_iff_true, if_true, if_false, decide_true, decide_false, Bool.true_and, Bool.false_and, Bool.and_true, Bool.and_false, Bool.not_true, Bool.not_false, Nat.sub_self, Nat.reduceAdd, Nat.reduceSub, Nat.reduceEqDiff, bagIx, bagSet, isBag, BagSt.item, BagSt.put, mulK _ 48611 (by decide), mulK _ 15013 (by decide), modD _ 2147483423 (by decide), modD _ 2147483579 (by decide)]
        rfl
    · have c2' : ¬ ((at_ : Int) < (cells.length : Int)) := by omega
      obtain ⟨r, b', h, q⟩ := tail 0 at_ seed none hb1 hb2
      exact fin ⟨sq_step (if_ff (st1 := ⟨some ⟨cells, at_, 0, seed, cnt⟩, scr, own, nx⟩) (by simp only [gd, runD, callP, kwF, pick, rtP, sqP, asP, parP, nxP, ifP, andV, orV, notV, andT, orT, notT, truP, tstP, truD, isiP, isisP, isTys, isNP, notNP, isNon, varP, chP, cstP, bltP, binP, consP, nilP, lstP, tupP, lcP, itP, rng1P, rng2P, slP, noP, soP, intOf, negP, sosP, bd_ok, List.map, List.replicate, List.length_cons, List.length_nil, List.cons_append, List.nil_append, List.append_nil, List.getElem?_cons_zero, List.getElem?_cons_succ, List.filterMap, List.set, omap_some, obind_some, isTy, blOf, if_t, if_f, lenF, leD_i, leD_s, ltD_i, ltD_s, gtD_i, geD_i, addD_i, subD_i, mulD_i, itemsD, wipeD, Tgt.put, setAll, outR, lb0, lb1, lb2, lb3, lb4, lb5, lb6, lb7, lb8, lb9, lb10, lb11, lb12, allF, listF, tupleF, intF, eq_self_iff_true, if_true, if_false, decide_true, decide_false, Bool.true_and, Bool.false_and, Bool.and_true, Bool.and_false, Bool.not_true, Bool.not_false, Nat.sub_self, Nat.reduceAdd, Nat.reduceSub, Nat.reduceEqDiff, bagIx, isBag, BagSt.item, eqD_i, List.length_map, c2', beq_self_eq_true]) rfl) h, q⟩
  · have c1' : (rest == 0) = false := beq_eq_false_iff_ne.mpr c1
    obtain ⟨r, b', h, q⟩ := tail rest at_ seed none hb1 hb2
    exact fin ⟨sq_step (if_ff (st1 := ⟨some ⟨cells, at_, rest, seed, cnt⟩, scr, own, nx⟩) (by simp only [gd, runD, callP, kwF, pick, rtP, sqP, asP, parP, nxP, ifP, andV, orV, notV, andT, orT, notT, truP, tstP, truD, isiP, isisP, isTys, isNP, notNP, isNon, varP, chP, cstP, bltP, binP, consP, nilP, lstP, tupP, lcP, itP, rng1P, rng2P, slP, noP, soP, intOf, negP, sosP, bd_ok, List.map, List.replicate, List.length_cons, List.length_nil, List.cons_append, List.nil_append, List.append_nil, List.getElem?_cons_zero, List.getElem?_cons_succ, List.filterMap, List.set, omap_some, obind_some, isTy, blOf, if_t, if_f, lenF, leD_i, leD_s, ltD_i, ltD_s, gtD_i, geD_i, addD_i, subD_i, mulD_i, itemsD, wipeD, Tgt.put, setAll, outR, lb0, lb1, lb2, lb3, lb4, lb5, lb6, lb7, lb8, lb9, lb10, lb11, lb12, allF, listF, tupleF, intF, eq_self_iff_true, if_true, if_false, decide_true, decide_false, Bool.true_and, Bool.false_and, Bool.and_true, Bool.and_false, Bool.not_true, Bool.not_false, Nat.sub_self, Nat.reduceAdd, Nat.reduceSub, Nat.reduceEqDiff, bagIx, isBag, BagSt.item, eqD_i, c1']) rfl) h, q⟩
end Dn

set_option Elab.async false
set_option linter.all false
set_option maxRecDepth 100000
set_option maxHeartbeats 4000000
namespace Dn
open PySem PySem.Spec PyProof.Rows L2
theorem any_lst (b : BagSt) (scr : Option (Addr × List Int)) (own : List (Nat × Cell)) (nx : Nat) (ds : List D) (hb : okB b) (h1 : 0 < ds.length) (h2 : ds.length ≤ big) :
    ∃ d b', d ∈ ds ∧ F_l_any [.hnd 0, .lst ds] ⟨some b, scr, own, nx⟩ = some (.ok d, ⟨some b', scr, own, nx⟩) ∧ okB b' := by
  unfold big at h2
  obtain ⟨r, b', h, r0, r1, hb'⟩ := pull_ok b scr own nx ds.length hb (by omega) (by omega)
  have hr : r.toNat < ds.length := by omega
  have ix : ixD (.lst ds) (.int r) = some ds[r.toNat] := by
    show atI ds r = _
    unfold atI ixN
    rw [if_pos r0, if_pos r1, obind_some, List.getElem?_eq_getElem hr]
  refine ⟨ds[r.toNat], b', List.getElem_mem hr, run_ret rfl ?_, hb'⟩
  unfold d_l_any
  simp only [gd, runD, callP, kwF, pick, rtP, sqP, asP, parP, nxP, ifP, andV, orV, notV, andT, orT, notT, truP, tstP, truD, isiP, isisP, isTys, isNP, notNP, isNon, varP, chP, cstP, bltP, binP, consP, nilP, lstP, tupP, lcP, itP, rng1P, rng2P, slP, noP, soP, intOf, negP, sosP, bd_ok, List.map, List.replicate, List.length_cons, List.length_nil, List.cons_append, List.nil_append, List.append_nil, List.getElem?_cons_zero, List.getElem?_cons_succ, List.filterMap, List.set, omap_some, obind_some, isTy, blOf, if_t, if_f, lenF, leD_i, leD_s, ltD_i, ltD_s, gtD_i, geD_i, addD_i, subD_i, mulD_i, itemsD, wipeD, Tgt.put, setAll, outR, lb0, lb1, lb2, lb3, lb4, lb5, lb6, lb7, lb8, lb9, lb10, lb11, lb12, allF, listF, tupleF, intF, eq_self_iff_true, if_true, if_false, decide_true, decide_false, Bool.true_and, Bool.false_and, Bool.and_true, Bool.and_false, Bool.not_true, Bool.not_false, Nat.sub_self, Nat.reduceAdd, Nat.reduceSub, Nat.reduceEqDiff, h, ix]
theorem any_str (b : BagSt) (scr : Option (Addr × List Int)) (own : List (Nat × Cell)) (nx : Nat) (z : Str) (hb : okB b) (h1 : 0 < z.length) (h2 : z.length ≤ big) :
    ∃ c b', c ∈ z.cps.toList ∧ F_l_any [.hnd 0, .str z] ⟨some b, scr, own, nx⟩ = some (.ok (.str ⟨#[c]⟩), ⟨some b', scr, own, nx⟩) ∧ okB b' := by
  have h3 : z.length ≤ 1000000 := h2
  obtain ⟨r, b', h, r0, r1, hb'⟩ := pull_ok b scr own nx z.length hb (by omega) (by omega)
  have e : z.cps.toList.length = z.length := Array.length_toList
  have hr : r.toNat < z.cps.toList.length := by omega
  have ix : ixD (.str z) (.int r) = some (.str ⟨#[z.cps.toList[r.toNat]]⟩) := by
    show (if z.length ≤ big then (atI z.cps.toList r).map fun c => D.str ⟨#[c]⟩ else none) = _
    rw [if_pos h2]
    unfold atI ixN
    rw [if_pos r0, e, if_pos r1, obind_some, List.getElem?_eq_getElem hr] <;> rfl
  refine ⟨z.cps.toList[r.toNat], b', List.getElem_mem hr, run_ret rfl ?_, hb'⟩
  unfold d_l_any
  simp only [gd, runD, callP, kwF, pick, rtP, sqP, asP, parP, nxP, ifP, andV, orV, notV, andT, orT, notT, truP, tstP, truD, isiP, isisP, isTys, isNP, notNP, isNon, varP, chP, cstP, bltP, binP, consP, nilP, lstP, tupP, lcP, itP, rng1P, rng2P, slP, noP, soP, intOf, negP, sosP, bd_ok, List.map, List.replicate, List.length_cons, List.length_nil, List.cons_append, List.nil_append, List.append_nil, List.getElem?_cons_zero, List.getElem?_cons_succ, List.filterMap, List.set, omap_some, obind_some, isTy, blOf, if_t, if_f, lenF, leD_i, leD_s, ltD_i, ltD_s, gtD_i, geD_i, addD_i, subD_i, mulD_i, itemsD, wipeD, Tgt.put, setAll, outR, lb0, lb1, lb2, lb3, lb4, lb5, lb6, lb7, lb8, lb9, lb10, lb11, lb12, allF, listF, tupleF, intF, eq_self_iff_true, if_true, if_false, decide_true, decide_false, Bool.true_and, Bool.false_and, Bool.and_true, Bool.and_false, Bool.not_true, Bool.not_false, Nat.sub_self, Nat.reduceAdd, Nat.reduceSub, Nat.reduceEqDiff, h, ix, if_pos h2]
/-- a list whose items are drawn -/
theorem lc_draw {t : Tgt} {te : EDen} {Δ : Dl} {scr : Option (Addr × List Int)} {own : List (Nat × Cell)} {nx : Nat} {Pd : D → Prop} : ∀ (ds : List D) (b : BagSt) (acc : List D),
    (∀ d ∈ ds, ∃ Δ1, t.put d Δ = some Δ1 ∧ ∀ b, okB b → ∃ y b', te Δ1 ⟨some b, scr, own, nx⟩ = some (.ok y, ⟨some b', scr, own, nx⟩) ∧ Pd y ∧ okB b') → okB b → acc.length + ds.length ≤ big →
    ∃ ys b', lcGo t yesT te Δ ds ⟨some b, scr, own, nx⟩ acc = some (.ok (.lst (acc ++ ys)), ⟨some b', scr, own, nx⟩) ∧ ys.length = ds.length ∧ (∀ y ∈ ys, Pd y) ∧ okB b'
  | [], b, acc, _, hb, _ => ⟨[], b, by simp [lcGo], rfl, by simp, hb⟩
  | d :: ds, b, acc, h, hb, hl => by
    obtain ⟨Δ1, h1, h2⟩ := h d List.mem_cons_self
    obtain ⟨y, b1, e1, py, hb1⟩ := h2 b hb
    rw [List.length_cons] at hl
    obtain ⟨ys, b2, e2, len, all, hb2⟩ := lc_draw ds b1 (acc ++ [y]) (fun x hx => h x (List.mem_cons_of_mem _ hx)) hb1 (by rw [List.length_append, List.length_singleton]; omega)
    refine ⟨y :: ys, b2, ?_, by rw [List.length_cons, List.length_cons, len], fun z hz => ?_, hb2⟩
    · unfold lcGo
      rw [h1, obind_some]
      show (match te Δ1 ⟨some b, scr, own, nx⟩ with | some (.ok y, st2) => if acc.length < big then lcGo t yesT te Δ ds st2 (acc ++ [y]) else none | _ => none) = _
      rw [e1]
      simp only
      rw [if_pos (by omega), e2, List.append_assoc] <;> rfl
    · rcases List.mem_cons.mp hz with e | e
      · rw [e]; exact py
      · exact all z e
/-! ### texts of small letters -/
abbrev abc : Str := "abcdefghijklmnopqrstuvwxyz"
theorem abc_low : ∀ c ∈ abc.cps.toList, lowC c = true := by decide +kernel
theorem low_app (x y : Str) : lowS (x ++ y) = (lowS x && lowS y) := by
  show ((x.cps ++ y.cps).toList.all lowC) = _
  rw [Array.toList_append, List.all_append] <;> rfl
theorem len_app (x y : Str) : (x ++ y).length = x.length + y.length := by
  show (x.cps ++ y.cps).size = _
  rw [Array.size_append] <;> rfl
theorem low_cut (z : Str) (a b : Option Int) (h : lowS z = true) : lowS (cutS z a b) = true := by
  unfold lowS cutS at *
  rw [List.all_eq_true] at h ⊢
  intro c hc
  exact h c (List.mem_of_mem_drop (List.mem_of_mem_take (by simpa using hc)))
theorem len_cut (z : Str) (n : Nat) (h : n ≤ z.length) : (cutS z none (some n)).length = n ∧ (cutS z (some n) none).length = z.length - n := by
  have e : z.cps.toList.length = z.length := Array.length_toList
  unfold cutS
  rw [HT.sIx_none, HT.sIx_none, HT.sIx_nat, HT.sIx_nat]
  constructor
  · show (List.take _ _).toArray.size = n
    rw [List.size_toArray, List.length_take, List.drop_zero, e, Nat.min_eq_left h]
    omega
  · show (List.take _ _).toArray.size = _
    rw [List.size_toArray, List.length_take, List.length_drop, e, Nat.min_eq_left h]
    omega
theorem joinL_one : ∀ cs : List Nat, TL.joinL [] (cs.map fun c => [c]) = cs
  | [] => rfl
  | [c] => rfl
  | c :: d :: r => by
    show [c] ++ ([] ++ TL.joinL [] ((d :: r).map fun c => [c])) = c :: d :: r
    rw [joinL_one (d :: r)] <;> rfl
theorem glue (cs : List Nat) : Txt.join (Str.ofString "") (cs.map fun c => (⟨#[c]⟩ : Str)) = ⟨cs.toArray⟩ := by
  have h := SX.join_S [] (cs.map fun c => [c])
  rw [joinL_one, List.map_map] at h
  exact h
theorem strsD_map (zs : List Str) : strsD (zs.map .str) = some zs := by
  induction zs with
  | nil => rfl
  | cons z zs ih => simp only [List.map_cons, strsD, ih, Option.map]
theorem sum_one (cs : List Nat) : ((cs.map fun c => (⟨#[c]⟩ : Str)).map (·.length)).sum = cs.length := by
  induction cs with
  | nil => rfl
  | cons c cs ih =>
    rw [List.map_cons, List.map_cons, List.sum_cons, ih, List.length_cons, show Str.length ⟨#[c]⟩ = 1 from rfl]
    omega
theorem rng1_ok (r : Int) (h0 : 0 ≤ r) (h1 : r ≤ 1000000) : rng1F [.int r] = some (rngD 0 r) := if_pos ⟨by unfold mil; omega, h1⟩
/-- a name as the law draws it -/
def NameS (z : Str) : Prop := 1 ≤ z.length ∧ z.length ≤ 4 ∧ lowS z = true
theorem rng_mem {lo hi : Int} {d : D} (h : d ∈ rngD lo hi) : ∃ i : Nat, (i : Int) < hi - lo ∧ d = .int (lo + i) := by
  obtain ⟨i, hi, e⟩ := List.mem_map.mp h
  have := List.mem_range.mp hi
  exact ⟨i, by omega, e.symm⟩
theorem rng_len (lo hi : Int) : (rngD lo hi).length = (hi - lo).toNat := by unfold rngD; rw [List.length_map, List.length_range]
theorem names_ok (b : BagSt) (scr : Option (Addr × List Int)) (own : List (Nat × Cell)) (nx : Nat) (m : Int) (hb : okB b) (h1 : 0 ≤ m) (h2 : m ≤ 1000) :
    ∃ (zs : List Str) (b' : BagSt), F_l_names [.hnd 0, .int m] ⟨some b, scr, own, nx⟩ = some (.ok (.lst (zs.map .str)), ⟨some b', scr, own, nx⟩) ∧ zs.length = m.toNat ∧ (∀ z ∈ zs, NameS z) ∧ okB b' ∧ (m ≤ 26 → zs.Nodup) := by
  obtain ⟨r, b1, p1, r0, r1, hb1⟩ := pull_ok b scr own nx 4 hb (by decide) (by decide)
  have rl := rng_len 0 r
  obtain ⟨ys, b2, p2, ly, all, hb2⟩ := lc_draw (t := .one 6) (te := callP F_l_any (consP (varP 0) (consP (varP 2) nilP))) (Δ := [some (.hnd 0), some (.int m), some (.str abc), none, none, none, none]) (scr := scr) (own := own) (nx := nx)
    (Pd := fun y => ∃ c, lowC c = true ∧ y = .str ⟨#[c]⟩) (rngD 0 r) b1 [] (fun d hd => ⟨_, rfl, fun b hb => by
      obtain ⟨c, b', hc, e, hb'⟩ := any_str b scr own nx abc hb (by decide) (by decide +kernel)
      exact ⟨_, b', by simp only [gd, runD, callP, kwF, pick, rtP, sqP, asP, parP, nxP, ifP, andV, orV, notV, andT, orT, notT, truP, tstP, truD, isiP, isisP, isTys, isNP, notNP, isNon, varP, chP, cstP, bltP, binP, consP, nilP, lstP, tupP, lcP, itP, rng1P, rng2P, slP, noP, soP, intOf, negP, sosP, bd_ok, List.map, List.replicate, List.length_cons, List.length_nil, List.cons_append, List.nil_append, List.append_nil, List.getElem?_cons_zero, List.getElem?_cons_succ, List.filterMap, List.set, omap_some, obind_some, isTy, blOf, if_t, if_f, lenF, leD_i, leD_s, ltD_i, ltD_s, gtD_i, geD_i, addD_i, subD_i, mulD_i, itemsD, wipeD, Tgt.put, setAll, outR, lb0, lb1, lb2, lb3, lb4, lb5, lb6, lb7, lb8, lb9, lb10, lb11, lb12, allF, listF, tupleF, intF, eq_self_iff_true, if_true, if_false, decide_true, decide_false, Bool.true_and, Bool.false_and, Bool.and_true, Bool.and_false, Bool.not_true, Bool.not_false, Nat.sub_self, Nat.reduceAdd, Nat.reduceSub, Nat.reduceEqDiff, e], ⟨c, abc_low c hc, rfl⟩, hb'⟩⟩) hb1 (by rw [rl, List.length_nil]; unfold big; omega)
  obtain ⟨cs, rfl, low⟩ : ∃ cs : List Nat, ys = cs.map (fun c => D.str ⟨#[c]⟩) ∧ ∀ c ∈ cs, lowC c = true := by
    clear p2 ly
    induction ys with
    | nil => exact ⟨[], rfl, by simp⟩
    | cons y ys ih =>
      obtain ⟨cs, e, h⟩ := ih fun z hz => all z (List.mem_cons_of_mem _ hz)
      obtain ⟨c, hc, ey⟩ := all y List.mem_cons_self
      refine ⟨c :: cs, by rw [e, ey] <;> rfl, fun x hx => ?_⟩
      rcases List.mem_cons.mp hx with q | q
      · rw [q]; exact hc
      · exact h x q
  rw [List.length_map, rl] at ly
  have len3 : cs.length ≤ 3 := by omega
  have jn : joinF (.str (Str.ofString "")) (.lst (cs.map fun c => D.str ⟨#[c]⟩)) = some (.str ⟨cs.toArray⟩) := by
    have sd : strsD (cs.map fun c => D.str ⟨#[c]⟩) = some (cs.map fun c => ⟨#[c]⟩) := by
      have q := strsD_map (cs.map fun c => (⟨#[c]⟩ : Str))
      rw [List.map_map] at q
      exact q
    show (strsD (cs.map fun c => D.str ⟨#[c]⟩)).bind _ = _
    rw [sd, obind_some, sum_one, List.length_map, show (Str.ofString "").length = 0 from rfl, Nat.mul_zero, Nat.add_zero, if_pos (by unfold big; omega), glue]
  obtain ⟨stem, es⟩ : ∃ s : Str, s = ⟨cs.toArray⟩ := ⟨_, rfl⟩
  have stl : stem.length = cs.length := by rw [es]; show cs.toArray.size = _; rw [List.size_toArray]
  have stw : lowS stem = true := by rw [es]; show (cs.toArray.toList.all lowC) = true; rw [List.all_eq_true]; simpa using low
  rw [← es] at jn
  obtain ⟨at_, b3, p3, a0, a1, hb3⟩ := pull_ok b2 scr own nx (stem.length + 1) hb2 (by omega) (by omega)
  obtain ⟨fi, b4, p4, f0, f1, hb4⟩ := pull_ok b3 scr own nx 26 hb3 (by decide) (by decide)
  obtain ⟨n, rfl⟩ : ∃ n : Nat, at_ = n := ⟨at_.toNat, by omega⟩
  have nl : n ≤ stem.length := by omega
  have stb : stem.length ≤ big := by unfold big; omega
  obtain ⟨c1, c2⟩ := len_cut stem n nl
  have l1 := low_cut stem none (some n) stw
  have l2 := low_cut stem (some n) none stw
  let let_ : Int → Str := fun k => ⟨#[abc.cps.toList.getD ((fi + 7 * k) % 26).toNat 0]⟩
  let mk : Int → Str := fun k => cutS stem none (some n) ++ let_ k ++ cutS stem (some n) none
  have abl : abc.cps.toList.length = 26 := by decide +kernel
  have ix : ∀ k : Int, ixD (.str abc) (.int ((fi + 7 * k) % 26)) = some (.str (let_ k)) := fun k => by
    have h0 : 0 ≤ (fi + 7 * k) % 26 := Int.emod_nonneg _ (by decide)
    have h1 : (fi + 7 * k) % 26 < 26 := Int.emod_lt_of_pos _ (by decide)
    show (if abc.length ≤ big then (atI abc.cps.toList ((fi + 7 * k) % 26)).map fun c => D.str ⟨#[c]⟩ else none) = _
    rw [if_pos (by decide +kernel)]
    unfold atI ixN
    rw [abl, if_pos h0, if_pos (show _ < ((26 : Nat) : Int) from h1), obind_some]
    have hh : ((fi + 7 * k) % 26).toNat < abc.cps.toList.length := by omega
    show Option.map _ _ = some (D.str ⟨#[abc.cps.toList.getD _ 0]⟩)
    rw [List.getElem?_eq_getElem hh, List.getD_eq_getElem?_getD, List.getElem?_eq_getElem hh] <;> rfl
  have letl : ∀ k, lowS (let_ k) = true := fun k => by
    have h1 : (fi + 7 * k) % 26 < 26 := Int.emod_lt_of_pos _ (by decide)
    have hh : ((fi + 7 * k) % 26).toNat < abc.cps.toList.length := by omega
    show ([abc.cps.toList.getD ((fi + 7 * k) % 26).toNat 0].all lowC) = true
    rw [List.getD_eq_getElem?_getD, List.getElem?_eq_getElem hh]
    simpa using abc_low _ (List.getElem_mem hh)
  have lc := lc_pure (t := .one 6) (te := (binP addD (binP addD (slP (varP 3) noP (soP (varP 4))) (binP ixD (varP 2) (binP (intD modI) (bltP intF (consP (binP addD (varP 5) (binP mulD (cstP (.int 7)) (varP 6))) nilP)) (cstP (.int 26))))) (slP (varP 3) (soP (varP 4)) noP)))
    (Δ := [some (.hnd 0), some (.int m), some (.str abc), some (.str stem), some (.int n), some (.int fi), none]) (st := ⟨some b4, scr, own, nx⟩) (fun d => match d with | .int k => .str (mk k) | d => d) (rngD 0 m) [] (fun d hd => by
      obtain ⟨i, hi, rfl⟩ := rng_mem hd
      refine ⟨_, rfl, ?_⟩
      have k7 : mulI 7 (0 + (i : Int)) = some (7 * (0 + (i : Int))) := mulS 7 _ (by decide)
      have lk : (let_ (0 + (i : Int))).length = 1 := rfl
      have ad1 : addD (.str (cutS stem none (some (n : Int)))) (.str (let_ (0 + (i : Int)))) = some (.str (cutS stem none (some (n : Int)) ++ let_ (0 + (i : Int)))) := if_pos (by rw [c1, lk]; unfold big; omega)
      have ad2 : addD (.str (cutS stem none (some (n : Int)) ++ let_ (0 + (i : Int)))) (.str (cutS stem (some (n : Int)) none)) = some (.str (mk (0 + (i : Int)))) := if_pos (by rw [len_app, c1, lk, c2]; unfold big; omega)
      simp only [gd, runD, callP, kwF, pick, rtP, sqP, asP, parP, nxP, ifP, andV, orV, notV, andT, orT, notT, truP, tstP, truD, isiP, isisP, isTys, isNP, notNP, isNon, varP, chP, cstP, bltP, binP, consP, nilP, lstP, tupP, lcP, itP, rng1P, rng2P, slP, noP, soP, intOf, negP, sosP, bd_ok, List.map, List.replicate, List.length_cons, List.length_nil, List.cons_append, List.nil_append, List.append_nil, List.getElem?_cons_zero, List.getElem?_cons_succ, List.filterMap, List.set, omap_some, obind_some, isTy, blOf, if_t, if_f, lenF, leD_i, leD_s, ltD_i, ltD_s, gtD_i, geD_i, addD_i, subD_i, mulD_i, itemsD, wipeD, Tgt.put, setAll, outR, lb0, lb1, lb2, lb3, lb4, lb5, lb6, lb7, lb8, lb9, lb10, lb11, lb12, allF, listF, tupleF, intF, eq_self_iff_true, if_true, if_false, decide_true, decide_false, Bool.true_and, Bool.false_and, Bool.and_true, Bool.and_false, Bool.not_true, Bool.not_false, Nat.sub_self, Nat.reduceAdd, Nat.reduceSub, Nat.reduceEqDiff, slD, if_pos stb, ix, k7, modD _ 26 (by decide), ad1, ad2]) (by rw [rng_len, List.length_nil]; unfold big; omega)
  refine ⟨(List.range (m - 0).toNat).map fun i => mk (0 + (i : Nat)), b4, run_ret rfl ?_, ?_, ?_, hb4, ?_⟩
  · unfold d_l_names
    rw [List.nil_append] at p2 lc
    (apply sq_step; focus (simp only [gd, runD, callP, kwF, pick, rtP, sqP, asP, parP, nxP, ifP, andV, orV, notV, andT, orT, notT, truP, tstP, truD, isiP, isisP, isTys, isNP, notNP, isNon, varP, chP, cstP, bltP, binP, consP, nilP, lstP, tupP, lcP, itP, rng1P, rng2P, slP, noP, soP, intOf, negP, sosP, bd_ok, List.map, List.replicate, List.length_cons, List.length_nil, List.cons_append, List.nil_append, List.append_nil, List.getElem?_cons_zero, List.getElem?_cons_succ, List.filterMap, List.set, omap_some, obind_some, isTy, blOf, if_t, if_f, lenF, leD_i, leD_s, ltD_i, ltD_s, gtD_i, geD_i, addD_i, subD_i, mulD_i, itemsD, wipeD, Tgt.put, setAll, outR, lb0, lb1, lb2, lb3, lb4, lb5, lb6, lb7, lb8, lb9, lb10, lb11, lb12, allF, listF, tupleF, intF, eq_self_iff_true, if_true, if_false, decide_true, decide_false, Bool.true_and, Bool.false_and, Bool.and_true, Bool.and_false, Bool.not_true, Bool.not_false, Nat.sub_self, Nat.reduceAdd, Nat.reduceSub, Nat.reduceEqDiff]; first | done | rfl))
    (apply sq_step; focus (simp only [gd, runD, callP, kwF, pick, rtP, sqP, asP, parP, nxP, ifP, andV, orV, notV, andT, orT, notT, truP, tstP, truD, isiP, isisP, isTys, isNP, notNP, isNon, varP, chP, cstP, bltP, binP, consP, nilP, lstP, tupP, lcP, itP, rng1P, rng2P, slP, noP, soP, intOf, negP, sosP, bd_ok, List.map, List.replicate, List.length_cons, List.length_nil, List.cons_append, List.nil_append, List.append_nil, List.getElem?_cons_zero, List.getElem?_cons_succ, List.filterMap, List.set, omap_some, obind_some, isTy, blOf, if_t, if_f, lenF, leD_i, leD_s, ltD_i, ltD_s, gtD_i, geD_i, addD_i, subD_i, mulD_i, itemsD, wipeD, Tgt.put, setAll, outR, lb0, lb1, lb2, lb3, lb4, lb5, lb6, lb7, lb8, lb9, lb10, lb11, lb12, allF, listF, tupleF, intF, eq_self_iff_true, if_true, if_false, decide_true, decide_false, Bool.true_and, Bool.false_and, Bool.and_true, Bool.and_false, Bool.not_true, Bool.not_false, Nat.sub_self, Nat.reduceAdd, Nat.reduceSub, Nat.reduceEqDiff, p1, rng1_ok r r0 (by omega), p2, jn]; first | done | rfl))
    (apply sq_step; focus (simp only [gd, runD, callP, kwF, pick, rtP, sqP, asP, parP, nxP, ifP, andV, orV, notV, andT, orT, notT, truP, tstP, truD, isiP, isisP, isTys, isNP, notNP, isNon, varP, chP, cstP, bltP, binP, consP, nilP, lstP, tupP, lcP, itP, rng1P, rng2P, slP, noP, soP, intOf, negP, sosP, bd_ok, List.map, List.replicate, List.length_cons, List.length_nil, List.cons_append, List.nil_append, List.append_nil, List.getElem?_cons_zero, List.getElem?_cons_succ, List.filterMap, List.set, omap_some, obind_some, isTy, blOf, if_t, if_f, lenF, leD_i, leD_s, ltD_i, ltD_s, gtD_i, geD_i, addD_i, subD_i, mulD_i, itemsD, wipeD, Tgt.put, setAll, outR, lb0, lb1, lb2, lb3, lb4, lb5, lb6, lb7, lb8, lb9, lb10, lb11, lb12, allF, listF, tupleF, intF, eq_self_iff_true, if_true, if_false, decide_true, decide_false, Bool.true_and, Bool.false_and, Bool.and_true, Bool.and_false, Bool.not_true, Bool.not_false, Nat.sub_self, Nat.reduceAdd, Nat.reduceSub, Nat.reduceEqDiff, if_pos stb, p3, p4]; first | done | rfl))
    simp only [gd, runD, callP, kwF, pick, rtP, sqP, asP, parP, nxP, ifP, andV, orV, notV, andT, orT, notT, truP, tstP, truD, isiP, isisP, isTys, isNP, notNP, isNon, varP, chP, cstP, bltP, binP, consP, nilP, lstP, tupP, lcP, itP, rng1P, rng2P, slP, noP, soP, intOf, negP, sosP, bd_ok, List.map, List.replicate, List.length_cons, List.length_nil, List.cons_append, List.nil_append, List.append_nil, List.getElem?_cons_zero, List.getElem?_cons_succ, List.filterMap, List.set, omap_some, obind_some, isTy, blOf, if_t, if_f, lenF, leD_i, leD_s, ltD_i, ltD_s, gtD_i, geD_i, addD_i, subD_i, mulD_i, itemsD, wipeD, Tgt.put, setAll, outR, lb0, lb1, lb2, lb3, lb4, lb5, lb6, lb7, lb8, lb9, lb10, lb11, lb12, allF, listF, tupleF, intF, eq_self_iff_true, if_true, if_false, decide_true, decide_false, Bool.true_and, Bool.false_and, Bool.and_true, Bool.and_false, Bool.not_true, Bool.not_false, Nat.sub_self, Nat.reduceAdd, Nat.reduceSub, Nat.reduceEqDiff, rng1_ok m h1 (by omega), lc]
    unfold rngD
    rw [List.map_map, List.map_map]
    rfl
  · rw [List.length_map, List.length_range]
    omega
  · intro z hz
    obtain ⟨i, _, rfl⟩ := List.mem_map.mp hz
    have lk : (let_ (0 + (i : Int))).length = 1 := rfl
    refine ⟨?_, ?_, ?_⟩
    · show 1 ≤ (cutS stem none (some (n : Int)) ++ let_ _ ++ cutS stem (some (n : Int)) none).length
      rw [len_app, len_app, c1, c2, lk]; omega
    · show (cutS stem none (some (n : Int)) ++ let_ _ ++ cutS stem (some (n : Int)) none).length ≤ 4
      rw [len_app, len_app, c1, c2, lk]; omega
    · show lowS (cutS stem none (some (n : Int)) ++ let_ _ ++ cutS stem (some (n : Int)) none) = true
      rw [low_app, low_app, l1, l2, letl] <;> rfl
  · intro h26
    refine List.Pairwise.map _ (fun i j h => ?_) (R := fun i j : Nat => i ≠ j ∧ i < 26 ∧ j < 26) ?_
    · obtain ⟨hne, hi, hj⟩ := h
      intro e
      apply hne
      have e1 : (cutS stem none (some (n : Int)) ++ let_ (0 + (i : Int)) ++ cutS stem (some (n : Int)) none).cps.toList = (cutS stem none (some (n : Int)) ++ let_ (0 + (j : Int)) ++ cutS stem (some (n : Int)) none).cps.toList := congrArg (fun z : Str => z.cps.toList) e
      have ap : ∀ x y : Str, (x ++ y).cps.toList = x.cps.toList ++ y.cps.toList := fun x y => by show (x.cps ++ y.cps).toList = _; rw [Array.toList_append]
      rw [ap, ap, ap, ap] at e1
      have e2 := List.append_cancel_left (List.append_cancel_right e1)
      have e3 : [abc.cps.toList.getD ((fi + 7 * (0 + (i : Int))) % 26).toNat 0] = [abc.cps.toList.getD ((fi + 7 * (0 + (j : Int))) % 26).toNat 0] := e2
      have ab : abc.cps.toList = (List.range 26).map (97 + ·) := by decide +kernel
      have at_ : ∀ k : Nat, k < 26 → abc.cps.toList.getD k 0 = 97 + k := fun k hk => by
        rw [ab, List.getD_eq_getElem?_getD, List.getElem?_map, List.getElem?_range hk]; rfl
      rw [at_ _ (by omega), at_ _ (by omega)] at e3
      have e4 := List.head_eq_of_cons_eq e3
      omega
    · have nd : (List.range (m - 0).toNat).Pairwise (fun i j => i ≠ j) := List.nodup_range
      refine List.Pairwise.imp_of_mem (fun {i j} hi hj h => ⟨h, ?_, ?_⟩) nd
      · have := List.mem_range.mp hi; omega
      · have := List.mem_range.mp hj; omega
end Dn

set_option Elab.async false
set_option linter.all false
set_option maxRecDepth 100000
set_option maxHeartbeats 4000000
namespace Dn
open PySem PySem.Spec PyProof.Rows L2
theorem eqD_b (a b : Bool) : eqD (.bl a) (.bl b) = some (.bl (a == b)) := by cases a <;> cases b <;> rfl
theorem neD_b (a b : Bool) : neD (.bl a) (.bl b) = some (.bl (!(a == b))) := by cases a <;> cases b <;> rfl
theorem same_bl (n : Nat) (b : Bool) (st : Sta) : F_l_same (n + 1) [.bl b, .bl b] st = some (.ok (.bl true), st) := by
  refine run_ret rfl ?_
  unfold d_l_same
  simp only [gd, runD, callP, kwF, pick, rtP, sqP, asP, parP, nxP, ifP, andV, orV, notV, andT, orT, notT, truP, tstP, truD, isiP, isisP, isTys, isNP, notNP, isNon, varP, chP, cstP, bltP, binP, consP, nilP, lstP, tupP, lcP, itP, rng1P, rng2P, slP, noP, soP, intOf, negP, sosP, bd_ok, List.map, List.replicate, List.length_cons, List.length_nil, List.cons_append, List.nil_append, List.append_nil, List.getElem?_cons_zero, List.getElem?_cons_succ, List.filterMap, List.set, omap_some, obind_some, isTy, blOf, if_t, if_f, lenF, leD_i, leD_s, ltD_i, ltD_s, gtD_i, geD_i, addD_i, subD_i, mulD_i, itemsD, wipeD, Tgt.put, setAll, outR, lb0, lb1, lb2, lb3, lb4, lb5, lb6, lb7, lb8, lb9, lb10, lb11, lb12, allF, listF, tupleF, intF, eq_self_iff_true, if_true, if_false, decide_true, decide_false, Bool.true_and, Bool.false_and, Bool.and_true, Bool.and_false, Bool.not_true, Bool.not_false, Nat.sub_self, Nat.reduceAdd, Nat.reduceSub, Nat.reduceEqDiff, eqD_b, neD_b, beq_self_eq_true]
theorem zip_same (ds : List D) : zipL ds ds = ds.map fun d => .tup [d, d] := by
  induction ds with
  | nil => rfl
  | cons d ds ih => simp only [zipL, List.map_cons, ih]
end Dn

set_option linter.all false
namespace Mr
/-! ### ranks by a closure: what column ranks are -/
structure Clo {α : Type} (cl : List α → α → Prop) : Prop where
  refl : ∀ s x, x ∈ s → cl s x
  trans : ∀ s t y, (∀ x ∈ s, cl t x) → cl s y → cl t y
  exch : ∀ s c d, cl (s ++ [c]) d → ¬ cl s d → cl (s ++ [d]) c
section
variable {α : Type} {cl : List α → α → Prop}
theorem Clo.mono (C : Clo cl) {s t : List α} {y : α} (h : ∀ x ∈ s, x ∈ t) (hy : cl s y) : cl t y := C.trans s t y (fun x hx => C.refl t x (h x hx)) hy
/-- the same closed set -/
def Eqv (cl : List α → α → Prop) (s t : List α) : Prop := ∀ y, cl s y ↔ cl t y
theorem eqv_perm (C : Clo cl) {s t : List α} (h : ∀ x, x ∈ s ↔ x ∈ t) : Eqv cl s t := fun y => ⟨C.mono fun x hx => (h x).mp hx, C.mono fun x hx => (h x).mpr hx⟩
theorem eqv_add (C : Clo cl) {s t : List α} (h : Eqv cl s t) (c : α) : Eqv cl (s ++ [c]) (t ++ [c]) := by
  have key : ∀ {s t : List α}, Eqv cl s t → ∀ y, cl (s ++ [c]) y → cl (t ++ [c]) y := fun {s t} h y hy => by
    refine C.trans _ _ y (fun x hx => ?_) hy
    rcases List.mem_append.mp hx with hx | hx
    · exact C.mono (fun z hz => List.mem_append_left _ hz) ((h x).mp (C.refl s x hx))
    · exact C.refl _ x (List.mem_append_right _ hx)
  exact fun y => ⟨key h y, key (fun y => (h y).symm) y⟩
theorem eqv_in (C : Clo cl) {s : List α} {c : α} (h : cl s c) : Eqv cl (s ++ [c]) s := fun y => ⟨fun hy => C.trans _ _ y (fun x hx => by
  rcases List.mem_append.mp hx with hx | hx
  · exact C.refl s x hx
  · rw [List.mem_singleton.mp hx]; exact h) hy, C.mono fun x hx => List.mem_append_left _ hx⟩
open Classical in
noncomputable def rkA (cl : List α → α → Prop) : List α → List α → Nat
  | _, [] => 0
  | pre, c :: r => (if cl pre c then 0 else 1) + rkA cl (pre ++ [c]) r
open Classical in
theorem rkA_cons (cl : List α → α → Prop) (s : List α) (c : α) (r : List α) : rkA cl s (c :: r) = (if cl s c then 0 else 1) + rkA cl (s ++ [c]) r := by rw [rkA]
noncomputable def rk (cl : List α → α → Prop) (s : List α) : Nat := rkA cl [] s
theorem rkA_eqv (C : Clo cl) : ∀ (r s t : List α), Eqv cl s t → rkA cl s r = rkA cl t r
  | [], _, _, _ => rfl
  | c :: r, s, t, h => by
    unfold rkA
    rw [rkA_eqv C r _ _ (eqv_add C h c)]
    by_cases q : cl s c
    · rw [if_pos q, if_pos ((h c).mp q)]
    · rw [if_neg q, if_neg fun z => q ((h c).mpr z)]
theorem rkA_swap (C : Clo cl) (s : List α) (c d : α) (r : List α) : rkA cl s (c :: d :: r) = rkA cl s (d :: c :: r) := by
  unfold rkA
  unfold rkA
  have e : rkA cl (s ++ [c] ++ [d]) r = rkA cl (s ++ [d] ++ [c]) r := rkA_eqv C r _ _ (eqv_perm C fun x => by
    simp only [List.mem_append, List.mem_singleton]
    constructor <;> rintro ((h | h) | h) <;> simp [h])
  rw [e]
  have up : ∀ {x y : α}, cl s x → cl (s ++ [y]) x := fun h => C.mono (fun z hz => List.mem_append_left _ hz) h
  by_cases hc : cl s c
  · have hd : cl (s ++ [c]) d ↔ cl s d := eqv_in C hc d
    rw [if_pos hc, if_pos (up (y := d) hc)]
    by_cases q : cl s d
    · rw [if_pos q, if_pos (hd.mpr q)]
    · rw [if_neg q, if_neg fun z => q (hd.mp z)]; omega
  · by_cases hd : cl s d
    · have hc' : cl (s ++ [d]) c ↔ cl s c := eqv_in C hd c
      rw [if_neg hc, if_pos (up (y := c) hd), if_pos hd, if_neg fun z => hc (hc'.mp z)]
      omega
    · rw [if_neg hc, if_neg hd]
      by_cases q : cl (s ++ [c]) d
      · rw [if_pos q, if_pos (C.exch s c d q hd)]
      · rw [if_neg q, if_neg fun z => q (C.exch s d c z hc)]
theorem rkA_perm (C : Clo cl) {r r' : List α} (p : r.Perm r') : ∀ s : List α, rkA cl s r = rkA cl s r' := by
  induction p with
  | nil => intro s; rfl
  | cons x _ ih => intro s; unfold rkA; rw [ih]
  | swap x y l => intro s; exact rkA_swap C s y x l
  | trans _ _ h1 h2 => intro s; rw [h1, h2]
theorem rkA_append (cl : List α → α → Prop) : ∀ (r r' s : List α), rkA cl s (r ++ r') = rkA cl s r + rkA cl (s ++ r) r'
  | [], r', s => by simp [rkA]
  | c :: r, r', s => by
    rw [List.cons_append, rkA_cons, rkA_cons, rkA_append cl r r' (s ++ [c]), List.append_assoc, List.singleton_append]
    omega
open Classical in
theorem rk_last (cl : List α → α → Prop) (s : List α) (c : α) : rk cl (s ++ [c]) = rk cl s + if cl s c then 0 else 1 := by
  unfold rk
  rw [rkA_append, List.nil_append]
  simp [rkA]
theorem rk_perm (C : Clo cl) {s t : List α} (p : s.Perm t) : rk cl s = rk cl t := rkA_perm C p []
/-- one element less: the same rank, or one less -/
theorem rk_step (C : Clo cl) {s u : List α} {c : α} (p : s.Perm (u ++ [c])) : rk cl s = rk cl u ∨ rk cl s = rk cl u + 1 := by
  rw [rk_perm C p, rk_last]
  split
  · exact .inl rfl
  · exact .inr rfl
/-- two that each lower the rank lower it by two -/
theorem rk_two (C : Clo cl) {s u : List α} {c d : α} (p : s.Perm (u ++ [c] ++ [d])) (hc : rk cl (u ++ [d]) + 1 = rk cl s) (hd : rk cl (u ++ [c]) + 1 = rk cl s) : rk cl u + 2 = rk cl s := by
  have p2 : s.Perm (u ++ [d] ++ [c]) := p.trans (by
    rw [List.append_assoc, List.append_assoc]
    exact List.Perm.append_left u (List.Perm.swap d c []))
  have e1 := rk_perm C p
  have e2 := rk_perm C p2
  rw [rk_last] at e1 e2
  have h2 : ¬ cl (u ++ [d]) c := fun z => by rw [if_pos z] at e2; omega
  have h3 : ¬ cl u c := fun z => h2 (C.mono (fun x hx => List.mem_append_left _ hx) z)
  have := rk_last cl u c
  rw [if_neg h3] at this
  omega
end
end Mr

set_option linter.all false
namespace Mr
/-! ### spans over the whole numbers by a prime (2 or 3) -/
abbrev Vc : Type := Nat → Int
inductive Sp (q : Int) (t : Nat) (s : List Vc) : Vc → Prop
  | zero : Sp q t s fun _ => 0
  | add {v x : Vc} (f : Int) : Sp q t s v → x ∈ s → Sp q t s fun j => v j + f * x j
  | cong {v w : Vc} : Sp q t s v → (∀ j, j < t → q ∣ w j - v j) → Sp q t s w
section
variable {q : Int} {t : Nat} {s u : List Vc}
theorem Sp.plus {v w : Vc} (f : Int) (hv : Sp q t s v) (hw : Sp q t s w) : Sp q t s fun j => v j + f * w j := by
  induction hw with
  | zero => exact hv.cong fun j _ => by simp
  | @add w x g _ hx ih =>
    refine (Sp.add (f * g) ih hx).cong fun j _ => ?_
    have e : v j + f * (w j + g * x j) - (v j + f * w j + f * g * x j) = 0 := by
      rw [Int.mul_add, Int.mul_assoc]; omega
    rw [e]; exact Int.dvd_zero q
  | @cong w z _ hz ih =>
    refine ih.cong fun j hj => ?_
    have e : v j + f * z j - (v j + f * w j) = f * (z j - w j) := by rw [Int.mul_sub]; omega
    rw [e]; exact Int.dvd_mul_of_dvd_right (hz j hj)
theorem Sp.of_mem {x : Vc} (h : x ∈ s) : Sp q t s x := (Sp.add 1 .zero h).cong fun j _ => by simp
theorem Sp.trans {y : Vc} (h : ∀ x ∈ s, Sp q t u x) (hy : Sp q t s y) : Sp q t u y := by
  induction hy with
  | zero => exact .zero
  | add f _ hx ih => exact ih.plus f (h _ hx)
  | cong _ hz ih => exact ih.cong hz
/-- what the last one adds -/
theorem Sp.last {c d : Vc} (h : Sp q t (s ++ [c]) d) : ∃ (f : Int) (v : Vc), Sp q t s v ∧ ∀ j, j < t → q ∣ d j - (v j + f * c j) := by
  induction h with
  | zero => exact ⟨0, fun _ => 0, .zero, fun j _ => by simp⟩
  | @add w x g _ hx ih =>
    obtain ⟨f, v, hv, he⟩ := ih
    rcases List.mem_append.mp hx with hx | hx
    · refine ⟨f, _, Sp.add g hv hx, fun j hj => ?_⟩
      have e : w j + g * x j - (v j + g * x j + f * c j) = w j - (v j + f * c j) := by omega
      rw [e]; exact he j hj
    · rw [List.mem_singleton.mp hx]
      refine ⟨f + g, v, hv, fun j hj => ?_⟩
      have e : w j + g * c j - (v j + (f + g) * c j) = w j - (v j + f * c j) := by rw [Int.add_mul]; omega
      rw [e]; exact he j hj
  | @cong w z _ hz ih =>
    obtain ⟨f, v, hv, he⟩ := ih
    refine ⟨f, v, hv, fun j hj => ?_⟩
    have e : z j - (v j + f * c j) = (z j - w j) + (w j - (v j + f * c j)) := by omega
    rw [e]; exact Int.dvd_add (hz j hj) (he j hj)
/-- q is 2 or 3: what is not a multiple has an inverse -/
theorem inv_23 (hq : q = 2 ∨ q = 3) {f : Int} (h : ¬ q ∣ f) : ∃ g : Int, q ∣ g * f - 1 := by
  rcases hq with rfl | rfl
  · refine ⟨1, ?_⟩
    omega
  · by_cases c : f % 3 = 1
    · exact ⟨1, by omega⟩
    · exact ⟨2, by omega⟩
theorem clo_sp (hq : q = 2 ∨ q = 3) (t : Nat) : Clo (Sp q t) where
  refl := fun s x h => Sp.of_mem h
  trans := fun s u y h hy => hy.trans h
  exch := fun s c d h hn => by
    obtain ⟨f, v, hv, he⟩ := h.last
    by_cases c0 : q ∣ f
    · refine absurd (hv.cong fun j hj => ?_) hn
      have e : d j - v j = (d j - (v j + f * c j)) + f * c j := by omega
      rw [e]; exact Int.dvd_add (he j hj) (Int.dvd_mul_of_dvd_left c0)
    · obtain ⟨g, hg⟩ := inv_23 hq c0
      have h1 : Sp q t (s ++ [d]) v := hv.trans fun x hx => Sp.of_mem (List.mem_append_left _ hx)
      have h2 : Sp q t (s ++ [d]) d := Sp.of_mem (List.mem_append_right _ (List.mem_singleton.mpr rfl))
      have h3 : Sp q t (s ++ [d]) fun j => (0 + g * d j) + (-g) * v j := (Sp.plus (v := fun j => 0 + g * d j) (-g) (Sp.plus (v := fun _ => 0) g .zero h2) h1)
      refine h3.cong fun j hj => ?_
      have e : c j - (0 + g * d j + (-g) * v j) = -(g * (d j - (v j + f * c j))) + -((g * f - 1) * c j) := by
        rw [Int.mul_sub, Int.mul_add, Int.sub_mul, Int.one_mul, Int.neg_mul, Int.mul_assoc]
        omega
      rw [e]
      exact Int.dvd_add (Int.dvd_neg.mpr (Int.dvd_mul_of_dvd_right (he j hj))) (Int.dvd_neg.mpr (Int.dvd_mul_of_dvd_left hg))
end
end Mr

set_option linter.all false
namespace Mr
/-! ### the spaces as lists -/
def vec (l : List Int) : Vc := fun j => l.getD j 0
def Vok (q : Int) (t : Nat) (l : List Int) : Prop := l.length = t ∧ ∀ x ∈ l, 0 ≤ x ∧ x < q
def addC (q f : Int) (one col : List Int) : List Int := List.zipWith (fun a b => (a + f * b) % q) one col
def spread (q : Nat) (sp : List (List Int)) (col : List Int) : List (List Int) := (List.range q).flatMap fun (f : Nat) => sp.map fun one => addC q (f : Int) one col
def Good (q : Int) (t : Nat) (cols : List (List Int)) (sp : List (List Int)) : Prop := ∀ l, l ∈ sp ↔ Vok q t l ∧ Sp q t (cols.map vec) (vec l)
theorem sp_nil {q : Int} {t : Nat} {v : Vc} (h : Sp q t [] v) : ∀ j, j < t → q ∣ v j := by
  induction h with
  | zero => exact fun _ _ => Int.dvd_zero q
  | add _ _ hx _ => cases hx
  | @cong w z _ hz ih =>
    intro j hj
    have e : z j = (z j - w j) + w j := by omega
    rw [e]; exact Int.dvd_add (hz j hj) (ih j hj)
theorem vec_at {l : List Int} {j : Nat} (h : j < l.length) : vec l j = l[j] := by
  unfold vec
  rw [List.getD_eq_getElem?_getD, List.getElem?_eq_getElem h] <;> rfl
theorem vok_eq {q : Int} {t : Nat} {a b : List Int} (ha : Vok q t a) (hb : Vok q t b) (h : ∀ j, j < t → q ∣ vec a j - vec b j) : a = b := by
  apply List.ext_getElem (ha.1.trans hb.1.symm)
  intro j h1 h2
  have hj : j < t := ha.1 ▸ h1
  have d := h j hj
  rw [vec_at h1, vec_at h2] at d
  have a1 := ha.2 _ (List.getElem_mem h1)
  have b1 := hb.2 _ (List.getElem_mem h2)
  have m : a[j] % q = b[j] % q := Int.emod_eq_emod_iff_emod_sub_eq_zero.mpr (Int.emod_eq_zero_of_dvd d)
  rw [Int.emod_eq_of_lt a1.1 a1.2, Int.emod_eq_of_lt b1.1 b1.2] at m
  exact m
theorem good_nil {q : Int} (hq : 0 < q) (t : Nat) : Good q t [] [List.replicate t 0] := by
  intro l
  have z : Vok q t (List.replicate t 0) := ⟨List.length_replicate, fun x hx => by rw [List.eq_of_mem_replicate hx]; omega⟩
  have zv : ∀ j, vec (List.replicate t 0) j = 0 := fun j => by
    unfold vec
    rw [List.getD_eq_getElem?_getD, List.getElem?_replicate]
    split <;> rfl
  rw [List.mem_singleton]
  constructor
  · rintro rfl
    exact ⟨z, Sp.zero.cong fun j _ => by rw [zv]; simp⟩
  · rintro ⟨hl, hs⟩
    exact vok_eq hl z fun j hj => by rw [zv, Int.sub_zero]; exact sp_nil hs j hj
theorem good_in {q : Int} {t : Nat} (C : Clo (Sp q t)) {cols : List (List Int)} {sp : List (List Int)} {c : List Int} (g : Good q t cols sp) (hc : c ∈ sp) : Good q t (cols ++ [c]) sp := by
  intro l
  rw [g l, List.map_append]
  have e := eqv_in C ((g c).mp hc).2
  exact and_congr_right fun _ => (e (vec l)).symm
theorem addC_len {q f : Int} {a b : List Int} {t : Nat} (ha : a.length = t) (hb : b.length = t) : (addC q f a b).length = t := by
  unfold addC
  rw [List.length_zipWith, ha, hb, Nat.min_self]
theorem addC_at {q f : Int} {a b : List Int} {t j : Nat} (ha : a.length = t) (hb : b.length = t) (hj : j < t) : vec (addC q f a b) j = (vec a j + f * vec b j) % q := by
  rw [vec_at (by rw [addC_len ha hb]; exact hj), vec_at (by omega), vec_at (by omega)]
  unfold addC
  rw [List.getElem_zipWith]
theorem addC_ok {q f : Int} (hq : 0 < q) {a b : List Int} {t : Nat} (ha : a.length = t) (hb : b.length = t) : Vok q t (addC q f a b) := by
  refine ⟨addC_len ha hb, fun x hx => ?_⟩
  obtain ⟨j, hj, rfl⟩ := List.mem_iff_getElem.mp hx
  rw [← vec_at hj, addC_at ha hb (by rw [← addC_len (q := q) (f := f) ha hb]; exact hj)]
  exact ⟨Int.emod_nonneg _ (by omega), Int.emod_lt_of_pos _ hq⟩
def red (q : Int) (t : Nat) (v : Vc) : List Int := (List.range t).map fun j => v j % q
theorem red_ok {q : Int} (hq : 0 < q) (t : Nat) (v : Vc) : Vok q t (red q t v) := by
  refine ⟨by unfold red; rw [List.length_map, List.length_range], fun x hx => ?_⟩
  obtain ⟨j, _, rfl⟩ := List.mem_map.mp hx
  exact ⟨Int.emod_nonneg _ (by omega), Int.emod_lt_of_pos _ hq⟩
theorem red_at {q : Int} {t j : Nat} (v : Vc) (hj : j < t) : vec (red q t v) j = v j % q := by
  rw [vec_at (by unfold red; rw [List.length_map, List.length_range]; exact hj)]
  unfold red
  rw [List.getElem_map, List.getElem_range]
theorem dvd_mod {q a : Int} : q ∣ a % q - a := by
  have := Int.emod_add_mul_ediv a q
  exact ⟨-(a / q), by rw [Int.mul_neg]; omega⟩
theorem good_out {q : Nat} (hq : 0 < q) {t : Nat} {cols : List (List Int)} {sp : List (List Int)} {c : List Int} (g : Good q t cols sp) (hc : Vok q t c) : Good q t (cols ++ [c]) (spread q sp c) := by
  have q0 : (0 : Int) < q := by omega
  intro l
  unfold spread
  rw [List.mem_flatMap, List.map_append]
  constructor
  · rintro ⟨f, _, hl⟩
    obtain ⟨one, ho, rfl⟩ := List.mem_map.mp hl
    obtain ⟨h1, h2⟩ := (g one).mp ho
    refine ⟨addC_ok q0 h1.1 hc.1, ?_⟩
    have b1 : Sp q t (cols.map vec ++ [c].map vec) (vec one) := h2.trans fun x hx => Sp.of_mem (List.mem_append_left _ hx)
    have b2 : Sp q t (cols.map vec ++ [c].map vec) (vec c) := Sp.of_mem (List.mem_append_right _ (by simp))
    refine (b1.plus (f : Int) b2).cong fun j hj => ?_
    rw [addC_at h1.1 hc.1 hj]
    exact dvd_mod
  · rintro ⟨h1, h2⟩
    obtain ⟨f, v, hv, he⟩ := Sp.last (s := cols.map vec) (c := vec c) h2
    have r1 := red_ok q0 t v
    have r2 : red q t v ∈ sp := (g _).mpr ⟨r1, hv.cong fun j hj => by rw [red_at v hj]; exact dvd_mod⟩
    have f0 : 0 ≤ f % q := Int.emod_nonneg _ (by omega)
    have f1 : f % q < q := Int.emod_lt_of_pos _ q0
    refine ⟨(f % q).toNat, List.mem_range.mpr (by omega), List.mem_map.mpr ⟨_, r2, ?_⟩⟩
    rw [Int.toNat_of_nonneg f0]
    refine vok_eq (addC_ok q0 r1.1 hc.1) h1 fun j hj => ?_
    rw [addC_at r1.1 hc.1 hj, red_at v hj]
    have a1 : (q : Int) ∣ (v j % q + f % q * vec c j) % q - (v j % q + f % q * vec c j) := dvd_mod
    have a2 : (q : Int) ∣ v j % q - v j := dvd_mod
    have a3 : (q : Int) ∣ (f % q - f) * vec c j := Int.dvd_mul_of_dvd_left dvd_mod
    have a4 := he j hj
    have e : (v j % q + f % q * vec c j) % q - vec l j = ((v j % q + f % q * vec c j) % q - (v j % q + f % q * vec c j)) + ((v j % q - v j) + ((f % q - f) * vec c j - (vec l j - (v j + f * vec c j)))) := by
      rw [Int.sub_mul]; omega
    rw [e]
    exact Int.dvd_add a1 (Int.dvd_add a2 (Int.dvd_sub a3 a4))
end Mr

set_option linter.all false
namespace Mr
/-! ### the table of ranks -/
def stepP (q : Nat) (c : List Int) (p : Nat × List (List Int)) : Nat × List (List Int) := if c ∈ p.2 then p else (p.1 + 1, spread q p.2 c)
def spF (q t : Nat) (S : List (List Int)) : Nat × List (List Int) := S.foldl (fun p c => stepP q c p) (0, [List.replicate t 0])
def foundL (q t : Nat) (cols : List (List Int)) : List (Nat × List (List Int)) := cols.foldl (fun fd c => fd ++ fd.map (stepP q c)) [(0, [List.replicate t 0])]
def subs {α : Type} (cols : List α) : List (List α) := cols.foldl (fun sb c => sb ++ sb.map (· ++ [c])) [[]]
theorem q_pos {q : Nat} (hq : q = 2 ∨ q = 3) : 0 < q := by omega
theorem clo_q {q : Nat} (hq : q = 2 ∨ q = 3) (t : Nat) : Clo (Sp (q : Int) t) := clo_sp (by omega) t
theorem spF_snoc (q t : Nat) (S : List (List Int)) (c : List Int) : spF q t (S ++ [c]) = stepP q c (spF q t S) := by
  unfold spF
  rw [List.foldl_append] <;> rfl
theorem snoc_ind {α : Type} {P : List α → Prop} (h0 : P []) (h1 : ∀ l a, P l → P (l ++ [a])) : ∀ l, P l := by
  intro l
  have key : ∀ r : List α, P r.reverse := fun r => by
    induction r with
    | nil => exact h0
    | cons a r ih => rw [List.reverse_cons]; exact h1 _ a ih
  have := key l.reverse
  rwa [List.reverse_reverse] at this
theorem spF_spec {q t : Nat} (hq : q = 2 ∨ q = 3) : ∀ S : List (List Int), (∀ c ∈ S, Vok q t c) → Good q t S (spF q t S).2 ∧ (spF q t S).1 = rk (Sp (q : Int) t) (S.map vec) := by
  refine snoc_ind (fun _ => ⟨good_nil (by have := q_pos hq; omega) t, rfl⟩) fun S c ih h => ?_
  obtain ⟨g, r⟩ := ih fun x hx => h x (List.mem_append_left _ hx)
  have hc := h c (List.mem_append_right _ (List.mem_singleton.mpr rfl))
  rw [spF_snoc, List.map_append, List.map_singleton, rk_last]
  unfold stepP
  by_cases m : c ∈ (spF q t S).2
  · rw [if_pos m]
    refine ⟨good_in (clo_q hq t) g m, ?_⟩
    rw [if_pos ((g c).mp m).2, Nat.add_zero]
    exact r
  · rw [if_neg m]
    refine ⟨good_out (q_pos hq) g hc, ?_⟩
    rw [if_neg fun z => m ((g c).mpr ⟨hc, z⟩), r]
theorem subs_snoc {α : Type} (S : List α) (c : α) : subs (S ++ [c]) = subs S ++ (subs S).map (· ++ [c]) := by
  unfold subs
  rw [List.foldl_append] <;> rfl
theorem found_subs (q t : Nat) : ∀ cols : List (List Int), foundL q t cols = (subs cols).map (spF q t) := by
  refine snoc_ind rfl fun S c ih => ?_
  have e : foundL q t (S ++ [c]) = foundL q t S ++ (foundL q t S).map (stepP q c) := by
    unfold foundL
    rw [List.foldl_append] <;> rfl
  rw [e, subs_snoc, ih, List.map_append, List.map_map, List.map_map]
  congr 1
  exact List.map_congr_left fun x _ => (spF_snoc q t x c).symm
theorem subs_len {α : Type} : ∀ cols : List α, (subs cols).length = 2 ^ cols.length := by
  refine snoc_ind rfl fun S c ih => ?_
  rw [subs_snoc, List.length_append, List.length_map, ih, List.length_append, List.length_singleton, Nat.pow_succ]
  omega
/-- the places whose bits stand in i -/
def bitsIn (n i : Nat) : List Nat := (List.range n).filter fun b => i.testBit b
def pickB {α : Type} (d : α) (cols : List α) (i : Nat) : List α := (bitsIn cols.length i).map fun b => cols.getD b d
theorem bitsIn_lt {n i : Nat} (h : i < 2 ^ n) : bitsIn (n + 1) i = bitsIn n i := by
  unfold bitsIn
  rw [List.range_succ, List.filter_append]
  have : i.testBit n = false := Nat.testBit_lt_two_pow h
  simp [this]
theorem bitsIn_ge {n i : Nat} (h : i < 2 ^ n) : bitsIn (n + 1) (2 ^ n + i) = bitsIn n i ++ [n] := by
  unfold bitsIn
  rw [List.range_succ, List.filter_append]
  congr 1
  · refine List.filter_congr fun b hb => ?_
    exact Nat.testBit_two_pow_add_gt (List.mem_range.mp hb) i
  · have : (2 ^ n + i).testBit n = true := by rw [Nat.testBit_two_pow_add_eq, Nat.testBit_lt_two_pow h] <;> rfl
    simp [this]
theorem pick_old {α : Type} (d : α) (S : List α) (c : α) {n : Nat} (i : Nat) (hn : n = S.length) : (bitsIn n i).map (fun b => (S ++ [c]).getD b d) = (bitsIn n i).map (fun b => S.getD b d) := by
  refine List.map_congr_left fun b hb => ?_
  have : b < n := List.mem_range.mp (List.mem_filter.mp hb).1
  rw [List.getD_eq_getElem?_getD, List.getD_eq_getElem?_getD, List.getElem?_append_left (by omega)]
theorem subs_at {α : Type} (d : α) : ∀ (cols : List α) (i : Nat), i < 2 ^ cols.length → (subs cols)[i]? = some (pickB d cols i) := by
  refine snoc_ind (fun i hi => ?_) fun S c ih i hi => ?_
  · have : i = 0 := by simpa using hi
    subst this
    rfl
  · rw [subs_snoc]
    rw [List.length_append, List.length_singleton, Nat.pow_succ] at hi
    unfold pickB
    rw [List.length_append, List.length_singleton]
    by_cases h : i < 2 ^ S.length
    · rw [List.getElem?_append_left (by rw [subs_len]; exact h), ih i h, bitsIn_lt h, pick_old d S c i rfl] <;> rfl
    · obtain ⟨j, rfl⟩ : ∃ j, i = 2 ^ S.length + j := ⟨i - 2 ^ S.length, by omega⟩
      have hj : j < 2 ^ S.length := by omega
      rw [List.getElem?_append_right (by rw [subs_len]; omega), subs_len, Nat.add_sub_cancel_left, List.getElem?_map, ih j hj, bitsIn_ge hj, List.map_append, pick_old d S c j rfl]
      simp [pickB]
end Mr

set_option linter.all false
namespace Mr
theorem bitsIn_nd (n i : Nat) : (bitsIn n i).Nodup := List.Nodup.sublist List.filter_sublist List.nodup_range
theorem bits_drop {n i b : Nat} (hb : b < n) (h : i.testBit b = true) : (bitsIn n i).Perm (bitsIn n (i ^^^ 2 ^ b) ++ [b]) := by
  have tb : ∀ k, (i ^^^ 2 ^ b).testBit k = (i.testBit k ^^ decide (b = k)) := fun k => by rw [Nat.testBit_xor, Nat.testBit_two_pow]
  have nb : b ∉ bitsIn n (i ^^^ 2 ^ b) := fun z => by
    have := (List.mem_filter.mp z).2
    rw [tb, h] at this
    simp at this
  refine (List.perm_ext_iff_of_nodup (bitsIn_nd n i) ?_).mpr fun k => ?_
  · rw [List.nodup_append]
    exact ⟨bitsIn_nd _ _, by simp, fun x hx y hy e => nb (by rw [List.mem_singleton.mp hy] at e; exact e ▸ hx)⟩
  · unfold bitsIn
    rw [List.mem_append, List.mem_filter, List.mem_filter, List.mem_singleton, List.mem_range, tb]
    by_cases c : b = k
    · subst c
      simp [h, hb]
    · have c' : ¬ k = b := fun z => c z.symm
      simp [c, c']
section
variable {q t : Nat} {cols : List (List Int)}
/-- the rank behind the place i -/
noncomputable def rkAt (q t : Nat) (cols : List (List Int)) (i : Nat) : Nat := rk (Sp (q : Int) t) ((pickB [] cols i).map vec)
def tabR (q t : Nat) (cols : List (List Int)) : List Nat := (foundL q t cols).map (·.1)
theorem pick_mem {i : Nat} {c : List Int} (h : c ∈ pickB [] cols i) : c ∈ cols := by
  obtain ⟨b, hb, rfl⟩ := List.mem_map.mp h
  have : b < cols.length := List.mem_range.mp (List.mem_filter.mp hb).1
  rw [List.getD_eq_getElem?_getD, List.getElem?_eq_getElem this]
  exact List.getElem_mem this
theorem tab_at (hq : q = 2 ∨ q = 3) (hc : ∀ c ∈ cols, Vok q t c) {i : Nat} (hi : i < 2 ^ cols.length) : (tabR q t cols)[i]? = some (rkAt q t cols i) := by
  unfold tabR
  rw [List.getElem?_map, found_subs, List.getElem?_map, subs_at [] cols i hi]
  exact congrArg some (spF_spec hq _ fun c h => hc c (pick_mem h)).2
theorem tab_len : (tabR q t cols).length = 2 ^ cols.length := by
  unfold tabR
  rw [List.length_map, found_subs, List.length_map, subs_len]
theorem pick_drop {i b : Nat} (hb : b < cols.length) (h : i.testBit b = true) : ((pickB [] cols i).map vec).Perm ((pickB [] cols (i ^^^ 2 ^ b)).map vec ++ [vec (cols.getD b [])]) := by
  have p := ((bits_drop hb h).map fun k => cols.getD k []).map vec
  rw [List.map_append, List.map_append] at p
  exact p
theorem tab_one (hq : q = 2 ∨ q = 3) {i b : Nat} (hb : b < cols.length) (h : i.testBit b = true) : rkAt q t cols i = rkAt q t cols (i ^^^ 2 ^ b) ∨ rkAt q t cols i = rkAt q t cols (i ^^^ 2 ^ b) + 1 :=
  rk_step (clo_q hq t) (pick_drop hb h)
theorem tab_two (hq : q = 2 ∨ q = 3) {i b d : Nat} (hb : b < cols.length) (hd : d < cols.length) (ne : b ≠ d) (h : i.testBit b = true) (h' : i.testBit d = true)
    (e : rkAt q t cols (i ^^^ 2 ^ b) + 1 = rkAt q t cols i) (e' : rkAt q t cols (i ^^^ 2 ^ d) + 1 = rkAt q t cols i) : rkAt q t cols (i ^^^ 2 ^ b ^^^ 2 ^ d) + 2 = rkAt q t cols i := by
  have C := clo_q hq t
  have hd1 : (i ^^^ 2 ^ b).testBit d = true := by rw [Nat.testBit_xor, Nat.testBit_two_pow, h']; simp [ne]
  have hb1 : (i ^^^ 2 ^ d).testBit b = true := by rw [Nat.testBit_xor, Nat.testBit_two_pow, h]; simp [Ne.symm ne]
  have p1 := pick_drop (cols := cols) hb h
  have p2 := pick_drop (cols := cols) hd hd1
  have p3 := pick_drop (cols := cols) hb hb1
  have x : i ^^^ 2 ^ d ^^^ 2 ^ b = i ^^^ 2 ^ b ^^^ 2 ^ d := by rw [Nat.xor_assoc, Nat.xor_assoc, Nat.xor_comm (2 ^ d)]
  rw [x] at p3
  refine rk_two C (p1.trans (p2.append_right _)) ?_ ?_
  · rw [← rk_perm C p3]; exact e'
  · rw [← rk_perm C p2]; exact e
theorem rkA_le (cl : List Vc → Vc → Prop) : ∀ (r s : List Vc), rkA cl s r ≤ r.length
  | [], _ => by simp [rkA]
  | c :: r, s => by
    rw [rkA_cons, List.length_cons]
    have := rkA_le cl r (s ++ [c])
    split <;> omega
theorem tab_le {i : Nat} : rkAt q t cols i ≤ cols.length := by
  unfold rkAt rk
  refine Nat.le_trans (rkA_le _ _ _) ?_
  rw [List.length_map]
  unfold pickB bitsIn
  rw [List.length_map]
  exact Nat.le_trans (List.length_filter_le _ _) (by rw [List.length_range] <;> exact Nat.le_refl _)
theorem tab_zero : rkAt q t cols 0 = 0 := by
  have : bitsIn cols.length 0 = [] := by
    unfold bitsIn
    rw [List.filter_eq_nil_iff]
    simp
  unfold rkAt pickB
  rw [this]
  rfl
end
end Mr

set_option Elab.async false
set_option linter.all false
set_option maxRecDepth 100000
set_option maxHeartbeats 4000000
namespace Dn
open PySem PySem.Spec PyProof.Rows L2
/-! ### columns and their ranks, as the laws reckon them -/
def tupI (l : List Int) : D := .tup (l.map .int)
theorem zip_ints : ∀ a b : List Int, zipL (a.map D.int) (b.map D.int) = (a.zip b).map fun p => .tup [.int p.1, .int p.2]
  | [], _ => by simp [zipL]
  | _ :: _, [] => by simp [zipL]
  | x :: a, y :: b => by simp only [List.map_cons, zipL, zip_ints a b, List.zip_cons_cons]
theorem addC_zip (q f : Int) : ∀ a b : List Int, Mr.addC q f a b = (a.zip b).map fun p => (p.1 + f * p.2) % q
  | [], _ => by simp [Mr.addC]
  | _ :: _, [] => by simp [Mr.addC]
  | x :: a, y :: b => by
    have := addC_zip q f a b
    unfold Mr.addC at this ⊢
    rw [List.zipWith_cons_cons, this, List.zip_cons_cons, List.map_cons]
theorem added_ok (one col : List Int) (f : Int) (q : Nat) (st : Sta) (hq : 0 < q) (hf : 0 ≤ f ∧ f < 1000) (hl : one.length ≤ 1000) : F_l_added [tupI one, tupI col, .int f, .int q] st = some (.ok (tupI (Mr.addC q f one col)), st) := by
  have q0 : (0 : Int) < q := by omega
  have fs : -two64 < f ∧ f < two64 := by unfold two64; omega
  have lc := lc_pure (t := .tup [4, 5]) (te := (binP (intD modI) (bltP intF (consP (binP addD (varP 4) (binP mulD (varP 2) (varP 5))) nilP)) (varP 3))) (Δ := [some (tupI one), some (tupI col), some (.int f), some (.int q), none, none]) (st := st)
    (fun d => match d with | .tup [.int a, .int b] => .int ((a + f * b) % q) | d => d) (zipL (one.map D.int) (col.map D.int)) [] (fun d hd => by
      rw [zip_ints] at hd
      obtain ⟨p, _, rfl⟩ := List.mem_map.mp hd
      refine ⟨_, rfl, ?_⟩
      simp only [gd, runD, callP, kwF, pick, rtP, sqP, asP, parP, nxP, ifP, andV, orV, notV, andT, orT, notT, truP, tstP, truD, isiP, isisP, isTys, isNP, notNP, isNon, varP, chP, cstP, bltP, binP, consP, nilP, lstP, tupP, lcP, itP, rng1P, rng2P, slP, noP, soP, intOf, negP, sosP, bd_ok, List.map, List.replicate, List.length_cons, List.length_nil, List.cons_append, List.nil_append, List.append_nil, List.getElem?_cons_zero, List.getElem?_cons_succ, List.filterMap, List.set, omap_some, obind_some, isTy, blOf, if_t, if_f, lenF, leD_i, leD_s, ltD_i, ltD_s, gtD_i, geD_i, addD_i, subD_i, mulD_i, itemsD, wipeD, Tgt.put, setAll, outR, lb0, lb1, lb2, lb3, lb4, lb5, lb6, lb7, lb8, lb9, lb10, lb11, lb12, allF, listF, tupleF, intF, eq_self_iff_true, if_true, if_false, decide_true, decide_false, Bool.true_and, Bool.false_and, Bool.and_true, Bool.and_false, Bool.not_true, Bool.not_false, Nat.sub_self, Nat.reduceAdd, Nat.reduceSub, Nat.reduceEqDiff, mulS f p.2 fs, modD _ (q : Int) q0]) (by rw [zip_ints, List.length_map, List.length_zip, List.length_nil]; unfold big; omega)
  rw [List.nil_append, zip_ints, List.map_map] at lc
  refine run_ret rfl ?_
  unfold d_l_added tupI
  unfold tupI at lc
  have zf : zipF [.tup (one.map .int), .tup (col.map .int)] = some ((one.zip col).map fun p => .tup [.int p.1, .int p.2]) := by
    show some (zipL (one.map D.int) (col.map D.int)) = _
    rw [zip_ints]
  simp only [gd, runD, callP, kwF, pick, rtP, sqP, asP, parP, nxP, ifP, andV, orV, notV, andT, orT, notT, truP, tstP, truD, isiP, isisP, isTys, isNP, notNP, isNon, varP, chP, cstP, bltP, binP, consP, nilP, lstP, tupP, lcP, itP, rng1P, rng2P, slP, noP, soP, intOf, negP, sosP, bd_ok, List.map, List.replicate, List.length_cons, List.length_nil, List.cons_append, List.nil_append, List.append_nil, List.getElem?_cons_zero, List.getElem?_cons_succ, List.filterMap, List.set, omap_some, obind_some, isTy, blOf, if_t, if_f, lenF, leD_i, leD_s, ltD_i, ltD_s, gtD_i, geD_i, addD_i, subD_i, mulD_i, itemsD, wipeD, Tgt.put, setAll, outR, lb0, lb1, lb2, lb3, lb4, lb5, lb6, lb7, lb8, lb9, lb10, lb11, lb12, allF, listF, tupleF, intF, eq_self_iff_true, if_true, if_false, decide_true, decide_false, Bool.true_and, Bool.false_and, Bool.and_true, Bool.and_false, Bool.not_true, Bool.not_false, Nat.sub_self, Nat.reduceAdd, Nat.reduceSub, Nat.reduceEqDiff, zipP, zf, lc]
  rw [addC_zip, List.map_map]
  rfl
theorem intsD_map (l : List Int) : intsD (l.map .int) = some l := by
  induction l with
  | nil => rfl
  | cons a l ih => simp only [List.map_cons, intsD, ih, Option.map]
theorem addLD (xs ys : List (List Int)) (h : xs.length + ys.length ≤ big) : addD (.lst (xs.map tupI)) (.lst (ys.map tupI)) = some (.lst ((xs ++ ys).map tupI)) := by
  show (if (xs.map tupI).length + (ys.map tupI).length ≤ big then some (D.lst (xs.map tupI ++ ys.map tupI)) else none) = _
  rw [List.length_map, List.length_map, if_pos h, List.map_append]
def spB : SDen := (asP (.one 3) (binP addD (varP 3) (lcP (itP (varP 0)) (.one 5) yesT (callP F_l_added (consP (varP 5) (consP (varP 1) (consP (varP 4) (consP (varP 2) nilP))))) [5])))
theorem spread_body (sp : List (List Int)) (col : List Int) (q : Nat) (st : Sta) (hq : 0 < q) (hl : ∀ l ∈ sp, l.length ≤ 1000) (f : Int) (acc : List (List Int)) (hf : 0 ≤ f ∧ f < 3) (hb : acc.length + sp.length ≤ big) :
    spB [some (.lst (sp.map tupI)), some (tupI col), some (.int q), some (.lst (acc.map tupI)), some (.int f), none] st =
      some (.ok (.nx [some (.lst (sp.map tupI)), some (tupI col), some (.int q), some (.lst ((acc ++ sp.map fun one => Mr.addC q f one col).map tupI)), some (.int f), none]), st) := by
  have lc := lc_pure (t := .one 5) (te := callP F_l_added (consP (varP 5) (consP (varP 1) (consP (varP 4) (consP (varP 2) nilP))))) (Δ := [some (.lst (sp.map tupI)), some (tupI col), some (.int q), some (.lst (acc.map tupI)), some (.int f), none]) (st := st)
    (fun d => match d with | .tup ds => (match intsD ds with | some l => tupI (Mr.addC q f l col) | none => d) | d => d) (sp.map tupI) [] (fun d hd => by
      obtain ⟨l, hm, rfl⟩ := List.mem_map.mp hd
      refine ⟨_, rfl, ?_⟩
      have ad := added_ok l col f q st hq ⟨hf.1, by omega⟩ (hl l hm)
      simp only [gd, runD, callP, kwF, pick, rtP, sqP, asP, parP, nxP, ifP, andV, orV, notV, andT, orT, notT, truP, tstP, truD, isiP, isisP, isTys, isNP, notNP, isNon, varP, chP, cstP, bltP, binP, consP, nilP, lstP, tupP, lcP, itP, rng1P, rng2P, slP, noP, soP, intOf, negP, sosP, bd_ok, List.map, List.replicate, List.length_cons, List.length_nil, List.cons_append, List.nil_append, List.append_nil, List.getElem?_cons_zero, List.getElem?_cons_succ, List.filterMap, List.set, omap_some, obind_some, isTy, blOf, if_t, if_f, lenF, leD_i, leD_s, ltD_i, ltD_s, gtD_i, geD_i, addD_i, subD_i, mulD_i, itemsD, wipeD, Tgt.put, setAll, outR, lb0, lb1, lb2, lb3, lb4, lb5, lb6, lb7, lb8, lb9, lb10, lb11, lb12, allF, listF, tupleF, intF, eq_self_iff_true, if_true, if_false, decide_true, decide_false, Bool.true_and, Bool.false_and, Bool.and_true, Bool.and_false, Bool.not_true, Bool.not_false, Nat.sub_self, Nat.reduceAdd, Nat.reduceSub, Nat.reduceEqDiff, ad]
      show _ = some (Except.ok (match intsD (l.map D.int) with | some l => tupI (Mr.addC q f l col) | none => _), st)
      rw [intsD_map]) (by rw [List.length_map, List.length_nil]; omega)
  have e : (sp.map tupI).map (fun d => match d with | .tup ds => (match intsD ds with | some l => tupI (Mr.addC q f l col) | none => d) | d => d) = (sp.map fun one => Mr.addC q f one col).map tupI := by
    rw [List.map_map, List.map_map]
    refine List.map_congr_left fun l _ => ?_
    show (match intsD (l.map D.int) with | some l => tupI (Mr.addC q f l col) | none => _) = _
    rw [intsD_map] <;> rfl
  rw [List.nil_append, e] at lc
  have ad := addLD acc (sp.map fun one => Mr.addC q f one col) (by rw [List.length_map]; exact hb)
  simp only [gd, runD, callP, kwF, pick, rtP, sqP, asP, parP, nxP, ifP, andV, orV, notV, andT, orT, notT, truP, tstP, truD, isiP, isisP, isTys, isNP, notNP, isNon, varP, chP, cstP, bltP, binP, consP, nilP, lstP, tupP, lcP, itP, rng1P, rng2P, slP, noP, soP, intOf, negP, sosP, bd_ok, List.map, List.replicate, List.length_cons, List.length_nil, List.cons_append, List.nil_append, List.append_nil, List.getElem?_cons_zero, List.getElem?_cons_succ, List.filterMap, List.set, omap_some, obind_some, isTy, blOf, if_t, if_f, lenF, leD_i, leD_s, ltD_i, ltD_s, gtD_i, geD_i, addD_i, subD_i, mulD_i, itemsD, wipeD, Tgt.put, setAll, outR, lb0, lb1, lb2, lb3, lb4, lb5, lb6, lb7, lb8, lb9, lb10, lb11, lb12, allF, listF, tupleF, intF, eq_self_iff_true, if_true, if_false, decide_true, decide_false, Bool.true_and, Bool.false_and, Bool.and_true, Bool.and_false, Bool.not_true, Bool.not_false, Nat.sub_self, Nat.reduceAdd, Nat.reduceSub, Nat.reduceEqDiff, spB, lc, ad]
theorem spread_loop (sp : List (List Int)) (col : List Int) (q : Nat) (st : Sta) (hq : 0 < q) (hl : ∀ l ∈ sp, l.length ≤ 1000) : ∀ (fs : List Nat) (acc : List (List Int)) (x4 : Option D), (∀ f ∈ fs, f < 3) → acc.length + fs.length * sp.length ≤ big →
    ∃ y4, foGo (.one 4) spB (fs.map fun i => .int (0 + (i : Nat))) [some (.lst (sp.map tupI)), some (tupI col), some (.int q), some (.lst (acc.map tupI)), x4, none] st =
      some (.ok (.nx [some (.lst (sp.map tupI)), some (tupI col), some (.int q), some (.lst ((acc ++ fs.flatMap fun (f : Nat) => sp.map fun one => Mr.addC q (f : Int) one col).map tupI)), y4, none]), st)
  | [], acc, x4, _, _ => ⟨x4, by rw [List.flatMap_nil, List.append_nil] <;> rfl⟩
  | f :: fs, acc, x4, h, hb => by
    rw [List.length_cons, Nat.succ_mul] at hb
    have h3 := h f List.mem_cons_self
    have b := spread_body sp col q st hq hl (0 + (f : Int)) acc ⟨by omega, by omega⟩ (by omega)
    obtain ⟨y4, ih⟩ := spread_loop sp col q st hq hl fs (acc ++ sp.map fun one => Mr.addC q (0 + (f : Int)) one col) (some (.int (0 + (f : Int)))) (fun x hx => h x (List.mem_cons_of_mem _ hx)) (by rw [List.length_append, List.length_map]; omega)
    refine ⟨y4, ?_⟩
    rw [List.map_cons]
    unfold foGo
    show (match spB [some (.lst (sp.map tupI)), some (tupI col), some (.int q), some (.lst (acc.map tupI)), some (.int (0 + (f : Int))), none] st with
      | some (.ok (.nx Δ2), st2) => foGo (.one 4) spB (fs.map fun i => .int (0 + (i : Nat))) Δ2 st2
      | some (.ok (.ct Δ2), st2) => foGo (.one 4) spB (fs.map fun i => .int (0 + (i : Nat))) Δ2 st2
      | some (.ok (.bk Δ2), st2) => some (.ok (.nx Δ2), st2)
      | r => r) = _
    rw [b]
    refine ih.trans ?_
    rw [List.flatMap_cons, List.append_assoc, Int.zero_add]
theorem spread_ok (sp : List (List Int)) (col : List Int) (q : Nat) (st : Sta) (hq : 0 < q) (hq2 : q ≤ 3) (hl : ∀ l ∈ sp, l.length ≤ 1000) (hs : sp.length ≤ 300000) : F_l_spread_out [.lst (sp.map tupI), tupI col, .int q] st = some (.ok (.lst ((Mr.spread q sp col).map tupI)), st) := by
  obtain ⟨y4, lp⟩ := spread_loop sp col q st hq hl (List.range q) [] none (fun f hf => by have := List.mem_range.mp hf; omega) (by
    rw [List.length_nil, List.length_range]
    have : q * sp.length ≤ 3 * 300000 := Nat.mul_le_mul hq2 hs
    unfold big; omega)
  have rg : rng1F [.int q] = some ((List.range q).map fun i => .int (0 + (i : Nat))) := by
    have e : rng1F [.int q] = some (rngD 0 q) := if_pos ⟨by unfold mil; omega, by unfold mil; omega⟩
    rw [e]
    unfold rngD
    rw [Int.sub_zero, Int.toNat_natCast]
  refine run_ret rfl ?_
  unfold d_l_spread_out
  rw [show (asP (.one 3) (binP addD (varP 3) (lcP (itP (varP 0)) (.one 5) yesT (callP F_l_added (consP (varP 5) (consP (varP 1) (consP (varP 4) (consP (varP 2) nilP))))) [5]))) = spB from rfl]
  (apply sq_step; focus (simp only [gd, runD, callP, kwF, pick, rtP, sqP, asP, parP, nxP, ifP, andV, orV, notV, andT, orT, notT, truP, tstP, truD, isiP, isisP, isTys, isNP, notNP, isNon, varP, chP, cstP, bltP, binP, consP, nilP, lstP, tupP, lcP, itP, rng1P, rng2P, slP, noP, soP, intOf, negP, sosP, bd_ok, List.map, List.replicate, List.length_cons, List.length_nil, List.cons_append, List.nil_append, List.append_nil, List.getElem?_cons_zero, List.getElem?_cons_succ, List.filterMap, List.set, omap_some, obind_some, isTy, blOf, if_t, if_f, lenF, leD_i, leD_s, ltD_i, ltD_s, gtD_i, geD_i, addD_i, subD_i, mulD_i, itemsD, wipeD, Tgt.put, setAll, outR, lb0, lb1, lb2, lb3, lb4, lb5, lb6, lb7, lb8, lb9, lb10, lb11, lb12, allF, listF, tupleF, intF, eq_self_iff_true, if_true, if_false, decide_true, decide_false, Bool.true_and, Bool.false_and, Bool.and_true, Bool.and_false, Bool.not_true, Bool.not_false, Nat.sub_self, Nat.reduceAdd, Nat.reduceSub, Nat.reduceEqDiff]; first | done | rfl))
  refine sq_step (by simp only [gd, runD, callP, kwF, pick, rtP, sqP, asP, parP, nxP, ifP, andV, orV, notV, andT, orT, notT, truP, tstP, truD, isiP, isisP, isTys, isNP, notNP, isNon, varP, chP, cstP, bltP, binP, consP, nilP, lstP, tupP, lcP, itP, rng1P, rng2P, slP, noP, soP, intOf, negP, sosP, bd_ok, List.map, List.replicate, List.length_cons, List.length_nil, List.cons_append, List.nil_append, List.append_nil, List.getElem?_cons_zero, List.getElem?_cons_succ, List.filterMap, List.set, omap_some, obind_some, isTy, blOf, if_t, if_f, lenF, leD_i, leD_s, ltD_i, ltD_s, gtD_i, geD_i, addD_i, subD_i, mulD_i, itemsD, wipeD, Tgt.put, setAll, outR, lb0, lb1, lb2, lb3, lb4, lb5, lb6, lb7, lb8, lb9, lb10, lb11, lb12, allF, listF, tupleF, intF, eq_self_iff_true, if_true, if_false, decide_true, decide_false, Bool.true_and, Bool.false_and, Bool.and_true, Bool.and_false, Bool.not_true, Bool.not_false, Nat.sub_self, Nat.reduceAdd, Nat.reduceSub, Nat.reduceEqDiff, rg, foP]; exact lp) ?_
  simp only [gd, runD, callP, kwF, pick, rtP, sqP, asP, parP, nxP, ifP, andV, orV, notV, andT, orT, notT, truP, tstP, truD, isiP, isisP, isTys, isNP, notNP, isNon, varP, chP, cstP, bltP, binP, consP, nilP, lstP, tupP, lcP, itP, rng1P, rng2P, slP, noP, soP, intOf, negP, sosP, bd_ok, List.map, List.replicate, List.length_cons, List.length_nil, List.cons_append, List.nil_append, List.append_nil, List.getElem?_cons_zero, List.getElem?_cons_succ, List.filterMap, List.set, omap_some, obind_some, isTy, blOf, if_t, if_f, lenF, leD_i, leD_s, ltD_i, ltD_s, gtD_i, geD_i, addD_i, subD_i, mulD_i, itemsD, wipeD, Tgt.put, setAll, outR, lb0, lb1, lb2, lb3, lb4, lb5, lb6, lb7, lb8, lb9, lb10, lb11, lb12, allF, listF, tupleF, intF, eq_self_iff_true, if_true, if_false, decide_true, decide_false, Bool.true_and, Bool.false_and, Bool.and_true, Bool.and_false, Bool.not_true, Bool.not_false, Nat.sub_self, Nat.reduceAdd, Nat.reduceSub, Nat.reduceEqDiff, List.nil_append]
  rfl
end Dn

set_option Elab.async false
set_option linter.all false
set_option maxRecDepth 100000
set_option maxHeartbeats 4000000
namespace Dn
open PySem PySem.Spec PyProof.Rows L2
theorem toPys_ints (l : List Int) : toPys (l.map .int) = some (l.map PyData.int) := by
  induction l with
  | nil => rfl
  | cons z zs ih => simp only [List.map_cons, toPys, toPy, ih, Option.bind, Option.map]
theorem lay_ints (l : List Int) : PyData.canLayAll0 (l.map PyData.int) = true := by
  induction l with
  | nil => rfl
  | cons z zs ih =>
    rw [List.map_cons]
    unfold PyData.canLayAll0 PyData.canLay0
    rw [ih] <;> rfl
theorem depth_ints (l : List Int) : PyData.depthAll (l.map PyData.int) = 0 := by
  induction l with
  | nil => rfl
  | cons z zs ih =>
    rw [List.map_cons]
    unfold PyData.depthAll PyData.depth
    rw [ih] <;> rfl
abbrev pyT (l : List Int) : PyData := .tuple (l.map PyData.int)
theorem toPy_tupI (l : List Int) : toPy (tupI l) = some (pyT l) := by
  unfold tupI toPy
  rw [toPys_ints] <;> rfl
theorem toPys_tupI (sp : List (List Int)) : toPys (sp.map tupI) = some (sp.map pyT) := by
  induction sp with
  | nil => rfl
  | cons z zs ih => simp only [List.map_cons, toPys, toPy_tupI, ih, Option.bind, Option.map]
theorem eqv_ints : ∀ a b : List Int, PyData.eqvAll (a.map PyData.int) (b.map PyData.int) = decide (a = b)
  | [], [] => by unfold PyData.eqvAll; simp
  | [], _ :: _ => by simp [PyData.eqvAll]
  | _ :: _, [] => by simp [PyData.eqvAll]
  | z :: zs, y :: ys => by
    rw [List.map_cons, List.map_cons]
    unfold PyData.eqvAll PyData.eqv
    rw [eqv_ints zs ys, Bool.eq_iff_iff, Bool.and_eq_true, beq_iff_eq, decide_eq_true_eq, decide_eq_true_eq, List.cons.injEq]
theorem eqv_pyT (a b : List Int) : PyData.eqv (pyT a) (pyT b) = decide (a = b) := by
  unfold PyData.eqv
  exact eqv_ints a b
theorem lay_tups (sp : List (List Int)) : PyData.canLayAll0 (sp.map pyT) = true := by
  induction sp with
  | nil => rfl
  | cons z zs ih =>
    rw [List.map_cons]
    unfold PyData.canLayAll0 PyData.canLay0
    rw [ih, lay_ints] <;> rfl
theorem depth_tups (sp : List (List Int)) : PyData.depthAll (sp.map pyT) ≤ 1 := by
  induction sp with
  | nil => exact Nat.zero_le _
  | cons z zs ih =>
    rw [List.map_cons]
    unfold PyData.depthAll PyData.depth
    rw [depth_ints]
    omega
theorem in_space (c : List Int) (sp : List (List Int)) : inDeep (tupI c) (.lst (sp.map tupI)) = some (.bl (decide (c ∈ sp))) := by
  have s1 : SeqAt.shaped (pyT c) = true := by
    unfold SeqAt.shaped PyData.canLay0 PyData.depth
    rw [lay_ints, depth_ints] <;> rfl
  have s2 : SeqAt.shaped (.list (sp.map pyT)) = true := by
    unfold SeqAt.shaped PyData.canLay0 PyData.depth
    have := depth_tups sp
    rw [lay_tups, Bool.true_and, decide_eq_true_eq]
    omega
  have e1 : shP (tupI c) = some (pyT c) := by
    unfold shP
    rw [toPy_tupI, obind_some, if_pos s1]
  show (shP (tupI c)).bind _ = _
  rw [e1, obind_some, toPys_tupI, obind_some, if_pos s2]
  congr 2
  rw [List.any_map, Bool.eq_iff_iff, List.any_eq_true, decide_eq_true_eq]
  constructor
  · rintro ⟨x, hx, h⟩
    have h' : PyData.eqv (pyT x) (pyT c) = true := h
    rw [eqv_pyT, decide_eq_true_eq] at h'
    exact h' ▸ hx
  · intro h
    refine ⟨c, h, ?_⟩
    show PyData.eqv (pyT c) (pyT c) = true
    rw [eqv_pyT, decide_eq_true_eq]
/-! ### the table grows -/
abbrev Ent : Type := Nat × List (List Int)
def entD (p : Ent) : D := .tup [.int p.1, .lst (p.2.map tupI)]
def inB_ : SDen := exP (appP (varP 5) (ifP (tstP (binP inDeep (varP 4) (varP 7))) (tupP (consP (varP 6) (consP (varP 7) nilP))) (tupP (consP (binP addD (varP 6) (cstP (.int 1))) (consP (callP F_l_spread_out (consP (varP 7) (consP (varP 4) (consP (varP 1) nilP)))) nilP)))))
def outB_ : SDen := sqP (asP (.one 5) (newP nilP)) (sqP (foP (itP (varP 3)) (.tup [6, 7]) inB_) (asP (.one 3) (catP (varP 3) (varP 5))))
theorem look_put (st : Sta) (n : Nat) (c : Cell) : (st.put n c).look n = some c := by
  unfold Sta.look Sta.put
  simp
/-- thing 1 is the table of the lambdas -/
def T1 (st : Sta) (P : Addr) (CC : CloT) : Prop := TabIs st 1 P CC ∧ 1 ≤ st.next
theorem find_ff {n m : Nat} (hn : m ≠ n) : ∀ l : List (Nat × Cell), ((l.filter fun p => p.1 != n).find? fun p => p.1 == m) = l.find? fun p => p.1 == m
  | [] => rfl
  | (k, c) :: l => by
    rw [List.filter_cons, List.find?_cons]
    by_cases h : k = n
    · have e2 : (k == m) = false := beq_eq_false_iff_ne.mpr fun z => hn (by rw [← z, h])
      rw [if_neg (by simp [h]), e2]
      exact find_ff hn l
    · rw [if_pos (by simp [h]), List.find?_cons, find_ff hn l]
theorem T1.put {st : Sta} {P : Addr} {CC : CloT} {n : Nat} {c : Cell} (h : T1 st P CC) (hn : n ≠ 1) : T1 (st.put n c) P CC := by
  refine ⟨?_, h.2⟩
  show Option.map _ (List.find? _ ((n, c) :: (st.own.filter fun p => p.1 != n))) = _
  rw [List.find?_cons_of_neg (by simpa using hn), find_ff (fun z => hn z.symm)]
  exact h.1
theorem T1.neu {st : Sta} {P : Addr} {CC : CloT} {c : Cell} (h : T1 st P CC) : T1 { st with own := (st.next + 1, c) :: st.own, next := st.next + 1 } P CC := by
  have h2 := h.2
  refine ⟨?_, by show 1 ≤ st.next + 1; omega⟩
  show Option.map _ (List.find? _ ((st.next + 1, c) :: st.own)) = _
  rw [List.find?_cons_of_neg (by simp; omega)]
  exact h.1
theorem T1.ne {st : Sta} {P : Addr} {CC : CloT} {n : Nat} {ds : List D} (h : T1 st P CC) (hl : st.look n = some (.lst ds)) : n ≠ 1 := fun z => by
  have := h.1
  unfold TabIs at this
  rw [← z, hl] at this
  cases this
def kept (st st' : Sta) : Prop := st'.bag = st.bag ∧ st'.scr = st.scr ∧ ∀ P CC, T1 st P CC → T1 st' P CC
theorem inner_body (q : Nat) (hq : 0 < q) (hq2 : q ≤ 3) (c : List Int) (p : Ent) (x0 x2 : D) (fd : D) (x8 : Option D) (n : Nat) (done : List Ent) (st : Sta) (hl : st.look n = some (.lst (done.map entD))) (hs : ∀ l ∈ p.2, l.length ≤ 1000) (hz : p.2.length ≤ 300000) (hd : done.length < big) :
    ∃ st', kept st st' ∧ st'.look n = some (.lst ((done ++ [Mr.stepP q c p]).map entD)) ∧
      inB_ [some x0, some (.int q), some x2, some fd, some (tupI c), some (.hnd n), some (.int p.1), some (.lst (p.2.map tupI)), x8] st = some (.ok (.nx [some x0, some (.int q), some x2, some fd, some (tupI c), some (.hnd n), some (.int p.1), some (.lst (p.2.map tupI)), x8]), st') := by
  refine ⟨st.put n (.lst ((done ++ [Mr.stepP q c p]).map entD)), ⟨rfl, rfl, fun P CC z => z.put (z.ne hl)⟩, look_put _ _ _, ?_⟩
  have fit : (done.map entD).length < big := by rw [List.length_map]; exact hd
  have sp := spread_ok p.2 c q st hq hq2 hs hz
  by_cases m : c ∈ p.2
  · have e : Mr.stepP q c p = p := if_pos m
    have d1 : decide (c ∈ p.2) = true := decide_eq_true m
    rw [e, List.map_append]
    simp only [gd, runD, callP, kwF, pick, rtP, sqP, asP, parP, nxP, ifP, andV, orV, notV, andT, orT, notT, truP, tstP, truD, isiP, isisP, isTys, isNP, notNP, isNon, varP, chP, cstP, bltP, binP, consP, nilP, lstP, tupP, lcP, itP, rng1P, rng2P, slP, noP, soP, intOf, negP, sosP, bd_ok, List.map, List.replicate, List.length_cons, List.length_nil, List.cons_append, List.nil_append, List.append_nil, List.getElem?_cons_zero, List.getElem?_cons_succ, List.filterMap, List.set, omap_some, obind_some, isTy, blOf, if_t, if_f, lenF, leD_i, leD_s, ltD_i, ltD_s, gtD_i, geD_i, addD_i, subD_i, mulD_i, itemsD, wipeD, Tgt.put, setAll, outR, lb0, lb1, lb2, lb3, lb4, lb5, lb6, lb7, lb8, lb9, lb10, lb11, lb12, allF, listF, tupleF, intF, eq_self_iff_true, if_true, if_false, decide_true, decide_false, Bool.true_and, Bool.false_and, Bool.and_true, Bool.and_false, Bool.not_true, Bool.not_false, Nat.sub_self, Nat.reduceAdd, Nat.reduceSub, Nat.reduceEqDiff, inB_, exP, appP, hl, in_space, d1, fit]
    rfl
  · have e : Mr.stepP q c p = (p.1 + 1, Mr.spread q p.2 c) := if_neg m
    have d1 : decide (c ∈ p.2) = false := decide_eq_false m
    rw [e, List.map_append]
    simp only [gd, runD, callP, kwF, pick, rtP, sqP, asP, parP, nxP, ifP, andV, orV, notV, andT, orT, notT, truP, tstP, truD, isiP, isisP, isTys, isNP, notNP, isNon, varP, chP, cstP, bltP, binP, consP, nilP, lstP, tupP, lcP, itP, rng1P, rng2P, slP, noP, soP, intOf, negP, sosP, bd_ok, List.map, List.replicate, List.length_cons, List.length_nil, List.cons_append, List.nil_append, List.append_nil, List.getElem?_cons_zero, List.getElem?_cons_succ, List.filterMap, List.set, omap_some, obind_some, isTy, blOf, if_t, if_f, lenF, leD_i, leD_s, ltD_i, ltD_s, gtD_i, geD_i, addD_i, subD_i, mulD_i, itemsD, wipeD, Tgt.put, setAll, outR, lb0, lb1, lb2, lb3, lb4, lb5, lb6, lb7, lb8, lb9, lb10, lb11, lb12, allF, listF, tupleF, intF, eq_self_iff_true, if_true, if_false, decide_true, decide_false, Bool.true_and, Bool.false_and, Bool.and_true, Bool.and_false, Bool.not_true, Bool.not_false, Nat.sub_self, Nat.reduceAdd, Nat.reduceSub, Nat.reduceEqDiff, inB_, exP, appP, hl, in_space, d1, fit, sp]
    rfl
end Dn

set_option Elab.async false
set_option linter.all false
set_option maxRecDepth 100000
set_option maxHeartbeats 4000000
namespace Dn
open PySem PySem.Spec PyProof.Rows L2
theorem kept.trans {a b c : Sta} (h : kept a b) (g : kept b c) : kept a c := ⟨g.1.trans h.1, g.2.1.trans h.2.1, fun P CC z => g.2.2 P CC (h.2.2 P CC z)⟩
def small (m : Nat) (p : Ent) : Prop := p.2.length ≤ m ∧ ∀ l ∈ p.2, l.length ≤ 1000
theorem inner_loop (q : Nat) (hq : 0 < q) (hq2 : q ≤ 3) (c : List Int) (x0 x2 fd : D) (x8 : Option D) (n : Nat) : ∀ (ps done : List Ent) (x6 x7 : Option D) (st : Sta), st.look n = some (.lst (done.map entD)) → (∀ p ∈ ps, small 300000 p) → done.length + ps.length ≤ big →
    ∃ (y6 y7 : Option D) (st' : Sta), kept st st' ∧ st'.look n = some (.lst ((done ++ ps.map (Mr.stepP q c)).map entD)) ∧
      foGo (.tup [6, 7]) inB_ (ps.map entD) [some x0, some (.int q), some x2, some fd, some (tupI c), some (.hnd n), x6, x7, x8] st = some (.ok (.nx [some x0, some (.int q), some x2, some fd, some (tupI c), some (.hnd n), y6, y7, x8]), st')
  | [], done, x6, x7, st, hl, _, _ => ⟨x6, x7, st, ⟨rfl, rfl, fun _ _ z => z⟩, by rw [List.map_nil, List.append_nil]; exact hl, rfl⟩
  | p :: ps, done, x6, x7, st, hl, hs, hb => by
    rw [List.length_cons] at hb
    have h1 := hs p List.mem_cons_self
    obtain ⟨st1, k1, l1, e1⟩ := inner_body q hq hq2 c p x0 x2 fd x8 n done st hl h1.2 h1.1 (by omega)
    obtain ⟨y6, y7, st2, k2, l2, e2⟩ := inner_loop q hq hq2 c x0 x2 fd x8 n ps (done ++ [Mr.stepP q c p]) (some (.int p.1)) (some (.lst (p.2.map tupI))) st1 l1 (fun x hx => hs x (List.mem_cons_of_mem _ hx)) (by rw [List.length_append, List.length_singleton]; omega)
    refine ⟨y6, y7, st2, k1.trans k2, by rw [l2, List.map_cons, List.append_assoc] <;> rfl, ?_⟩
    rw [List.map_cons]
    unfold foGo
    show (match inB_ [some x0, some (.int q), some x2, some fd, some (tupI c), some (.hnd n), some (.int p.1), some (.lst (p.2.map tupI)), x8] st with
      | some (.ok (.nx Δ2), st2) => foGo (.tup [6, 7]) inB_ (ps.map entD) Δ2 st2
      | some (.ok (.ct Δ2), st2) => foGo (.tup [6, 7]) inB_ (ps.map entD) Δ2 st2
      | some (.ok (.bk Δ2), st2) => some (.ok (.nx Δ2), st2)
      | r => r) = _
    rw [e1]
    exact e2
theorem outer_body (q : Nat) (hq : 0 < q) (hq2 : q ≤ 3) (c : List Int) (x0 x2 : D) (x5 x6 x7 x8 : Option D) (fd : List Ent) (st : Sta) (hs : ∀ p ∈ fd, small 300000 p) (hb : fd.length + fd.length ≤ big) :
    ∃ (y5 y6 y7 : Option D) (st' : Sta), kept st st' ∧ outB_ [some x0, some (.int q), some x2, some (.lst (fd.map entD)), some (tupI c), x5, x6, x7, x8] st =
      some (.ok (.nx [some x0, some (.int q), some x2, some (.lst ((fd ++ fd.map (Mr.stepP q c)).map entD)), some (tupI c), y5, y6, y7, x8]), st') := by
  let st1 : Sta := { st with own := (st.next + 1, .lst []) :: st.own, next := st.next + 1 }
  have l1 : st1.look (st.next + 1) = some (.lst (([] : List Ent).map entD)) := by
    show Option.map _ (List.find? _ ((st.next + 1, Cell.lst []) :: st.own)) = _
    rw [List.find?_cons_of_pos (by simp)] <;> rfl
  obtain ⟨y6, y7, st2, k2, l2, e2⟩ := inner_loop q hq hq2 c x0 x2 (.lst (fd.map entD)) x8 (st.next + 1) fd [] x6 x7 st1 l1 hs (by rw [List.length_nil]; omega)
  rw [List.nil_append] at l2
  refine ⟨some (.hnd (st.next + 1)), y6, y7, st2, ⟨k2.1, k2.2.1, fun P CC z => k2.2.2 P CC z.neu⟩, ?_⟩
  unfold outB_
  refine sq_step (Δ1 := [some x0, some (.int q), some x2, some (.lst (fd.map entD)), some (tupI c), some (.hnd (st.next + 1)), x6, x7, x8]) (st1 := st1) (by simp only [gd, runD, callP, kwF, pick, rtP, sqP, asP, parP, nxP, ifP, andV, orV, notV, andT, orT, notT, truP, tstP, truD, isiP, isisP, isTys, isNP, notNP, isNon, varP, chP, cstP, bltP, binP, consP, nilP, lstP, tupP, lcP, itP, rng1P, rng2P, slP, noP, soP, intOf, negP, sosP, bd_ok, List.map, List.replicate, List.length_cons, List.length_nil, List.cons_append, List.nil_append, List.append_nil, List.getElem?_cons_zero, List.getElem?_cons_succ, List.filterMap, List.set, omap_some, obind_some, isTy, blOf, if_t, if_f, lenF, leD_i, leD_s, ltD_i, ltD_s, gtD_i, geD_i, addD_i, subD_i, mulD_i, itemsD, wipeD, Tgt.put, setAll, outR, lb0, lb1, lb2, lb3, lb4, lb5, lb6, lb7, lb8, lb9, lb10, lb11, lb12, allF, listF, tupleF, intF, eq_self_iff_true, if_true, if_false, decide_true, decide_false, Bool.true_and, Bool.false_and, Bool.and_true, Bool.and_false, Bool.not_true, Bool.not_false, Nat.sub_self, Nat.reduceAdd, Nat.reduceSub, Nat.reduceEqDiff, newP]; rfl) ?_
  refine sq_step (Δ1 := [some x0, some (.int q), some x2, some (.lst (fd.map entD)), some (tupI c), some (.hnd (st.next + 1)), y6, y7, x8]) (st1 := st2) (by simp only [gd, runD, callP, kwF, pick, rtP, sqP, asP, parP, nxP, ifP, andV, orV, notV, andT, orT, notT, truP, tstP, truD, isiP, isisP, isTys, isNP, notNP, isNon, varP, chP, cstP, bltP, binP, consP, nilP, lstP, tupP, lcP, itP, rng1P, rng2P, slP, noP, soP, intOf, negP, sosP, bd_ok, List.map, List.replicate, List.length_cons, List.length_nil, List.cons_append, List.nil_append, List.append_nil, List.getElem?_cons_zero, List.getElem?_cons_succ, List.filterMap, List.set, omap_some, obind_some, isTy, blOf, if_t, if_f, lenF, leD_i, leD_s, ltD_i, ltD_s, gtD_i, geD_i, addD_i, subD_i, mulD_i, itemsD, wipeD, Tgt.put, setAll, outR, lb0, lb1, lb2, lb3, lb4, lb5, lb6, lb7, lb8, lb9, lb10, lb11, lb12, allF, listF, tupleF, intF, eq_self_iff_true, if_true, if_false, decide_true, decide_false, Bool.true_and, Bool.false_and, Bool.and_true, Bool.and_false, Bool.not_true, Bool.not_false, Nat.sub_self, Nat.reduceAdd, Nat.reduceSub, Nat.reduceEqDiff, foP]; exact e2) ?_
  have fit : (fd.map entD).length + ((fd.map (Mr.stepP q c)).map entD).length ≤ big := by simp only [List.length_map]; exact hb
  have lo : lstOf st2 (.hnd (st.next + 1)) = some ((fd.map (Mr.stepP q c)).map entD) := by
    show (match st2.look (st.next + 1) with | some (.lst ds) => some ds | _ => none) = _
    rw [l2]
  have lo2 : lstOf st2 (.lst (fd.map entD)) = some (fd.map entD) := rfl
  simp only [gd, runD, callP, kwF, pick, rtP, sqP, asP, parP, nxP, ifP, andV, orV, notV, andT, orT, notT, truP, tstP, truD, isiP, isisP, isTys, isNP, notNP, isNon, varP, chP, cstP, bltP, binP, consP, nilP, lstP, tupP, lcP, itP, rng1P, rng2P, slP, noP, soP, intOf, negP, sosP, bd_ok, List.map, List.replicate, List.length_cons, List.length_nil, List.cons_append, List.nil_append, List.append_nil, List.getElem?_cons_zero, List.getElem?_cons_succ, List.filterMap, List.set, omap_some, obind_some, isTy, blOf, if_t, if_f, lenF, leD_i, leD_s, ltD_i, ltD_s, gtD_i, geD_i, addD_i, subD_i, mulD_i, itemsD, wipeD, Tgt.put, setAll, outR, lb0, lb1, lb2, lb3, lb4, lb5, lb6, lb7, lb8, lb9, lb10, lb11, lb12, allF, listF, tupleF, intF, eq_self_iff_true, if_true, if_false, decide_true, decide_false, Bool.true_and, Bool.false_and, Bool.and_true, Bool.and_false, Bool.not_true, Bool.not_false, Nat.sub_self, Nat.reduceAdd, Nat.reduceSub, Nat.reduceEqDiff, catP, lo, lo2, if_pos fit]
  rw [List.map_append]
theorem step_small {m : Nat} {q : Nat} (hq2 : q ≤ 3) {c : List Int} {p : Ent} (h : small m p) : small (3 * m) (Mr.stepP q c p) := by
  unfold Mr.stepP
  split
  · exact ⟨by have := h.1; omega, h.2⟩
  · refine ⟨?_, fun l hl => ?_⟩
    · have hf : ∀ fs : List Nat, (fs.flatMap fun (f : Nat) => p.2.map fun one => Mr.addC q (f : Int) one c).length = fs.length * p.2.length := fun fs => by
        induction fs with
        | nil => simp
        | cons f fs ih => rw [List.flatMap_cons, List.length_append, ih, List.length_map, List.length_cons, Nat.succ_mul]; omega
      show (Mr.spread q p.2 c).length ≤ _
      unfold Mr.spread
      rw [hf, List.length_range]
      exact Nat.mul_le_mul hq2 h.1
    · unfold Mr.spread at hl
      obtain ⟨f, _, hl⟩ := List.mem_flatMap.mp hl
      obtain ⟨one, ho, rfl⟩ := List.mem_map.mp hl
      unfold Mr.addC
      rw [List.length_zipWith]
      have := h.2 one ho
      omega
theorem outer_loop (q : Nat) (hq : 0 < q) (hq2 : q ≤ 3) (x0 x2 : D) (x8 : Option D) : ∀ (cs : List (List Int)) (k : Nat) (fd : List Ent) (x4 x5 x6 x7 : Option D) (st : Sta), k + cs.length ≤ 11 → (∀ p ∈ fd, small (3 ^ k) p) → fd.length ≤ 2 ^ k →
    ∃ (y4 y5 y6 y7 : Option D) (st' : Sta), kept st st' ∧ foGo (.one 4) outB_ (cs.map tupI) [some x0, some (.int q), some x2, some (.lst (fd.map entD)), x4, x5, x6, x7, x8] st =
      some (.ok (.nx [some x0, some (.int q), some x2, some (.lst ((cs.foldl (fun fd c => fd ++ fd.map (Mr.stepP q c)) fd).map entD)), y4, y5, y6, y7, x8]), st')
  | [], k, fd, x4, x5, x6, x7, st, _, _, _ => ⟨x4, x5, x6, x7, st, ⟨rfl, rfl, fun _ _ z => z⟩, rfl⟩
  | c :: cs, k, fd, x4, x5, x6, x7, st, hk, hs, hl => by
    rw [List.length_cons] at hk
    have p3 : 3 ^ k ≤ 3 ^ 10 := Nat.pow_le_pow_right (by decide) (by omega)
    have p2 : 2 ^ k ≤ 2 ^ 10 := Nat.pow_le_pow_right (by decide) (by omega)
    obtain ⟨y5, y6, y7, st1, k1, e1⟩ := outer_body q hq hq2 c x0 x2 x5 x6 x7 x8 fd st (fun p hp => ⟨by have := (hs p hp).1; have : 3 ^ 10 = 59049 := (by decide); omega, (hs p hp).2⟩) (by have : 2 ^ 10 = 1024 := (by decide); unfold big; omega)
    obtain ⟨z4, z5, z6, z7, st2, k2, e2⟩ := outer_loop q hq hq2 x0 x2 x8 cs (k + 1) (fd ++ fd.map (Mr.stepP q c)) (some (tupI c)) y5 y6 y7 st1 (by omega) (fun p hp => by
      rw [Nat.pow_succ, Nat.mul_comm]
      rcases List.mem_append.mp hp with h | h
      · exact ⟨by have := (hs p h).1; omega, (hs p h).2⟩
      · obtain ⟨p', hp', rfl⟩ := List.mem_map.mp h
        exact step_small hq2 (hs p' hp')) (by rw [List.length_append, List.length_map, Nat.pow_succ]; omega)
    refine ⟨z4, z5, z6, z7, st2, k1.trans k2, ?_⟩
    rw [List.map_cons, List.foldl_cons]
    unfold foGo
    show (match outB_ [some x0, some (.int q), some x2, some (.lst (fd.map entD)), some (tupI c), x5, x6, x7, x8] st with
      | some (.ok (.nx Δ2), st2) => foGo (.one 4) outB_ (cs.map tupI) Δ2 st2
      | some (.ok (.ct Δ2), st2) => foGo (.one 4) outB_ (cs.map tupI) Δ2 st2
      | some (.ok (.bk Δ2), st2) => some (.ok (.nx Δ2), st2)
      | r => r) = _
    rw [e1]
    exact e2
theorem rep_flat (x : D) (t : Nat) : (List.replicate t [x]).flatten = List.replicate t x := by
  induction t with
  | zero => rfl
  | succ t ih => rw [List.replicate_succ, List.replicate_succ, List.flatten_cons, ih] <;> rfl
/-- the table of ranks, as the law reckons it -/
theorem ranks_ok (q t : Nat) (hq : q = 2 ∨ q = 3) (ht : t ≤ 1000) (cols : List (List Int)) (hc : cols.length ≤ 11) (st : Sta) : ∃ st', kept st st' ∧
    F_l_column_ranks [.lst (cols.map tupI), .int q, .int t] st = some (.ok (.lst ((Mr.tabR q t cols).map fun r => .int (r : Nat))), st') := by
  have q0 : 0 < q := by omega
  have q3 : q ≤ 3 := by omega
  obtain ⟨y4, y5, y6, y7, st1, k1, e1⟩ := outer_loop q q0 q3 (.lst (cols.map tupI)) (.int t) none cols 0 [(0, [List.replicate t 0])] none none none none st (by omega) (fun p hp => by
    rw [List.mem_singleton.mp hp]
    exact ⟨by show 1 ≤ 1; decide, fun l hl => by rw [List.mem_singleton.mp hl, List.length_replicate]; exact ht⟩) (by show 1 ≤ 1; decide)
  refine ⟨st1, k1, run_ret rfl ?_⟩
  have mu : mulD (.lst [.int 0]) (.int t) = some (.lst ((List.replicate t (0 : Int)).map .int)) := by
    show (if -1000000 ≤ (t : Int) ∧ (t : Int) ≤ 1000000 ∧ [D.int 0].length * (t : Int).toNat ≤ big then some (D.lst (List.replicate (t : Int).toNat [D.int 0]).flatten) else none) = _
    rw [if_pos ⟨by omega, by omega, by rw [Int.toNat_natCast]; show 1 * t ≤ big; unfold big; omega⟩, Int.toNat_natCast, List.map_replicate]
    rw [rep_flat]
  have lc := lc_pure (t := .one 8) (te := binP ixD (varP 8) (cstP (.int 0))) (Δ := [some (.lst (cols.map tupI)), some (.int q), some (.int t), some (.lst ((Mr.foundL q t cols).map entD)), y4, y5, y6, y7, none]) (st := st1) (fun d => match d with | .tup (x :: _) => x | d => d) ((Mr.foundL q t cols).map entD) [] (fun d hd => by
    obtain ⟨p, _, rfl⟩ := List.mem_map.mp hd
    have ix : ixD (entD p) (.int 0) = some (.int p.1) := rfl
    exact ⟨_, rfl, by simp only [gd, runD, callP, kwF, pick, rtP, sqP, asP, parP, nxP, ifP, andV, orV, notV, andT, orT, notT, truP, tstP, truD, isiP, isisP, isTys, isNP, notNP, isNon, varP, chP, cstP, bltP, binP, consP, nilP, lstP, tupP, lcP, itP, rng1P, rng2P, slP, noP, soP, intOf, negP, sosP, bd_ok, List.map, List.replicate, List.length_cons, List.length_nil, List.cons_append, List.nil_append, List.append_nil, List.getElem?_cons_zero, List.getElem?_cons_succ, List.filterMap, List.set, omap_some, obind_some, isTy, blOf, if_t, if_f, lenF, leD_i, leD_s, ltD_i, ltD_s, gtD_i, geD_i, addD_i, subD_i, mulD_i, itemsD, wipeD, Tgt.put, setAll, outR, lb0, lb1, lb2, lb3, lb4, lb5, lb6, lb7, lb8, lb9, lb10, lb11, lb12, allF, listF, tupleF, intF, eq_self_iff_true, if_true, if_false, decide_true, decide_false, Bool.true_and, Bool.false_and, Bool.and_true, Bool.and_false, Bool.not_true, Bool.not_false, Nat.sub_self, Nat.reduceAdd, Nat.reduceSub, Nat.reduceEqDiff, ix]; rfl⟩) (by
      have : (Mr.tabR q t cols).length = 2 ^ cols.length := Mr.tab_len
      unfold Mr.tabR at this
      rw [List.length_map] at this
      rw [List.length_map, this, List.length_nil]
      have : 2 ^ cols.length ≤ 2 ^ 11 := Nat.pow_le_pow_right (by decide) hc
      have : 2 ^ 11 = 2048 := by decide
      unfold big; omega)
  rw [List.nil_append, List.map_map] at lc
  unfold d_l_column_ranks
  rw [show (sqP (asP (.one 5) (newP nilP)) (sqP (foP (itP (varP 3)) (.tup [6, 7]) (exP (appP (varP 5) (ifP (tstP (binP inDeep (varP 4) (varP 7))) (tupP (consP (varP 6) (consP (varP 7) nilP))) (tupP (consP (binP addD (varP 6) (cstP (.int 1))) (consP (callP F_l_spread_out (consP (varP 7) (consP (varP 4) (consP (varP 1) nilP)))) nilP))))))) (asP (.one 3) (catP (varP 3) (varP 5))))) = outB_ from rfl]
  refine sq_step (Δ1 := [some (.lst (cols.map tupI)), some (.int q), some (.int t), some (.lst (([(0, [List.replicate t 0])] : List Ent).map entD)), none, none, none, none, none]) (st1 := st) (by simp only [gd, runD, callP, kwF, pick, rtP, sqP, asP, parP, nxP, ifP, andV, orV, notV, andT, orT, notT, truP, tstP, truD, isiP, isisP, isTys, isNP, notNP, isNon, varP, chP, cstP, bltP, binP, consP, nilP, lstP, tupP, lcP, itP, rng1P, rng2P, slP, noP, soP, intOf, negP, sosP, bd_ok, List.map, List.replicate, List.length_cons, List.length_nil, List.cons_append, List.nil_append, List.append_nil, List.getElem?_cons_zero, List.getElem?_cons_succ, List.filterMap, List.set, omap_some, obind_some, isTy, blOf, if_t, if_f, lenF, leD_i, leD_s, ltD_i, ltD_s, gtD_i, geD_i, addD_i, subD_i, mulD_i, itemsD, wipeD, Tgt.put, setAll, outR, lb0, lb1, lb2, lb3, lb4, lb5, lb6, lb7, lb8, lb9, lb10, lb11, lb12, allF, listF, tupleF, intF, eq_self_iff_true, if_true, if_false, decide_true, decide_false, Bool.true_and, Bool.false_and, Bool.and_true, Bool.and_false, Bool.not_true, Bool.not_false, Nat.sub_self, Nat.reduceAdd, Nat.reduceSub, Nat.reduceEqDiff, mu]; rfl) ?_
  refine sq_step (Δ1 := [some (.lst (cols.map tupI)), some (.int q), some (.int t), some (.lst ((Mr.foundL q t cols).map entD)), y4, y5, y6, y7, none]) (st1 := st1) (by simp only [gd, runD, callP, kwF, pick, rtP, sqP, asP, parP, nxP, ifP, andV, orV, notV, andT, orT, notT, truP, tstP, truD, isiP, isisP, isTys, isNP, notNP, isNon, varP, chP, cstP, bltP, binP, consP, nilP, lstP, tupP, lcP, itP, rng1P, rng2P, slP, noP, soP, intOf, negP, sosP, bd_ok, List.map, List.replicate, List.length_cons, List.length_nil, List.cons_append, List.nil_append, List.append_nil, List.getElem?_cons_zero, List.getElem?_cons_succ, List.filterMap, List.set, omap_some, obind_some, isTy, blOf, if_t, if_f, lenF, leD_i, leD_s, ltD_i, ltD_s, gtD_i, geD_i, addD_i, subD_i, mulD_i, itemsD, wipeD, Tgt.put, setAll, outR, lb0, lb1, lb2, lb3, lb4, lb5, lb6, lb7, lb8, lb9, lb10, lb11, lb12, allF, listF, tupleF, intF, eq_self_iff_true, if_true, if_false, decide_true, decide_false, Bool.true_and, Bool.false_and, Bool.and_true, Bool.and_false, Bool.not_true, Bool.not_false, Nat.sub_self, Nat.reduceAdd, Nat.reduceSub, Nat.reduceEqDiff, foP]; exact e1) ?_
  simp only [gd, runD, callP, kwF, pick, rtP, sqP, asP, parP, nxP, ifP, andV, orV, notV, andT, orT, notT, truP, tstP, truD, isiP, isisP, isTys, isNP, notNP, isNon, varP, chP, cstP, bltP, binP, consP, nilP, lstP, tupP, lcP, itP, rng1P, rng2P, slP, noP, soP, intOf, negP, sosP, bd_ok, List.map, List.replicate, List.length_cons, List.length_nil, List.cons_append, List.nil_append, List.append_nil, List.getElem?_cons_zero, List.getElem?_cons_succ, List.filterMap, List.set, omap_some, obind_some, isTy, blOf, if_t, if_f, lenF, leD_i, leD_s, ltD_i, ltD_s, gtD_i, geD_i, addD_i, subD_i, mulD_i, itemsD, wipeD, Tgt.put, setAll, outR, lb0, lb1, lb2, lb3, lb4, lb5, lb6, lb7, lb8, lb9, lb10, lb11, lb12, allF, listF, tupleF, intF, eq_self_iff_true, if_true, if_false, decide_true, decide_false, Bool.true_and, Bool.false_and, Bool.and_true, Bool.and_false, Bool.not_true, Bool.not_false, Nat.sub_self, Nat.reduceAdd, Nat.reduceSub, Nat.reduceEqDiff, lc]
  unfold Mr.tabR
  rw [List.map_map]
  rfl
end Dn

set_option Elab.async false
set_option linter.all false
set_option maxRecDepth 100000
set_option maxHeartbeats 4000000
namespace Dn
open PySem PySem.Spec PyProof.Rows L2
theorem ints_of_draws {q : Int} : ∀ ys : List D, (∀ y ∈ ys, ∃ r : Int, 0 ≤ r ∧ r < q ∧ y = .int r) → ∃ l : List Int, ys = l.map .int ∧ ∀ x ∈ l, 0 ≤ x ∧ x < q
  | [], _ => ⟨[], rfl, by simp⟩
  | y :: ys, h => by
    obtain ⟨l, e, hl⟩ := ints_of_draws ys fun z hz => h z (List.mem_cons_of_mem _ hz)
    obtain ⟨r, r0, r1, ey⟩ := h y List.mem_cons_self
    refine ⟨r :: l, by rw [e, ey] <;> rfl, fun x hx => ?_⟩
    rcases List.mem_cons.mp hx with z | z
    · rw [z]; exact ⟨r0, r1⟩
    · exact hl x z
theorem cols_of_draws {q : Int} {t : Nat} : ∀ ys : List D, (∀ y ∈ ys, ∃ l : List Int, Mr.Vok q t l ∧ y = tupI l) → ∃ cs : List (List Int), ys = cs.map tupI ∧ ∀ c ∈ cs, Mr.Vok q t c
  | [], _ => ⟨[], rfl, by simp⟩
  | y :: ys, h => by
    obtain ⟨l, e, hl⟩ := cols_of_draws ys fun z hz => h z (List.mem_cons_of_mem _ hz)
    obtain ⟨r, r0, ey⟩ := h y List.mem_cons_self
    refine ⟨r :: l, by rw [e, ey] <;> rfl, fun x hx => ?_⟩
    rcases List.mem_cons.mp hx with z | z
    · rw [z]; exact r0
    · exact hl x z
theorem rngN (n : Nat) (h : n ≤ 1000) : rng1F [.int n] = some (rngD 0 n) := if_pos ⟨by unfold mil; omega, by unfold mil; omega⟩
theorem columns_ok (b : BagSt) (scr : Option (Addr × List Int)) (own : List (Nat × Cell)) (nx : Nat) (n q t : Nat) (hb : okB b) (hn : n ≤ 1000) (hq : 0 < q) (hq2 : q ≤ 1000) (ht : t ≤ 1000) :
    ∃ (cols : List (List Int)) (b' : BagSt), F_l_columns [.hnd 0, .int n, .int q, .int t] ⟨some b, scr, own, nx⟩ = some (.ok (.lst (cols.map tupI)), ⟨some b', scr, own, nx⟩) ∧ cols.length = n ∧ (∀ c ∈ cols, Mr.Vok q t c) ∧ okB b' := by
  have inner : ∀ (j : Int) (b : BagSt), okB b → ∃ y b', (bltP tupleF (consP (lcP (rng1P (consP (varP 3) nilP)) (.one 5) yesT (callP F_l_pull (consP (varP 0) (consP (varP 2) nilP))) [5]) nilP)) [some (.hnd 0), some (.int n), some (.int q), some (.int t), some (.int j), none] ⟨some b, scr, own, nx⟩ =
      some (.ok y, ⟨some b', scr, own, nx⟩) ∧ (∃ l : List Int, Mr.Vok q t l ∧ y = tupI l) ∧ okB b' := fun j b hb => by
    obtain ⟨ys, b', e, len, all, hb'⟩ := lc_draw (t := .one 5) (te := callP F_l_pull (consP (varP 0) (consP (varP 2) nilP))) (Δ := [some (.hnd 0), some (.int n), some (.int q), some (.int t), some (.int j), none]) (scr := scr) (own := own) (nx := nx)
      (Pd := fun y => ∃ r : Int, 0 ≤ r ∧ r < q ∧ y = .int r) (rngD 0 t) b [] (fun d hd => ⟨_, rfl, fun b hb => by
        obtain ⟨r, b', p, r0, r1, hb'⟩ := pull_ok b scr own nx q hb (by omega) (by omega)
        exact ⟨_, b', by simp only [gd, runD, callP, kwF, pick, rtP, sqP, asP, parP, nxP, ifP, andV, orV, notV, andT, orT, notT, truP, tstP, truD, isiP, isisP, isTys, isNP, notNP, isNon, varP, chP, cstP, bltP, binP, consP, nilP, lstP, tupP, lcP, itP, rng1P, rng2P, slP, noP, soP, intOf, negP, sosP, bd_ok, List.map, List.replicate, List.length_cons, List.length_nil, List.cons_append, List.nil_append, List.append_nil, List.getElem?_cons_zero, List.getElem?_cons_succ, List.filterMap, List.set, omap_some, obind_some, isTy, blOf, if_t, if_f, lenF, leD_i, leD_s, ltD_i, ltD_s, gtD_i, geD_i, addD_i, subD_i, mulD_i, itemsD, wipeD, Tgt.put, setAll, outR, lb0, lb1, lb2, lb3, lb4, lb5, lb6, lb7, lb8, lb9, lb10, lb11, lb12, allF, listF, tupleF, intF, eq_self_iff_true, if_true, if_false, decide_true, decide_false, Bool.true_and, Bool.false_and, Bool.and_true, Bool.and_false, Bool.not_true, Bool.not_false, Nat.sub_self, Nat.reduceAdd, Nat.reduceSub, Nat.reduceEqDiff, p], ⟨r, r0, r1, rfl⟩, hb'⟩⟩) hb (by rw [rng_len, List.length_nil]; unfold big; omega)
    obtain ⟨l, rfl, hl⟩ := ints_of_draws ys all
    rw [List.length_map, rng_len] at len
    rw [List.nil_append] at e
    refine ⟨tupI l, b', ?_, ⟨l, ⟨by omega, hl⟩, rfl⟩, hb'⟩
    simp only [gd, runD, callP, kwF, pick, rtP, sqP, asP, parP, nxP, ifP, andV, orV, notV, andT, orT, notT, truP, tstP, truD, isiP, isisP, isTys, isNP, notNP, isNon, varP, chP, cstP, bltP, binP, consP, nilP, lstP, tupP, lcP, itP, rng1P, rng2P, slP, noP, soP, intOf, negP, sosP, bd_ok, List.map, List.replicate, List.length_cons, List.length_nil, List.cons_append, List.nil_append, List.append_nil, List.getElem?_cons_zero, List.getElem?_cons_succ, List.filterMap, List.set, omap_some, obind_some, isTy, blOf, if_t, if_f, lenF, leD_i, leD_s, ltD_i, ltD_s, gtD_i, geD_i, addD_i, subD_i, mulD_i, itemsD, wipeD, Tgt.put, setAll, outR, lb0, lb1, lb2, lb3, lb4, lb5, lb6, lb7, lb8, lb9, lb10, lb11, lb12, allF, listF, tupleF, intF, eq_self_iff_true, if_true, if_false, decide_true, decide_false, Bool.true_and, Bool.false_and, Bool.and_true, Bool.and_false, Bool.not_true, Bool.not_false, Nat.sub_self, Nat.reduceAdd, Nat.reduceSub, Nat.reduceEqDiff, rngN t ht, e]
    rfl
  obtain ⟨ys, b', e, len, all, hb'⟩ := lc_draw (t := .one 4) (te := (bltP tupleF (consP (lcP (rng1P (consP (varP 3) nilP)) (.one 5) yesT (callP F_l_pull (consP (varP 0) (consP (varP 2) nilP))) [5]) nilP))) (Δ := [some (.hnd 0), some (.int n), some (.int q), some (.int t), none, none]) (scr := scr) (own := own) (nx := nx)
    (Pd := fun y => ∃ l : List Int, Mr.Vok q t l ∧ y = tupI l) (rngD 0 n) b [] (fun d hd => by
      obtain ⟨i, _, rfl⟩ := rng_mem hd
      exact ⟨_, rfl, fun b hb => inner _ b hb⟩) hb (by rw [rng_len, List.length_nil]; unfold big; omega)
  obtain ⟨cols, rfl, hc⟩ := cols_of_draws ys all
  rw [List.length_map, rng_len] at len
  rw [List.nil_append] at e
  refine ⟨cols, b', run_ret rfl ?_, by omega, hc, hb'⟩
  unfold d_l_columns
  simp only [gd, runD, callP, kwF, pick, rtP, sqP, asP, parP, nxP, ifP, andV, orV, notV, andT, orT, notT, truP, tstP, truD, isiP, isisP, isTys, isNP, notNP, isNon, varP, chP, cstP, bltP, binP, consP, nilP, lstP, tupP, lcP, itP, rng1P, rng2P, slP, noP, soP, intOf, negP, sosP, bd_ok, List.map, List.replicate, List.length_cons, List.length_nil, List.cons_append, List.nil_append, List.append_nil, List.getElem?_cons_zero, List.getElem?_cons_succ, List.filterMap, List.set, omap_some, obind_some, isTy, blOf, if_t, if_f, lenF, leD_i, leD_s, ltD_i, ltD_s, gtD_i, geD_i, addD_i, subD_i, mulD_i, itemsD, wipeD, Tgt.put, setAll, outR, lb0, lb1, lb2, lb3, lb4, lb5, lb6, lb7, lb8, lb9, lb10, lb11, lb12, allF, listF, tupleF, intF, eq_self_iff_true, if_true, if_false, decide_true, decide_false, Bool.true_and, Bool.false_and, Bool.and_true, Bool.and_false, Bool.not_true, Bool.not_false, Nat.sub_self, Nat.reduceAdd, Nat.reduceSub, Nat.reduceEqDiff, rngN n hn, e]
end Dn

set_option Elab.async false
set_option linter.all false
set_option maxRecDepth 100000
set_option maxHeartbeats 4000000
namespace Dn
open PySem PySem.Spec PyProof.Rows L2
theorem sort_okW (zs : List Str) (h : zs.length < 64) : sortF [.lst (zs.map .str)] = some (.lst ((srtS zs).map .str)) := by
  show (strsD (zs.map .str)).bind _ = _
  rw [strsD_map, obind_some, if_pos h]
theorem world_ok (b : BagSt) (scr : Option (Addr × List Int)) (own : List (Nat × Cell)) (nx : Nat) (zs : List Str) (h : Nat) (hb : okB b) (hz : zs.length + h ≤ 11) :
    ∃ (q t : Nat) (cols : List (List Int)) (b' : BagSt) (own' : List (Nat × Cell)) (nx' : Nat), (q = 2 ∨ q = 3) ∧ 1 ≤ t ∧ t ≤ 3 ∧ cols.length = zs.length + h ∧ (∀ c ∈ cols, Mr.Vok q t c) ∧ okB b' ∧ (∀ P CC, T1 ⟨some b, scr, own, nx⟩ P CC → T1 ⟨some b', scr, own', nx'⟩ P CC) ∧
      F_l_world [.hnd 0, .lst (zs.map .str), .int h] ⟨some b, scr, own, nx⟩ = some (.ok (.tup [.lst ((srtS zs).map .str), .int h, .lst ((Mr.tabR q t cols).map fun r => .int (r : Nat))]), ⟨some b', scr, own', nx'⟩) := by
  obtain ⟨r, b1, p1, r0, r1, hb1⟩ := pull_ok b scr own nx 2 hb (by decide) (by decide)
  obtain ⟨r', b2, p2, r0', r1', hb2⟩ := pull_ok b1 scr own nx 3 hb1 (by decide) (by decide)
  obtain ⟨q, eq⟩ : ∃ q : Nat, 2 + r = q := ⟨(2 + r).toNat, by omega⟩
  obtain ⟨t, et⟩ : ∃ t : Nat, 1 + r' = t := ⟨(1 + r').toNat, by omega⟩
  have hq : q = 2 ∨ q = 3 := by omega
  obtain ⟨cols, b3, p3, len, vok, hb3⟩ := columns_ok b2 scr own nx (zs.length + h) q t hb2 (by omega) (by omega) (by omega) (by omega)
  obtain ⟨st', k, p4⟩ := ranks_ok q t hq (by omega) cols (by omega) ⟨some b3, scr, own, nx⟩
  obtain ⟨bag', scr', own', nx'⟩ := st'
  obtain ⟨k1, k2, k3⟩ := k
  simp only at k1 k2
  subst k1
  subst k2
  have so := sort_okW zs (by omega)
  have en : ((zs.length + h : Nat) : Int) = (zs.length : Int) + (h : Int) := by omega
  rw [en] at p3
  refine ⟨q, t, cols, b3, own', nx', hq, by omega, by omega, len, vok, hb3, fun P CC z => k3 P CC z, run_ret rfl ?_⟩
  unfold d_l_world
  (apply sq_step; focus (simp only [gd, runD, callP, kwF, pick, rtP, sqP, asP, parP, nxP, ifP, andV, orV, notV, andT, orT, notT, truP, tstP, truD, isiP, isisP, isTys, isNP, notNP, isNon, varP, chP, cstP, bltP, binP, consP, nilP, lstP, tupP, lcP, itP, rng1P, rng2P, slP, noP, soP, intOf, negP, sosP, bd_ok, List.map, List.replicate, List.length_cons, List.length_nil, List.cons_append, List.nil_append, List.append_nil, List.getElem?_cons_zero, List.getElem?_cons_succ, List.filterMap, List.set, omap_some, obind_some, isTy, blOf, if_t, if_f, lenF, leD_i, leD_s, ltD_i, ltD_s, gtD_i, geD_i, addD_i, subD_i, mulD_i, itemsD, wipeD, Tgt.put, setAll, outR, lb0, lb1, lb2, lb3, lb4, lb5, lb6, lb7, lb8, lb9, lb10, lb11, lb12, allF, listF, tupleF, intF, eq_self_iff_true, if_true, if_false, decide_true, decide_false, Bool.true_and, Bool.false_and, Bool.and_true, Bool.and_false, Bool.not_true, Bool.not_false, Nat.sub_self, Nat.reduceAdd, Nat.reduceSub, Nat.reduceEqDiff, p1, p2, eq, et]; first | done | rfl))
  (apply sq_step; focus (simp only [gd, runD, callP, kwF, pick, rtP, sqP, asP, parP, nxP, ifP, andV, orV, notV, andT, orT, notT, truP, tstP, truD, isiP, isisP, isTys, isNP, notNP, isNon, varP, chP, cstP, bltP, binP, consP, nilP, lstP, tupP, lcP, itP, rng1P, rng2P, slP, noP, soP, intOf, negP, sosP, bd_ok, List.map, List.replicate, List.length_cons, List.length_nil, List.cons_append, List.nil_append, List.append_nil, List.getElem?_cons_zero, List.getElem?_cons_succ, List.filterMap, List.set, omap_some, obind_some, isTy, blOf, if_t, if_f, lenF, leD_i, leD_s, ltD_i, ltD_s, gtD_i, geD_i, addD_i, subD_i, mulD_i, itemsD, wipeD, Tgt.put, setAll, outR, lb0, lb1, lb2, lb3, lb4, lb5, lb6, lb7, lb8, lb9, lb10, lb11, lb12, allF, listF, tupleF, intF, eq_self_iff_true, if_true, if_false, decide_true, decide_false, Bool.true_and, Bool.false_and, Bool.and_true, Bool.and_false, Bool.not_true, Bool.not_false, Nat.sub_self, Nat.reduceAdd, Nat.reduceSub, Nat.reduceEqDiff, List.length_map, p3]; first | done | rfl))
  simp only [gd, runD, callP, kwF, pick, rtP, sqP, asP, parP, nxP, ifP, andV, orV, notV, andT, orT, notT, truP, tstP, truD, isiP, isisP, isTys, isNP, notNP, isNon, varP, chP, cstP, bltP, binP, consP, nilP, lstP, tupP, lcP, itP, rng1P, rng2P, slP, noP, soP, intOf, negP, sosP, bd_ok, List.map, List.replicate, List.length_cons, List.length_nil, List.cons_append, List.nil_append, List.append_nil, List.getElem?_cons_zero, List.getElem?_cons_succ, List.filterMap, List.set, omap_some, obind_some, isTy, blOf, if_t, if_f, lenF, leD_i, leD_s, ltD_i, ltD_s, gtD_i, geD_i, addD_i, subD_i, mulD_i, itemsD, wipeD, Tgt.put, setAll, outR, lb0, lb1, lb2, lb3, lb4, lb5, lb6, lb7, lb8, lb9, lb10, lb11, lb12, allF, listF, tupleF, intF, eq_self_iff_true, if_true, if_false, decide_true, decide_false, Bool.true_and, Bool.false_and, Bool.and_true, Bool.and_false, Bool.not_true, Bool.not_false, Nat.sub_self, Nat.reduceAdd, Nat.reduceSub, Nat.reduceEqDiff, so, p4]
end Dn

set_option linter.all false
namespace Mr
/-! sums over the sets of places, complements -/
def sumsL (l : List Int) : List Int := l.foldl (fun s a => s ++ s.map (· + a)) [0]
theorem sumsL_subs : ∀ l : List Int, sumsL l = (subs l).map List.sum := by
  refine snoc_ind rfl fun l a ih => ?_
  have e : sumsL (l ++ [a]) = sumsL l ++ (sumsL l).map (· + a) := by unfold sumsL; rw [List.foldl_append]; rfl
  rw [e, subs_snoc, ih, List.map_append, List.map_map, List.map_map]
  congr 1
  refine List.map_congr_left fun s _ => ?_
  show s.sum + a = (s ++ [a]).sum
  rw [List.sum_append]
  simp
theorem sumsL_len (l : List Int) : (sumsL l).length = 2 ^ l.length := by rw [sumsL_subs, List.length_map, subs_len]
theorem sumsL_at (l : List Int) {i : Nat} (h : i < 2 ^ l.length) : (sumsL l)[i]? = some ((pickB 0 l i).sum) := by
  rw [sumsL_subs, List.getElem?_map, subs_at 0 l i h]; rfl
/-- how many places -/
def cnt (n i : Nat) : Nat := (bitsIn n i).length
theorem sum_ones : ∀ l : List Nat, ((l.map fun _ => (1 : Int)).sum) = (l.length : Int)
  | [] => rfl
  | _ :: l => by rw [List.map_cons, List.sum_cons, sum_ones l, List.length_cons]; omega
theorem sums_ones (n : Nat) : sumsL (List.replicate n 1) = (List.range (2 ^ n)).map fun i => (cnt n i : Int) := by
  apply List.ext_getElem?
  intro i
  by_cases h : i < 2 ^ n
  · have h' : i < 2 ^ (List.replicate n (1 : Int)).length := by rw [List.length_replicate]; exact h
    rw [sumsL_at _ h', List.getElem?_map, List.getElem?_range h]
    show some _ = some _
    congr 1
    unfold pickB cnt
    rw [List.length_replicate]
    show _ = ((bitsIn n i).length : Int)
    rw [← sum_ones]
    congr 1
    refine List.map_congr_left fun b hb => ?_
    have : b < n := List.mem_range.mp (List.mem_filter.mp hb).1
    simp [List.getD_eq_getElem?_getD, this]
  · rw [List.getElem?_eq_none (by rw [sumsL_len, List.length_replicate]; omega), List.getElem?_eq_none (by rw [List.length_map, List.length_range]; omega)]
theorem bitsIn_more {n i : Nat} (h : i < 2 ^ n) : ∀ k : Nat, bitsIn (n + k) i = bitsIn n i
  | 0 => rfl
  | k + 1 => by
    rw [← Nat.add_assoc, bitsIn_lt (Nat.lt_of_lt_of_le h (Nat.pow_le_pow_right (by decide) (by omega))), bitsIn_more h k]
/-- a table of ranks by places, for n elements -/
structure Rk (n : Nat) (r : Nat → Nat) : Prop where
  zero : r 0 = 0
  le : ∀ i, i < 2 ^ n → r i ≤ n
  one : ∀ i b, i < 2 ^ n → b < n → i.testBit b = true → r i = r (i ^^^ 2 ^ b) ∨ r i = r (i ^^^ 2 ^ b) + 1
  two : ∀ i b d, i < 2 ^ n → b < n → d < n → b ≠ d → i.testBit b = true → i.testBit d = true → r (i ^^^ 2 ^ b) + 1 = r i → r (i ^^^ 2 ^ d) + 1 = r i → r (i ^^^ 2 ^ b ^^^ 2 ^ d) + 2 = r i
theorem rk_world {q t : Nat} {cols : List (List Int)} (hq : q = 2 ∨ q = 3) : Rk cols.length (rkAt q t cols) :=
  ⟨tab_zero, fun _ _ => tab_le, fun _ _ _ hb h => tab_one hq hb h, fun _ _ _ _ hb hd ne h h' e e' => tab_two hq hb hd ne h h' e e'⟩
theorem tab_world {q t : Nat} {cols : List (List Int)} (hq : q = 2 ∨ q = 3) (hc : ∀ c ∈ cols, Vok q t c) : tabR q t cols = (List.range (2 ^ cols.length)).map (rkAt q t cols) := by
  apply List.ext_getElem?
  intro i
  by_cases h : i < 2 ^ cols.length
  · rw [tab_at hq hc h, List.getElem?_map, List.getElem?_range h]; rfl
  · rw [List.getElem?_eq_none (by rw [tab_len]; omega), List.getElem?_eq_none (by rw [List.length_map, List.length_range]; omega)]
theorem two_pow_xor {b i n : Nat} (hb : b < n) (h : i < 2 ^ n) : i ^^^ 2 ^ b < 2 ^ n := Nat.xor_lt_two_pow h (Nat.pow_lt_pow_right (by decide) hb)
end Mr

set_option Elab.async false
set_option linter.all false
set_option maxRecDepth 100000
set_option maxHeartbeats 4000000
namespace Dn
open PySem PySem.Spec PyProof.Rows L2
/-! ### lists made of lists, loops by an invariant -/
theorem lc_map {α : Type} {t : Tgt} {te : EDen} {Δ : Dl} {st : Sta} (f g : α → D) (xs : List α) (h : ∀ x ∈ xs, ∃ Δ1, t.put (f x) Δ = some Δ1 ∧ te Δ1 st = some (.ok (g x), st)) (hl : xs.length ≤ big) :
    lcGo t yesT te Δ (xs.map f) st [] = some (.ok (.lst (xs.map g)), st) := by
  have key : ∀ (ys : List α) (acc : List D), (∀ x ∈ ys, ∃ Δ1, t.put (f x) Δ = some Δ1 ∧ te Δ1 st = some (.ok (g x), st)) → acc.length + ys.length ≤ big → lcGo t yesT te Δ (ys.map f) st acc = some (.ok (.lst (acc ++ ys.map g)), st) := by
    intro ys
    induction ys with
    | nil => intro acc _ _; simp [lcGo]
    | cons y ys ih =>
      intro acc h hl
      obtain ⟨Δ1, h1, h2⟩ := h y List.mem_cons_self
      rw [List.length_cons] at hl
      rw [List.map_cons]
      unfold lcGo
      rw [h1, obind_some]
      show (match te Δ1 st with | some (.ok y, st2) => if acc.length < big then lcGo t yesT te Δ (ys.map f) st2 (acc ++ [y]) else none | _ => none) = _
      rw [h2]
      simp only
      rw [if_pos (by omega), ih (acc ++ [g y]) (fun x hx => h x (List.mem_cons_of_mem _ hx)) (by rw [List.length_append, List.length_singleton]; omega), List.append_assoc] <;> rfl
  have := key xs [] h (by simpa using hl)
  rwa [List.nil_append] at this
theorem lc_filt {α : Type} {t : Tgt} {tt : TDen} {te : EDen} {Δ : Dl} {st : Sta} (f : α → D) (p : α → Bool) (g : α → D) (ys : List α) (acc : List D) (h : ∀ x ∈ ys, ∃ Δ1, t.put (f x) Δ = some Δ1 ∧ tt Δ1 st = some (.ok (p x), st) ∧ (p x = true → te Δ1 st = some (.ok (g x), st)))
    (hl : acc.length + ys.length ≤ big) : lcGo t tt te Δ (ys.map f) st acc = some (.ok (.lst (acc ++ (ys.filter p).map g)), st) := by
  induction ys generalizing acc with
  | nil => simp [lcGo]
  | cons y ys ih =>
    obtain ⟨Δ1, h1, h2, h3⟩ := h y List.mem_cons_self
    rw [List.length_cons] at hl
    rw [List.map_cons]
    unfold lcGo
    rw [h1, obind_some, h2]
    cases hp : p y with
    | false =>
      simp only
      rw [ih acc (fun x hx => h x (List.mem_cons_of_mem _ hx)) (by omega), List.filter_cons_of_neg (by rw [hp]; exact Bool.false_ne_true)]
    | true =>
      simp only
      rw [h3 hp]
      simp only
      rw [if_pos (by omega), ih (acc ++ [g y]) (fun x hx => h x (List.mem_cons_of_mem _ hx)) (by rw [List.length_append, List.length_singleton]; omega), List.append_assoc, List.filter_cons_of_pos hp] <;> rfl
/-- two sources, the second one the same list at each turn -/
theorem lc_two {α β : Type} {t t1 : Tgt} {tt1 : TDen} {ti1 : IDen} {te : EDen} {vs1 : List Nat} {Δ : Dl} {st : Sta} (f : α → D) (f1 : β → D) (zs : List β) (p : α → β → Bool) (g : α → β → D) (ys : List α) (acc : List D)
    (h : ∀ x ∈ ys, ∃ Δ1, t.put (f x) Δ = some Δ1 ∧ ti1 Δ1 st = some (.ok (zs.map f1), st) ∧ ∀ z ∈ zs, ∃ Δ2, t1.put (f1 z) (wipeD Δ1 vs1) = some Δ2 ∧ tt1 Δ2 st = some (.ok (p x z), st) ∧ (p x z = true → te Δ2 st = some (.ok (g x z), st)))
    (hl : acc.length + ys.length * zs.length ≤ big) : lc2Go t yesT ti1 t1 tt1 te vs1 Δ (ys.map f) st acc = some (.ok (.lst (acc ++ ys.flatMap fun x => (zs.filter (p x)).map (g x))), st) := by
  induction ys generalizing acc with
  | nil => simp [lc2Go]
  | cons y ys ih =>
    obtain ⟨Δ1, h1, h2, h3⟩ := h y List.mem_cons_self
    rw [List.length_cons, Nat.succ_mul] at hl
    have inner := lc_filt (t := t1) (tt := tt1) (te := te) (Δ := wipeD Δ1 vs1) (st := st) f1 (p y) (g y) zs acc h3 (by omega)
    have fl : ((zs.filter (p y)).map (g y)).length ≤ zs.length := by rw [List.length_map]; exact List.length_filter_le _ _
    rw [List.map_cons]
    unfold lc2Go
    rw [h1, obind_some]
    show (match ti1 Δ1 st with | some (.ok es, st2) => (match lcGo t1 tt1 te (wipeD Δ1 vs1) es st2 acc with | some (.ok (.lst acc2), st3) => lc2Go t yesT ti1 t1 tt1 te vs1 Δ (ys.map f) st3 acc2 | _ => none) | _ => none) = _
    rw [h2]
    simp only
    rw [inner]
    simp only
    rw [ih _ (fun x hx => h x (List.mem_cons_of_mem _ hx)) (by rw [List.length_append]; omega), List.flatMap_cons, List.append_assoc]
theorem fo_inv {g : Tgt} {tb : SDen} (P : Nat → Dl → Sta → Prop) : ∀ (ds : List D) (k : Nat) (Δ : Dl) (st : Sta), P k Δ st →
    (∀ (i : Nat) (d : D), ds[i]? = some d → ∀ Δ st, P (k + i) Δ st → ∃ Δ1 Δ2 st2, g.put d Δ = some Δ1 ∧ tb Δ1 st = some (.ok (.nx Δ2), st2) ∧ P (k + i + 1) Δ2 st2) →
    ∃ Δ' st', foGo g tb ds Δ st = some (.ok (.nx Δ'), st') ∧ P (k + ds.length) Δ' st'
  | [], k, Δ, st, h, _ => ⟨Δ, st, rfl, h⟩
  | d :: ds, k, Δ, st, h, hs => by
    obtain ⟨Δ1, Δ2, st2, h1, h2, h3⟩ := hs 0 d rfl Δ st h
    obtain ⟨Δ', st', h4, h5⟩ := fo_inv P ds (k + 1) Δ2 st2 h3 fun i e he Δ st hp => by
      have q := hs (i + 1) e (by simpa using he) Δ st (by rw [show k + (i + 1) = k + 1 + i by omega]; exact hp)
      rwa [show k + (i + 1) + 1 = k + 1 + i + 1 by omega] at q
    refine ⟨Δ', st', ?_, by rw [List.length_cons, show k + (ds.length + 1) = k + 1 + ds.length by omega]; exact h5⟩
    unfold foGo
    rw [h1, obind_some, h2]
    exact h4
/-- a loop whose turns only store its target -/
theorem fo_pure {α : Type} {g : Tgt} {tb : SDen} (f : α → D) (xs : List α) (I : Dl → Prop) (Δ : Dl) (st : Sta) (h0 : I Δ) (hs : ∀ x ∈ xs, ∀ Δ, I Δ → ∃ Δ1, g.put (f x) Δ = some Δ1 ∧ tb Δ1 st = some (.ok (.nx Δ1), st) ∧ I Δ1) :
    ∃ Δ', foGo g tb (xs.map f) Δ st = some (.ok (.nx Δ'), st) ∧ I Δ' := by
  induction xs generalizing Δ with
  | nil => exact ⟨Δ, rfl, h0⟩
  | cons x xs ih =>
    obtain ⟨Δ1, h1, h2, h3⟩ := hs x List.mem_cons_self Δ h0
    obtain ⟨Δ', h4, h5⟩ := ih Δ1 h3 fun y hy => hs y (List.mem_cons_of_mem _ hy)
    refine ⟨Δ', ?_, h5⟩
    rw [List.map_cons]
    unfold foGo
    rw [h1, obind_some, h2]
    exact h4
theorem run_nx {t : SDen} {n k : Nat} {ds : List D} {st st1 : Sta} {Δ : Dl} (hk : ds.length = k) (h : t (ds.map some ++ List.replicate (n - ds.length) none) st = some (.ok (.nx Δ), st1)) : gd k (runD t n) ds st = some (.ok .non, st1) := by
  unfold gd runD
  rw [if_pos hk, h] <;> rfl
theorem allF_map {α : Type} (f : α → Bool) (xs : List α) : allF [.lst (xs.map fun x => .bl (f x))] = some (.bl (xs.all f)) := by
  have := bls_map (xs.map f)
  rw [List.map_map] at this
  show (bls (xs.map fun x => D.bl (f x))).map _ = _
  rw [show (xs.map fun x => D.bl (f x)) = xs.map (D.bl ∘ f) from rfl, this]
  show some (D.bl ((xs.map f).all id)) = _
  rw [List.all_map]; rfl
theorem blsT {α : Type} (xs : List α) : bls (xs.map fun _ => D.bl true) = some (List.replicate xs.length true) := by
  have := bls_map (xs.map fun _ => true)
  rw [List.map_map] at this
  rw [show (xs.map fun _ => D.bl true) = xs.map (D.bl ∘ fun _ => true) from rfl, this, List.map_const']
theorem all_rep (n : Nat) : (List.replicate n true).all id = true := by rw [List.all_eq_true]; intro x hx; rw [List.eq_of_mem_replicate hx]; rfl
/-! ### bits -/
theorem and_nat (a b : Nat) : Builtin.bitAnd (a : Int) (b : Int) = ((a &&& b : Nat) : Int) := bitAnd_pp (by omega) (by omega)
theorem or_nat (a b : Nat) : Builtin.bitOr (a : Int) (b : Int) = ((a ||| b : Nat) : Int) := by
  rw [bitOr_and, and_nat]
  have := nat_or_add_and a b
  omega
theorem xor_nat (a b : Nat) : Builtin.bitXor (a : Int) (b : Int) = ((a ^^^ b : Nat) : Int) := by
  unfold Builtin.bitXor
  rw [or_nat, and_nat]
  have h1 := nat_or_add_and (a ^^^ b) (a &&& b)
  have e1 : (a ^^^ b) &&& (a &&& b) = 0 := by
    apply Nat.eq_of_testBit_eq
    intro i
    simp only [Nat.testBit_and, Nat.testBit_xor, Nat.zero_testBit]
    cases a.testBit i <;> cases b.testBit i <;> rfl
  have e2 : (a ^^^ b) ||| (a &&& b) = a ||| b := by
    apply Nat.eq_of_testBit_eq
    intro i
    simp only [Nat.testBit_and, Nat.testBit_xor, Nat.testBit_or]
    cases a.testBit i <;> cases b.testBit i <;> rfl
  rw [e1, e2] at h1
  omega
theorem xorD_n (a b : Nat) : xorD (.int a) (.int b) = some (.int (a ^^^ b : Nat)) := by show some (D.int (Builtin.bitXor a b)) = _; rw [xor_nat]
theorem orD_n (a b : Nat) : orD (.int a) (.int b) = some (.int (a ||| b : Nat)) := by show some (D.int (Builtin.bitOr a b)) = _; rw [or_nat]
theorem andD_n (a b : Nat) : andD (.int a) (.int b) = some (.int (a &&& b : Nat)) := by show some (D.int (Builtin.bitAnd a b)) = _; rw [and_nat]
theorem and1 (a : Nat) : andD (.int a) (.int 1) = some (.int (a &&& 1 : Nat)) := andD_n a 1
theorem shlD_n (k : Nat) (h : k ≤ 1000) : intD shlI (.int 1) (.int k) = some (.int (2 ^ k : Nat)) := by
  show (shlI 1 k).map D.int = _
  rw [show shlI 1 k = some (1 * 2 ^ (k : Int).toNat) from if_pos ⟨by omega, by omega, by decide⟩]
  show some (D.int _) = _
  rw [Int.toNat_natCast, Int.one_mul]
  simp
theorem shrD_n (a k : Nat) : intD shrI (.int a) (.int k) = some (.int (a / 2 ^ k : Nat)) := by
  show (shrI a k).map D.int = _
  rw [show shrI a k = some ((a : Int) / 2 ^ (k : Int).toNat) from if_pos (by omega)]
  show some (D.int _) = _
  rw [Int.toNat_natCast]
  simp
theorem bits_lt (i : Nat) : i < 2 ^ (Builtin.Int.intBits (i : Int)) := by
  unfold Builtin.Int.intBits
  by_cases h : i = 0
  · subst h; decide
  · have : ((i : Int) == 0) = false := by simp [h]
    rw [this, Int.natAbs_natCast]
    exact Nat.lt_log2_self
theorem bits_le {n i : Nat} (h : i < 2 ^ n) : Builtin.Int.intBits (i : Int) ≤ n := by
  unfold Builtin.Int.intBits
  by_cases h0 : i = 0
  · subst h0; simp
  · have : ((i : Int) == 0) = false := by simp [h0]
    rw [this, Int.natAbs_natCast]
    exact (Nat.log2_lt h0).mpr h
theorem test_and (i b : Nat) : ((((i / 2 ^ b) &&& 1 : Nat) : Int) != 0) = i.testBit b := by
  rw [Nat.testBit_eq_decide_div_mod_eq, Nat.and_one_is_mod]
  have : i / 2 ^ b % 2 = 0 ∨ i / 2 ^ b % 2 = 1 := by omega
  rcases this with h | h <;> rw [h] <;> rfl
end Dn

set_option Elab.async false
set_option linter.all false
set_option maxRecDepth 100000
set_option maxHeartbeats 4000000
namespace Dn
open PySem PySem.Spec PyProof.Rows L2
/-! ### names, numbers, bits, tables: what the program's checks answer -/
theorem is_word_str (z : Str) (m : Int) (st : Sta) (hz : z.length ≤ big) : F_is_word [.str z, .int m] st = some (.ok (.bl (decide (1 ≤ (z.length : Int)) && (decide ((z.length : Int) ≤ m) && lowS z))), st) := by
  have hl := lc_pure (t := .one 2) (te := chP leD leD (cstP (.str "a")) (varP 2) (cstP (.str "z"))) (Δ := [some (.str z), some (.int m), none]) (st := st) lowD (z.cps.toList.map fun c => .str ⟨#[c]⟩) [] (fun d hd => by
    obtain ⟨c, _, rfl⟩ := List.mem_map.mp hd
    refine ⟨_, rfl, ?_⟩
    simp only [gd, runD, callP, kwF, pick, rtP, sqP, asP, parP, nxP, ifP, andV, orV, notV, andT, orT, notT, truP, tstP, truD, isiP, isisP, isTys, isNP, notNP, isNon, varP, chP, cstP, bltP, binP, consP, nilP, lstP, tupP, lcP, itP, rng1P, rng2P, slP, noP, soP, intOf, negP, sosP, bd_ok, List.map, List.replicate, List.length_cons, List.length_nil, List.cons_append, List.nil_append, List.append_nil, List.getElem?_cons_zero, List.getElem?_cons_succ, List.filterMap, List.set, omap_some, obind_some, isTy, blOf, if_t, if_f, lenF, leD_i, leD_s, ltD_i, ltD_s, gtD_i, geD_i, addD_i, subD_i, mulD_i, itemsD, wipeD, Tgt.put, setAll, outR, lb0, lb1, lb2, lb3, lb4, lb5, lb6, lb7, lb8, lb9, lb10, lb11, lb12, allF, listF, tupleF, intF, eq_self_iff_true, if_true, if_false, decide_true, decide_false, Bool.true_and, Bool.false_and, Bool.and_true, Bool.and_false, Bool.not_true, Bool.not_false, Nat.sub_self, Nat.reduceAdd, Nat.reduceSub, Nat.reduceEqDiff, s_a, s_z, sLt_a, sLt_z]
    show (if decide (97 ≤ c) = true then some (Except.ok (D.bl (decide (c ≤ 122))), st) else some (Except.ok (D.bl false), st)) = some (.ok (.bl (lowC c)), st)
    unfold lowC
    cases decide (97 ≤ c) <;> rfl) (by rw [List.length_map, List.length_nil, Nat.zero_add]; exact hz)
  rw [List.nil_append, List.map_map, show (lowD ∘ fun c => D.str ⟨#[c]⟩) = (D.bl ∘ lowC) from rfl, ← List.map_map] at hl
  unfold F_is_word d_is_word
  simp only [gd, runD, callP, kwF, pick, rtP, sqP, asP, parP, nxP, ifP, andV, orV, notV, andT, orT, notT, truP, tstP, truD, isiP, isisP, isTys, isNP, notNP, isNon, varP, chP, cstP, bltP, binP, consP, nilP, lstP, tupP, lcP, itP, rng1P, rng2P, slP, noP, soP, intOf, negP, sosP, bd_ok, List.map, List.replicate, List.length_cons, List.length_nil, List.cons_append, List.nil_append, List.append_nil, List.getElem?_cons_zero, List.getElem?_cons_succ, List.filterMap, List.set, omap_some, obind_some, isTy, blOf, if_t, if_f, lenF, leD_i, leD_s, ltD_i, ltD_s, gtD_i, geD_i, addD_i, subD_i, mulD_i, itemsD, wipeD, Tgt.put, setAll, outR, lb0, lb1, lb2, lb3, lb4, lb5, lb6, lb7, lb8, lb9, lb10, lb11, lb12, allF, listF, tupleF, intF, eq_self_iff_true, if_true, if_false, decide_true, decide_false, Bool.true_and, Bool.false_and, Bool.and_true, Bool.and_false, Bool.not_true, Bool.not_false, Nat.sub_self, Nat.reduceAdd, Nat.reduceSub, Nat.reduceEqDiff, if_pos hz, hl, bls_map]
  cases h1 : decide (1 ≤ (z.length : Int))
  · simp only [gd, runD, callP, kwF, pick, rtP, sqP, asP, parP, nxP, ifP, andV, orV, notV, andT, orT, notT, truP, tstP, truD, isiP, isisP, isTys, isNP, notNP, isNon, varP, chP, cstP, bltP, binP, consP, nilP, lstP, tupP, lcP, itP, rng1P, rng2P, slP, noP, soP, intOf, negP, sosP, bd_ok, List.map, List.replicate, List.length_cons, List.length_nil, List.cons_append, List.nil_append, List.append_nil, List.getElem?_cons_zero, List.getElem?_cons_succ, List.filterMap, List.set, omap_some, obind_some, isTy, blOf, if_t, if_f, lenF, leD_i, leD_s, ltD_i, ltD_s, gtD_i, geD_i, addD_i, subD_i, mulD_i, itemsD, wipeD, Tgt.put, setAll, outR, lb0, lb1, lb2, lb3, lb4, lb5, lb6, lb7, lb8, lb9, lb10, lb11, lb12, allF, listF, tupleF, intF, eq_self_iff_true, if_true, if_false, decide_true, decide_false, Bool.true_and, Bool.false_and, Bool.and_true, Bool.and_false, Bool.not_true, Bool.not_false, Nat.sub_self, Nat.reduceAdd, Nat.reduceSub, Nat.reduceEqDiff]
  · simp only [gd, runD, callP, kwF, pick, rtP, sqP, asP, parP, nxP, ifP, andV, orV, notV, andT, orT, notT, truP, tstP, truD, isiP, isisP, isTys, isNP, notNP, isNon, varP, chP, cstP, bltP, binP, consP, nilP, lstP, tupP, lcP, itP, rng1P, rng2P, slP, noP, soP, intOf, negP, sosP, bd_ok, List.map, List.replicate, List.length_cons, List.length_nil, List.cons_append, List.nil_append, List.append_nil, List.getElem?_cons_zero, List.getElem?_cons_succ, List.filterMap, List.set, omap_some, obind_some, isTy, blOf, if_t, if_f, lenF, leD_i, leD_s, ltD_i, ltD_s, gtD_i, geD_i, addD_i, subD_i, mulD_i, itemsD, wipeD, Tgt.put, setAll, outR, lb0, lb1, lb2, lb3, lb4, lb5, lb6, lb7, lb8, lb9, lb10, lb11, lb12, allF, listF, tupleF, intF, eq_self_iff_true, if_true, if_false, decide_true, decide_false, Bool.true_and, Bool.false_and, Bool.and_true, Bool.and_false, Bool.not_true, Bool.not_false, Nat.sub_self, Nat.reduceAdd, Nat.reduceSub, Nat.reduceEqDiff]
    cases h2 : decide ((z.length : Int) ≤ m)
    · simp only [gd, runD, callP, kwF, pick, rtP, sqP, asP, parP, nxP, ifP, andV, orV, notV, andT, orT, notT, truP, tstP, truD, isiP, isisP, isTys, isNP, notNP, isNon, varP, chP, cstP, bltP, binP, consP, nilP, lstP, tupP, lcP, itP, rng1P, rng2P, slP, noP, soP, intOf, negP, sosP, bd_ok, List.map, List.replicate, List.length_cons, List.length_nil, List.cons_append, List.nil_append, List.append_nil, List.getElem?_cons_zero, List.getElem?_cons_succ, List.filterMap, List.set, omap_some, obind_some, isTy, blOf, if_t, if_f, lenF, leD_i, leD_s, ltD_i, ltD_s, gtD_i, geD_i, addD_i, subD_i, mulD_i, itemsD, wipeD, Tgt.put, setAll, outR, lb0, lb1, lb2, lb3, lb4, lb5, lb6, lb7, lb8, lb9, lb10, lb11, lb12, allF, listF, tupleF, intF, eq_self_iff_true, if_true, if_false, decide_true, decide_false, Bool.true_and, Bool.false_and, Bool.and_true, Bool.and_false, Bool.not_true, Bool.not_false, Nat.sub_self, Nat.reduceAdd, Nat.reduceSub, Nat.reduceEqDiff]
    · simp only [gd, runD, callP, kwF, pick, rtP, sqP, asP, parP, nxP, ifP, andV, orV, notV, andT, orT, notT, truP, tstP, truD, isiP, isisP, isTys, isNP, notNP, isNon, varP, chP, cstP, bltP, binP, consP, nilP, lstP, tupP, lcP, itP, rng1P, rng2P, slP, noP, soP, intOf, negP, sosP, bd_ok, List.map, List.replicate, List.length_cons, List.length_nil, List.cons_append, List.nil_append, List.append_nil, List.getElem?_cons_zero, List.getElem?_cons_succ, List.filterMap, List.set, omap_some, obind_some, isTy, blOf, if_t, if_f, lenF, leD_i, leD_s, ltD_i, ltD_s, gtD_i, geD_i, addD_i, subD_i, mulD_i, itemsD, wipeD, Tgt.put, setAll, outR, lb0, lb1, lb2, lb3, lb4, lb5, lb6, lb7, lb8, lb9, lb10, lb11, lb12, allF, listF, tupleF, intF, eq_self_iff_true, if_true, if_false, decide_true, decide_false, Bool.true_and, Bool.false_and, Bool.and_true, Bool.and_false, Bool.not_true, Bool.not_false, Nat.sub_self, Nat.reduceAdd, Nat.reduceSub, Nat.reduceEqDiff, hl, bls_map]
      unfold lowS
      rw [List.all_map]
      rfl
def okN (k : Int) (z : Str) : Bool := decide (1 ≤ (z.length : Int)) && (decide ((z.length : Int) ≤ k) && lowS z)
theorem is_name_str (z : Str) (st : Sta) (hz : z.length ≤ big) : F_is_name [.str z] st = some (.ok (.bl (okN 4 z)), st) := by
  refine run_ret rfl ?_
  unfold d_is_name
  simp only [gd, runD, callP, kwF, pick, rtP, sqP, asP, parP, nxP, ifP, andV, orV, notV, andT, orT, notT, truP, tstP, truD, isiP, isisP, isTys, isNP, notNP, isNon, varP, chP, cstP, bltP, binP, consP, nilP, lstP, tupP, lcP, itP, rng1P, rng2P, slP, noP, soP, intOf, negP, sosP, bd_ok, List.map, List.replicate, List.length_cons, List.length_nil, List.cons_append, List.nil_append, List.append_nil, List.getElem?_cons_zero, List.getElem?_cons_succ, List.filterMap, List.set, omap_some, obind_some, isTy, blOf, if_t, if_f, lenF, leD_i, leD_s, ltD_i, ltD_s, gtD_i, geD_i, addD_i, subD_i, mulD_i, itemsD, wipeD, Tgt.put, setAll, outR, lb0, lb1, lb2, lb3, lb4, lb5, lb6, lb7, lb8, lb9, lb10, lb11, lb12, allF, listF, tupleF, intF, eq_self_iff_true, if_true, if_false, decide_true, decide_false, Bool.true_and, Bool.false_and, Bool.and_true, Bool.and_false, Bool.not_true, Bool.not_false, Nat.sub_self, Nat.reduceAdd, Nat.reduceSub, Nat.reduceEqDiff, is_word_str z 4 st hz]
  rfl
theorem okN_of {z : Str} (h : NameS z) : okN 4 z = true := by
  obtain ⟨h1, h2, h3⟩ := h
  unfold okN
  rw [h3, decide_eq_true (show (1 : Int) ≤ z.length by omega), decide_eq_true (show (z.length : Int) ≤ 4 by omega)]; rfl
theorem NameS.big {z : Str} (h : NameS z) : z.length ≤ Dn.big := by
  obtain ⟨_, h2, _⟩ := h
  unfold Dn.big; omega
theorem is_number_int (v a b : Int) (st : Sta) : F_is_number [.int v, .int a, .int b] st = some (.ok (.bl (decide (a ≤ v) && decide (v ≤ b))), st) := by
  refine run_ret rfl ?_
  unfold d_is_number
  simp only [gd, runD, callP, kwF, pick, rtP, sqP, asP, parP, nxP, ifP, andV, orV, notV, andT, orT, notT, truP, tstP, truD, isiP, isisP, isTys, isNP, notNP, isNon, varP, chP, cstP, bltP, binP, consP, nilP, lstP, tupP, lcP, itP, rng1P, rng2P, slP, noP, soP, intOf, negP, sosP, bd_ok, List.map, List.replicate, List.length_cons, List.length_nil, List.cons_append, List.nil_append, List.append_nil, List.getElem?_cons_zero, List.getElem?_cons_succ, List.filterMap, List.set, omap_some, obind_some, isTy, blOf, if_t, if_f, lenF, leD_i, leD_s, ltD_i, ltD_s, gtD_i, geD_i, addD_i, subD_i, mulD_i, itemsD, wipeD, Tgt.put, setAll, outR, lb0, lb1, lb2, lb3, lb4, lb5, lb6, lb7, lb8, lb9, lb10, lb11, lb12, allF, listF, tupleF, intF, eq_self_iff_true, if_true, if_false, decide_true, decide_false, Bool.true_and, Bool.false_and, Bool.and_true, Bool.and_false, Bool.not_true, Bool.not_false, Nat.sub_self, Nat.reduceAdd, Nat.reduceSub, Nat.reduceEqDiff]
  cases decide (a ≤ v) <;> simp only [gd, runD, callP, kwF, pick, rtP, sqP, asP, parP, nxP, ifP, andV, orV, notV, andT, orT, notT, truP, tstP, truD, isiP, isisP, isTys, isNP, notNP, isNon, varP, chP, cstP, bltP, binP, consP, nilP, lstP, tupP, lcP, itP, rng1P, rng2P, slP, noP, soP, intOf, negP, sosP, bd_ok, List.map, List.replicate, List.length_cons, List.length_nil, List.cons_append, List.nil_append, List.append_nil, List.getElem?_cons_zero, List.getElem?_cons_succ, List.filterMap, List.set, omap_some, obind_some, isTy, blOf, if_t, if_f, lenF, leD_i, leD_s, ltD_i, ltD_s, gtD_i, geD_i, addD_i, subD_i, mulD_i, itemsD, wipeD, Tgt.put, setAll, outR, lb0, lb1, lb2, lb3, lb4, lb5, lb6, lb7, lb8, lb9, lb10, lb11, lb12, allF, listF, tupleF, intF, eq_self_iff_true, if_true, if_false, decide_true, decide_false, Bool.true_and, Bool.false_and, Bool.and_true, Bool.and_false, Bool.not_true, Bool.not_false, Nat.sub_self, Nat.reduceAdd, Nat.reduceSub, Nat.reduceEqDiff]
theorem is_number_ok {v a b : Int} (st : Sta) (h1 : a ≤ v) (h2 : v ≤ b) : F_is_number [.int v, .int a, .int b] st = some (.ok (.bl true), st) := by
  rw [is_number_int, decide_eq_true h1, decide_eq_true h2]; rfl
theorem rngN' (n : Nat) (h : n ≤ 1000000) : rng1F [.int n] = some ((List.range n).map fun k => .int (k : Nat)) := by
  have e : rng1F [.int n] = some (rngD 0 n) := if_pos ⟨by unfold mil; omega, by unfold mil; omega⟩
  rw [e]
  unfold rngD
  rw [Int.sub_zero, Int.toNat_natCast]
  simp
theorem single_bits_ok {n i : Nat} (h : i < 2 ^ n) (hn : n ≤ 1000) (st : Sta) : F_single_bits [.int i] st = some (.ok (.lst ((Mr.bitsIn n i).map fun b => .int (2 ^ b : Nat))), st) := by
  have hb := bits_le h
  have hlt := bits_lt i
  generalize eb : Builtin.Int.intBits (i : Int) = b at hb hlt
  have lc := lc_filt (t := .one 1) (tt := truP (binP andD (binP (intD shrI) (varP 0) (varP 1)) (cstP (.int 1)))) (te := binP (intD shlI) (cstP (.int 1)) (varP 1)) (Δ := [some (.int i), none]) (st := st) (fun k : Nat => D.int k) (fun k => i.testBit k) (fun k => .int (2 ^ k : Nat)) (List.range b) [] (fun k hk => by
    have hk' : k < b := List.mem_range.mp hk
    refine ⟨_, rfl, ?_, fun _ => ?_⟩
    · simp only [gd, runD, callP, kwF, pick, rtP, sqP, asP, parP, nxP, ifP, andV, orV, notV, andT, orT, notT, truP, tstP, truD, isiP, isisP, isTys, isNP, notNP, isNon, varP, chP, cstP, bltP, binP, consP, nilP, lstP, tupP, lcP, itP, rng1P, rng2P, slP, noP, soP, intOf, negP, sosP, bd_ok, List.map, List.replicate, List.length_cons, List.length_nil, List.cons_append, List.nil_append, List.append_nil, List.getElem?_cons_zero, List.getElem?_cons_succ, List.filterMap, List.set, omap_some, obind_some, isTy, blOf, if_t, if_f, lenF, leD_i, leD_s, ltD_i, ltD_s, gtD_i, geD_i, addD_i, subD_i, mulD_i, itemsD, wipeD, Tgt.put, setAll, outR, lb0, lb1, lb2, lb3, lb4, lb5, lb6, lb7, lb8, lb9, lb10, lb11, lb12, allF, listF, tupleF, intF, eq_self_iff_true, if_true, if_false, decide_true, decide_false, Bool.true_and, Bool.false_and, Bool.and_true, Bool.and_false, Bool.not_true, Bool.not_false, Nat.sub_self, Nat.reduceAdd, Nat.reduceSub, Nat.reduceEqDiff, shrD_n, and1, test_and]
    · simp only [gd, runD, callP, kwF, pick, rtP, sqP, asP, parP, nxP, ifP, andV, orV, notV, andT, orT, notT, truP, tstP, truD, isiP, isisP, isTys, isNP, notNP, isNon, varP, chP, cstP, bltP, binP, consP, nilP, lstP, tupP, lcP, itP, rng1P, rng2P, slP, noP, soP, intOf, negP, sosP, bd_ok, List.map, List.replicate, List.length_cons, List.length_nil, List.cons_append, List.nil_append, List.append_nil, List.getElem?_cons_zero, List.getElem?_cons_succ, List.filterMap, List.set, omap_some, obind_some, isTy, blOf, if_t, if_f, lenF, leD_i, leD_s, ltD_i, ltD_s, gtD_i, geD_i, addD_i, subD_i, mulD_i, itemsD, wipeD, Tgt.put, setAll, outR, lb0, lb1, lb2, lb3, lb4, lb5, lb6, lb7, lb8, lb9, lb10, lb11, lb12, allF, listF, tupleF, intF, eq_self_iff_true, if_true, if_false, decide_true, decide_false, Bool.true_and, Bool.false_and, Bool.and_true, Bool.and_false, Bool.not_true, Bool.not_false, Nat.sub_self, Nat.reduceAdd, Nat.reduceSub, Nat.reduceEqDiff, shlD_n k (by omega)]) (by rw [List.length_nil, List.length_range]; unfold big; omega)
  rw [List.nil_append] at lc
  have e : (List.range b).filter (fun k => i.testBit k) = Mr.bitsIn n i := by
    have := Mr.bitsIn_more hlt (n - b)
    rw [show b + (n - b) = n by omega] at this
    exact this.symm
  rw [e] at lc
  refine run_ret rfl ?_
  unfold d_single_bits
  simp only [gd, runD, callP, kwF, pick, rtP, sqP, asP, parP, nxP, ifP, andV, orV, notV, andT, orT, notT, truP, tstP, truD, isiP, isisP, isTys, isNP, notNP, isNon, varP, chP, cstP, bltP, binP, consP, nilP, lstP, tupP, lcP, itP, rng1P, rng2P, slP, noP, soP, intOf, negP, sosP, bd_ok, List.map, List.replicate, List.length_cons, List.length_nil, List.cons_append, List.nil_append, List.append_nil, List.getElem?_cons_zero, List.getElem?_cons_succ, List.filterMap, List.set, omap_some, obind_some, isTy, blOf, if_t, if_f, lenF, leD_i, leD_s, ltD_i, ltD_s, gtD_i, geD_i, addD_i, subD_i, mulD_i, itemsD, wipeD, Tgt.put, setAll, outR, lb0, lb1, lb2, lb3, lb4, lb5, lb6, lb7, lb8, lb9, lb10, lb11, lb12, allF, listF, tupleF, intF, eq_self_iff_true, if_true, if_false, decide_true, decide_false, Bool.true_and, Bool.false_and, Bool.and_true, Bool.and_false, Bool.not_true, Bool.not_false, Nat.sub_self, Nat.reduceAdd, Nat.reduceSub, Nat.reduceEqDiff, bitsP, eb, rngN' b (by omega), lc]
def tabI (n : Nat) (t : Nat → Int) : List D := (List.range (2 ^ n)).map fun i => D.int (t i)
structure TabD (T : D) (n : Nat) (t : Nat → Int) : Prop where
  ix : ∀ i, i < 2 ^ n → ixD T (.int (i : Nat)) = some (.int (t i))
  len : lenF [T] = some (.int (2 ^ n : Nat))
  isT : isTys T [.lst, .tup] = some true
  tup : tupleF [T] = some (.tup (tabI n t))
theorem tabI_len (n : Nat) (t : Nat → Int) : (tabI n t).length = 2 ^ n := by unfold tabI; rw [List.length_map, List.length_range]
theorem tabI_at {n i : Nat} {t : Nat → Int} (h : i < 2 ^ n) : atI (tabI n t) (i : Nat) = some (.int (t i)) := by
  unfold atI ixN
  rw [tabI_len, if_pos (by omega), if_pos (by omega), obind_some, Int.toNat_natCast]
  unfold tabI
  rw [List.getElem?_map, List.getElem?_range h]; rfl
theorem tabD_lst (n : Nat) (t : Nat → Int) : TabD (.lst (tabI n t)) n t :=
  ⟨fun i h => tabI_at h, by show some (D.int ((tabI n t).length : Nat)) = _; rw [tabI_len], rfl, rfl⟩
theorem tabD_tup (n : Nat) (t : Nat → Int) : TabD (.tup (tabI n t)) n t :=
  ⟨fun i h => tabI_at h, by show some (D.int ((tabI n t).length : Nat)) = _; rw [tabI_len], rfl, rfl⟩
theorem in_pair (x a b : Int) : inD (.int x) (.tup [.int a, .int b]) = some (.bl ((a == x) || (b == x))) := by
  show some (D.bl (inV (.int x) [.int a, .int b])) = _
  unfold inV
  simp only [List.any_cons, List.any_nil, eqV, Bool.or_false]
theorem fits_ok {T : D} {n : Nat} {r : Nat → Nat} (hT : TabD T n fun i => (r i : Int)) (hr : Mr.Rk n r) (hn : n ≤ 12) {i : Nat} (hi : i < 2 ^ n) (st : Sta) : F_fits [T, .int i] st = some (.ok (.bl true), st) := by
  have hle := hr.le i hi
  have ixb : ∀ b ∈ Mr.bitsIn n i, b < n ∧ i.testBit b = true := fun b hb => ⟨List.mem_range.mp (List.mem_filter.mp hb).1, (List.mem_filter.mp hb).2⟩
  refine run_ret rfl ?_
  unfold d_fits
  (apply sq_step; focus (simp only [gd, runD, callP, kwF, pick, rtP, sqP, asP, parP, nxP, ifP, andV, orV, notV, andT, orT, notT, truP, tstP, truD, isiP, isisP, isTys, isNP, notNP, isNon, varP, chP, cstP, bltP, binP, consP, nilP, lstP, tupP, lcP, itP, rng1P, rng2P, slP, noP, soP, intOf, negP, sosP, bd_ok, List.map, List.replicate, List.length_cons, List.length_nil, List.cons_append, List.nil_append, List.append_nil, List.getElem?_cons_zero, List.getElem?_cons_succ, List.filterMap, List.set, omap_some, obind_some, isTy, blOf, if_t, if_f, lenF, leD_i, leD_s, ltD_i, ltD_s, gtD_i, geD_i, addD_i, subD_i, mulD_i, itemsD, wipeD, Tgt.put, setAll, outR, lb0, lb1, lb2, lb3, lb4, lb5, lb6, lb7, lb8, lb9, lb10, lb11, lb12, allF, listF, tupleF, intF, eq_self_iff_true, if_true, if_false, decide_true, decide_false, Bool.true_and, Bool.false_and, Bool.and_true, Bool.and_false, Bool.not_true, Bool.not_false, Nat.sub_self, Nat.reduceAdd, Nat.reduceSub, Nat.reduceEqDiff, hT.ix i hi]; first | done | rfl))
  refine sq_step (if_ff (st1 := st) (by simp only [gd, runD, callP, kwF, pick, rtP, sqP, asP, parP, nxP, ifP, andV, orV, notV, andT, orT, notT, truP, tstP, truD, isiP, isisP, isTys, isNP, notNP, isNon, varP, chP, cstP, bltP, binP, consP, nilP, lstP, tupP, lcP, itP, rng1P, rng2P, slP, noP, soP, intOf, negP, sosP, bd_ok, List.map, List.replicate, List.length_cons, List.length_nil, List.cons_append, List.nil_append, List.append_nil, List.getElem?_cons_zero, List.getElem?_cons_succ, List.filterMap, List.set, omap_some, obind_some, isTy, blOf, if_t, if_f, lenF, leD_i, leD_s, ltD_i, ltD_s, gtD_i, geD_i, addD_i, subD_i, mulD_i, itemsD, wipeD, Tgt.put, setAll, outR, lb0, lb1, lb2, lb3, lb4, lb5, lb6, lb7, lb8, lb9, lb10, lb11, lb12, allF, listF, tupleF, intF, eq_self_iff_true, if_true, if_false, decide_true, decide_false, Bool.true_and, Bool.false_and, Bool.and_true, Bool.and_false, Bool.not_true, Bool.not_false, Nat.sub_self, Nat.reduceAdd, Nat.reduceSub, Nat.reduceEqDiff, is_number_ok (v := (r i : Int)) (a := 0) (b := 12) st (by omega) (by omega)]) rfl) ?_
  by_cases h0 : i = 0
  · subst h0
    refine sq_ret (if_tt (st1 := st) (by simp only [gd, runD, callP, kwF, pick, rtP, sqP, asP, parP, nxP, ifP, andV, orV, notV, andT, orT, notT, truP, tstP, truD, isiP, isisP, isTys, isNP, notNP, isNon, varP, chP, cstP, bltP, binP, consP, nilP, lstP, tupP, lcP, itP, rng1P, rng2P, slP, noP, soP, intOf, negP, sosP, bd_ok, List.map, List.replicate, List.length_cons, List.length_nil, List.cons_append, List.nil_append, List.append_nil, List.getElem?_cons_zero, List.getElem?_cons_succ, List.filterMap, List.set, omap_some, obind_some, isTy, blOf, if_t, if_f, lenF, leD_i, leD_s, ltD_i, ltD_s, gtD_i, geD_i, addD_i, subD_i, mulD_i, itemsD, wipeD, Tgt.put, setAll, outR, lb0, lb1, lb2, lb3, lb4, lb5, lb6, lb7, lb8, lb9, lb10, lb11, lb12, allF, listF, tupleF, intF, eq_self_iff_true, if_true, if_false, decide_true, decide_false, Bool.true_and, Bool.false_and, Bool.and_true, Bool.and_false, Bool.not_true, Bool.not_false, Nat.sub_self, Nat.reduceAdd, Nat.reduceSub, Nat.reduceEqDiff, eqD_i]; rfl) ?_)
    simp only [gd, runD, callP, kwF, pick, rtP, sqP, asP, parP, nxP, ifP, andV, orV, notV, andT, orT, notT, truP, tstP, truD, isiP, isisP, isTys, isNP, notNP, isNon, varP, chP, cstP, bltP, binP, consP, nilP, lstP, tupP, lcP, itP, rng1P, rng2P, slP, noP, soP, intOf, negP, sosP, bd_ok, List.map, List.replicate, List.length_cons, List.length_nil, List.cons_append, List.nil_append, List.append_nil, List.getElem?_cons_zero, List.getElem?_cons_succ, List.filterMap, List.set, omap_some, obind_some, isTy, blOf, if_t, if_f, lenF, leD_i, leD_s, ltD_i, ltD_s, gtD_i, geD_i, addD_i, subD_i, mulD_i, itemsD, wipeD, Tgt.put, setAll, outR, lb0, lb1, lb2, lb3, lb4, lb5, lb6, lb7, lb8, lb9, lb10, lb11, lb12, allF, listF, tupleF, intF, eq_self_iff_true, if_true, if_false, decide_true, decide_false, Bool.true_and, Bool.false_and, Bool.and_true, Bool.and_false, Bool.not_true, Bool.not_false, Nat.sub_self, Nat.reduceAdd, Nat.reduceSub, Nat.reduceEqDiff, eqD_i]
    rw [hr.zero]; rfl
  · have e0 : ((i : Int) == 0) = false := by simp [h0]
    refine sq_step (if_ff (st1 := st) (by simp only [gd, runD, callP, kwF, pick, rtP, sqP, asP, parP, nxP, ifP, andV, orV, notV, andT, orT, notT, truP, tstP, truD, isiP, isisP, isTys, isNP, notNP, isNon, varP, chP, cstP, bltP, binP, consP, nilP, lstP, tupP, lcP, itP, rng1P, rng2P, slP, noP, soP, intOf, negP, sosP, bd_ok, List.map, List.replicate, List.length_cons, List.length_nil, List.cons_append, List.nil_append, List.append_nil, List.getElem?_cons_zero, List.getElem?_cons_succ, List.filterMap, List.set, omap_some, obind_some, isTy, blOf, if_t, if_f, lenF, leD_i, leD_s, ltD_i, ltD_s, gtD_i, geD_i, addD_i, subD_i, mulD_i, itemsD, wipeD, Tgt.put, setAll, outR, lb0, lb1, lb2, lb3, lb4, lb5, lb6, lb7, lb8, lb9, lb10, lb11, lb12, allF, listF, tupleF, intF, eq_self_iff_true, if_true, if_false, decide_true, decide_false, Bool.true_and, Bool.false_and, Bool.and_true, Bool.and_false, Bool.not_true, Bool.not_false, Nat.sub_self, Nat.reduceAdd, Nat.reduceSub, Nat.reduceEqDiff, eqD_i, e0]) rfl) ?_
    (apply sq_step; focus (simp only [gd, runD, callP, kwF, pick, rtP, sqP, asP, parP, nxP, ifP, andV, orV, notV, andT, orT, notT, truP, tstP, truD, isiP, isisP, isTys, isNP, notNP, isNon, varP, chP, cstP, bltP, binP, consP, nilP, lstP, tupP, lcP, itP, rng1P, rng2P, slP, noP, soP, intOf, negP, sosP, bd_ok, List.map, List.replicate, List.length_cons, List.length_nil, List.cons_append, List.nil_append, List.append_nil, List.getElem?_cons_zero, List.getElem?_cons_succ, List.filterMap, List.set, omap_some, obind_some, isTy, blOf, if_t, if_f, lenF, leD_i, leD_s, ltD_i, ltD_s, gtD_i, geD_i, addD_i, subD_i, mulD_i, itemsD, wipeD, Tgt.put, setAll, outR, lb0, lb1, lb2, lb3, lb4, lb5, lb6, lb7, lb8, lb9, lb10, lb11, lb12, allF, listF, tupleF, intF, eq_self_iff_true, if_true, if_false, decide_true, decide_false, Bool.true_and, Bool.false_and, Bool.and_true, Bool.and_false, Bool.not_true, Bool.not_false, Nat.sub_self, Nat.reduceAdd, Nat.reduceSub, Nat.reduceEqDiff, single_bits_ok hi (by omega) st]; first | done | rfl))
    generalize hΔ : ([some T, some (.int i), some (.int (r i : Int)), some (.lst ((Mr.bitsIn n i).map fun b => .int (2 ^ b : Nat))), none, none, none, none] : Dl) = Δ0
    have nb : (Mr.bitsIn n i).length ≤ 12 := Nat.le_trans (Nat.le_trans (List.length_filter_le _ _) (by rw [List.length_range]; exact Nat.le_refl _)) hn
    have lc := lc_map (t := .one 5) (te := binP inD (binP ixD (varP 0) (binP xorD (varP 1) (varP 5))) (tupP (consP (binP subD (varP 2) (cstP (.int 1))) (consP (varP 2) nilP)))) (Δ := Δ0) (st := st) (fun b : Nat => D.int (2 ^ b : Nat)) (fun _ => .bl true) (Mr.bitsIn n i) (fun b hb => by
      subst hΔ
      obtain ⟨hb1, hb2⟩ := ixb b hb
      refine ⟨_, rfl, ?_⟩
      simp only [gd, runD, callP, kwF, pick, rtP, sqP, asP, parP, nxP, ifP, andV, orV, notV, andT, orT, notT, truP, tstP, truD, isiP, isisP, isTys, isNP, notNP, isNon, varP, chP, cstP, bltP, binP, consP, nilP, lstP, tupP, lcP, itP, rng1P, rng2P, slP, noP, soP, intOf, negP, sosP, bd_ok, List.map, List.replicate, List.length_cons, List.length_nil, List.cons_append, List.nil_append, List.append_nil, List.getElem?_cons_zero, List.getElem?_cons_succ, List.filterMap, List.set, omap_some, obind_some, isTy, blOf, if_t, if_f, lenF, leD_i, leD_s, ltD_i, ltD_s, gtD_i, geD_i, addD_i, subD_i, mulD_i, itemsD, wipeD, Tgt.put, setAll, outR, lb0, lb1, lb2, lb3, lb4, lb5, lb6, lb7, lb8, lb9, lb10, lb11, lb12, allF, listF, tupleF, intF, eq_self_iff_true, if_true, if_false, decide_true, decide_false, Bool.true_and, Bool.false_and, Bool.and_true, Bool.and_false, Bool.not_true, Bool.not_false, Nat.sub_self, Nat.reduceAdd, Nat.reduceSub, Nat.reduceEqDiff, xorD_n, hT.ix _ (Mr.two_pow_xor hb1 hi), in_pair]
      rcases hr.one i b hi hb1 hb2 with h | h
      · rw [show ((r i : Int) == (r (i ^^^ 2 ^ b) : Int)) = true by simp [h], Bool.or_true]
      · rw [show ((r i : Int) - 1 == (r (i ^^^ 2 ^ b) : Int)) = true by simp; omega]; rfl) (by unfold big; omega)
    refine sq_step (if_ff (st1 := st) (by subst hΔ; simp only [gd, runD, callP, kwF, pick, rtP, sqP, asP, parP, nxP, ifP, andV, orV, notV, andT, orT, notT, truP, tstP, truD, isiP, isisP, isTys, isNP, notNP, isNon, varP, chP, cstP, bltP, binP, consP, nilP, lstP, tupP, lcP, itP, rng1P, rng2P, slP, noP, soP, intOf, negP, sosP, bd_ok, List.map, List.replicate, List.length_cons, List.length_nil, List.cons_append, List.nil_append, List.append_nil, List.getElem?_cons_zero, List.getElem?_cons_succ, List.filterMap, List.set, omap_some, obind_some, isTy, blOf, if_t, if_f, lenF, leD_i, leD_s, ltD_i, ltD_s, gtD_i, geD_i, addD_i, subD_i, mulD_i, itemsD, wipeD, Tgt.put, setAll, outR, lb0, lb1, lb2, lb3, lb4, lb5, lb6, lb7, lb8, lb9, lb10, lb11, lb12, allF, listF, tupleF, intF, eq_self_iff_true, if_true, if_false, decide_true, decide_false, Bool.true_and, Bool.false_and, Bool.and_true, Bool.and_false, Bool.not_true, Bool.not_false, Nat.sub_self, Nat.reduceAdd, Nat.reduceSub, Nat.reduceEqDiff, lc, blsT, all_rep]) rfl) ?_
    have lf := lc_filt (t := .one 5) (tt := tstP (binP eqD (binP ixD (varP 0) (binP xorD (varP 1) (varP 5))) (binP subD (varP 2) (cstP (.int 1))))) (te := varP 5) (Δ := Δ0) (st := st) (fun b : Nat => D.int (2 ^ b : Nat)) (fun b => (r (i ^^^ 2 ^ b) : Int) == (r i : Int) - 1) (fun b => .int (2 ^ b : Nat)) (Mr.bitsIn n i) [] (fun b hb => by
      subst hΔ
      obtain ⟨hb1, hb2⟩ := ixb b hb
      refine ⟨_, rfl, ?_, fun _ => ?_⟩
      · simp only [gd, runD, callP, kwF, pick, rtP, sqP, asP, parP, nxP, ifP, andV, orV, notV, andT, orT, notT, truP, tstP, truD, isiP, isisP, isTys, isNP, notNP, isNon, varP, chP, cstP, bltP, binP, consP, nilP, lstP, tupP, lcP, itP, rng1P, rng2P, slP, noP, soP, intOf, negP, sosP, bd_ok, List.map, List.replicate, List.length_cons, List.length_nil, List.cons_append, List.nil_append, List.append_nil, List.getElem?_cons_zero, List.getElem?_cons_succ, List.filterMap, List.set, omap_some, obind_some, isTy, blOf, if_t, if_f, lenF, leD_i, leD_s, ltD_i, ltD_s, gtD_i, geD_i, addD_i, subD_i, mulD_i, itemsD, wipeD, Tgt.put, setAll, outR, lb0, lb1, lb2, lb3, lb4, lb5, lb6, lb7, lb8, lb9, lb10, lb11, lb12, allF, listF, tupleF, intF, eq_self_iff_true, if_true, if_false, decide_true, decide_false, Bool.true_and, Bool.false_and, Bool.and_true, Bool.and_false, Bool.not_true, Bool.not_false, Nat.sub_self, Nat.reduceAdd, Nat.reduceSub, Nat.reduceEqDiff, xorD_n, hT.ix _ (Mr.two_pow_xor hb1 hi), eqD_i]
      · simp only [gd, runD, callP, kwF, pick, rtP, sqP, asP, parP, nxP, ifP, andV, orV, notV, andT, orT, notT, truP, tstP, truD, isiP, isisP, isTys, isNP, notNP, isNon, varP, chP, cstP, bltP, binP, consP, nilP, lstP, tupP, lcP, itP, rng1P, rng2P, slP, noP, soP, intOf, negP, sosP, bd_ok, List.map, List.replicate, List.length_cons, List.length_nil, List.cons_append, List.nil_append, List.append_nil, List.getElem?_cons_zero, List.getElem?_cons_succ, List.filterMap, List.set, omap_some, obind_some, isTy, blOf, if_t, if_f, lenF, leD_i, leD_s, ltD_i, ltD_s, gtD_i, geD_i, addD_i, subD_i, mulD_i, itemsD, wipeD, Tgt.put, setAll, outR, lb0, lb1, lb2, lb3, lb4, lb5, lb6, lb7, lb8, lb9, lb10, lb11, lb12, allF, listF, tupleF, intF, eq_self_iff_true, if_true, if_false, decide_true, decide_false, Bool.true_and, Bool.false_and, Bool.and_true, Bool.and_false, Bool.not_true, Bool.not_false, Nat.sub_self, Nat.reduceAdd, Nat.reduceSub, Nat.reduceEqDiff]) (by rw [List.length_nil]; unfold big; omega)
    rw [List.nil_append] at lf
    subst hΔ
    (apply sq_step; focus (simp only [gd, runD, callP, kwF, pick, rtP, sqP, asP, parP, nxP, ifP, andV, orV, notV, andT, orT, notT, truP, tstP, truD, isiP, isisP, isTys, isNP, notNP, isNon, varP, chP, cstP, bltP, binP, consP, nilP, lstP, tupP, lcP, itP, rng1P, rng2P, slP, noP, soP, intOf, negP, sosP, bd_ok, List.map, List.replicate, List.length_cons, List.length_nil, List.cons_append, List.nil_append, List.append_nil, List.getElem?_cons_zero, List.getElem?_cons_succ, List.filterMap, List.set, omap_some, obind_some, isTy, blOf, if_t, if_f, lenF, leD_i, leD_s, ltD_i, ltD_s, gtD_i, geD_i, addD_i, subD_i, mulD_i, itemsD, wipeD, Tgt.put, setAll, outR, lb0, lb1, lb2, lb3, lb4, lb5, lb6, lb7, lb8, lb9, lb10, lb11, lb12, allF, listF, tupleF, intF, eq_self_iff_true, if_true, if_false, decide_true, decide_false, Bool.true_and, Bool.false_and, Bool.and_true, Bool.and_false, Bool.not_true, Bool.not_false, Nat.sub_self, Nat.reduceAdd, Nat.reduceSub, Nat.reduceEqDiff, lf]; first | done | rfl))
    generalize hA : (Mr.bitsIn n i).filter (fun b => (r (i ^^^ 2 ^ b) : Int) == (r i : Int) - 1) = A
    have hAm : ∀ b ∈ A, b < n ∧ i.testBit b = true ∧ r (i ^^^ 2 ^ b) + 1 = r i := fun b hb => by
      rw [← hA] at hb
      obtain ⟨m1, m2⟩ := List.mem_filter.mp hb
      obtain ⟨hb1, hb2⟩ := ixb b m1
      refine ⟨hb1, hb2, ?_⟩
      have : (r (i ^^^ 2 ^ b) : Int) = (r i : Int) - 1 := by simpa using m2
      omega
    have nA : A.length ≤ 12 := by rw [← hA]; exact Nat.le_trans (List.length_filter_le _ _) nb
    generalize hΔ : ([some T, some (.int i), some (.int (r i : Int)), some (.lst ((Mr.bitsIn n i).map fun b => .int (2 ^ b : Nat))), some (.lst (A.map fun b => .int (2 ^ b : Nat))), none, none, none] : Dl) = Δ1
    have lt := lc_two (t := .one 6) (t1 := .one 7) (tt1 := tstP (binP ltD (varP 6) (varP 7))) (ti1 := itP (varP 4)) (te := binP eqD (binP ixD (varP 0) (binP xorD (binP xorD (varP 1) (varP 6)) (varP 7))) (binP subD (varP 2) (cstP (.int 2)))) (vs1 := [7]) (Δ := Δ1) (st := st)
      (fun b : Nat => D.int (2 ^ b : Nat)) (fun b : Nat => D.int (2 ^ b : Nat)) A (fun b d => decide (((2 ^ b : Nat) : Int) < ((2 ^ d : Nat) : Int))) (fun _ _ => .bl true) A [] (fun b hb => by
      subst hΔ
      refine ⟨_, rfl, by simp only [gd, runD, callP, kwF, pick, rtP, sqP, asP, parP, nxP, ifP, andV, orV, notV, andT, orT, notT, truP, tstP, truD, isiP, isisP, isTys, isNP, notNP, isNon, varP, chP, cstP, bltP, binP, consP, nilP, lstP, tupP, lcP, itP, rng1P, rng2P, slP, noP, soP, intOf, negP, sosP, bd_ok, List.map, List.replicate, List.length_cons, List.length_nil, List.cons_append, List.nil_append, List.append_nil, List.getElem?_cons_zero, List.getElem?_cons_succ, List.filterMap, List.set, omap_some, obind_some, isTy, blOf, if_t, if_f, lenF, leD_i, leD_s, ltD_i, ltD_s, gtD_i, geD_i, addD_i, subD_i, mulD_i, itemsD, wipeD, Tgt.put, setAll, outR, lb0, lb1, lb2, lb3, lb4, lb5, lb6, lb7, lb8, lb9, lb10, lb11, lb12, allF, listF, tupleF, intF, eq_self_iff_true, if_true, if_false, decide_true, decide_false, Bool.true_and, Bool.false_and, Bool.and_true, Bool.and_false, Bool.not_true, Bool.not_false, Nat.sub_self, Nat.reduceAdd, Nat.reduceSub, Nat.reduceEqDiff], fun d hd => ⟨_, rfl, by simp only [gd, runD, callP, kwF, pick, rtP, sqP, asP, parP, nxP, ifP, andV, orV, notV, andT, orT, notT, truP, tstP, truD, isiP, isisP, isTys, isNP, notNP, isNon, varP, chP, cstP, bltP, binP, consP, nilP, lstP, tupP, lcP, itP, rng1P, rng2P, slP, noP, soP, intOf, negP, sosP, bd_ok, List.map, List.replicate, List.length_cons, List.length_nil, List.cons_append, List.nil_append, List.append_nil, List.getElem?_cons_zero, List.getElem?_cons_succ, List.filterMap, List.set, omap_some, obind_some, isTy, blOf, if_t, if_f, lenF, leD_i, leD_s, ltD_i, ltD_s, gtD_i, geD_i, addD_i, subD_i, mulD_i, itemsD, wipeD, Tgt.put, setAll, outR, lb0, lb1, lb2, lb3, lb4, lb5, lb6, lb7, lb8, lb9, lb10, lb11, lb12, allF, listF, tupleF, intF, eq_self_iff_true, if_true, if_false, decide_true, decide_false, Bool.true_and, Bool.false_and, Bool.and_true, Bool.and_false, Bool.not_true, Bool.not_false, Nat.sub_self, Nat.reduceAdd, Nat.reduceSub, Nat.reduceEqDiff], fun hlt => ?_⟩⟩
      obtain ⟨b1, b2, b3⟩ := hAm b hb
      obtain ⟨d1, d2, d3⟩ := hAm d hd
      have ne : b ≠ d := fun e => by subst e; simp at hlt
      have tw := hr.two i b d hi b1 d1 ne b2 d2 b3 d3
      simp only [gd, runD, callP, kwF, pick, rtP, sqP, asP, parP, nxP, ifP, andV, orV, notV, andT, orT, notT, truP, tstP, truD, isiP, isisP, isTys, isNP, notNP, isNon, varP, chP, cstP, bltP, binP, consP, nilP, lstP, tupP, lcP, itP, rng1P, rng2P, slP, noP, soP, intOf, negP, sosP, bd_ok, List.map, List.replicate, List.length_cons, List.length_nil, List.cons_append, List.nil_append, List.append_nil, List.getElem?_cons_zero, List.getElem?_cons_succ, List.filterMap, List.set, omap_some, obind_some, isTy, blOf, if_t, if_f, lenF, leD_i, leD_s, ltD_i, ltD_s, gtD_i, geD_i, addD_i, subD_i, mulD_i, itemsD, wipeD, Tgt.put, setAll, outR, lb0, lb1, lb2, lb3, lb4, lb5, lb6, lb7, lb8, lb9, lb10, lb11, lb12, allF, listF, tupleF, intF, eq_self_iff_true, if_true, if_false, decide_true, decide_false, Bool.true_and, Bool.false_and, Bool.and_true, Bool.and_false, Bool.not_true, Bool.not_false, Nat.sub_self, Nat.reduceAdd, Nat.reduceSub, Nat.reduceEqDiff, xorD_n, hT.ix _ (Mr.two_pow_xor d1 (Mr.two_pow_xor b1 hi)), eqD_i]
      rw [show ((r (i ^^^ 2 ^ b ^^^ 2 ^ d) : Int) == (r i : Int) - 2) = true by simp; omega]) (by rw [List.length_nil]; have : A.length * A.length ≤ 12 * 12 := Nat.mul_le_mul nA nA; unfold big; omega)
    rw [List.nil_append] at lt
    have e : (A.flatMap fun x => (A.filter fun d => decide (((2 ^ x : Nat) : Int) < ((2 ^ d : Nat) : Int))).map fun _ => D.bl true) = (A.flatMap fun x => (A.filter fun d => decide (((2 ^ x : Nat) : Int) < ((2 ^ d : Nat) : Int)))).map fun _ => D.bl true := by
      rw [List.map_flatMap]
    rw [e] at lt
    subst hΔ
    simp only [gd, runD, callP, kwF, pick, rtP, sqP, asP, parP, nxP, ifP, andV, orV, notV, andT, orT, notT, truP, tstP, truD, isiP, isisP, isTys, isNP, notNP, isNon, varP, chP, cstP, bltP, binP, consP, nilP, lstP, tupP, lcP, itP, rng1P, rng2P, slP, noP, soP, intOf, negP, sosP, bd_ok, List.map, List.replicate, List.length_cons, List.length_nil, List.cons_append, List.nil_append, List.append_nil, List.getElem?_cons_zero, List.getElem?_cons_succ, List.filterMap, List.set, omap_some, obind_some, isTy, blOf, if_t, if_f, lenF, leD_i, leD_s, ltD_i, ltD_s, gtD_i, geD_i, addD_i, subD_i, mulD_i, itemsD, wipeD, Tgt.put, setAll, outR, lb0, lb1, lb2, lb3, lb4, lb5, lb6, lb7, lb8, lb9, lb10, lb11, lb12, allF, listF, tupleF, intF, eq_self_iff_true, if_true, if_false, decide_true, decide_false, Bool.true_and, Bool.false_and, Bool.and_true, Bool.and_false, Bool.not_true, Bool.not_false, Nat.sub_self, Nat.reduceAdd, Nat.reduceSub, Nat.reduceEqDiff, lc2P, lt, blsT, all_rep]
def IsTab (T : D) (n : Nat) (t : Nat → Int) : Prop := T = .lst (tabI n t) ∨ T = .tup (tabI n t)
theorem IsTab.tabD {T : D} {n : Nat} {t : Nat → Int} (h : IsTab T n t) : TabD T n t := by
  rcases h with rfl | rfl
  · exact tabD_lst n t
  · exact tabD_tup n t
theorem check_table_ok (C : Nat → Addr) {T : D} {n : Nat} {r : Nat → Nat} (hT : IsTab T n fun i => (r i : Int)) (hr : Mr.Rk n r) (hn : n ≤ 12) (st : Sta) : F_check_table C [T, .int n] st = some (.ok .non, st) := by
  have hp : 2 ^ n ≤ 2 ^ 12 := Nat.pow_le_pow_right (by decide) hn
  obtain ⟨Δ', lp, _⟩ := fo_pure (g := .one 2) (tb := ifP (notT (truP (callP F_fits (consP (varP 0) (consP (varP 2) nilP))))) (raiseP (C 24) ["at"] "InvalidTable" (consP (varP 2) nilP)) nxP) (fun i : Nat => D.int i) (List.range (2 ^ n)) (fun Δ => ∃ x, Δ = [some T, some (.int n), x]) [some T, some (.int n), none] st ⟨_, rfl⟩ (fun i hi Δ ⟨x, e⟩ => by
    subst e
    have hi' := List.mem_range.mp hi
    refine ⟨_, rfl, if_ff (st1 := st) (by simp only [gd, runD, callP, kwF, pick, rtP, sqP, asP, parP, nxP, ifP, andV, orV, notV, andT, orT, notT, truP, tstP, truD, isiP, isisP, isTys, isNP, notNP, isNon, varP, chP, cstP, bltP, binP, consP, nilP, lstP, tupP, lcP, itP, rng1P, rng2P, slP, noP, soP, intOf, negP, sosP, bd_ok, List.map, List.replicate, List.length_cons, List.length_nil, List.cons_append, List.nil_append, List.append_nil, List.getElem?_cons_zero, List.getElem?_cons_succ, List.filterMap, List.set, omap_some, obind_some, isTy, blOf, if_t, if_f, lenF, leD_i, leD_s, ltD_i, ltD_s, gtD_i, geD_i, addD_i, subD_i, mulD_i, itemsD, wipeD, Tgt.put, setAll, outR, lb0, lb1, lb2, lb3, lb4, lb5, lb6, lb7, lb8, lb9, lb10, lb11, lb12, allF, listF, tupleF, intF, eq_self_iff_true, if_true, if_false, decide_true, decide_false, Bool.true_and, Bool.false_and, Bool.and_true, Bool.and_false, Bool.not_true, Bool.not_false, Nat.sub_self, Nat.reduceAdd, Nat.reduceSub, Nat.reduceEqDiff, fits_ok hT.tabD hr hn hi' st]) rfl, ⟨_, rfl⟩⟩)
  have rg := rngN' (2 ^ n) (by omega)
  refine run_nx (Δ := Δ') rfl ?_
  show d_check_table C [some T, some (.int n), none] st = _
  unfold d_check_table
  have ne : neD (.int (2 ^ n : Nat)) (.int (2 ^ n : Nat)) = some (.bl false) := by show some (D.bl (!((2 ^ n : Nat) : Int) == ((2 ^ n : Nat) : Int))) = _; simp
  rcases hT with rfl | rfl
  · refine sq_step (if_ff (st1 := st) (by simp only [gd, runD, callP, kwF, pick, rtP, sqP, asP, parP, nxP, ifP, andV, orV, notV, andT, orT, notT, truP, tstP, truD, isiP, isisP, isTys, isNP, notNP, isNon, varP, chP, cstP, bltP, binP, consP, nilP, lstP, tupP, lcP, itP, rng1P, rng2P, slP, noP, soP, intOf, negP, sosP, bd_ok, List.map, List.replicate, List.length_cons, List.length_nil, List.cons_append, List.nil_append, List.append_nil, List.getElem?_cons_zero, List.getElem?_cons_succ, List.filterMap, List.set, omap_some, obind_some, isTy, blOf, if_t, if_f, lenF, leD_i, leD_s, ltD_i, ltD_s, gtD_i, geD_i, addD_i, subD_i, mulD_i, itemsD, wipeD, Tgt.put, setAll, outR, lb0, lb1, lb2, lb3, lb4, lb5, lb6, lb7, lb8, lb9, lb10, lb11, lb12, allF, listF, tupleF, intF, eq_self_iff_true, if_true, if_false, decide_true, decide_false, Bool.true_and, Bool.false_and, Bool.and_true, Bool.and_false, Bool.not_true, Bool.not_false, Nat.sub_self, Nat.reduceAdd, Nat.reduceSub, Nat.reduceEqDiff, shlD_n n (by omega), tabI_len, ne]) rfl) ?_
    simp only [gd, runD, callP, kwF, pick, rtP, sqP, asP, parP, nxP, ifP, andV, orV, notV, andT, orT, notT, truP, tstP, truD, isiP, isisP, isTys, isNP, notNP, isNon, varP, chP, cstP, bltP, binP, consP, nilP, lstP, tupP, lcP, itP, rng1P, rng2P, slP, noP, soP, intOf, negP, sosP, bd_ok, List.map, List.replicate, List.length_cons, List.length_nil, List.cons_append, List.nil_append, List.append_nil, List.getElem?_cons_zero, List.getElem?_cons_succ, List.filterMap, List.set, omap_some, obind_some, isTy, blOf, if_t, if_f, lenF, leD_i, leD_s, ltD_i, ltD_s, gtD_i, geD_i, addD_i, subD_i, mulD_i, itemsD, wipeD, Tgt.put, setAll, outR, lb0, lb1, lb2, lb3, lb4, lb5, lb6, lb7, lb8, lb9, lb10, lb11, lb12, allF, listF, tupleF, intF, eq_self_iff_true, if_true, if_false, decide_true, decide_false, Bool.true_and, Bool.false_and, Bool.and_true, Bool.and_false, Bool.not_true, Bool.not_false, Nat.sub_self, Nat.reduceAdd, Nat.reduceSub, Nat.reduceEqDiff, foP, tabI_len, rg]
    exact lp
  · refine sq_step (if_ff (st1 := st) (by simp only [gd, runD, callP, kwF, pick, rtP, sqP, asP, parP, nxP, ifP, andV, orV, notV, andT, orT, notT, truP, tstP, truD, isiP, isisP, isTys, isNP, notNP, isNon, varP, chP, cstP, bltP, binP, consP, nilP, lstP, tupP, lcP, itP, rng1P, rng2P, slP, noP, soP, intOf, negP, sosP, bd_ok, List.map, List.replicate, List.length_cons, List.length_nil, List.cons_append, List.nil_append, List.append_nil, List.getElem?_cons_zero, List.getElem?_cons_succ, List.filterMap, List.set, omap_some, obind_some, isTy, blOf, if_t, if_f, lenF, leD_i, leD_s, ltD_i, ltD_s, gtD_i, geD_i, addD_i, subD_i, mulD_i, itemsD, wipeD, Tgt.put, setAll, outR, lb0, lb1, lb2, lb3, lb4, lb5, lb6, lb7, lb8, lb9, lb10, lb11, lb12, allF, listF, tupleF, intF, eq_self_iff_true, if_true, if_false, decide_true, decide_false, Bool.true_and, Bool.false_and, Bool.and_true, Bool.and_false, Bool.not_true, Bool.not_false, Nat.sub_self, Nat.reduceAdd, Nat.reduceSub, Nat.reduceEqDiff, shlD_n n (by omega), tabI_len, ne]) rfl) ?_
    simp only [gd, runD, callP, kwF, pick, rtP, sqP, asP, parP, nxP, ifP, andV, orV, notV, andT, orT, notT, truP, tstP, truD, isiP, isisP, isTys, isNP, notNP, isNon, varP, chP, cstP, bltP, binP, consP, nilP, lstP, tupP, lcP, itP, rng1P, rng2P, slP, noP, soP, intOf, negP, sosP, bd_ok, List.map, List.replicate, List.length_cons, List.length_nil, List.cons_append, List.nil_append, List.append_nil, List.getElem?_cons_zero, List.getElem?_cons_succ, List.filterMap, List.set, omap_some, obind_some, isTy, blOf, if_t, if_f, lenF, leD_i, leD_s, ltD_i, ltD_s, gtD_i, geD_i, addD_i, subD_i, mulD_i, itemsD, wipeD, Tgt.put, setAll, outR, lb0, lb1, lb2, lb3, lb4, lb5, lb6, lb7, lb8, lb9, lb10, lb11, lb12, allF, listF, tupleF, intF, eq_self_iff_true, if_true, if_false, decide_true, decide_false, Bool.true_and, Bool.false_and, Bool.and_true, Bool.and_false, Bool.not_true, Bool.not_false, Nat.sub_self, Nat.reduceAdd, Nat.reduceSub, Nat.reduceEqDiff, foP, tabI_len, rg]
    exact lp
end Dn

set_option Elab.async false
set_option linter.all false
set_option maxRecDepth 100000
set_option maxHeartbeats 4000000
namespace Dn
open PySem PySem.Spec PyProof.Rows L2
/-! ### a list of names checked; structures as objects -/
theorem toVs_strs (zs : List Str) : toVs (zs.map .str) = some (zs.map .str) := by
  induction zs with
  | nil => rfl
  | cons z zs ih => simp only [List.map_cons, toVs, toV, ih, Option.bind, Option.map]
theorem inV_strs (x : Str) (zs : List Str) : inV (.str x) (zs.map .str) = decide (x ∈ zs) := by
  unfold inV
  rw [List.any_map, Bool.eq_iff_iff, List.any_eq_true, decide_eq_true_eq]
  constructor
  · rintro ⟨y, hy, e⟩
    have : (y == x) = true := e
    rw [beq_iff_eq.mp this] at hy
    exact hy
  · intro h
    exact ⟨x, h, by show (x == x) = true; simp⟩
theorem in_lst (x : Str) (zs : List Str) : inD (.str x) (.lst (zs.map .str)) = some (.bl (decide (x ∈ zs))) := by
  show ((some (V.str x)).bind fun v => (toVs (zs.map .str)).map fun vs => inV v vs).map D.bl = _
  rw [toVs_strs, obind_some, omap_some, omap_some, inV_strs]
theorem in_tup (x : Str) (zs : List Str) : inD (.str x) (.tup (zs.map .str)) = some (.bl (decide (x ∈ zs))) := by
  show ((some (V.str x)).bind fun v => (toVs (zs.map .str)).map fun vs => inV v vs).map D.bl = _
  rw [toVs_strs, obind_some, omap_some, omap_some, inV_strs]
theorem cut_take (ds : List D) (i : Nat) (h : i ≤ ds.length) : cutL ds none (some (i : Int)) = ds.take i := by
  unfold cutL
  rw [HT.sIx_none, HT.sIx_nat, List.drop_zero, Nat.sub_zero, Nat.min_eq_left h]
theorem cut_strs (zs : List Str) (i : Nat) (h : i ≤ zs.length) : cutL (zs.map .str) none (some (i : Int)) = (zs.take i).map .str := by
  rw [cut_take _ i (by rw [List.length_map]; exact h), List.map_take]
theorem not_before {zs : List Str} (nd : zs.Nodup) {i : Nat} {z : Str} (h : zs[i]? = some z) : z ∉ zs.take i := by
  intro hm
  obtain ⟨j, hj, e⟩ := List.getElem_of_mem hm
  rw [List.length_take] at hj
  obtain ⟨hi, e2⟩ := List.getElem?_eq_some_iff.mp h
  rw [List.getElem_take] at e
  exact (List.pairwise_iff_getElem.mp nd) j i (by omega) hi (by omega) (e.trans e2.symm)
def IsNames (T : D) (zs : List Str) : Prop := T = .lst (zs.map .str) ∨ T = .tup (zs.map .str)
theorem checked_names_ok (C : Nat → Addr) {T : D} {zs : List Str} {m : Nat} (hT : IsNames T zs) (nm : ∀ z ∈ zs, NameS z) (nd : zs.Nodup) (hm : zs.length ≤ m) (h64 : zs.length < 64) (st : Sta) : F_checked_names C [T, .int m] st = some (.ok (.ftp ((srtS zs).map .str)), st) := by
  obtain ⟨Δ1, lp1, x1, e1⟩ := fo_pure (g := .one 2) (tb := ifP (notT (truP (callP F_is_name (consP (varP 2) nilP)))) (raiseP (C 22) ["value"] "InvalidName" (consP (varP 2) nilP)) nxP) (fun z : Str => D.str z) zs (fun Δ => ∃ x, Δ = [some T, some (.int m), x, none]) [some T, some (.int m), none, none] st ⟨_, rfl⟩ (fun z hz Δ ⟨x, e⟩ => by
    subst e
    refine ⟨_, rfl, if_ff (st1 := st) (by simp only [gd, runD, callP, kwF, pick, rtP, sqP, asP, parP, nxP, ifP, andV, orV, notV, andT, orT, notT, truP, tstP, truD, isiP, isisP, isTys, isNP, notNP, isNon, varP, chP, cstP, bltP, binP, consP, nilP, lstP, tupP, lcP, itP, rng1P, rng2P, slP, noP, soP, intOf, negP, sosP, bd_ok, List.map, List.replicate, List.length_cons, List.length_nil, List.cons_append, List.nil_append, List.append_nil, List.getElem?_cons_zero, List.getElem?_cons_succ, List.filterMap, List.set, omap_some, obind_some, isTy, blOf, if_t, if_f, lenF, leD_i, leD_s, ltD_i, ltD_s, gtD_i, geD_i, addD_i, subD_i, mulD_i, itemsD, wipeD, Tgt.put, setAll, outR, lb0, lb1, lb2, lb3, lb4, lb5, lb6, lb7, lb8, lb9, lb10, lb11, lb12, allF, listF, tupleF, intF, eq_self_iff_true, if_true, if_false, decide_true, decide_false, Bool.true_and, Bool.false_and, Bool.and_true, Bool.and_false, Bool.not_true, Bool.not_false, Nat.sub_self, Nat.reduceAdd, Nat.reduceSub, Nat.reduceEqDiff, is_name_str z st (nm z hz).big, okN_of (nm z hz)]) rfl, ⟨_, rfl⟩⟩)
  subst e1
  obtain ⟨Δ2, lp2, x2, y2, e2⟩ := fo_pure (g := .tup [3, 2]) (tb := ifP (tstP (binP inD (varP 2) (slP (thP (varP 0)) noP (soP (varP 3))))) (raiseP (C 26) ["name"] "DuplicateName" (consP (varP 2) nilP)) nxP) (fun p : Str × Nat => D.tup [.int (p.2 : Nat), .str p.1]) zs.zipIdx (fun Δ => ∃ x y, Δ = [some T, some (.int m), x, y]) [some T, some (.int m), x1, none] st ⟨_, _, rfl⟩ (fun p hp Δ ⟨x, y, e⟩ => by
    subst e
    obtain ⟨z, i⟩ := p
    have hi : zs[i]? = some z := by simpa [List.mem_zipIdx_iff_getElem?] using hp
    have hil : i ≤ zs.length := Nat.le_of_lt (List.getElem?_eq_some_iff.mp hi).1
    have nb := not_before nd hi
    refine ⟨_, rfl, if_ff (st1 := st) ?_ rfl, ⟨_, _, rfl⟩⟩
    rcases hT with rfl | rfl
    · simp only [gd, runD, callP, kwF, pick, rtP, sqP, asP, parP, nxP, ifP, andV, orV, notV, andT, orT, notT, truP, tstP, truD, isiP, isisP, isTys, isNP, notNP, isNon, varP, chP, cstP, bltP, binP, consP, nilP, lstP, tupP, lcP, itP, rng1P, rng2P, slP, noP, soP, intOf, negP, sosP, bd_ok, List.map, List.replicate, List.length_cons, List.length_nil, List.cons_append, List.nil_append, List.append_nil, List.getElem?_cons_zero, List.getElem?_cons_succ, List.filterMap, List.set, omap_some, obind_some, isTy, blOf, if_t, if_f, lenF, leD_i, leD_s, ltD_i, ltD_s, gtD_i, geD_i, addD_i, subD_i, mulD_i, itemsD, wipeD, Tgt.put, setAll, outR, lb0, lb1, lb2, lb3, lb4, lb5, lb6, lb7, lb8, lb9, lb10, lb11, lb12, allF, listF, tupleF, intF, eq_self_iff_true, if_true, if_false, decide_true, decide_false, Bool.true_and, Bool.false_and, Bool.and_true, Bool.and_false, Bool.not_true, Bool.not_false, Nat.sub_self, Nat.reduceAdd, Nat.reduceSub, Nat.reduceEqDiff, thP, thawD, slD, cut_strs zs i hil, in_lst, decide_eq_false nb]
    · simp only [gd, runD, callP, kwF, pick, rtP, sqP, asP, parP, nxP, ifP, andV, orV, notV, andT, orT, notT, truP, tstP, truD, isiP, isisP, isTys, isNP, notNP, isNon, varP, chP, cstP, bltP, binP, consP, nilP, lstP, tupP, lcP, itP, rng1P, rng2P, slP, noP, soP, intOf, negP, sosP, bd_ok, List.map, List.replicate, List.length_cons, List.length_nil, List.cons_append, List.nil_append, List.append_nil, List.getElem?_cons_zero, List.getElem?_cons_succ, List.filterMap, List.set, omap_some, obind_some, isTy, blOf, if_t, if_f, lenF, leD_i, leD_s, ltD_i, ltD_s, gtD_i, geD_i, addD_i, subD_i, mulD_i, itemsD, wipeD, Tgt.put, setAll, outR, lb0, lb1, lb2, lb3, lb4, lb5, lb6, lb7, lb8, lb9, lb10, lb11, lb12, allF, listF, tupleF, intF, eq_self_iff_true, if_true, if_false, decide_true, decide_false, Bool.true_and, Bool.false_and, Bool.and_true, Bool.and_false, Bool.not_true, Bool.not_false, Nat.sub_self, Nat.reduceAdd, Nat.reduceSub, Nat.reduceEqDiff, thP, thawD, slD, cut_strs zs i hil, in_tup, decide_eq_false nb])
  subst e2
  have zi : (zs.map D.str).zipIdx.map (fun p => D.tup [.int (p.2 : Nat), p.1]) = zs.zipIdx.map fun p => D.tup [.int (p.2 : Nat), .str p.1] := by
    rw [List.zipIdx_map, List.map_map]; rfl
  have so : (strsD (zs.map .str)).bind (fun ss => if ss.length < 64 then some (D.lst ((srtS ss).map .str)) else none) = some (.lst ((srtS zs).map .str)) := by
    rw [strsD_map, obind_some, if_pos h64]
  have hm' : decide ((m : Int) < (zs.length : Int)) = false := decide_eq_false (by omega)
  refine run_ret rfl ?_
  unfold d_checked_names
  rcases hT with rfl | rfl
  · refine sq_step (if_ff (st1 := st) (by simp only [gd, runD, callP, kwF, pick, rtP, sqP, asP, parP, nxP, ifP, andV, orV, notV, andT, orT, notT, truP, tstP, truD, isiP, isisP, isTys, isNP, notNP, isNon, varP, chP, cstP, bltP, binP, consP, nilP, lstP, tupP, lcP, itP, rng1P, rng2P, slP, noP, soP, intOf, negP, sosP, bd_ok, List.map, List.replicate, List.length_cons, List.length_nil, List.cons_append, List.nil_append, List.append_nil, List.getElem?_cons_zero, List.getElem?_cons_succ, List.filterMap, List.set, omap_some, obind_some, isTy, blOf, if_t, if_f, lenF, leD_i, leD_s, ltD_i, ltD_s, gtD_i, geD_i, addD_i, subD_i, mulD_i, itemsD, wipeD, Tgt.put, setAll, outR, lb0, lb1, lb2, lb3, lb4, lb5, lb6, lb7, lb8, lb9, lb10, lb11, lb12, allF, listF, tupleF, intF, eq_self_iff_true, if_true, if_false, decide_true, decide_false, Bool.true_and, Bool.false_and, Bool.and_true, Bool.and_false, Bool.not_true, Bool.not_false, Nat.sub_self, Nat.reduceAdd, Nat.reduceSub, Nat.reduceEqDiff]) rfl) ?_
    refine sq_step (by simp only [gd, runD, callP, kwF, pick, rtP, sqP, asP, parP, nxP, ifP, andV, orV, notV, andT, orT, notT, truP, tstP, truD, isiP, isisP, isTys, isNP, notNP, isNon, varP, chP, cstP, bltP, binP, consP, nilP, lstP, tupP, lcP, itP, rng1P, rng2P, slP, noP, soP, intOf, negP, sosP, bd_ok, List.map, List.replicate, List.length_cons, List.length_nil, List.cons_append, List.nil_append, List.append_nil, List.getElem?_cons_zero, List.getElem?_cons_succ, List.filterMap, List.set, omap_some, obind_some, isTy, blOf, if_t, if_f, lenF, leD_i, leD_s, ltD_i, ltD_s, gtD_i, geD_i, addD_i, subD_i, mulD_i, itemsD, wipeD, Tgt.put, setAll, outR, lb0, lb1, lb2, lb3, lb4, lb5, lb6, lb7, lb8, lb9, lb10, lb11, lb12, allF, listF, tupleF, intF, eq_self_iff_true, if_true, if_false, decide_true, decide_false, Bool.true_and, Bool.false_and, Bool.and_true, Bool.and_false, Bool.not_true, Bool.not_false, Nat.sub_self, Nat.reduceAdd, Nat.reduceSub, Nat.reduceEqDiff, foP, thP, thawD]; exact lp1) ?_
    refine sq_step (by simp only [gd, runD, callP, kwF, pick, rtP, sqP, asP, parP, nxP, ifP, andV, orV, notV, andT, orT, notT, truP, tstP, truD, isiP, isisP, isTys, isNP, notNP, isNon, varP, chP, cstP, bltP, binP, consP, nilP, lstP, tupP, lcP, itP, rng1P, rng2P, slP, noP, soP, intOf, negP, sosP, bd_ok, List.map, List.replicate, List.length_cons, List.length_nil, List.cons_append, List.nil_append, List.append_nil, List.getElem?_cons_zero, List.getElem?_cons_succ, List.filterMap, List.set, omap_some, obind_some, isTy, blOf, if_t, if_f, lenF, leD_i, leD_s, ltD_i, ltD_s, gtD_i, geD_i, addD_i, subD_i, mulD_i, itemsD, wipeD, Tgt.put, setAll, outR, lb0, lb1, lb2, lb3, lb4, lb5, lb6, lb7, lb8, lb9, lb10, lb11, lb12, allF, listF, tupleF, intF, eq_self_iff_true, if_true, if_false, decide_true, decide_false, Bool.true_and, Bool.false_and, Bool.and_true, Bool.and_false, Bool.not_true, Bool.not_false, Nat.sub_self, Nat.reduceAdd, Nat.reduceSub, Nat.reduceEqDiff, foP, thP, thawD, enu2P, enu2F, zi]; exact lp2) ?_
    refine sq_step (if_ff (st1 := st) (by simp only [gd, runD, callP, kwF, pick, rtP, sqP, asP, parP, nxP, ifP, andV, orV, notV, andT, orT, notT, truP, tstP, truD, isiP, isisP, isTys, isNP, notNP, isNon, varP, chP, cstP, bltP, binP, consP, nilP, lstP, tupP, lcP, itP, rng1P, rng2P, slP, noP, soP, intOf, negP, sosP, bd_ok, List.map, List.replicate, List.length_cons, List.length_nil, List.cons_append, List.nil_append, List.append_nil, List.getElem?_cons_zero, List.getElem?_cons_succ, List.filterMap, List.set, omap_some, obind_some, isTy, blOf, if_t, if_f, lenF, leD_i, leD_s, ltD_i, ltD_s, gtD_i, geD_i, addD_i, subD_i, mulD_i, itemsD, wipeD, Tgt.put, setAll, outR, lb0, lb1, lb2, lb3, lb4, lb5, lb6, lb7, lb8, lb9, lb10, lb11, lb12, allF, listF, tupleF, intF, eq_self_iff_true, if_true, if_false, decide_true, decide_false, Bool.true_and, Bool.false_and, Bool.and_true, Bool.and_false, Bool.not_true, Bool.not_false, Nat.sub_self, Nat.reduceAdd, Nat.reduceSub, Nat.reduceEqDiff, thP, thawD, List.length_map, hm']) rfl) ?_
    simp only [gd, runD, callP, kwF, pick, rtP, sqP, asP, parP, nxP, ifP, andV, orV, notV, andT, orT, notT, truP, tstP, truD, isiP, isisP, isTys, isNP, notNP, isNon, varP, chP, cstP, bltP, binP, consP, nilP, lstP, tupP, lcP, itP, rng1P, rng2P, slP, noP, soP, intOf, negP, sosP, bd_ok, List.map, List.replicate, List.length_cons, List.length_nil, List.cons_append, List.nil_append, List.append_nil, List.getElem?_cons_zero, List.getElem?_cons_succ, List.filterMap, List.set, omap_some, obind_some, isTy, blOf, if_t, if_f, lenF, leD_i, leD_s, ltD_i, ltD_s, gtD_i, geD_i, addD_i, subD_i, mulD_i, itemsD, wipeD, Tgt.put, setAll, outR, lb0, lb1, lb2, lb3, lb4, lb5, lb6, lb7, lb8, lb9, lb10, lb11, lb12, allF, listF, tupleF, intF, eq_self_iff_true, if_true, if_false, decide_true, decide_false, Bool.true_and, Bool.false_and, Bool.and_true, Bool.and_false, Bool.not_true, Bool.not_false, Nat.sub_self, Nat.reduceAdd, Nat.reduceSub, Nat.reduceEqDiff, thP, thawD, sort2F, so, ftupF]
  · refine sq_step (if_ff (st1 := st) (by simp only [gd, runD, callP, kwF, pick, rtP, sqP, asP, parP, nxP, ifP, andV, orV, notV, andT, orT, notT, truP, tstP, truD, isiP, isisP, isTys, isNP, notNP, isNon, varP, chP, cstP, bltP, binP, consP, nilP, lstP, tupP, lcP, itP, rng1P, rng2P, slP, noP, soP, intOf, negP, sosP, bd_ok, List.map, List.replicate, List.length_cons, List.length_nil, List.cons_append, List.nil_append, List.append_nil, List.getElem?_cons_zero, List.getElem?_cons_succ, List.filterMap, List.set, omap_some, obind_some, isTy, blOf, if_t, if_f, lenF, leD_i, leD_s, ltD_i, ltD_s, gtD_i, geD_i, addD_i, subD_i, mulD_i, itemsD, wipeD, Tgt.put, setAll, outR, lb0, lb1, lb2, lb3, lb4, lb5, lb6, lb7, lb8, lb9, lb10, lb11, lb12, allF, listF, tupleF, intF, eq_self_iff_true, if_true, if_false, decide_true, decide_false, Bool.true_and, Bool.false_and, Bool.and_true, Bool.and_false, Bool.not_true, Bool.not_false, Nat.sub_self, Nat.reduceAdd, Nat.reduceSub, Nat.reduceEqDiff]) rfl) ?_
    refine sq_step (by simp only [gd, runD, callP, kwF, pick, rtP, sqP, asP, parP, nxP, ifP, andV, orV, notV, andT, orT, notT, truP, tstP, truD, isiP, isisP, isTys, isNP, notNP, isNon, varP, chP, cstP, bltP, binP, consP, nilP, lstP, tupP, lcP, itP, rng1P, rng2P, slP, noP, soP, intOf, negP, sosP, bd_ok, List.map, List.replicate, List.length_cons, List.length_nil, List.cons_append, List.nil_append, List.append_nil, List.getElem?_cons_zero, List.getElem?_cons_succ, List.filterMap, List.set, omap_some, obind_some, isTy, blOf, if_t, if_f, lenF, leD_i, leD_s, ltD_i, ltD_s, gtD_i, geD_i, addD_i, subD_i, mulD_i, itemsD, wipeD, Tgt.put, setAll, outR, lb0, lb1, lb2, lb3, lb4, lb5, lb6, lb7, lb8, lb9, lb10, lb11, lb12, allF, listF, tupleF, intF, eq_self_iff_true, if_true, if_false, decide_true, decide_false, Bool.true_and, Bool.false_and, Bool.and_true, Bool.and_false, Bool.not_true, Bool.not_false, Nat.sub_self, Nat.reduceAdd, Nat.reduceSub, Nat.reduceEqDiff, foP, thP, thawD]; exact lp1) ?_
    refine sq_step (by simp only [gd, runD, callP, kwF, pick, rtP, sqP, asP, parP, nxP, ifP, andV, orV, notV, andT, orT, notT, truP, tstP, truD, isiP, isisP, isTys, isNP, notNP, isNon, varP, chP, cstP, bltP, binP, consP, nilP, lstP, tupP, lcP, itP, rng1P, rng2P, slP, noP, soP, intOf, negP, sosP, bd_ok, List.map, List.replicate, List.length_cons, List.length_nil, List.cons_append, List.nil_append, List.append_nil, List.getElem?_cons_zero, List.getElem?_cons_succ, List.filterMap, List.set, omap_some, obind_some, isTy, blOf, if_t, if_f, lenF, leD_i, leD_s, ltD_i, ltD_s, gtD_i, geD_i, addD_i, subD_i, mulD_i, itemsD, wipeD, Tgt.put, setAll, outR, lb0, lb1, lb2, lb3, lb4, lb5, lb6, lb7, lb8, lb9, lb10, lb11, lb12, allF, listF, tupleF, intF, eq_self_iff_true, if_true, if_false, decide_true, decide_false, Bool.true_and, Bool.false_and, Bool.and_true, Bool.and_false, Bool.not_true, Bool.not_false, Nat.sub_self, Nat.reduceAdd, Nat.reduceSub, Nat.reduceEqDiff, foP, thP, thawD, enu2P, enu2F, zi]; exact lp2) ?_
    refine sq_step (if_ff (st1 := st) (by simp only [gd, runD, callP, kwF, pick, rtP, sqP, asP, parP, nxP, ifP, andV, orV, notV, andT, orT, notT, truP, tstP, truD, isiP, isisP, isTys, isNP, notNP, isNon, varP, chP, cstP, bltP, binP, consP, nilP, lstP, tupP, lcP, itP, rng1P, rng2P, slP, noP, soP, intOf, negP, sosP, bd_ok, List.map, List.replicate, List.length_cons, List.length_nil, List.cons_append, List.nil_append, List.append_nil, List.getElem?_cons_zero, List.getElem?_cons_succ, List.filterMap, List.set, omap_some, obind_some, isTy, blOf, if_t, if_f, lenF, leD_i, leD_s, ltD_i, ltD_s, gtD_i, geD_i, addD_i, subD_i, mulD_i, itemsD, wipeD, Tgt.put, setAll, outR, lb0, lb1, lb2, lb3, lb4, lb5, lb6, lb7, lb8, lb9, lb10, lb11, lb12, allF, listF, tupleF, intF, eq_self_iff_true, if_true, if_false, decide_true, decide_false, Bool.true_and, Bool.false_and, Bool.and_true, Bool.and_false, Bool.not_true, Bool.not_false, Nat.sub_self, Nat.reduceAdd, Nat.reduceSub, Nat.reduceEqDiff, thP, thawD, List.length_map, hm']) rfl) ?_
    simp only [gd, runD, callP, kwF, pick, rtP, sqP, asP, parP, nxP, ifP, andV, orV, notV, andT, orT, notT, truP, tstP, truD, isiP, isisP, isTys, isNP, notNP, isNon, varP, chP, cstP, bltP, binP, consP, nilP, lstP, tupP, lcP, itP, rng1P, rng2P, slP, noP, soP, intOf, negP, sosP, bd_ok, List.map, List.replicate, List.length_cons, List.length_nil, List.cons_append, List.nil_append, List.append_nil, List.getElem?_cons_zero, List.getElem?_cons_succ, List.filterMap, List.set, omap_some, obind_some, isTy, blOf, if_t, if_f, lenF, leD_i, leD_s, ltD_i, ltD_s, gtD_i, geD_i, addD_i, subD_i, mulD_i, itemsD, wipeD, Tgt.put, setAll, outR, lb0, lb1, lb2, lb3, lb4, lb5, lb6, lb7, lb8, lb9, lb10, lb11, lb12, allF, listF, tupleF, intF, eq_self_iff_true, if_true, if_false, decide_true, decide_false, Bool.true_and, Bool.false_and, Bool.and_true, Bool.and_false, Bool.not_true, Bool.not_false, Nat.sub_self, Nat.reduceAdd, Nat.reduceSub, Nat.reduceEqDiff, thP, thawD, sort2F, so, ftupF]
/-! ### the state behind a call -/
structure KS (st st' : Sta) : Prop where
  bag : st'.bag = st.bag
  scr : st'.scr = st.scr
  nx : st.next ≤ st'.next
  lk : ∀ m, m ≤ st.next → st'.look m = st.look m
theorem KS.refl (st : Sta) : KS st st := ⟨rfl, rfl, Nat.le_refl _, fun _ _ => rfl⟩
theorem KS.trans {a b c : Sta} (h : KS a b) (g : KS b c) : KS a c := ⟨g.bag.trans h.bag, g.scr.trans h.scr, Nat.le_trans h.nx g.nx, fun m hm => (g.lk m (Nat.le_trans hm h.nx)).trans (h.lk m hm)⟩
theorem find_filter {n m : Nat} (hn : m ≠ n) : ∀ l : List (Nat × Cell), ((l.filter fun p => p.1 != n).find? fun p => p.1 == m) = l.find? fun p => p.1 == m
  | [] => rfl
  | p :: l => by
    by_cases h : p.1 = n
    · have h1 : (p.1 != n) = false := by simp [h]
      have h2 : (p.1 == m) = false := by simp [h]; exact fun e => hn e.symm
      rw [List.filter_cons_of_neg (p := fun p : Nat × Cell => p.1 != n) (by rw [h1]; exact Bool.false_ne_true), List.find?_cons_of_neg (p := fun p : Nat × Cell => p.1 == m) (by rw [h2]; exact Bool.false_ne_true), find_filter hn l]
    · have h1 : (p.1 != n) = true := by simp [h]
      rw [List.filter_cons_of_pos (p := fun p : Nat × Cell => p.1 != n) h1]
      by_cases h3 : p.1 = m
      · have : (p.1 == m) = true := by simp [h3]
        rw [List.find?_cons_of_pos (p := fun p : Nat × Cell => p.1 == m) this, List.find?_cons_of_pos (p := fun p : Nat × Cell => p.1 == m) this]
      · have : (p.1 == m) = false := by simp [h3]
        rw [List.find?_cons_of_neg (p := fun p : Nat × Cell => p.1 == m) (by rw [this]; exact Bool.false_ne_true), List.find?_cons_of_neg (p := fun p : Nat × Cell => p.1 == m) (by rw [this]; exact Bool.false_ne_true), find_filter hn l]
theorem look_put_ne {st : Sta} {n m : Nat} {c : Cell} (h : m ≠ n) : (st.put n c).look m = st.look m := by
  unfold Sta.put Sta.look
  show (((n, c) :: st.own.filter _).find? _).map _ = _
  rw [List.find?_cons_of_neg (by simp; exact fun e => h e.symm), find_filter h]
theorem look_drop_ne {st : Sta} {n m : Nat} (h : m ≠ n) : (st.drop n).look m = st.look m := by
  unfold Sta.drop Sta.look
  show ((st.own.filter _).find? _).map _ = _
  rw [find_filter h]
/-- a new own thing -/
def Sta.neu (st : Sta) (c : Cell) : Sta := { st with own := (st.next + 1, c) :: st.own, next := st.next + 1 }
theorem look_neu (st : Sta) (c : Cell) : (st.neu c).look (st.next + 1) = some c := by
  unfold Sta.neu Sta.look
  simp
theorem look_neu_ne {st : Sta} {c : Cell} {m : Nat} (h : m ≠ st.next + 1) : (st.neu c).look m = st.look m := by
  unfold Sta.neu Sta.look
  show (((st.next + 1, c) :: st.own).find? _).map _ = _
  rw [List.find?_cons_of_neg (by simp; exact fun e => h e.symm)]
/-! ### structures -/
abbrev stNs : List Str := ["_names", "_unseen", "_table"]
def stO (C : Nat → Addr) (N : D) (u : Int) (tab : List D) : D := .obj (C 0) stNs [N, .int u, .tup tab]
theorem ins_o (st : Sta) (C : Nat → Addr) (N : D) (u : Int) (tab : List D) : insOf st (C 0) (stO C N u tab) = some (stNs, [N, .int u, .tup tab]) := if_pos rfl
theorem ne_nu : ¬ (("_names" : Str) = "_unseen") := by decide +kernel
theorem ne_nt : ¬ (("_names" : Str) = "_table") := by decide +kernel
theorem ne_ut : ¬ (("_unseen" : Str) = "_table") := by decide +kernel
theorem lk_t (a b c : D) : lkD "_table" stNs [a, b, c] = some c := by unfold lkD; rw [if_neg ne_nt]; unfold lkD; rw [if_neg ne_ut]; unfold lkD; rw [if_pos rfl]
/-- o.f = e while o is being made -/
theorem fst_ok {C : Addr} {f : Str} {to te : EDen} {Δ : Dl} {st2 : Sta} {n : Nat} {d : D} {ns : List Str} {ds : List D} (h1 : te Δ st2 = some (.ok d, st2)) (h2 : to Δ st2 = some (.ok (.hnd n), st2)) (h3 : st2.look n = some (.ins C ns ds)) (hl : ns.length < 1000) :
    fstP C f to te Δ st2 = some (.ok (.nx Δ), st2.put n (.ins C (ptD f d ns ds).1 (ptD f d ns ds).2)) := by
  unfold fstP
  rw [h1, bd_ok, h2, bd_ok]
  simp only
  rw [h3]
  simp only
  rw [if_pos ⟨trivial, hl⟩]
theorem pt1 (d : D) : ptD "_names" d [] [] = (([("_names" : Str)] : List Str), [d]) := rfl
theorem pt2 (a d : D) : ptD "_unseen" d ["_names"] [a] = (([("_names" : Str), "_unseen"] : List Str), [a, d]) := by
  unfold ptD; rw [if_neg ne_nu]; rfl
theorem pt3 (a b d : D) : ptD "_table" d ["_names", "_unseen"] [a, b] = (stNs, [a, b, d]) := by
  unfold ptD; rw [if_neg ne_nt]; unfold ptD; rw [if_neg ne_ut]; rfl
/-- what the constructor asks of its arguments -/
structure Right (N T : D) (zs : List Str) (u : Nat) (r : Nat → Nat) : Prop where
  hN : IsNames N zs
  nm : ∀ z ∈ zs, NameS z
  nd : zs.Nodup
  h6 : zs.length ≤ 6
  h9 : u ≤ 9
  h12 : zs.length + u ≤ 12
  hT : IsTab T (zs.length + u) fun i => (r i : Int)
  hr : Mr.Rk (zs.length + u) r
theorem init_ok (C : Nat → Addr) {N T : D} {zs : List Str} {u : Nat} {r : Nat → Nat} (R : Right N T zs u r) (st : Sta) (n : Nat) (hl : st.look n = some (.ins (C 0) [] [])) :
    ∃ st', F_Structure_init C [.hnd n, N, T, .int u] st = some (.ok .non, st') ∧ st'.look n = some (.ins (C 0) stNs [.ftp ((srtS zs).map .str), .int u, .tup (tabI (zs.length + u) fun i => (r i : Int))]) ∧ st'.bag = st.bag ∧ st'.scr = st.scr ∧ st'.next = st.next ∧ ∀ m, m ≠ n → st'.look m = st.look m := by
  have cn := checked_names_ok C R.hN R.nm R.nd R.h6 (by have := R.h6; omega) st
  have sl : ((srtS zs).map D.str).length = zs.length := by rw [List.length_map, srtS_len]
  have h9 := R.h9
  have h12 := R.h12
  have ct := check_table_ok C R.hT R.hr R.h12 st
  have ek : ((zs.length + u : Nat) : Int) = (zs.length : Int) + (u : Int) := by omega
  rw [ek] at ct
  have tt : tupleF [T] = some (.tup (tabI (zs.length + u) fun i => (r i : Int))) := by rcases R.hT with h | h <;> rw [h] <;> rfl
  let st1 := st.put n (.ins (C 0) ["_names"] [.ftp ((srtS zs).map .str)])
  let st2 := st1.put n (.ins (C 0) ["_names", "_unseen"] [.ftp ((srtS zs).map .str), .int u])
  let st3 := st2.put n (.ins (C 0) stNs [.ftp ((srtS zs).map .str), .int u, .tup (tabI (zs.length + u) fun i => (r i : Int))])
  refine ⟨st3, run_nx (Δ := [some (.hnd n), some N, some T, some (.int u), some (.ftp ((srtS zs).map .str)), some (.int ((zs.length : Int) + (u : Int)))]) rfl ?_, look_put _ _ _, rfl, rfl, rfl, fun m hm => (look_put_ne hm).trans ((look_put_ne hm).trans (look_put_ne hm))⟩
  show d_Structure_init C [some (.hnd n), some N, some T, some (.int u), none, none] st = _
  unfold d_Structure_init
  have cn' : F_checked_names C [N, .int 6] st = some (.ok (.ftp ((srtS zs).map .str)), st) := cn
  (apply sq_step; focus (simp only [gd, runD, callP, kwF, pick, rtP, sqP, asP, parP, nxP, ifP, andV, orV, notV, andT, orT, notT, truP, tstP, truD, isiP, isisP, isTys, isNP, notNP, isNon, varP, chP, cstP, bltP, binP, consP, nilP, lstP, tupP, lcP, itP, rng1P, rng2P, slP, noP, soP, intOf, negP, sosP, bd_ok, List.map, List.replicate, List.length_cons, List.length_nil, List.cons_append, List.nil_append, List.append_nil, List.getElem?_cons_zero, List.getElem?_cons_succ, List.filterMap, List.set, omap_some, obind_some, isTy, blOf, if_t, if_f, lenF, leD_i, leD_s, ltD_i, ltD_s, gtD_i, geD_i, addD_i, subD_i, mulD_i, itemsD, wipeD, Tgt.put, setAll, outR, lb0, lb1, lb2, lb3, lb4, lb5, lb6, lb7, lb8, lb9, lb10, lb11, lb12, allF, listF, tupleF, intF, eq_self_iff_true, if_true, if_false, decide_true, decide_false, Bool.true_and, Bool.false_and, Bool.and_true, Bool.and_false, Bool.not_true, Bool.not_false, Nat.sub_self, Nat.reduceAdd, Nat.reduceSub, Nat.reduceEqDiff, cn']; first | done | rfl))
  refine sq_step (if_ff (st1 := st) (by simp only [gd, runD, callP, kwF, pick, rtP, sqP, asP, parP, nxP, ifP, andV, orV, notV, andT, orT, notT, truP, tstP, truD, isiP, isisP, isTys, isNP, notNP, isNon, varP, chP, cstP, bltP, binP, consP, nilP, lstP, tupP, lcP, itP, rng1P, rng2P, slP, noP, soP, intOf, negP, sosP, bd_ok, List.map, List.replicate, List.length_cons, List.length_nil, List.cons_append, List.nil_append, List.append_nil, List.getElem?_cons_zero, List.getElem?_cons_succ, List.filterMap, List.set, omap_some, obind_some, isTy, blOf, if_t, if_f, lenF, leD_i, leD_s, ltD_i, ltD_s, gtD_i, geD_i, addD_i, subD_i, mulD_i, itemsD, wipeD, Tgt.put, setAll, outR, lb0, lb1, lb2, lb3, lb4, lb5, lb6, lb7, lb8, lb9, lb10, lb11, lb12, allF, listF, tupleF, intF, eq_self_iff_true, if_true, if_false, decide_true, decide_false, Bool.true_and, Bool.false_and, Bool.and_true, Bool.and_false, Bool.not_true, Bool.not_false, Nat.sub_self, Nat.reduceAdd, Nat.reduceSub, Nat.reduceEqDiff, is_number_ok (v := (u : Int)) (a := 0) (b := 9) st (by omega) (by omega)]) rfl) ?_
  (apply sq_step; focus (simp only [gd, runD, callP, kwF, pick, rtP, sqP, asP, parP, nxP, ifP, andV, orV, notV, andT, orT, notT, truP, tstP, truD, isiP, isisP, isTys, isNP, notNP, isNon, varP, chP, cstP, bltP, binP, consP, nilP, lstP, tupP, lcP, itP, rng1P, rng2P, slP, noP, soP, intOf, negP, sosP, bd_ok, List.map, List.replicate, List.length_cons, List.length_nil, List.cons_append, List.nil_append, List.append_nil, List.getElem?_cons_zero, List.getElem?_cons_succ, List.filterMap, List.set, omap_some, obind_some, isTy, blOf, if_t, if_f, lenF, leD_i, leD_s, ltD_i, ltD_s, gtD_i, geD_i, addD_i, subD_i, mulD_i, itemsD, wipeD, Tgt.put, setAll, outR, lb0, lb1, lb2, lb3, lb4, lb5, lb6, lb7, lb8, lb9, lb10, lb11, lb12, allF, listF, tupleF, intF, eq_self_iff_true, if_true, if_false, decide_true, decide_false, Bool.true_and, Bool.false_and, Bool.and_true, Bool.and_false, Bool.not_true, Bool.not_false, Nat.sub_self, Nat.reduceAdd, Nat.reduceSub, Nat.reduceEqDiff, thP, thawD, sl]; first | done | rfl))
  refine sq_step (if_ff (st1 := st) (by simp only [gd, runD, callP, kwF, pick, rtP, sqP, asP, parP, nxP, ifP, andV, orV, notV, andT, orT, notT, truP, tstP, truD, isiP, isisP, isTys, isNP, notNP, isNon, varP, chP, cstP, bltP, binP, consP, nilP, lstP, tupP, lcP, itP, rng1P, rng2P, slP, noP, soP, intOf, negP, sosP, bd_ok, List.map, List.replicate, List.length_cons, List.length_nil, List.cons_append, List.nil_append, List.append_nil, List.getElem?_cons_zero, List.getElem?_cons_succ, List.filterMap, List.set, omap_some, obind_some, isTy, blOf, if_t, if_f, lenF, leD_i, leD_s, ltD_i, ltD_s, gtD_i, geD_i, addD_i, subD_i, mulD_i, itemsD, wipeD, Tgt.put, setAll, outR, lb0, lb1, lb2, lb3, lb4, lb5, lb6, lb7, lb8, lb9, lb10, lb11, lb12, allF, listF, tupleF, intF, eq_self_iff_true, if_true, if_false, decide_true, decide_false, Bool.true_and, Bool.false_and, Bool.and_true, Bool.and_false, Bool.not_true, Bool.not_false, Nat.sub_self, Nat.reduceAdd, Nat.reduceSub, Nat.reduceEqDiff, show decide ((12 : Int) < (zs.length : Int) + (u : Int)) = false from decide_eq_false (by omega)]) rfl) ?_
  refine sq_step (st1 := st) (by simp only [gd, runD, callP, kwF, pick, rtP, sqP, asP, parP, nxP, ifP, andV, orV, notV, andT, orT, notT, truP, tstP, truD, isiP, isisP, isTys, isNP, notNP, isNon, varP, chP, cstP, bltP, binP, consP, nilP, lstP, tupP, lcP, itP, rng1P, rng2P, slP, noP, soP, intOf, negP, sosP, bd_ok, List.map, List.replicate, List.length_cons, List.length_nil, List.cons_append, List.nil_append, List.append_nil, List.getElem?_cons_zero, List.getElem?_cons_succ, List.filterMap, List.set, omap_some, obind_some, isTy, blOf, if_t, if_f, lenF, leD_i, leD_s, ltD_i, ltD_s, gtD_i, geD_i, addD_i, subD_i, mulD_i, itemsD, wipeD, Tgt.put, setAll, outR, lb0, lb1, lb2, lb3, lb4, lb5, lb6, lb7, lb8, lb9, lb10, lb11, lb12, allF, listF, tupleF, intF, eq_self_iff_true, if_true, if_false, decide_true, decide_false, Bool.true_and, Bool.false_and, Bool.and_true, Bool.and_false, Bool.not_true, Bool.not_false, Nat.sub_self, Nat.reduceAdd, Nat.reduceSub, Nat.reduceEqDiff, exP, ct]; rfl) ?_
  refine sq_step (st1 := st1) ((fst_ok (d := .ftp ((srtS zs).map .str)) (n := n) (by simp only [gd, runD, callP, kwF, pick, rtP, sqP, asP, parP, nxP, ifP, andV, orV, notV, andT, orT, notT, truP, tstP, truD, isiP, isisP, isTys, isNP, notNP, isNon, varP, chP, cstP, bltP, binP, consP, nilP, lstP, tupP, lcP, itP, rng1P, rng2P, slP, noP, soP, intOf, negP, sosP, bd_ok, List.map, List.replicate, List.length_cons, List.length_nil, List.cons_append, List.nil_append, List.append_nil, List.getElem?_cons_zero, List.getElem?_cons_succ, List.filterMap, List.set, omap_some, obind_some, isTy, blOf, if_t, if_f, lenF, leD_i, leD_s, ltD_i, ltD_s, gtD_i, geD_i, addD_i, subD_i, mulD_i, itemsD, wipeD, Tgt.put, setAll, outR, lb0, lb1, lb2, lb3, lb4, lb5, lb6, lb7, lb8, lb9, lb10, lb11, lb12, allF, listF, tupleF, intF, eq_self_iff_true, if_true, if_false, decide_true, decide_false, Bool.true_and, Bool.false_and, Bool.and_true, Bool.and_false, Bool.not_true, Bool.not_false, Nat.sub_self, Nat.reduceAdd, Nat.reduceSub, Nat.reduceEqDiff]) (by simp only [gd, runD, callP, kwF, pick, rtP, sqP, asP, parP, nxP, ifP, andV, orV, notV, andT, orT, notT, truP, tstP, truD, isiP, isisP, isTys, isNP, notNP, isNon, varP, chP, cstP, bltP, binP, consP, nilP, lstP, tupP, lcP, itP, rng1P, rng2P, slP, noP, soP, intOf, negP, sosP, bd_ok, List.map, List.replicate, List.length_cons, List.length_nil, List.cons_append, List.nil_append, List.append_nil, List.getElem?_cons_zero, List.getElem?_cons_succ, List.filterMap, List.set, omap_some, obind_some, isTy, blOf, if_t, if_f, lenF, leD_i, leD_s, ltD_i, ltD_s, gtD_i, geD_i, addD_i, subD_i, mulD_i, itemsD, wipeD, Tgt.put, setAll, outR, lb0, lb1, lb2, lb3, lb4, lb5, lb6, lb7, lb8, lb9, lb10, lb11, lb12, allF, listF, tupleF, intF, eq_self_iff_true, if_true, if_false, decide_true, decide_false, Bool.true_and, Bool.false_and, Bool.and_true, Bool.and_false, Bool.not_true, Bool.not_false, Nat.sub_self, Nat.reduceAdd, Nat.reduceSub, Nat.reduceEqDiff]) hl (by decide)).trans (by rw [pt1])) ?_
  refine sq_step (st1 := st2) ((fst_ok (d := .int u) (n := n) (by simp only [gd, runD, callP, kwF, pick, rtP, sqP, asP, parP, nxP, ifP, andV, orV, notV, andT, orT, notT, truP, tstP, truD, isiP, isisP, isTys, isNP, notNP, isNon, varP, chP, cstP, bltP, binP, consP, nilP, lstP, tupP, lcP, itP, rng1P, rng2P, slP, noP, soP, intOf, negP, sosP, bd_ok, List.map, List.replicate, List.length_cons, List.length_nil, List.cons_append, List.nil_append, List.append_nil, List.getElem?_cons_zero, List.getElem?_cons_succ, List.filterMap, List.set, omap_some, obind_some, isTy, blOf, if_t, if_f, lenF, leD_i, leD_s, ltD_i, ltD_s, gtD_i, geD_i, addD_i, subD_i, mulD_i, itemsD, wipeD, Tgt.put, setAll, outR, lb0, lb1, lb2, lb3, lb4, lb5, lb6, lb7, lb8, lb9, lb10, lb11, lb12, allF, listF, tupleF, intF, eq_self_iff_true, if_true, if_false, decide_true, decide_false, Bool.true_and, Bool.false_and, Bool.and_true, Bool.and_false, Bool.not_true, Bool.not_false, Nat.sub_self, Nat.reduceAdd, Nat.reduceSub, Nat.reduceEqDiff]) (by simp only [gd, runD, callP, kwF, pick, rtP, sqP, asP, parP, nxP, ifP, andV, orV, notV, andT, orT, notT, truP, tstP, truD, isiP, isisP, isTys, isNP, notNP, isNon, varP, chP, cstP, bltP, binP, consP, nilP, lstP, tupP, lcP, itP, rng1P, rng2P, slP, noP, soP, intOf, negP, sosP, bd_ok, List.map, List.replicate, List.length_cons, List.length_nil, List.cons_append, List.nil_append, List.append_nil, List.getElem?_cons_zero, List.getElem?_cons_succ, List.filterMap, List.set, omap_some, obind_some, isTy, blOf, if_t, if_f, lenF, leD_i, leD_s, ltD_i, ltD_s, gtD_i, geD_i, addD_i, subD_i, mulD_i, itemsD, wipeD, Tgt.put, setAll, outR, lb0, lb1, lb2, lb3, lb4, lb5, lb6, lb7, lb8, lb9, lb10, lb11, lb12, allF, listF, tupleF, intF, eq_self_iff_true, if_true, if_false, decide_true, decide_false, Bool.true_and, Bool.false_and, Bool.and_true, Bool.and_false, Bool.not_true, Bool.not_false, Nat.sub_self, Nat.reduceAdd, Nat.reduceSub, Nat.reduceEqDiff]) (look_put _ _ _) (by decide)).trans (by rw [pt2])) ?_
  exact (fst_ok (d := .tup (tabI (zs.length + u) fun i => (r i : Int))) (n := n) (by rcases R.hT with h | h <;> subst h <;> simp only [gd, runD, callP, kwF, pick, rtP, sqP, asP, parP, nxP, ifP, andV, orV, notV, andT, orT, notT, truP, tstP, truD, isiP, isisP, isTys, isNP, notNP, isNon, varP, chP, cstP, bltP, binP, consP, nilP, lstP, tupP, lcP, itP, rng1P, rng2P, slP, noP, soP, intOf, negP, sosP, bd_ok, List.map, List.replicate, List.length_cons, List.length_nil, List.cons_append, List.nil_append, List.append_nil, List.getElem?_cons_zero, List.getElem?_cons_succ, List.filterMap, List.set, omap_some, obind_some, isTy, blOf, if_t, if_f, lenF, leD_i, leD_s, ltD_i, ltD_s, gtD_i, geD_i, addD_i, subD_i, mulD_i, itemsD, wipeD, Tgt.put, setAll, outR, lb0, lb1, lb2, lb3, lb4, lb5, lb6, lb7, lb8, lb9, lb10, lb11, lb12, allF, listF, tupleF, intF, eq_self_iff_true, if_true, if_false, decide_true, decide_false, Bool.true_and, Bool.false_and, Bool.and_true, Bool.and_false, Bool.not_true, Bool.not_false, Nat.sub_self, Nat.reduceAdd, Nat.reduceSub, Nat.reduceEqDiff]) (by simp only [gd, runD, callP, kwF, pick, rtP, sqP, asP, parP, nxP, ifP, andV, orV, notV, andT, orT, notT, truP, tstP, truD, isiP, isisP, isTys, isNP, notNP, isNon, varP, chP, cstP, bltP, binP, consP, nilP, lstP, tupP, lcP, itP, rng1P, rng2P, slP, noP, soP, intOf, negP, sosP, bd_ok, List.map, List.replicate, List.length_cons, List.length_nil, List.cons_append, List.nil_append, List.append_nil, List.getElem?_cons_zero, List.getElem?_cons_succ, List.filterMap, List.set, omap_some, obind_some, isTy, blOf, if_t, if_f, lenF, leD_i, leD_s, ltD_i, ltD_s, gtD_i, geD_i, addD_i, subD_i, mulD_i, itemsD, wipeD, Tgt.put, setAll, outR, lb0, lb1, lb2, lb3, lb4, lb5, lb6, lb7, lb8, lb9, lb10, lb11, lb12, allF, listF, tupleF, intF, eq_self_iff_true, if_true, if_false, decide_true, decide_false, Bool.true_and, Bool.false_and, Bool.and_true, Bool.and_false, Bool.not_true, Bool.not_false, Nat.sub_self, Nat.reduceAdd, Nat.reduceSub, Nat.reduceEqDiff]) (look_put _ _ _) (by decide)).trans (by rw [pt3])
theorem mkF_of {C : Addr} {F : FDen} {ds es : List D} {st st' : Sta} {ns : List Str} (h : F (.hnd (st.next + 1) :: ds) (st.neu (.ins C [] [])) = some (.ok .non, st')) (h2 : st'.look (st.next + 1) = some (.ins C ns es)) : mkF C F ds st = some (.ok (.obj C ns es), st'.drop (st.next + 1)) := by
  unfold mkF
  rw [show F (.hnd (st.next + 1) :: ds) { st with own := (st.next + 1, .ins C [] []) :: st.own, next := st.next + 1 } = _ from h]
  simp only
  rw [h2]
  simp only
  rw [if_pos trivial]
theorem mk_ok (C : Nat → Addr) {N T : D} {zs : List Str} {u : Nat} {r : Nat → Nat} (R : Right N T zs u r) (st : Sta) :
    ∃ st', mkF (C 0) (F_Structure_init C) [N, T, .int u] st = some (.ok (stO C (.ftp ((srtS zs).map .str)) u (tabI (zs.length + u) fun i => (r i : Int))), st') ∧ KS st st' := by
  obtain ⟨st', h1, h2, h3, h4, h5, h6⟩ := init_ok C R (st.neu (.ins (C 0) [] [])) (st.next + 1) (look_neu _ _)
  refine ⟨st'.drop (st.next + 1), ?_, ?_⟩
  · exact mkF_of h1 h2
  · exact ⟨h3, h4, by show st.next ≤ st'.next; rw [h5]; exact Nat.le_succ _, fun m hm => (look_drop_ne (by omega)).trans ((h6 m (by omega)).trans (look_neu_ne (by omega)))⟩
end Dn

set_option Elab.async false
set_option linter.all false
set_option maxRecDepth 100000
set_option maxHeartbeats 4000000
namespace Dn
open PySem PySem.Spec PyProof.Rows L2
/-! ### plain data equal to itself -/
inductive Pl : Nat → D → Prop
  | non {n : Nat} : Pl n .non
  | bl {n : Nat} (b : Bool) : Pl n (.bl b)
  | int {n : Nat} (i : Int) : Pl n (.int i)
  | str {n : Nat} {z : Str} : z.cps.all (· < 0x110000) = true → z.length ≤ big → Pl n (.str z)
  | lst {n : Nat} {ds : List D} : (∀ x ∈ ds, Pl n x) → ds.length ≤ big → Pl (n + 1) (.lst ds)
  | tup {n : Nat} {ds : List D} : (∀ x ∈ ds, Pl n x) → ds.length ≤ big → Pl (n + 1) (.tup ds)
theorem Pl.mono : ∀ {n m : Nat} {d : D}, Pl n d → n ≤ m → Pl m d
  | _, _, _, .non, _ => .non
  | _, _, _, .bl b, _ => .bl b
  | _, _, _, .int i, _ => .int i
  | _, _, _, .str h l, _ => .str h l
  | n + 1, m + 1, _, .lst h l, q => .lst (fun x hx => (h x hx).mono (Nat.le_of_succ_le_succ q)) l
  | n + 1, m + 1, _, .tup h l, q => .tup (fun x hx => (h x hx).mono (Nat.le_of_succ_le_succ q)) l
theorem pys_all {n : Nat} : ∀ {ds : List D}, (∀ x ∈ ds, ∃ p, toPy x = some p ∧ PyData.canLay0 p = true ∧ PyData.depth p ≤ n) → ∃ ps, toPys ds = some ps ∧ PyData.canLayAll0 ps = true ∧ PyData.depthAll ps ≤ n
  | [], _ => ⟨[], rfl, rfl, Nat.zero_le _⟩
  | d :: ds, h => by
    obtain ⟨p, h1, h2, h3⟩ := h d List.mem_cons_self
    obtain ⟨ps, g1, g2, g3⟩ := pys_all (ds := ds) fun x hx => h x (List.mem_cons_of_mem _ hx)
    refine ⟨p :: ps, by simp only [toPys, h1, g1, Option.bind, Option.map], ?_, ?_⟩
    · unfold PyData.canLayAll0
      rw [h2, g2] <;> rfl
    · unfold PyData.depthAll
      omega
theorem Pl.py : ∀ {n : Nat} {d : D}, Pl n d → ∃ p, toPy d = some p ∧ PyData.canLay0 p = true ∧ PyData.depth p ≤ n
  | _, _, .non => ⟨.none, rfl, rfl, Nat.zero_le _⟩
  | _, _, .bl b => ⟨.bool b, rfl, rfl, Nat.zero_le _⟩
  | _, _, .int i => ⟨.int i, rfl, rfl, Nat.zero_le _⟩
  | _, _, .str (z := z) h _ => ⟨.str z, rfl, h, Nat.zero_le _⟩
  | _, _, .lst h _ => by
    obtain ⟨ps, h1, h2, h3⟩ := pys_all fun x hx => (h x hx).py
    refine ⟨.list ps, by simp only [toPy, h1, Option.map], h2, ?_⟩
    unfold PyData.depth
    omega
  | _, _, .tup h _ => by
    obtain ⟨ps, h1, h2, h3⟩ := pys_all fun x hx => (h x hx).py
    refine ⟨.tuple ps, by simp only [toPy, h1, Option.map], h2, ?_⟩
    unfold PyData.depth
    omega
theorem Pl.sh {n : Nat} {d : D} (h : Pl n d) (hn : n ≤ 64) : ∃ p, shP d = some p ∧ PyData.eqv p p = true := by
  obtain ⟨p, h1, h2, h3⟩ := h.py
  refine ⟨p, ?_, SeqAt.eqv_refl p h2⟩
  unfold shP
  rw [h1, obind_some]
  exact if_pos (by unfold SeqAt.shaped; rw [h2, decide_eq_true (show p.depth ≤ 64 by omega)]; rfl)
theorem Pl.eqD {n : Nat} {d : D} (h : Pl n d) (hn : n ≤ 64) : Dn.eqD d d = some (.bl true) := by
  obtain ⟨p, h1, h2⟩ := h.sh hn
  unfold Dn.eqD eqB
  rw [h1, obind_some, omap_some, omap_some, h2]
theorem Pl.neD {n : Nat} {d : D} (h : Pl n d) (hn : n ≤ 64) : Dn.neD d d = some (.bl false) := by
  obtain ⟨p, h1, h2⟩ := h.sh hn
  unfold Dn.neD eqB
  rw [h1, obind_some, omap_some, omap_some, h2]; rfl
theorem lc_same {k : Nat} (ds : List D) (a b : D) (st : Sta) (h : ∀ x ∈ ds, F_l_same k [x, x] st = some (.ok (.bl true), st)) (hl : ds.length ≤ big) :
    lcGo (.tup [2, 3]) yesT (callP (F_l_same k) (consP (varP 2) (consP (varP 3) nilP))) [some a, some b, none, none] (zipL ds ds) st [] = some (.ok (.lst (ds.map fun _ => .bl true)), st) := by
  rw [zip_same]
  exact lc_map (fun d => D.tup [d, d]) (fun _ => .bl true) ds (fun x hx => ⟨_, rfl, by simp only [gd, runD, callP, kwF, pick, rtP, sqP, asP, parP, nxP, ifP, andV, orV, notV, andT, orT, notT, truP, tstP, truD, isiP, isisP, isTys, isNP, notNP, isNon, varP, chP, cstP, bltP, binP, consP, nilP, lstP, tupP, lcP, itP, rng1P, rng2P, slP, noP, soP, intOf, negP, sosP, bd_ok, List.map, List.replicate, List.length_cons, List.length_nil, List.cons_append, List.nil_append, List.append_nil, List.getElem?_cons_zero, List.getElem?_cons_succ, List.filterMap, List.set, omap_some, obind_some, isTy, blOf, if_t, if_f, lenF, leD_i, leD_s, ltD_i, ltD_s, gtD_i, geD_i, addD_i, subD_i, mulD_i, itemsD, wipeD, Tgt.put, setAll, outR, lb0, lb1, lb2, lb3, lb4, lb5, lb6, lb7, lb8, lb9, lb10, lb11, lb12, allF, listF, tupleF, intF, eq_self_iff_true, if_true, if_false, decide_true, decide_false, Bool.true_and, Bool.false_and, Bool.and_true, Bool.and_false, Bool.not_true, Bool.not_false, Nat.sub_self, Nat.reduceAdd, Nat.reduceSub, Nat.reduceEqDiff, h x hx]⟩) hl
theorem same_refl : ∀ {n : Nat} {d : D}, Pl n d → ∀ (k : Nat) (st : Sta), n < k → n ≤ 64 → F_l_same k [d, d] st = some (.ok (.bl true), st)
  | _, _, .non, k + 1, st, _, _ => by
    refine run_ret rfl ?_
    unfold d_l_same
    simp only [gd, runD, callP, kwF, pick, rtP, sqP, asP, parP, nxP, ifP, andV, orV, notV, andT, orT, notT, truP, tstP, truD, isiP, isisP, isTys, isNP, notNP, isNon, varP, chP, cstP, bltP, binP, consP, nilP, lstP, tupP, lcP, itP, rng1P, rng2P, slP, noP, soP, intOf, negP, sosP, bd_ok, List.map, List.replicate, List.length_cons, List.length_nil, List.cons_append, List.nil_append, List.append_nil, List.getElem?_cons_zero, List.getElem?_cons_succ, List.filterMap, List.set, omap_some, obind_some, isTy, blOf, if_t, if_f, lenF, leD_i, leD_s, ltD_i, ltD_s, gtD_i, geD_i, addD_i, subD_i, mulD_i, itemsD, wipeD, Tgt.put, setAll, outR, lb0, lb1, lb2, lb3, lb4, lb5, lb6, lb7, lb8, lb9, lb10, lb11, lb12, allF, listF, tupleF, intF, eq_self_iff_true, if_true, if_false, decide_true, decide_false, Bool.true_and, Bool.false_and, Bool.and_true, Bool.and_false, Bool.not_true, Bool.not_false, Nat.sub_self, Nat.reduceAdd, Nat.reduceSub, Nat.reduceEqDiff, neD_b, eqD_b, beq_self_eq_true]
  | _, _, .bl b, k + 1, st, _, _ => same_bl k b st
  | n, _, .int i, k + 1, st, _, hn => by
    refine run_ret rfl ?_
    unfold d_l_same
    simp only [gd, runD, callP, kwF, pick, rtP, sqP, asP, parP, nxP, ifP, andV, orV, notV, andT, orT, notT, truP, tstP, truD, isiP, isisP, isTys, isNP, notNP, isNon, varP, chP, cstP, bltP, binP, consP, nilP, lstP, tupP, lcP, itP, rng1P, rng2P, slP, noP, soP, intOf, negP, sosP, bd_ok, List.map, List.replicate, List.length_cons, List.length_nil, List.cons_append, List.nil_append, List.append_nil, List.getElem?_cons_zero, List.getElem?_cons_succ, List.filterMap, List.set, omap_some, obind_some, isTy, blOf, if_t, if_f, lenF, leD_i, leD_s, ltD_i, ltD_s, gtD_i, geD_i, addD_i, subD_i, mulD_i, itemsD, wipeD, Tgt.put, setAll, outR, lb0, lb1, lb2, lb3, lb4, lb5, lb6, lb7, lb8, lb9, lb10, lb11, lb12, allF, listF, tupleF, intF, eq_self_iff_true, if_true, if_false, decide_true, decide_false, Bool.true_and, Bool.false_and, Bool.and_true, Bool.and_false, Bool.not_true, Bool.not_false, Nat.sub_self, Nat.reduceAdd, Nat.reduceSub, Nat.reduceEqDiff, neD_b, eqD_b, beq_self_eq_true, (Pl.int (n := n) i).eqD hn]
  | n, _, .str (z := z) h l, k + 1, st, _, hn => by
    refine run_ret rfl ?_
    unfold d_l_same
    simp only [gd, runD, callP, kwF, pick, rtP, sqP, asP, parP, nxP, ifP, andV, orV, notV, andT, orT, notT, truP, tstP, truD, isiP, isisP, isTys, isNP, notNP, isNon, varP, chP, cstP, bltP, binP, consP, nilP, lstP, tupP, lcP, itP, rng1P, rng2P, slP, noP, soP, intOf, negP, sosP, bd_ok, List.map, List.replicate, List.length_cons, List.length_nil, List.cons_append, List.nil_append, List.append_nil, List.getElem?_cons_zero, List.getElem?_cons_succ, List.filterMap, List.set, omap_some, obind_some, isTy, blOf, if_t, if_f, lenF, leD_i, leD_s, ltD_i, ltD_s, gtD_i, geD_i, addD_i, subD_i, mulD_i, itemsD, wipeD, Tgt.put, setAll, outR, lb0, lb1, lb2, lb3, lb4, lb5, lb6, lb7, lb8, lb9, lb10, lb11, lb12, allF, listF, tupleF, intF, eq_self_iff_true, if_true, if_false, decide_true, decide_false, Bool.true_and, Bool.false_and, Bool.and_true, Bool.and_false, Bool.not_true, Bool.not_false, Nat.sub_self, Nat.reduceAdd, Nat.reduceSub, Nat.reduceEqDiff, neD_b, eqD_b, beq_self_eq_true, (Pl.str (n := n) h l).eqD hn]
  | n + 1, _, .lst (ds := ds) h l, k + 1, st, hk, hn => by
    have lc := lc_same (k := k) ds (.lst ds) (.lst ds) st (fun x hx => same_refl (h x hx) k st (by omega) (by omega)) l
    refine run_ret rfl ?_
    unfold d_l_same
    simp only [gd, runD, callP, kwF, pick, rtP, sqP, asP, parP, nxP, ifP, andV, orV, notV, andT, orT, notT, truP, tstP, truD, isiP, isisP, isTys, isNP, notNP, isNon, varP, chP, cstP, bltP, binP, consP, nilP, lstP, tupP, lcP, itP, rng1P, rng2P, slP, noP, soP, intOf, negP, sosP, bd_ok, List.map, List.replicate, List.length_cons, List.length_nil, List.cons_append, List.nil_append, List.append_nil, List.getElem?_cons_zero, List.getElem?_cons_succ, List.filterMap, List.set, omap_some, obind_some, isTy, blOf, if_t, if_f, lenF, leD_i, leD_s, ltD_i, ltD_s, gtD_i, geD_i, addD_i, subD_i, mulD_i, itemsD, wipeD, Tgt.put, setAll, outR, lb0, lb1, lb2, lb3, lb4, lb5, lb6, lb7, lb8, lb9, lb10, lb11, lb12, allF, listF, tupleF, intF, eq_self_iff_true, if_true, if_false, decide_true, decide_false, Bool.true_and, Bool.false_and, Bool.and_true, Bool.and_false, Bool.not_true, Bool.not_false, Nat.sub_self, Nat.reduceAdd, Nat.reduceSub, Nat.reduceEqDiff, neD_b, eqD_b, eqD_i, beq_self_eq_true, zipP, zipF, lc, blsT, all_rep]
  | n + 1, _, .tup (ds := ds) h l, k + 1, st, hk, hn => by
    have lc := lc_same (k := k) ds (.tup ds) (.tup ds) st (fun x hx => same_refl (h x hx) k st (by omega) (by omega)) l
    refine run_ret rfl ?_
    unfold d_l_same
    simp only [gd, runD, callP, kwF, pick, rtP, sqP, asP, parP, nxP, ifP, andV, orV, notV, andT, orT, notT, truP, tstP, truD, isiP, isisP, isTys, isNP, notNP, isNon, varP, chP, cstP, bltP, binP, consP, nilP, lstP, tupP, lcP, itP, rng1P, rng2P, slP, noP, soP, intOf, negP, sosP, bd_ok, List.map, List.replicate, List.length_cons, List.length_nil, List.cons_append, List.nil_append, List.append_nil, List.getElem?_cons_zero, List.getElem?_cons_succ, List.filterMap, List.set, omap_some, obind_some, isTy, blOf, if_t, if_f, lenF, leD_i, leD_s, ltD_i, ltD_s, gtD_i, geD_i, addD_i, subD_i, mulD_i, itemsD, wipeD, Tgt.put, setAll, outR, lb0, lb1, lb2, lb3, lb4, lb5, lb6, lb7, lb8, lb9, lb10, lb11, lb12, allF, listF, tupleF, intF, eq_self_iff_true, if_true, if_false, decide_true, decide_false, Bool.true_and, Bool.false_and, Bool.and_true, Bool.and_false, Bool.not_true, Bool.not_false, Nat.sub_self, Nat.reduceAdd, Nat.reduceSub, Nat.reduceEqDiff, neD_b, eqD_b, eqD_i, beq_self_eq_true, zipP, zipF, lc, blsT, all_rep]
theorem pl_tab {n k : Nat} (t : Nat → Int) (hk : k ≤ 12) : Pl (n + 1) (.lst (tabI k t)) ∧ Pl (n + 1) (.tup (tabI k t)) := by
  have a : ∀ x ∈ tabI k t, Pl n x := fun x hx => by
    obtain ⟨z, hz, rfl⟩ := List.mem_map.mp hx
    exact .int _
  have hp : 2 ^ k ≤ 2 ^ 12 := Nat.pow_le_pow_right (by decide) hk
  have b : (tabI k t).length ≤ big := by rw [tabI_len]; unfold big; omega
  exact ⟨.lst a b, .tup a b⟩
end Dn

set_option linter.all false
namespace Mr
/-! one place taken out or put in; unions of sets -/
def sq (s j : Nat) : Nat := j % 2 ^ s + j / 2 ^ (s + 1) * 2 ^ s
def wd (s i : Nat) : Nat := i % 2 ^ s + i / 2 ^ s * 2 ^ (s + 1)
theorem split (s i : Nat) : ∃ a c, a < 2 ^ s ∧ i = a + c * 2 ^ s := ⟨i % 2 ^ s, i / 2 ^ s, Nat.mod_lt _ (Nat.two_pow_pos s), by rw [Nat.mul_comm]; exact (Nat.mod_add_div i (2 ^ s)).symm⟩
section
variable {s a c : Nat} (ha : a < 2 ^ s)
include ha
theorem sp_mod : (a + c * 2 ^ s) % 2 ^ s = a := by rw [Nat.add_mul_mod_self_right, Nat.mod_eq_of_lt ha]
theorem sp_div : (a + c * 2 ^ s) / 2 ^ s = c := by rw [Nat.add_mul_div_right _ _ (Nat.two_pow_pos s), Nat.div_eq_of_lt ha, Nat.zero_add]
theorem wd_sp : wd s (a + c * 2 ^ s) = a + 2 * c * 2 ^ s := by unfold wd; rw [sp_mod ha, sp_div ha, Nat.pow_succ, Nat.mul_comm 2 c, Nat.mul_assoc, Nat.mul_comm 2 (2 ^ s)]
end
theorem wd_one (s i : Nat) : ∃ a c, a < 2 ^ s ∧ i = a + c * 2 ^ s ∧ wd s i + 2 ^ s = a + (2 * c + 1) * 2 ^ s := by
  obtain ⟨a, c, ha, rfl⟩ := split s i
  exact ⟨a, c, ha, rfl, by rw [wd_sp ha, Nat.add_mul, Nat.one_mul]; omega⟩
theorem wd_lt {s i n : Nat} (hs : s ≤ n) (h : i < 2 ^ n) : wd s i + 2 ^ s < 2 ^ (n + 1) := by
  obtain ⟨a, c, ha, e0, e2⟩ := wd_one s i
  rw [e2]
  have e : 2 ^ n = 2 ^ (n - s) * 2 ^ s := by rw [← Nat.pow_add, Nat.sub_add_cancel hs]
  have e1 : 2 ^ (n + 1) = 2 * 2 ^ (n - s) * 2 ^ s := by rw [Nat.pow_succ, e, Nat.mul_comm _ 2, Nat.mul_assoc]
  have hc : c < 2 ^ (n - s) := by
    refine Nat.lt_of_not_le fun q => ?_
    have := Nat.mul_le_mul_right (2 ^ s) q
    omega
  have : (2 * c + 1 + 1) * 2 ^ s ≤ 2 * 2 ^ (n - s) * 2 ^ s := Nat.mul_le_mul_right _ (by omega)
  rw [Nat.add_mul (2 * c + 1), Nat.one_mul] at this
  omega
/-! the three lists of amounts -/
theorem pow_two (m : Nat) : 2 ^ (m + 1) = 2 * 2 ^ m := by rw [Nat.pow_succ, Nat.mul_comm]
theorem pow_le {m s : Nat} (h : m ≤ s) : 2 ^ m ≤ 2 ^ s := Nat.pow_le_pow_right (by decide) h
/-! ranks of unions -/
theorem or_self_bit {y b : Nat} (h : y.testBit b = true) : y ||| 2 ^ b = y := by
  refine Nat.eq_of_testBit_eq fun i => ?_
  rw [Nat.testBit_or, Nat.testBit_two_pow]
  by_cases e : b = i
  · subst e; rw [h]; rfl
  · simp [e]
theorem or_xor_bit {y b : Nat} (h : y.testBit b = false) : (y ||| 2 ^ b) ^^^ 2 ^ b = y := by
  refine Nat.eq_of_testBit_eq fun i => ?_
  rw [Nat.testBit_xor, Nat.testBit_or, Nat.testBit_two_pow]
  by_cases e : b = i
  · subst e; rw [h]; simp
  · simp [e]
theorem or_bit_lt {y b n : Nat} (h : y < 2 ^ n) (hb : b < n) : y ||| 2 ^ b < 2 ^ n := Nat.or_lt_two_pow h (Nat.pow_lt_pow_right (by decide) hb)
theorem or_bit (y b : Nat) : (y ||| 2 ^ b).testBit b = true := by rw [Nat.testBit_or, Nat.testBit_two_pow]; simp
section
variable {n : Nat} {r : Nat → Nat} (R : Rk n r)
include R
theorem addb {y b : Nat} (h : y < 2 ^ n) (hb : b < n) : r y ≤ r (y ||| 2 ^ b) ∧ r (y ||| 2 ^ b) ≤ r y + 1 := by
  cases q : y.testBit b with
  | true => rw [or_self_bit q]; omega
  | false =>
    have := R.one (y ||| 2 ^ b) b (or_bit_lt h hb) hb (or_bit y b)
    rw [or_xor_bit q] at this
    omega
theorem top_split {w m : Nat} (h : w < 2 ^ (m + 1)) : w < 2 ^ m ∨ ∃ v, v < 2 ^ m ∧ w = v ||| 2 ^ m := by
  rcases Nat.lt_or_ge w (2 ^ m) with q | q
  · exact .inl q
  · refine .inr ⟨w - 2 ^ m, by rw [pow_two] at h; omega, ?_⟩
    rw [Nat.or_two_pow_eq_add_of_lt (by rw [pow_two] at h; omega)]
    omega
theorem mono {x : Nat} (hx : x < 2 ^ n) : ∀ (m w : Nat), m ≤ n → w < 2 ^ m → r x ≤ r (x ||| w)
  | 0, w, _, h => by
    have : w = 0 := by omega
    subst this; rw [Nat.or_zero]; exact Nat.le_refl _
  | m + 1, w, hm, h => by
    rcases top_split R h with q | ⟨v, hv, rfl⟩
    · exact mono hx m w (by omega) q
    · have ih := mono hx m v (by omega) hv
      have lt : x ||| v < 2 ^ n := Nat.or_lt_two_pow hx (Nat.lt_of_lt_of_le hv (pow_le (by omega)))
      have := (addb R lt (show m < n by omega)).1
      rw [← Nat.or_assoc]
      omega
theorem loop1 {b : Nat} (hb : b < n) (h0 : r (2 ^ b) = 0) : ∀ (m x : Nat), m ≤ n → x < 2 ^ m → r (x ||| 2 ^ b) = r x
  | 0, x, _, h => by
    have : x = 0 := by omega
    subst this; rw [Nat.zero_or, h0, R.zero]
  | m + 1, x, hm, h => by
    rcases top_split R h with q | ⟨y, hy, rfl⟩
    · exact loop1 hb h0 m x (by omega) q
    · have ih := loop1 hb h0 m y (by omega) hy
      have y2 : y < 2 ^ n := Nat.lt_of_lt_of_le hy (pow_le (by omega))
      have hmn : m < n := by omega
      have x2 := or_bit_lt y2 hmn
      have a1 := addb R y2 hmn
      have a2 := addb R x2 hb
      cases qb : (y ||| 2 ^ m).testBit b with
      | true => rw [or_self_bit qb]
      | false =>
        have nb : b ≠ m := fun e => by rw [e, or_bit] at qb; cases qb
        have yb : y.testBit b = false := by rw [Nat.testBit_or] at qb; exact (Bool.or_eq_false_iff.mp qb).1
        have ym : y.testBit m = false := Nat.testBit_lt_two_pow hy
        have z2 := or_bit_lt x2 hb
        have zb : (y ||| 2 ^ m ||| 2 ^ b) ^^^ 2 ^ b = y ||| 2 ^ m := or_xor_bit qb
        have e1 : y ||| 2 ^ m ||| 2 ^ b = (y ||| 2 ^ b) ||| 2 ^ m := by rw [Nat.or_assoc, Nat.or_comm (2 ^ m), ← Nat.or_assoc]
        have ybm : (y ||| 2 ^ b).testBit m = false := by rw [Nat.testBit_or, ym, Nat.testBit_two_pow]; simp [nb]
        have zm : (y ||| 2 ^ m ||| 2 ^ b) ^^^ 2 ^ m = y ||| 2 ^ b := by rw [e1]; exact or_xor_bit ybm
        have zmb : (y ||| 2 ^ m) ^^^ 2 ^ m = y := or_xor_bit ym
        have tb : (y ||| 2 ^ m ||| 2 ^ b).testBit b = true := or_bit _ _
        have tm : (y ||| 2 ^ m ||| 2 ^ b).testBit m = true := by rw [e1]; exact or_bit _ _
        have o1 := R.one _ m z2 hmn tm
        rw [zm] at o1
        have tw := R.two _ b m z2 hb hmn nb tb tm
        rw [zb, zm, zmb] at tw
        omega
theorem loops {x : Nat} (hx : x < 2 ^ n) : ∀ (m w : Nat), m ≤ n → w < 2 ^ m → r w = 0 → r (x ||| w) = r x
  | 0, w, _, h, _ => by
    have : w = 0 := by omega
    subst this; rw [Nat.or_zero]
  | m + 1, w, hm, h, h0 => by
    rcases top_split R h with q | ⟨v, hv, rfl⟩
    · exact loops hx m w (by omega) q h0
    · have v2 : v < 2 ^ n := Nat.lt_of_lt_of_le hv (pow_le (by omega))
      have v0 : r v = 0 := by have := (addb R v2 (show m < n by omega)).1; omega
      have b0 : r (2 ^ m) = 0 := by
        have p : 2 ^ m < 2 ^ n := Nat.pow_lt_pow_right (by decide) hm
        have := mono R p n v (Nat.le_refl _) v2
        rw [Nat.or_comm] at this
        omega
      have ih := loops hx m v (by omega) hv v0
      rw [← Nat.or_assoc, loop1 R (show m < n by omega) b0 n (x ||| v) (Nat.le_refl _) (Nat.or_lt_two_pow hx v2), ih]
end
end Mr

set_option Elab.async false
set_option linter.all false
set_option maxRecDepth 100000
set_option maxHeartbeats 4000000
namespace Dn
open PySem PySem.Spec PyProof.Rows L2
theorem addI_lst (xs ys : List Int) (h : xs.length + ys.length ≤ big) : addD (.lst (xs.map .int)) (.lst (ys.map .int)) = some (.lst ((xs ++ ys).map .int)) := by
  show (if _ then _ else _) = _
  rw [if_pos (by rw [List.length_map, List.length_map]; exact h), List.map_append]
/-! ### ~, == and what is told -/
section
variable (C : Nat → Addr) (N : D) (u : Int) (tab : List D) (st : Sta)
theorem table_m : F_Structure_table C [stO C N u tab] st = some (.ok (.lst tab), st) := by
  refine run_ret rfl ?_
  unfold d_Structure_table
  simp only [gd, runD, callP, kwF, pick, rtP, sqP, asP, parP, nxP, ifP, andV, orV, notV, andT, orT, notT, truP, tstP, truD, isiP, isisP, isTys, isNP, notNP, isNon, varP, chP, cstP, bltP, binP, consP, nilP, lstP, tupP, lcP, itP, rng1P, rng2P, slP, noP, soP, intOf, negP, sosP, bd_ok, List.map, List.replicate, List.length_cons, List.length_nil, List.cons_append, List.nil_append, List.append_nil, List.getElem?_cons_zero, List.getElem?_cons_succ, List.filterMap, List.set, omap_some, obind_some, isTy, blOf, if_t, if_f, lenF, leD_i, leD_s, ltD_i, ltD_s, gtD_i, geD_i, addD_i, subD_i, mulD_i, itemsD, wipeD, Tgt.put, setAll, outR, lb0, lb1, lb2, lb3, lb4, lb5, lb6, lb7, lb8, lb9, lb10, lb11, lb12, allF, listF, tupleF, intF, eq_self_iff_true, if_true, if_false, decide_true, decide_false, Bool.true_and, Bool.false_and, Bool.and_true, Bool.and_false, Bool.not_true, Bool.not_false, Nat.sub_self, Nat.reduceAdd, Nat.reduceSub, Nat.reduceEqDiff, fldP, ins_o, lk_t]
end
theorem rng1_at {tr : ADen} {Δ : Dl} {st st1 : Sta} {ds xs : List D} (h : tr Δ st = some (.ok ds, st1)) (h2 : rng1F ds = some xs) : rng1P tr Δ st = some (.ok xs, st1) := by
  unfold rng1P
  rw [h, bd_ok, h2, omap_some]
def worldD (ws : List Str) (h n : Nat) (t : Nat → Int) : D := .tup [.lst (ws.map .str), .int h, .lst (tabI n t)]
structure Wrl (ws : List Str) (h n : Nat) (r : Nat → Nat) : Prop where
  hn : n = ws.length + h
  so : ws = srtS ws
  nm : ∀ z ∈ ws, NameS z
  nd : ws.Nodup
  hr : Mr.Rk n r
theorem srt_srt (zs : List Str) : srtS zs = srtS (srtS zs) := srtS_one (List.Perm.refl _) (srtS_ord zs)
theorem srt_mem {zs : List Str} {z : Str} : z ∈ srtS zs ↔ z ∈ zs := (srtS_perm zs).mem_iff
theorem srt_nd {zs : List Str} (h : zs.Nodup) : (srtS zs).Nodup := (srtS_perm zs).nodup_iff.mpr h
section
variable {ws : List Str} {h n : Nat} {r : Nat → Nat} (C : Nat → Addr) (W : Wrl ws h n r) (st : Sta)
theorem Wrl.right (W : Wrl ws h n r) (h6 : ws.length ≤ 6) (h9 : h ≤ 9) (h12 : n ≤ 12) : Right (.lst (ws.map .str)) (.lst (tabI n fun i => (r i : Int))) ws h r := by
  obtain ⟨rfl, so, nm, nd, hr⟩ := W
  exact ⟨.inl rfl, nm, nd, h6, h9, h12, .inl rfl, hr⟩
end
theorem idx_at {ws : List Str} (nd : ws.Nodup) {j : Nat} (hj : j < ws.length) : ws.idxOf ws[j] = j := by
  have hlt := List.idxOf_lt_length_of_mem (List.getElem_mem hj)
  have e := List.getElem_idxOf hlt
  rcases Nat.lt_trichotomy (ws.idxOf ws[j]) j with q | q | q
  · exact absurd e ((List.pairwise_iff_getElem.mp nd) _ _ hlt hj q)
  · exact q
  · exact absurd e.symm ((List.pairwise_iff_getElem.mp nd) _ _ hj hlt q)
theorem place_ok {ws : List Str} {z : Str} (h : z ∈ ws) : placeF (.str z) (ws.map .str) = some (.int (ws.idxOf z : Nat)) := by
  show (strsD (ws.map .str)).bind _ = _
  rw [strsD_map, obind_some, if_pos h]
/-! ### groups as masks -/
def mk (ws g : List Str) : Nat := g.foldl (fun m z => m ||| 2 ^ ws.idxOf z) 0
theorem add_or {x j : Nat} (h : x.testBit j = false) : x + 2 ^ j = x ||| 2 ^ j := by
  have lo1 : x % 2 ^ (j + 1) < 2 ^ j := by
    refine Nat.lt_pow_two_of_testBit _ fun i hi => ?_
    rw [Nat.testBit_mod_two_pow]
    rcases Nat.lt_or_ge i (j + 1) with q | q
    · have : i = j := by omega
      subst this
      rw [h, Bool.and_false]
    · rw [decide_eq_false (by omega), Bool.false_and]
  have hp : 2 ^ (j + 1) = 2 ^ j + 2 ^ j := by rw [Nat.pow_succ]; omega
  have e : x = 2 ^ (j + 1) * (x / 2 ^ (j + 1)) + x % 2 ^ (j + 1) := (Nat.div_add_mod _ _).symm
  generalize x / 2 ^ (j + 1) = hi at e
  generalize x % 2 ^ (j + 1) = lo at e lo1
  have e1 := Nat.two_pow_add_eq_or_of_lt (i := j + 1) (b := lo) (by omega) hi
  have e2 := Nat.two_pow_add_eq_or_of_lt (i := j + 1) (b := lo + 2 ^ j) (by omega) hi
  have e3 := Nat.or_two_pow_eq_add_of_lt lo1
  rw [e, e1, Nat.or_assoc, e3, ← e2, ← e1]
  omega
/-! ### the law's own reckoning -/
section
variable {ws : List Str} {h n : Nat} (t : Nat → Int) (st : Sta)
end
section
variable (C : Nat → Addr) {ws : List Str} {u n : Nat} (t : Nat → Int) (st : Sta)
end
/-! ### what is drawn -/
section
variable {scr : Option (Addr × List Int)} {own : List (Nat × Cell)} {nx : Nat} {ws : List Str}
end
theorem n_table : (("table" : Str) ∈ stNs) = False := eq_false (by decide +kernel)
end Dn

set_option Elab.async false
set_option linter.all false
set_option maxRecDepth 100000
set_option maxHeartbeats 4000000
namespace Dn
open PySem PySem.Spec PyProof.Rows L2
/-! ### a name put into a sorted list -/
structure InsAt (ws : List Str) (z : Str) (vs : List Str) (s : Nat) : Prop where
  hs : s ≤ ws.length
  e : vs = ws.take s ++ z :: ws.drop s
  nz : z ∉ ws
  nd : ws.Nodup
section
variable {ws vs : List Str} {z : Str} {s : Nat} (I : InsAt ws z vs s)
include I
theorem InsAt.len : vs.length = ws.length + 1 := by
  have := I.hs
  rw [I.e, List.length_append, List.length_cons, List.length_take, List.length_drop]
  omega
theorem InsAt.at (b : Nat) : vs[b]? = if b < s then ws[b]? else if b = s then some z else ws[b - 1]? := by
  have hs := I.hs
  have tl : (ws.take s).length = s := by rw [List.length_take]; omega
  rw [I.e]
  by_cases h1 : b < s
  · rw [if_pos h1, List.getElem?_append_left (by omega), List.getElem?_take, if_pos h1]
  rw [if_neg h1, List.getElem?_append_right (by omega), tl]
  by_cases h2 : b = s
  · rw [if_pos h2, h2, Nat.sub_self]; rfl
  · rw [if_neg h2, show b - s = (b - s - 1) + 1 by omega, List.getElem?_cons_succ, List.getElem?_drop, show s + (b - s - 1) = b - 1 by omega]
theorem InsAt.perm : vs.Perm (z :: ws) := by
  rw [I.e]
  refine List.perm_middle.trans ?_
  rw [List.take_append_drop]
theorem InsAt.ndv : vs.Nodup := I.perm.nodup_iff.mpr (List.nodup_cons.mpr ⟨I.nz, I.nd⟩)
theorem InsAt.mem {x : Str} : x ∈ vs ↔ x = z ∨ x ∈ ws := by rw [I.perm.mem_iff, List.mem_cons]
theorem idx_of {l : List Str} {x : Str} {b : Nat} (nd : l.Nodup) (h : l[b]? = some x) : l.idxOf x = b := by
  obtain ⟨hb, e⟩ := List.getElem?_eq_some_iff.mp h
  rw [← e]
  exact idx_at nd hb
theorem InsAt.idx : vs.idxOf z = s := idx_of I I.ndv (by rw [I.at, if_neg (Nat.lt_irrefl _), if_pos rfl])
theorem InsAt.filt : (vs.filter fun x => decide (x ≠ z)) = ws := by
  have h : ∀ l : List Str, (∀ x ∈ l, x ∈ ws) → (l.filter fun x => decide (x ≠ z)) = l := fun l hl => List.filter_eq_self.mpr fun x hx => by simp; exact fun e => I.nz (e ▸ hl x hx)
  rw [I.e, List.filter_append, List.filter_cons_of_neg (by simp), h _ fun x hx => List.mem_of_mem_take hx, h _ fun x hx => List.mem_of_mem_drop hx, List.take_append_drop]
end
/-! ### equal texts -/
theorem cps_ok {x : Str} (h : NameS x) : x.cps.all (· < 0x110000) = true := by
  obtain ⟨_, _, h3⟩ := h
  rw [Array.all_eq_true_iff_forall_mem]
  intro c hc
  have := List.all_eq_true.mp h3 c (by simpa using hc)
  unfold lowC at this
  rw [Bool.and_eq_true, decide_eq_true_eq, decide_eq_true_eq] at this
  simp
  omega
theorem eqB_name {x y : Str} (hx : NameS x) (hy : NameS y) : eqB (.str x) (.str y) = some (decide (x = y)) := by
  have sh : ∀ z : Str, NameS z → shP (.str z) = some (.str z) := fun z hz => by
    show (if SeqAt.shaped (PyData.str z) = true then some (PyData.str z) else none) = _
    refine if_pos ?_
    unfold SeqAt.shaped
    rw [show PyData.canLay0 (PyData.str z) = true from cps_ok hz]
    rfl
  have e : PyData.eqv (.str x) (.str y) = decide (x = y) := by
    simp only [PyData.eqv]
    rw [Bool.eq_iff_iff, beq_iff_eq, decide_eq_true_eq]
  unfold eqB
  rw [sh x hx, sh y hy, obind_some, omap_some, e]
theorem neD_name {x y : Str} (hx : NameS x) (hy : NameS y) : neD (.str x) (.str y) = some (.bl (decide (x ≠ y))) := by
  unfold Dn.neD
  rw [eqB_name hx hy, omap_some]
  congr 2
  by_cases h : x = y <;> simp [h]
theorem neD_i (i j : Int) : neD (.int i) (.int j) = some (.bl (!(i == j))) := rfl
end Dn

set_option Elab.async false
set_option linter.all false
set_option maxRecDepth 100000
set_option maxHeartbeats 4000000
namespace Dn
open PySem PySem.Spec PyProof.Rows L2
/-! ### changes of structures -/
section
variable (C : Nat → Addr) {ws : List Str} {u n : Nat} (t : Nat → Int) (st : Sta)
end
end Dn

set_option Elab.async false
set_option linter.all false
set_option maxRecDepth 100000
set_option maxHeartbeats 4000000
namespace Dn
open PySem PySem.Spec PyProof.Rows L2
theorem cons_at {te : EDen} {tr : ADen} {Δ : Dl} {st st1 st2 : Sta} {d : D} {ds : List D} (h1 : te Δ st = some (.ok d, st1)) (h2 : tr Δ st1 = some (.ok ds, st2)) : consP te tr Δ st = some (.ok (d :: ds), st2) := by
  unfold consP
  rw [h1, bd_ok, h2, bd_ok]
theorem call_at {F : FDen} {tr : ADen} {Δ : Dl} {st st1 : Sta} {ds : List D} (h : tr Δ st = some (.ok ds, st1)) : callP F tr Δ st = F ds st1 := by
  unfold callP
  rw [h, bd_ok]
theorem tru_at {te : EDen} {Δ : Dl} {st st1 : Sta} {b : Bool} (h : te Δ st = some (.ok (.bl b), st1)) : truP te Δ st = some (.ok b, st1) := by
  unfold truP
  rw [h, bd_ok]
  rfl
theorem not_at {tt : TDen} {Δ : Dl} {st st1 : Sta} {b : Bool} (h : tt Δ st = some (.ok b, st1)) : notT tt Δ st = some (.ok (!b), st1) := by
  unfold notT
  rw [h, bd_ok]
theorem bin_at {f : D → D → Option D} {ta tb : EDen} {Δ : Dl} {st st1 st2 : Sta} {x y d : D} (ha : ta Δ st = some (.ok x, st1)) (hb : tb Δ st1 = some (.ok y, st2)) (hf : f x y = some d) : binP f ta tb Δ st = some (.ok d, st2) := by
  unfold binP
  rw [ha, bd_ok, hb, bd_ok, hf]
  rfl
theorem blt_at {F : List D → Option D} {tr : ADen} {Δ : Dl} {st st1 : Sta} {ds : List D} {d : D} (h : tr Δ st = some (.ok ds, st1)) (hF : F ds = some d) : bltP F tr Δ st = some (.ok d, st1) := by
  unfold bltP
  rw [h, bd_ok, hF]
  rfl
theorem as_at {g : Tgt} {te : EDen} {Δ Δ1 : Dl} {st st1 : Sta} {d : D} (h : te Δ st = some (.ok d, st1)) (hp : g.put d Δ = some Δ1) : asP g te Δ st = some (.ok (.nx Δ1), st1) := by
  unfold asP
  rw [h, bd_ok, hp]
  rfl
theorem rt_at {te : EDen} {Δ : Dl} {st st1 : Sta} {d : D} (h : te Δ st = some (.ok d, st1)) : rtP te Δ st = some (.ok (.rt d), st1) := by
  unfold rtP
  rw [h, bd_ok]
section
variable (C : Nat → Addr) {ws vs : List Str} {z : Str} {s u n : Nat} (t : Nat → Int) (st : Sta)
end
end Dn

set_option Elab.async false
set_option linter.all false
set_option maxRecDepth 100000
set_option maxHeartbeats 4000000
namespace Dn
open PySem PySem.Spec PyProof.Rows L2
/-! ### the law's own tables -/
theorem shlD_m (a k : Nat) (ha : a < 1000000) (h : k ≤ 1000) : intD shlI (.int a) (.int k) = some (.int (a * 2 ^ k : Nat)) := by
  show (shlI a k).map D.int = _
  rw [show shlI a k = some ((a : Int) * 2 ^ (k : Int).toNat) from if_pos ⟨by omega, by omega, by rw [Int.natAbs_natCast]; exact Nat.lt_of_lt_of_le ha (by decide)⟩]
  show some (D.int _) = _
  rw [Int.toNat_natCast]
  simp
theorem open_m1 (i s : Nat) : intD modI (.int i) (.int (2 ^ s : Nat)) = some (.int (i % 2 ^ s : Nat)) := by
  have hp : (0 : Int) < ((2 ^ s : Nat) : Int) := by have := Nat.two_pow_pos s; omega
  rw [modD _ _ hp, ← Int.natCast_emod]
theorem open_s1 (i s : Nat) (hi : i < 1000000) (hs : s ≤ 100) : intD shlI (.int (i / 2 ^ s : Nat)) (.int (s + 1 : Nat)) = some (.int (i / 2 ^ s * 2 ^ (s + 1) : Nat)) := shlD_m (i / 2 ^ s) (s + 1) (Nat.lt_of_le_of_lt (Nat.div_le_self _ _) hi) (by omega)
theorem open_i1 (i : Nat) : intF [.int i] = some (.int i) := rfl
theorem open_e1 (s : Nat) : ((s : Nat) : Int) + 1 = ((s + 1 : Nat) : Int) := by omega
theorem open_ok (i s : Nat) (hi : i < 1000000) (hs : s ≤ 100) (st : Sta) : F_l_open [.int i, .int s] st = some (.ok (.int (Mr.wd s i : Nat)), st) := by
  have e : addD (.int (i % 2 ^ s : Nat)) (.int (i / 2 ^ s * 2 ^ (s + 1) : Nat)) = some (.int (Mr.wd s i : Nat)) := by
    rw [addD_i, ← Int.natCast_add]
    rfl
  have a1 : addD (.int (s : Nat)) (.int 1) = some (.int (s + 1 : Nat)) := by rw [addD_i, open_e1]
  refine run_ret rfl ?_
  show d_l_open [some (.int i), some (.int s)] st = _
  unfold d_l_open
  exact rt_at (bin_at (bin_at (blt_at (cons_at rfl rfl) (open_i1 i)) (bin_at rfl rfl (shlD_n s (by omega))) (open_m1 i s)) (bin_at (bin_at rfl rfl (shrD_n i s)) (bin_at rfl rfl a1) (open_s1 i s hi hs)) e)
section
variable {ws vs : List Str} {z : Str} {s h n : Nat} (t : Nat → Int) (st : Sta)
end
end Dn

set_option Elab.async false
set_option linter.all false
set_option maxRecDepth 100000
set_option maxHeartbeats 4000000
namespace Dn
open PySem PySem.Spec PyProof.Rows L2
section
variable {ws vs : List Str} {z : Str} {s h n : Nat} (t : Nat → Int) (st : Sta)
theorem gone_ok (I : InsAt ws z vs s) (hn : n = ws.length + h) (h11 : n ≤ 11) (nm : ∀ x ∈ vs, NameS x) (T : Nat → Int) : F_l_gone [worldD vs h (n + 1) T, .str z, .bl true] st = some (.ok (worldD ws h n fun i => T (Mr.wd s i + 2 ^ s) - T (2 ^ s)), st) := by
  have hs := I.hs
  have hl := I.len
  have hzv : z ∈ vs := I.mem.mpr (.inl rfl)
  have hp := Nat.two_pow_pos n
  have hp11 : 2 ^ n ≤ 2 ^ 11 := Nat.pow_le_pow_right (by decide) h11
  have e0 : ixD (worldD vs h (n + 1) T) (.int 0) = some (.lst (vs.map .str)) := rfl
  have e1 : ixD (worldD vs h (n + 1) T) (.int 1) = some (.int h) := rfl
  have e2 : ixD (worldD vs h (n + 1) T) (.int 2) = some (.lst (tabI (n + 1) T)) := rfl
  have pl := place_ok hzv
  rw [I.idx] at pl
  have fd : intD fdivI (.int (2 ^ (n + 1) : Nat)) (.int 2) = some (.int (2 ^ n : Nat)) := by
    rw [fdivD _ _ (by decide), Mr.pow_two]
    congr 2
    omega
  have rg := rngN' (2 ^ n) (by omega)
  have lc := lc_map (t := .one 7) (te := binP subD (binP ixD (varP 4) (binP addD (callP F_l_open (consP (varP 7) (consP (varP 3) nilP))) (varP 5))) (binP ixD (varP 4) (varP 5)))
    (Δ := [some (worldD vs h (n + 1) T), some (.str z), some (.bl true), some (.int (s : Nat)), some (.lst (tabI (n + 1) T)), some (.int (2 ^ s : Nat)), none, none, none]) (st := st) (fun i : Nat => D.int (i : Nat)) (fun i => .int (T (Mr.wd s i + 2 ^ s) - T (2 ^ s))) (List.range (2 ^ n)) (fun i hi => by
      have hi' := List.mem_range.mp hi
      have y0 := Mr.wd_lt (show s ≤ n by omega) hi'
      have y2 : 2 ^ s < 2 ^ (n + 1) := Nat.lt_of_le_of_lt (Nat.le_add_left _ _) y0
      have x1 : ixD (.lst (tabI (n + 1) T)) (.int (Mr.wd s i + 2 ^ s : Nat)) = some (.int (T (Mr.wd s i + 2 ^ s))) := tabI_at y0
      have x2 : ixD (.lst (tabI (n + 1) T)) (.int (2 ^ s : Nat)) = some (.int (T (2 ^ s))) := tabI_at y2
      have ew : (Mr.wd s i : Int) + ((2 ^ s : Nat) : Int) = ((Mr.wd s i + 2 ^ s : Nat) : Int) := by omega
      refine ⟨_, rfl, ?_⟩
      simp only [gd, runD, callP, kwF, pick, rtP, sqP, asP, parP, nxP, ifP, andV, orV, notV, andT, orT, notT, truP, tstP, truD, isiP, isisP, isTys, isNP, notNP, isNon, varP, chP, cstP, bltP, binP, consP, nilP, lstP, tupP, lcP, itP, rng1P, rng2P, slP, noP, soP, intOf, negP, sosP, bd_ok, List.map, List.replicate, List.length_cons, List.length_nil, List.cons_append, List.nil_append, List.append_nil, List.getElem?_cons_zero, List.getElem?_cons_succ, List.filterMap, List.set, omap_some, obind_some, isTy, blOf, if_t, if_f, lenF, leD_i, leD_s, ltD_i, ltD_s, gtD_i, geD_i, addD_i, subD_i, mulD_i, itemsD, wipeD, Tgt.put, setAll, outR, lb0, lb1, lb2, lb3, lb4, lb5, lb6, lb7, lb8, lb9, lb10, lb11, lb12, allF, listF, tupleF, intF, eq_self_iff_true, if_true, if_false, decide_true, decide_false, Bool.true_and, Bool.false_and, Bool.and_true, Bool.and_false, Bool.not_true, Bool.not_false, Nat.sub_self, Nat.reduceAdd, Nat.reduceSub, Nat.reduceEqDiff, open_ok i s (by omega) (by omega) st, ew, x1, x2]) (by rw [List.length_range]; unfold big; omega)
  have lw := lc_filt (t := .one 8) (tt := tstP (binP neD (varP 8) (varP 1))) (te := varP 8) (Δ := [some (worldD vs h (n + 1) T), some (.str z), some (.bl true), some (.int (s : Nat)), some (.lst (tabI (n + 1) T)), some (.int (2 ^ s : Nat)), some (.lst (tabI n fun i => T (Mr.wd s i + 2 ^ s) - T (2 ^ s))), none, none]) (st := st) (fun x : Str => D.str x) (fun x => decide (x ≠ z)) (fun x => .str x) vs [] (fun x hx => by
    refine ⟨_, rfl, ?_, fun _ => ?_⟩
    · simp only [gd, runD, callP, kwF, pick, rtP, sqP, asP, parP, nxP, ifP, andV, orV, notV, andT, orT, notT, truP, tstP, truD, isiP, isisP, isTys, isNP, notNP, isNon, varP, chP, cstP, bltP, binP, consP, nilP, lstP, tupP, lcP, itP, rng1P, rng2P, slP, noP, soP, intOf, negP, sosP, bd_ok, List.map, List.replicate, List.length_cons, List.length_nil, List.cons_append, List.nil_append, List.append_nil, List.getElem?_cons_zero, List.getElem?_cons_succ, List.filterMap, List.set, omap_some, obind_some, isTy, blOf, if_t, if_f, lenF, leD_i, leD_s, ltD_i, ltD_s, gtD_i, geD_i, addD_i, subD_i, mulD_i, itemsD, wipeD, Tgt.put, setAll, outR, lb0, lb1, lb2, lb3, lb4, lb5, lb6, lb7, lb8, lb9, lb10, lb11, lb12, allF, listF, tupleF, intF, eq_self_iff_true, if_true, if_false, decide_true, decide_false, Bool.true_and, Bool.false_and, Bool.and_true, Bool.and_false, Bool.not_true, Bool.not_false, Nat.sub_self, Nat.reduceAdd, Nat.reduceSub, Nat.reduceEqDiff, neD_name (nm x hx) (nm z hzv)]
    · simp only [gd, runD, callP, kwF, pick, rtP, sqP, asP, parP, nxP, ifP, andV, orV, notV, andT, orT, notT, truP, tstP, truD, isiP, isisP, isTys, isNP, notNP, isNon, varP, chP, cstP, bltP, binP, consP, nilP, lstP, tupP, lcP, itP, rng1P, rng2P, slP, noP, soP, intOf, negP, sosP, bd_ok, List.map, List.replicate, List.length_cons, List.length_nil, List.cons_append, List.nil_append, List.append_nil, List.getElem?_cons_zero, List.getElem?_cons_succ, List.filterMap, List.set, omap_some, obind_some, isTy, blOf, if_t, if_f, lenF, leD_i, leD_s, ltD_i, ltD_s, gtD_i, geD_i, addD_i, subD_i, mulD_i, itemsD, wipeD, Tgt.put, setAll, outR, lb0, lb1, lb2, lb3, lb4, lb5, lb6, lb7, lb8, lb9, lb10, lb11, lb12, allF, listF, tupleF, intF, eq_self_iff_true, if_true, if_false, decide_true, decide_false, Bool.true_and, Bool.false_and, Bool.and_true, Bool.and_false, Bool.not_true, Bool.not_false, Nat.sub_self, Nat.reduceAdd, Nat.reduceSub, Nat.reduceEqDiff]) (by rw [List.length_nil]; unfold big; omega)
  rw [I.filt, List.nil_append] at lw
  refine run_ret rfl ?_
  unfold d_l_gone
  refine sq_step (st1 := st) (Δ1 := [some (worldD vs h (n + 1) T), some (.str z), some (.bl true), some (.int (s : Nat)), some (.lst (tabI (n + 1) T)), none, none, none, none]) (by simp only [gd, runD, callP, kwF, pick, rtP, sqP, asP, parP, nxP, ifP, andV, orV, notV, andT, orT, notT, truP, tstP, truD, isiP, isisP, isTys, isNP, notNP, isNon, varP, chP, cstP, bltP, binP, consP, nilP, lstP, tupP, lcP, itP, rng1P, rng2P, slP, noP, soP, intOf, negP, sosP, bd_ok, List.map, List.replicate, List.length_cons, List.length_nil, List.cons_append, List.nil_append, List.append_nil, List.getElem?_cons_zero, List.getElem?_cons_succ, List.filterMap, List.set, omap_some, obind_some, isTy, blOf, if_t, if_f, lenF, leD_i, leD_s, ltD_i, ltD_s, gtD_i, geD_i, addD_i, subD_i, mulD_i, itemsD, wipeD, Tgt.put, setAll, outR, lb0, lb1, lb2, lb3, lb4, lb5, lb6, lb7, lb8, lb9, lb10, lb11, lb12, allF, listF, tupleF, intF, eq_self_iff_true, if_true, if_false, decide_true, decide_false, Bool.true_and, Bool.false_and, Bool.and_true, Bool.and_false, Bool.not_true, Bool.not_false, Nat.sub_self, Nat.reduceAdd, Nat.reduceSub, Nat.reduceEqDiff, lixP, e0, e2, pl]) ?_
  refine sq_step (st1 := st) (Δ1 := [some (worldD vs h (n + 1) T), some (.str z), some (.bl true), some (.int (s : Nat)), some (.lst (tabI (n + 1) T)), some (.int (2 ^ s : Nat)), none, none, none]) (as_at (d := .int (2 ^ s : Nat)) (if_tt (st1 := st) rfl (bin_at rfl rfl (shlD_n s (by omega)))) rfl) ?_
  refine sq_step (st1 := st) (Δ1 := [some (worldD vs h (n + 1) T), some (.str z), some (.bl true), some (.int (s : Nat)), some (.lst (tabI (n + 1) T)), some (.int (2 ^ s : Nat)), some (.lst (tabI n fun i => T (Mr.wd s i + 2 ^ s) - T (2 ^ s))), none, none]) (by
    refine as_at (d := .lst (tabI n fun i => T (Mr.wd s i + 2 ^ s) - T (2 ^ s))) ?_ rfl
    unfold lcP
    rw [rng1_at (ds := [.int (2 ^ n : Nat)]) (st1 := st) (by simp only [gd, runD, callP, kwF, pick, rtP, sqP, asP, parP, nxP, ifP, andV, orV, notV, andT, orT, notT, truP, tstP, truD, isiP, isisP, isTys, isNP, notNP, isNon, varP, chP, cstP, bltP, binP, consP, nilP, lstP, tupP, lcP, itP, rng1P, rng2P, slP, noP, soP, intOf, negP, sosP, bd_ok, List.map, List.replicate, List.length_cons, List.length_nil, List.cons_append, List.nil_append, List.append_nil, List.getElem?_cons_zero, List.getElem?_cons_succ, List.filterMap, List.set, omap_some, obind_some, isTy, blOf, if_t, if_f, lenF, leD_i, leD_s, ltD_i, ltD_s, gtD_i, geD_i, addD_i, subD_i, mulD_i, itemsD, wipeD, Tgt.put, setAll, outR, lb0, lb1, lb2, lb3, lb4, lb5, lb6, lb7, lb8, lb9, lb10, lb11, lb12, allF, listF, tupleF, intF, eq_self_iff_true, if_true, if_false, decide_true, decide_false, Bool.true_and, Bool.false_and, Bool.and_true, Bool.and_false, Bool.not_true, Bool.not_false, Nat.sub_self, Nat.reduceAdd, Nat.reduceSub, Nat.reduceEqDiff, tabI_len, fd]) rg, bd_ok]
    exact lc) ?_
  have lwv : lcP (itP (binP ixD (varP 0) (cstP (.int 0)))) (.one 8) (tstP (binP neD (varP 8) (varP 1))) (varP 8) [8] [some (worldD vs h (n + 1) T), some (.str z), some (.bl true), some (.int (s : Nat)), some (.lst (tabI (n + 1) T)), some (.int (2 ^ s : Nat)), some (.lst (tabI n fun i => T (Mr.wd s i + 2 ^ s) - T (2 ^ s))), none, none] st = some (.ok (.lst (ws.map .str)), st) := by
    unfold lcP
    rw [show itP (binP ixD (varP 0) (cstP (.int 0))) [some (worldD vs h (n + 1) T), some (.str z), some (.bl true), some (.int (s : Nat)), some (.lst (tabI (n + 1) T)), some (.int (2 ^ s : Nat)), some (.lst (tabI n fun i => T (Mr.wd s i + 2 ^ s) - T (2 ^ s))), none, none] st = some (.ok (vs.map .str), st) by simp only [gd, runD, callP, kwF, pick, rtP, sqP, asP, parP, nxP, ifP, andV, orV, notV, andT, orT, notT, truP, tstP, truD, isiP, isisP, isTys, isNP, notNP, isNon, varP, chP, cstP, bltP, binP, consP, nilP, lstP, tupP, lcP, itP, rng1P, rng2P, slP, noP, soP, intOf, negP, sosP, bd_ok, List.map, List.replicate, List.length_cons, List.length_nil, List.cons_append, List.nil_append, List.append_nil, List.getElem?_cons_zero, List.getElem?_cons_succ, List.filterMap, List.set, omap_some, obind_some, isTy, blOf, if_t, if_f, lenF, leD_i, leD_s, ltD_i, ltD_s, gtD_i, geD_i, addD_i, subD_i, mulD_i, itemsD, wipeD, Tgt.put, setAll, outR, lb0, lb1, lb2, lb3, lb4, lb5, lb6, lb7, lb8, lb9, lb10, lb11, lb12, allF, listF, tupleF, intF, eq_self_iff_true, if_true, if_false, decide_true, decide_false, Bool.true_and, Bool.false_and, Bool.and_true, Bool.and_false, Bool.not_true, Bool.not_false, Nat.sub_self, Nat.reduceAdd, Nat.reduceSub, Nat.reduceEqDiff, e0], bd_ok]
    exact lw
  refine rt_at ?_
  unfold tupP
  rw [cons_at lwv (cons_at (d := .int h) (st1 := st) (by simp only [gd, runD, callP, kwF, pick, rtP, sqP, asP, parP, nxP, ifP, andV, orV, notV, andT, orT, notT, truP, tstP, truD, isiP, isisP, isTys, isNP, notNP, isNon, varP, chP, cstP, bltP, binP, consP, nilP, lstP, tupP, lcP, itP, rng1P, rng2P, slP, noP, soP, intOf, negP, sosP, bd_ok, List.map, List.replicate, List.length_cons, List.length_nil, List.cons_append, List.nil_append, List.append_nil, List.getElem?_cons_zero, List.getElem?_cons_succ, List.filterMap, List.set, omap_some, obind_some, isTy, blOf, if_t, if_f, lenF, leD_i, leD_s, ltD_i, ltD_s, gtD_i, geD_i, addD_i, subD_i, mulD_i, itemsD, wipeD, Tgt.put, setAll, outR, lb0, lb1, lb2, lb3, lb4, lb5, lb6, lb7, lb8, lb9, lb10, lb11, lb12, allF, listF, tupleF, intF, eq_self_iff_true, if_true, if_false, decide_true, decide_false, Bool.true_and, Bool.false_and, Bool.and_true, Bool.and_false, Bool.not_true, Bool.not_false, Nat.sub_self, Nat.reduceAdd, Nat.reduceSub, Nat.reduceEqDiff, e1]) (cons_at (d := .lst (tabI n fun i => T (Mr.wd s i + 2 ^ s) - T (2 ^ s))) rfl rfl)), bd_ok]
  rfl
end
section
variable (C : Nat → Addr) {ws : List Str} {u n : Nat} (t : Nat → Int) (st : Sta)
end
end Dn

set_option Elab.async false
set_option linter.all false
set_option maxRecDepth 100000
set_option maxHeartbeats 4000000
namespace Dn
open PySem PySem.Spec PyProof.Rows L2
/-! ### ranks and spans of groups -/
section
variable (C : Nat → Addr) {ws : List Str} {u n : Nat} (t : Nat → Int) (st : Sta)
end
section
variable (C : Nat → Addr) {ws : List Str} {u n : Nat} (t : Nat → Int) (st : Sta)
end
section
variable (C : Nat → Addr) {ws vs : List Str} {z : Str} {s u n : Nat} (t : Nat → Int) (st : Sta)
end
end Dn

set_option Elab.async false
set_option linter.all false
set_option maxRecDepth 100000
set_option maxHeartbeats 4000000
namespace Mr
end Mr
namespace Dn
open PySem PySem.Spec PyProof.Rows L2
section
variable {ws vs : List Str} {z : Str} {s h n : Nat} (t : Nat → Int) (st : Sta)
end
end Dn

set_option Elab.async false
set_option linter.all false
set_option maxRecDepth 100000
set_option maxHeartbeats 4000000
namespace Dn
open PySem PySem.Spec PyProof.Rows L2
/-! ### the reading of a caught error -/
theorem inS (c : Str) (zs : List Str) : inD (.str c) (.tup (zs.map .str)) = some (.bl (decide (c ∈ zs))) := in_tup c zs
theorem xf_at {a dx : Addr} {ns : List Str} {es : List D} {f : Str} {r : D} {Δ : Dl} {st : Sta} (hz : Δ[0]? = some (some (.xcp a dx ns es))) (hf : lkD f ns es = some r) : xfldP a dx f (varP 0) Δ st = some (.ok r, st) := by
  have v : (varP 0 : EDen) Δ st = some (.ok (.xcp a dx ns es), st) := by unfold varP; rw [hz]; rfl
  unfold xfldP
  rw [v]
  simp [bd, hf]
theorem tup_at {tr : ADen} {Δ : Dl} {st st1 : Sta} {ds : List D} (h : tr Δ st = some (.ok ds, st1)) (hl : ds.length ≤ 2) : tupP tr Δ st = some (.ok (.tup ds), st1) := by
  unfold tupP
  rw [h]
  have : ds.length ≤ big := by unfold big; omega
  simp [bd, this]
section
variable {a dx : Addr} {ns : List Str} {es : List D} {r : D} {Δ : Dl} {st : Sta} {f g : Str}
theorem x1_at (hz : Δ[0]? = some (some (.xcp a dx ns es))) (h : ff1 f ns es = some r) : tupP (consP (xfldP a dx f (varP 0)) nilP) Δ st = some (.ok r, st) := by
  unfold ff1 at h
  cases e : lkD f ns es with
  | none => rw [e] at h; cases h
  | some d =>
    rw [e] at h
    cases h
    exact tup_at (cons_at (xf_at hz e) rfl) (by simp)
theorem x2_at (hz : Δ[0]? = some (some (.xcp a dx ns es))) (h : ff2 f g ns es = some r) : tupP (consP (xfldP a dx f (varP 0)) (consP (xfldP a dx g (varP 0)) nilP)) Δ st = some (.ok r, st) := by
  unfold ff2 at h
  cases e : lkD f ns es with
  | none => rw [e] at h; cases h
  | some d =>
    rw [e, obind_some] at h
    cases e2 : lkD g ns es with
    | none => rw [e2] at h; cases h
    | some d2 =>
      rw [e2] at h
      cases h
      exact tup_at (cons_at (xf_at hz e) (cons_at (xf_at hz e2) rfl)) (by simp)
theorem xc_at {c : TDen} {b : Bool} {f g : Str} (hz : Δ[0]? = some (some (.xcp a dx ns es))) (hc : c Δ st = some (.ok b, st)) (h : (if b = true then ff1 f ns es else ff1 g ns es) = some r) : tupP (consP (ifP c (xfldP a dx f (varP 0)) (xfldP a dx g (varP 0))) nilP) Δ st = some (.ok r, st) := by
  cases b with
  | true =>
    rw [if_pos rfl] at h
    unfold ff1 at h
    cases e : lkD f ns es with
    | none => rw [e] at h; cases h
    | some d =>
      rw [e] at h
      cases h
      exact tup_at (cons_at (if_tt hc (xf_at hz e)) rfl) (by simp)
  | false =>
    rw [if_neg Bool.false_ne_true] at h
    unfold ff1 at h
    cases e : lkD g ns es with
    | none => rw [e] at h; cases h
    | some d =>
      rw [e] at h
      cases h
      exact tup_at (cons_at (if_ff hc (xf_at hz e)) rfl) (by simp)
end
theorem xin_at {Δ : Dl} {st : Sta} {c : Str} {zs : List Str} {tr : ADen} (h1 : (varP 1 : EDen) Δ st = some (.ok (.str c), st)) (h2 : tupP tr Δ st = some (.ok (.tup (zs.map .str)), st)) : tstP (binP inD (varP 1) (tupP tr)) Δ st = some (.ok (decide (c ∈ zs)), st) := by
  unfold tstP binP
  rw [h1, bd_ok, h2, bd_ok, inS]
  rfl
theorem eqS_cps {x y : Str} (hx : x.cps.all (· < 0x110000) = true) (hy : y.cps.all (· < 0x110000) = true) : eqB (.str x) (.str y) = some (decide (x = y)) := by
  have sh : ∀ z : Str, z.cps.all (· < 0x110000) = true → shP (.str z) = some (.str z) := fun z hz => by
    show (if SeqAt.shaped (PyData.str z) = true then some (PyData.str z) else none) = _
    refine if_pos ?_
    unfold SeqAt.shaped
    rw [show PyData.canLay0 (PyData.str z) = true from hz]
    rfl
  have e : PyData.eqv (.str x) (.str y) = decide (x = y) := by
    simp only [PyData.eqv]
    rw [Bool.eq_iff_iff, beq_iff_eq, decide_eq_true_eq]
  unfold eqB
  rw [sh x hx, sh y hy, obind_some, omap_some, e]
theorem ff_ok : FfOk := by
  intro a dx ns es r st0 h
  unfold ffX at h
  cases hc : lkD "code" ns es with
  | none => rw [hc] at h; cases h
  | some cd =>
    rw [hc] at h
    cases cd with
    | str c =>
      simp only at h
      let Δ : Dl := [some (.xcp a dx ns es), some (.str c)]
      refine run_ret rfl ?_
      unfold d_l_field
      refine sq_step (st1 := st0) (Δ1 := Δ) (by unfold asP; rw [xf_at rfl hc]; rfl) ?_
      have hz : Δ[0]? = some (some (.xcp a dx ns es)) := rfl
      have v1 : (varP 1 : EDen) Δ st0 = some (.ok (.str c), st0) := rfl
      have rt : ∀ {te : EDen}, te Δ st0 = some (.ok r, st0) → rtP te Δ st0 = some (.ok (.rt r), st0) := fun h => rt_at h
      have eq1 : ∀ {z : Str} (l : List Str), c ∈ l → (∀ y ∈ l, y.cps.all (· < 0x110000) = true) → z.cps.all (· < 0x110000) = true → tstP (binP eqD (varP 1) (cstP (.str z))) Δ st0 = some (.ok (decide (c = z)), st0) := fun {z} l hm hl hz => by
        unfold tstP binP
        rw [v1, bd_ok]
        show (bd (some (Except.ok (D.str z), st0)) _ |> fun m => bd m _) = _
        rw [bd_ok]
        unfold eqD
        rw [eqS_cps (hl c hm) hz]
        rfl
      unfold ffC at h
      have e1 := xin_at (Δ := Δ) (st := st0) (c := c) (zs := ["InvalidName", "InvalidNumber", "InvalidMark", "InvalidLimit"]) (tr := consP (cstP (.str "InvalidName")) (consP (cstP (.str "InvalidNumber")) (consP (cstP (.str "InvalidMark")) (consP (cstP (.str "InvalidLimit")) nilP)))) v1 (by simp only [gd, runD, callP, kwF, pick, rtP, sqP, asP, parP, nxP, ifP, andV, orV, notV, andT, orT, notT, truP, tstP, truD, isiP, isisP, isTys, isNP, notNP, isNon, varP, chP, cstP, bltP, binP, consP, nilP, lstP, tupP, lcP, itP, rng1P, rng2P, slP, noP, soP, intOf, negP, sosP, bd_ok, List.map, List.replicate, List.length_cons, List.length_nil, List.cons_append, List.nil_append, List.append_nil, List.getElem?_cons_zero, List.getElem?_cons_succ, List.filterMap, List.set, omap_some, obind_some, isTy, blOf, if_t, if_f, lenF, leD_i, leD_s, ltD_i, ltD_s, gtD_i, geD_i, addD_i, subD_i, mulD_i, itemsD, wipeD, Tgt.put, setAll, outR, lb0, lb1, lb2, lb3, lb4, lb5, lb6, lb7, lb8, lb9, lb10, lb11, lb12, allF, listF, tupleF, intF, eq_self_iff_true, if_true, if_false, decide_true, decide_false, Bool.true_and, Bool.false_and, Bool.and_true, Bool.and_false, Bool.not_true, Bool.not_false, Nat.sub_self, Nat.reduceAdd, Nat.reduceSub, Nat.reduceEqDiff])
      by_cases c1 : c ∈ (["InvalidName", "InvalidNumber", "InvalidMark", "InvalidLimit"] : List Str)
      · rw [decide_eq_true c1] at e1
        rw [if_pos c1] at h
        exact sq_ret (if_tt e1 (rt (x1_at hz h)))
      rw [decide_eq_false c1] at e1
      rw [if_neg c1] at h
      refine sq_step (if_ff e1 rfl) ?_
      have e2 := xin_at (Δ := Δ) (st := st0) (c := c) (zs := ["InvalidTable", "InvalidBases", "InvalidFact", "InvalidCommand"]) (tr := consP (cstP (.str "InvalidTable")) (consP (cstP (.str "InvalidBases")) (consP (cstP (.str "InvalidFact")) (consP (cstP (.str "InvalidCommand")) nilP)))) v1 (by simp only [gd, runD, callP, kwF, pick, rtP, sqP, asP, parP, nxP, ifP, andV, orV, notV, andT, orT, notT, truP, tstP, truD, isiP, isisP, isTys, isNP, notNP, isNon, varP, chP, cstP, bltP, binP, consP, nilP, lstP, tupP, lcP, itP, rng1P, rng2P, slP, noP, soP, intOf, negP, sosP, bd_ok, List.map, List.replicate, List.length_cons, List.length_nil, List.cons_append, List.nil_append, List.append_nil, List.getElem?_cons_zero, List.getElem?_cons_succ, List.filterMap, List.set, omap_some, obind_some, isTy, blOf, if_t, if_f, lenF, leD_i, leD_s, ltD_i, ltD_s, gtD_i, geD_i, addD_i, subD_i, mulD_i, itemsD, wipeD, Tgt.put, setAll, outR, lb0, lb1, lb2, lb3, lb4, lb5, lb6, lb7, lb8, lb9, lb10, lb11, lb12, allF, listF, tupleF, intF, eq_self_iff_true, if_true, if_false, decide_true, decide_false, Bool.true_and, Bool.false_and, Bool.and_true, Bool.and_false, Bool.not_true, Bool.not_false, Nat.sub_self, Nat.reduceAdd, Nat.reduceSub, Nat.reduceEqDiff])
      by_cases c2 : c ∈ (["InvalidTable", "InvalidBases", "InvalidFact", "InvalidCommand"] : List Str)
      · rw [decide_eq_true c2] at e2
        rw [if_pos c2] at h
        exact sq_ret (if_tt e2 (rt (x1_at hz h)))
      rw [decide_eq_false c2] at e2
      rw [if_neg c2] at h
      refine sq_step (if_ff e2 rfl) ?_
      have e3 := xin_at (Δ := Δ) (st := st0) (c := c) (zs := ["InvalidStep", "InvalidTurn", "UnlikeEnds"]) (tr := consP (cstP (.str "InvalidStep")) (consP (cstP (.str "InvalidTurn")) (consP (cstP (.str "UnlikeEnds")) nilP))) v1 (by simp only [gd, runD, callP, kwF, pick, rtP, sqP, asP, parP, nxP, ifP, andV, orV, notV, andT, orT, notT, truP, tstP, truD, isiP, isisP, isTys, isNP, notNP, isNon, varP, chP, cstP, bltP, binP, consP, nilP, lstP, tupP, lcP, itP, rng1P, rng2P, slP, noP, soP, intOf, negP, sosP, bd_ok, List.map, List.replicate, List.length_cons, List.length_nil, List.cons_append, List.nil_append, List.append_nil, List.getElem?_cons_zero, List.getElem?_cons_succ, List.filterMap, List.set, omap_some, obind_some, isTy, blOf, if_t, if_f, lenF, leD_i, leD_s, ltD_i, ltD_s, gtD_i, geD_i, addD_i, subD_i, mulD_i, itemsD, wipeD, Tgt.put, setAll, outR, lb0, lb1, lb2, lb3, lb4, lb5, lb6, lb7, lb8, lb9, lb10, lb11, lb12, allF, listF, tupleF, intF, eq_self_iff_true, if_true, if_false, decide_true, decide_false, Bool.true_and, Bool.false_and, Bool.and_true, Bool.and_false, Bool.not_true, Bool.not_false, Nat.sub_self, Nat.reduceAdd, Nat.reduceSub, Nat.reduceEqDiff])
      by_cases c3 : c ∈ (["InvalidStep", "InvalidTurn", "UnlikeEnds"] : List Str)
      · rw [decide_eq_true c3] at e3
        rw [if_pos c3] at h
        exact sq_ret (if_tt e3 (rt (x1_at hz h)))
      rw [decide_eq_false c3] at e3
      rw [if_neg c3] at h
      refine sq_step (if_ff e3 rfl) ?_
      have e4 := xin_at (Δ := Δ) (st := st0) (c := c) (zs := ["InvalidText", "InvalidPage"]) (tr := consP (cstP (.str "InvalidText")) (consP (cstP (.str "InvalidPage")) nilP)) v1 (by simp only [gd, runD, callP, kwF, pick, rtP, sqP, asP, parP, nxP, ifP, andV, orV, notV, andT, orT, notT, truP, tstP, truD, isiP, isisP, isTys, isNP, notNP, isNon, varP, chP, cstP, bltP, binP, consP, nilP, lstP, tupP, lcP, itP, rng1P, rng2P, slP, noP, soP, intOf, negP, sosP, bd_ok, List.map, List.replicate, List.length_cons, List.length_nil, List.cons_append, List.nil_append, List.append_nil, List.getElem?_cons_zero, List.getElem?_cons_succ, List.filterMap, List.set, omap_some, obind_some, isTy, blOf, if_t, if_f, lenF, leD_i, leD_s, ltD_i, ltD_s, gtD_i, geD_i, addD_i, subD_i, mulD_i, itemsD, wipeD, Tgt.put, setAll, outR, lb0, lb1, lb2, lb3, lb4, lb5, lb6, lb7, lb8, lb9, lb10, lb11, lb12, allF, listF, tupleF, intF, eq_self_iff_true, if_true, if_false, decide_true, decide_false, Bool.true_and, Bool.false_and, Bool.and_true, Bool.and_false, Bool.not_true, Bool.not_false, Nat.sub_self, Nat.reduceAdd, Nat.reduceSub, Nat.reduceEqDiff])
      by_cases c4 : c ∈ (["InvalidText", "InvalidPage"] : List Str)
      · rw [decide_eq_true c4] at e4
        rw [if_pos c4] at h
        refine sq_ret (if_tt e4 (rt (xc_at hz (eq1 _ c4 (by decide +kernel) (by decide +kernel)) ?_)))
        by_cases q : c = "InvalidText"
        · rw [if_pos q] at h; rw [if_pos (decide_eq_true q)]; exact h
        · rw [if_neg q] at h; rw [decide_eq_false q, if_neg Bool.false_ne_true]; exact h
      rw [decide_eq_false c4] at e4
      rw [if_neg c4] at h
      refine sq_step (if_ff e4 rfl) ?_
      have e5 := xin_at (Δ := Δ) (st := st0) (c := c) (zs := ["DuplicateName", "UnknownName"]) (tr := consP (cstP (.str "DuplicateName")) (consP (cstP (.str "UnknownName")) nilP)) v1 (by simp only [gd, runD, callP, kwF, pick, rtP, sqP, asP, parP, nxP, ifP, andV, orV, notV, andT, orT, notT, truP, tstP, truD, isiP, isisP, isTys, isNP, notNP, isNon, varP, chP, cstP, bltP, binP, consP, nilP, lstP, tupP, lcP, itP, rng1P, rng2P, slP, noP, soP, intOf, negP, sosP, bd_ok, List.map, List.replicate, List.length_cons, List.length_nil, List.cons_append, List.nil_append, List.append_nil, List.getElem?_cons_zero, List.getElem?_cons_succ, List.filterMap, List.set, omap_some, obind_some, isTy, blOf, if_t, if_f, lenF, leD_i, leD_s, ltD_i, ltD_s, gtD_i, geD_i, addD_i, subD_i, mulD_i, itemsD, wipeD, Tgt.put, setAll, outR, lb0, lb1, lb2, lb3, lb4, lb5, lb6, lb7, lb8, lb9, lb10, lb11, lb12, allF, listF, tupleF, intF, eq_self_iff_true, if_true, if_false, decide_true, decide_false, Bool.true_and, Bool.false_and, Bool.and_true, Bool.and_false, Bool.not_true, Bool.not_false, Nat.sub_self, Nat.reduceAdd, Nat.reduceSub, Nat.reduceEqDiff])
      by_cases c5 : c ∈ (["DuplicateName", "UnknownName"] : List Str)
      · rw [decide_eq_true c5] at e5
        rw [if_pos c5] at h
        exact sq_ret (if_tt e5 (rt (x1_at hz h)))
      rw [decide_eq_false c5] at e5
      rw [if_neg c5] at h
      refine sq_step (if_ff e5 rfl) ?_
      have e6 := xin_at (Δ := Δ) (st := st0) (c := c) (zs := ["Circular", "UnknownPiece"]) (tr := consP (cstP (.str "Circular")) (consP (cstP (.str "UnknownPiece")) nilP)) v1 (by simp only [gd, runD, callP, kwF, pick, rtP, sqP, asP, parP, nxP, ifP, andV, orV, notV, andT, orT, notT, truP, tstP, truD, isiP, isisP, isTys, isNP, notNP, isNon, varP, chP, cstP, bltP, binP, consP, nilP, lstP, tupP, lcP, itP, rng1P, rng2P, slP, noP, soP, intOf, negP, sosP, bd_ok, List.map, List.replicate, List.length_cons, List.length_nil, List.cons_append, List.nil_append, List.append_nil, List.getElem?_cons_zero, List.getElem?_cons_succ, List.filterMap, List.set, omap_some, obind_some, isTy, blOf, if_t, if_f, lenF, leD_i, leD_s, ltD_i, ltD_s, gtD_i, geD_i, addD_i, subD_i, mulD_i, itemsD, wipeD, Tgt.put, setAll, outR, lb0, lb1, lb2, lb3, lb4, lb5, lb6, lb7, lb8, lb9, lb10, lb11, lb12, allF, listF, tupleF, intF, eq_self_iff_true, if_true, if_false, decide_true, decide_false, Bool.true_and, Bool.false_and, Bool.and_true, Bool.and_false, Bool.not_true, Bool.not_false, Nat.sub_self, Nat.reduceAdd, Nat.reduceSub, Nat.reduceEqDiff])
      by_cases c6 : c ∈ (["Circular", "UnknownPiece"] : List Str)
      · rw [decide_eq_true c6] at e6
        rw [if_pos c6] at h
        exact sq_ret (if_tt e6 (rt (x1_at hz h)))
      rw [decide_eq_false c6] at e6
      rw [if_neg c6] at h
      refine sq_step (if_ff e6 rfl) ?_
      have e7 := xin_at (Δ := Δ) (st := st0) (c := c) (zs := ["InUse", "TooMany"]) (tr := consP (cstP (.str "InUse")) (consP (cstP (.str "TooMany")) nilP)) v1 (by simp only [gd, runD, callP, kwF, pick, rtP, sqP, asP, parP, nxP, ifP, andV, orV, notV, andT, orT, notT, truP, tstP, truD, isiP, isisP, isTys, isNP, notNP, isNon, varP, chP, cstP, bltP, binP, consP, nilP, lstP, tupP, lcP, itP, rng1P, rng2P, slP, noP, soP, intOf, negP, sosP, bd_ok, List.map, List.replicate, List.length_cons, List.length_nil, List.cons_append, List.nil_append, List.append_nil, List.getElem?_cons_zero, List.getElem?_cons_succ, List.filterMap, List.set, omap_some, obind_some, isTy, blOf, if_t, if_f, lenF, leD_i, leD_s, ltD_i, ltD_s, gtD_i, geD_i, addD_i, subD_i, mulD_i, itemsD, wipeD, Tgt.put, setAll, outR, lb0, lb1, lb2, lb3, lb4, lb5, lb6, lb7, lb8, lb9, lb10, lb11, lb12, allF, listF, tupleF, intF, eq_self_iff_true, if_true, if_false, decide_true, decide_false, Bool.true_and, Bool.false_and, Bool.and_true, Bool.and_false, Bool.not_true, Bool.not_false, Nat.sub_self, Nat.reduceAdd, Nat.reduceSub, Nat.reduceEqDiff])
      by_cases c7 : c ∈ (["InUse", "TooMany"] : List Str)
      · rw [decide_eq_true c7] at e7
        rw [if_pos c7] at h
        have q0 := eq1 (z := "InUse") _ c7 (by decide +kernel) (by decide +kernel)
        refine sq_ret (if_tt e7 (rt ?_))
        by_cases q : c = "InUse"
        · rw [if_pos q] at h; rw [decide_eq_true q] at q0; exact if_tt q0 (x2_at hz h)
        · rw [if_neg q] at h; rw [decide_eq_false q] at q0; exact if_ff q0 (x2_at hz h)
      rw [decide_eq_false c7] at e7
      rw [if_neg c7] at h
      refine sq_step (if_ff e7 rfl) ?_
      have e8 := xin_at (Δ := Δ) (st := st0) (c := c) (zs := ["Full", "TooDeep"]) (tr := consP (cstP (.str "Full")) (consP (cstP (.str "TooDeep")) nilP)) v1 (by simp only [gd, runD, callP, kwF, pick, rtP, sqP, asP, parP, nxP, ifP, andV, orV, notV, andT, orT, notT, truP, tstP, truD, isiP, isisP, isTys, isNP, notNP, isNon, varP, chP, cstP, bltP, binP, consP, nilP, lstP, tupP, lcP, itP, rng1P, rng2P, slP, noP, soP, intOf, negP, sosP, bd_ok, List.map, List.replicate, List.length_cons, List.length_nil, List.cons_append, List.nil_append, List.append_nil, List.getElem?_cons_zero, List.getElem?_cons_succ, List.filterMap, List.set, omap_some, obind_some, isTy, blOf, if_t, if_f, lenF, leD_i, leD_s, ltD_i, ltD_s, gtD_i, geD_i, addD_i, subD_i, mulD_i, itemsD, wipeD, Tgt.put, setAll, outR, lb0, lb1, lb2, lb3, lb4, lb5, lb6, lb7, lb8, lb9, lb10, lb11, lb12, allF, listF, tupleF, intF, eq_self_iff_true, if_true, if_false, decide_true, decide_false, Bool.true_and, Bool.false_and, Bool.and_true, Bool.and_false, Bool.not_true, Bool.not_false, Nat.sub_self, Nat.reduceAdd, Nat.reduceSub, Nat.reduceEqDiff])
      by_cases c8 : c ∈ (["Full", "TooDeep"] : List Str)
      · rw [decide_eq_true c8] at e8
        rw [if_pos c8] at h
        refine sq_ret (if_tt e8 (rt (xc_at hz (eq1 _ c8 (by decide +kernel) (by decide +kernel)) ?_)))
        by_cases q : c = "Full"
        · rw [if_pos q] at h; rw [if_pos (decide_eq_true q)]; exact h
        · rw [if_neg q] at h; rw [decide_eq_false q, if_neg Bool.false_ne_true]; exact h
      rw [decide_eq_false c8] at e8
      rw [if_neg c8] at h
      refine sq_step (if_ff e8 rfl) ?_
      cases h
      exact rt_at (tup_at rfl (by simp))
    | _ => cases h
/-! ### raised errors, and what is told of them -/
theorem run_er {t : SDen} {n : Nat} {as : List D} {st st1 : Sta} {Δ0 : Dl} {e : Exc} (e0 : as.map some ++ List.replicate (n - as.length) none = Δ0) (h : t Δ0 st = some (.error e, st1)) : runD t n as st = some (.error e, st1) := by
  subst e0
  unfold runD
  exact (congrArg (fun m => Option.bind m fun p => (outR p.1).map fun r => (r, p.2)) h).trans rfl
theorem gd_er {t : SDen} {n k : Nat} {as : List D} {st st1 : Sta} {Δ0 : Dl} {e : Exc} (hk : as.length = k) (e0 : as.map some ++ List.replicate (n - as.length) none = Δ0) (h : t Δ0 st = some (.error e, st1)) : gd k (runD t n) as st = some (.error e, st1) := by
  unfold gd
  rw [if_pos hk]
  exact run_er e0 h
theorem sq_er {a b : SDen} {Δ : Dl} {st st1 : Sta} {e : Exc} (h : a Δ st = some (.error e, st1)) : sqP a b Δ st = some (.error e, st1) := by
  unfold sqP
  rw [h] <;> rfl
theorem ex_er {te : EDen} {Δ : Dl} {st st1 : Sta} {e : Exc} (h : te Δ st = some (.error e, st1)) : exP te Δ st = some (.error e, st1) := by
  unfold exP
  rw [h] <;> rfl
theorem raise_at {C : Addr} {ns : List Str} {code : Str} {tr : ADen} {Δ : Dl} {st st1 : Sta} {ds : List D} (h : tr Δ st = some (.ok ds, st1)) (hl : ds.length = ns.length) : raiseP C ns code tr Δ st = some (.error (C, "code" :: ns.reverse, .str code :: ds.reverse), st1) := by
  unfold raiseP
  rw [h, bd_ok, if_pos hl]
abbrev ex1 (C : Addr) (code f : Str) (d : D) : Exc := (C, ["code", f], [.str code, d])
theorem raise1 {C : Addr} {f code : Str} {te : EDen} {Δ : Dl} {st st1 : Sta} {d : D} (h : te Δ st = some (.ok d, st1)) : raiseP C [f] code (consP te nilP) Δ st = some (.error (ex1 C code f d), st1) := raise_at (ds := [d]) (cons_at h rfl) rfl
/-- what is told of an error that was caught -/
def excR (e : Exc) : Option D := (lkD "code" e.2.1 e.2.2).bind fun c => (ffX e.2.1 e.2.2).map fun r => .tup [c, r]
abbrev errD (code : Str) (fs : List D) : D := .tup [.str code, .tup fs]
abbrev valD (d : D) : D := .tup [.str "", d]
theorem lk_code (ns : List Str) (es : List D) (c : D) : lkD "code" ("code" :: ns) (c :: es) = some c := by unfold lkD; rw [if_pos rfl]
theorem lk_ne {f n : Str} {ns : List Str} {es : List D} {c : D} (h : n ≠ f) : lkD f (n :: ns) (c :: es) = lkD f ns es := by
  show (if n = f then some c else lkD f ns es) = _
  rw [if_neg h]
theorem lk_eq {f : Str} {ns : List Str} {es : List D} {c : D} : lkD f (f :: ns) (c :: es) = some c := by
  show (if f = f then some c else lkD f ns es) = _
  rw [if_pos rfl]
theorem excR1 {C : Addr} {code f : Str} {d : D} (h : ffC code = ff1 f) (hf : ("code" : Str) ≠ f := by decide +kernel) : excR (ex1 C code f d) = some (errD code [d]) := by
  unfold excR ffX
  simp only
  rw [lk_code, obind_some]
  simp only
  rw [h]
  unfold ff1
  rw [lk_ne hf, lk_eq]
  rfl
theorem fc_InvalidTable : ffC "InvalidTable" = ff1 "at" := by funext ns es; unfold ffC; rw [if_neg (by decide +kernel), if_pos (by decide +kernel)]
/-! ### lambdas that may change the state, called one after the other -/
theorem ks_T1 {a b : Sta} {P : Addr} {CC : CloT} (k : KS a b) (h : T1 a P CC) : T1 b P CC := ⟨by
  have := k.lk 1 h.2
  unfold TabIs
  rw [this]
  exact h.1, Nat.le_trans h.2 k.nx⟩
theorem put_put (st : Sta) (n : Nat) (c c' : Cell) : (st.put n c).put n c' = st.put n c' := by
  unfold Sta.put
  simp
theorem ks_hide {st : Sta} {P : Addr} {CC : CloT} (h : T1 st P CC) : KS st (st.put 1 (.tab P CC none)) := ⟨rfl, rfl, Nat.le_refl _, fun m hm => by
  by_cases e : m = 1
  · subst e
    rw [look_put]
    exact h.1.symm
  · exact look_put_ne e⟩
section
variable {cs : List Addr} {τs : Nat → Option EDen} {P : Addr} {CC : CloT} {Δ : Dl}
/-- what the k-th lambda gives -/
def Gives (cs : List Addr) (τs : Nat → Option EDen) (P : Addr) (CC : CloT) (Δ : Dl) (k : Nat) (r : D) : Prop := ∃ τ, τs k = some τ ∧ ∀ st, T1 st P CC → ∃ st', whyR cs ffX (τ Δ st) = some (.ok r, st') ∧ KS st st'
theorem gives_val {k : Nat} {τ : EDen} {d : D} (ht : τs k = some τ) (h : ∀ st, T1 st P CC → ∃ st', τ Δ st = some (.ok d, st') ∧ KS st st') : Gives cs τs P CC Δ k (valD d) := ⟨τ, ht, fun st T => by
  obtain ⟨st', e, ks⟩ := h st T
  exact ⟨st', by rw [e]; rfl, ks⟩⟩
theorem gives_err {k : Nat} {τ : EDen} {e : Exc} {r : D} (ht : τs k = some τ) (hr : excR e = some r) (hm : e.1 ∈ cs) (h : ∀ st, T1 st P CC → ∃ st', τ Δ st = some (.error e, st') ∧ KS st st') : Gives cs τs P CC Δ k r := ⟨τ, ht, fun st T => by
  obtain ⟨st', q, ks⟩ := h st T
  obtain ⟨C, ns, es⟩ := e
  refine ⟨st', ?_, ks⟩
  rw [q]
  show (if C ∈ cs then (lkD "code" ns es).bind fun c => (ffX ns es).map fun r => (Except.ok (D.tup [c, r]), st') else none) = _
  rw [if_pos hm]
  unfold excR at hr
  simp only at hr
  cases e1 : lkD "code" ns es with
  | none => rw [e1] at hr; cases hr
  | some c =>
    rw [e1, obind_some] at hr
    rw [obind_some]
    cases e2 : ffX ns es with
    | none => rw [e2] at hr; cases hr
    | some z =>
      rw [e2] at hr
      cases hr
      rfl⟩
theorem why_step {k : Nat} {r : D} (g : Gives cs τs P CC Δ k r) {st : Sta} (T : T1 st P CC) : ∃ st', KS st st' ∧ ∀ σ, whyF 1 P CC cs ffX τs σ [.clo k] (st.put 1 (.tab P CC (some (Δ, σ)))) = some (.ok r, st'.put 1 (.tab P CC (some (Δ, σ)))) := by
  obtain ⟨τ, ht, h⟩ := g
  obtain ⟨st', e, ks⟩ := h _ (ks_T1 (ks_hide T) T)
  have T' := ks_T1 ks (ks_T1 (ks_hide T) T)
  refine ⟨st', (ks_hide T).trans ks, fun σ => ?_⟩
  unfold whyF
  simp only
  rw [look_put]
  simp only
  rw [if_pos ⟨trivial, trivial, trivial⟩, ht]
  simp only
  rw [put_put, e]
  simp only
  rw [if_pos T'.1]
theorem env1_ok {W : L2.St → FDen} (hW : ∀ σ, W σ = whyF 1 P CC cs ffX τs σ) {k : Nat} {r : D} {tr : ADen} {st : Sta} (g : Gives cs τs P CC Δ k r) (T : T1 st P CC) (ht : tr Δ st = some (.ok [.clo k], st)) :
    ∃ st', envP 1 P CC W tr Δ st = some (.ok r, st') ∧ KS st st' := by
  obtain ⟨st', k1, e⟩ := why_step g T
  refine ⟨st'.put 1 (.tab P CC none), env_at (p := (r, _)) ht ⟨T.1, fun σ => ⟨_, by rw [hW]; exact e σ, look_put _ _ _, put_put _ _ _ _⟩⟩, k1.trans (ks_hide (ks_T1 k1 T))⟩
theorem lam_at {n : Nat} {k : Nat} {st : Sta} (T : TabIs st n P CC) : lamP n P CC k Δ st = some (.ok (.clo k), st) := if_pos T
end
end Dn

set_option Elab.async false
set_option linter.all false
set_option maxRecDepth 100000
set_option maxHeartbeats 4000000
namespace Dn
open PySem PySem.Spec PyProof.Rows L2
/-! ### odd values -/
section
variable (C : Nat → Addr) {ws : List Str} {u : Nat} {tab : List D} (st : Sta) {d : D}
end
end Dn

set_option Elab.async false
set_option linter.all false
set_option maxRecDepth 100000
set_option maxHeartbeats 4000000
namespace Dn
open PySem PySem.Spec PyProof.Rows L2
/-! ### small steps -/
theorem tst_at {te : EDen} {Δ : Dl} {st st1 : Sta} {b : Bool} (h : te Δ st = some (.ok (.bl b), st1)) : tstP te Δ st = some (.ok b, st1) := by
  unfold tstP
  rw [h, bd_ok]
  rfl
theorem call1 {F : FDen} {ta : EDen} {Δ : Dl} {st st1 : Sta} {x : D} {r : Mo D} (h1 : ta Δ st = some (.ok x, st1)) (h : F [x] st1 = r) : callP F (consP ta nilP) Δ st = r := (call_at (cons_at h1 rfl)).trans h
theorem call2 {F : FDen} {ta tb : EDen} {Δ : Dl} {st st1 st2 : Sta} {x y : D} {r : Mo D} (h1 : ta Δ st = some (.ok x, st1)) (h2 : tb Δ st1 = some (.ok y, st2)) (h : F [x, y] st2 = r) : callP F (consP ta (consP tb nilP)) Δ st = r := (call_at (cons_at h1 (cons_at h2 rfl))).trans h
theorem call3 {F : FDen} {ta tb tc : EDen} {Δ : Dl} {st st1 st2 st3 : Sta} {x y z : D} {r : Mo D} (h1 : ta Δ st = some (.ok x, st1)) (h2 : tb Δ st1 = some (.ok y, st2)) (h3 : tc Δ st2 = some (.ok z, st3)) (h : F [x, y, z] st3 = r) : callP F (consP ta (consP tb (consP tc nilP))) Δ st = r := (call_at (cons_at h1 (cons_at h2 (cons_at h3 rfl)))).trans h
/-! ### the world -/
theorem it_at {te : EDen} {Δ : Dl} {st st1 : Sta} {ds : List D} (h : te Δ st = some (.ok (.lst ds), st1)) : itP te Δ st = some (.ok ds, st1) := by
  unfold itP
  rw [h, bd_ok] <;> rfl
/-- the state while the lambdas' maker's names are told -/
theorem T1.told {st : Sta} {P : Addr} {CC : CloT} (h : T1 st P CC) (c : Option (Dl × L2.St)) : T1 ((st.put 1 (.tab P CC c)).put 1 (.tab P CC none)) P CC := ⟨look_put _ _ _, h.2⟩
theorem KS.split {b : Option BagSt} {scr : Option (Addr × List Int)} {own : List (Nat × Cell)} {nx : Nat} {st' : Sta} (k : KS ⟨b, scr, own, nx⟩ st') : ∃ own' nx', st' = ⟨b, scr, own', nx'⟩ := by
  obtain ⟨b', s', own', nx'⟩ := st'
  have e1 : b' = b := k.bag
  have e2 : s' = scr := k.scr
  subst e1 e2
  exact ⟨own', nx', rfl⟩
/-! ### a law's loop, a law's start -/
/-- a turn keeps the bag and the table of the lambdas -/
def TurnOk (P : Addr) (CC : CloT) (scr : Option (Addr × List Int)) (n : Nat) (turn : SDen) : Prop := ∀ (x0 x2 : Option D) (xs : Dl) (b : BagSt) (own : List (Nat × Cell)) (nx : Nat), xs.length = n → okB b → T1 ⟨some b, scr, own, nx⟩ P CC →
  ∃ (ys : Dl) (b' : BagSt) (own' : List (Nat × Cell)) (nx' : Nat), turn (x0 :: some (.hnd 0) :: x2 :: xs) ⟨some b, scr, own, nx⟩ = some (.ok (.nx (x0 :: some (.hnd 0) :: x2 :: ys)), ⟨some b', scr, own', nx'⟩) ∧ ys.length = n ∧ okB b' ∧ T1 ⟨some b', scr, own', nx'⟩ P CC
theorem law_for {P : Addr} {CC : CloT} {scr : Option (Addr × List Int)} {n : Nat} {turn : SDen} (h : TurnOk P CC scr n turn) (k : Nat) (hk : k ≤ 1000) (x0 x2 : Option D) (xs : Dl) (b : BagSt) (own : List (Nat × Cell)) (nx : Nat) (hx : xs.length = n) (hb : okB b) (hT : T1 ⟨some b, scr, own, nx⟩ P CC) :
    ∃ (y2 : Option D) (ys : Dl) (b' : BagSt) (own' : List (Nat × Cell)) (nx' : Nat), foP (rng1P (consP (cstP (.int k)) nilP)) (.one 2) turn (x0 :: some (.hnd 0) :: x2 :: xs) ⟨some b, scr, own, nx⟩ = some (.ok (.nx (x0 :: some (.hnd 0) :: y2 :: ys)), ⟨some b', scr, own', nx'⟩) ∧ ys.length = n ∧ okB b' ∧ T1 ⟨some b', scr, own', nx'⟩ P CC := by
  obtain ⟨Δ', st', q, y2, ys, b', own', nx', e1, e2, hy, hb', hT'⟩ := fo_inv (g := .one 2) (tb := turn) (fun _ Δ st => ∃ y2 ys b own nx, Δ = x0 :: some (.hnd 0) :: y2 :: ys ∧ st = ⟨some b, scr, own, nx⟩ ∧ ys.length = n ∧ okB b ∧ T1 ⟨some b, scr, own, nx⟩ P CC) ((List.range k).map fun k => D.int (k : Nat)) 0
    (x0 :: some (.hnd 0) :: x2 :: xs) ⟨some b, scr, own, nx⟩ ⟨x2, xs, b, own, nx, rfl, rfl, hx, hb, hT⟩ (fun i d hd Δ st ⟨y2, ys, b, own, nx, e1, e2, hy, hb, hT⟩ => by
      subst e1
      subst e2
      obtain ⟨zs, b', own', nx', q, hz, hb', hT'⟩ := h x0 (some d) ys b own nx hy hb hT
      exact ⟨_, _, _, rfl, q, some d, zs, b', own', nx', rfl, rfl, hz, hb', hT'⟩)
  subst e1
  subst e2
  refine ⟨y2, ys, b', own', nx', ?_, hy, hb', hT'⟩
  unfold foP
  rw [rng1_at (ds := [.int k]) (st1 := ⟨some b, scr, own, nx⟩) (by simp only [gd, runD, callP, kwF, pick, rtP, sqP, asP, parP, nxP, ifP, andV, orV, notV, andT, orT, notT, truP, tstP, truD, isiP, isisP, isTys, isNP, notNP, isNon, varP, chP, cstP, bltP, binP, consP, nilP, lstP, tupP, lcP, itP, rng1P, rng2P, slP, noP, soP, intOf, negP, sosP, bd_ok, List.map, List.replicate, List.length_cons, List.length_nil, List.cons_append, List.nil_append, List.append_nil, List.getElem?_cons_zero, List.getElem?_cons_succ, List.filterMap, List.set, omap_some, obind_some, isTy, blOf, if_t, if_f, lenF, leD_i, leD_s, ltD_i, ltD_s, gtD_i, geD_i, addD_i, subD_i, mulD_i, itemsD, wipeD, Tgt.put, setAll, outR, lb0, lb1, lb2, lb3, lb4, lb5, lb6, lb7, lb8, lb9, lb10, lb11, lb12, allF, listF, tupleF, intF, eq_self_iff_true, if_true, if_false, decide_true, decide_false, Bool.true_and, Bool.false_and, Bool.and_true, Bool.and_false, Bool.not_true, Bool.not_false, Nat.sub_self, Nat.reduceAdd, Nat.reduceSub, Nat.reduceEqDiff]) (rngN' k (by omega)), bd_ok]
  exact q
theorem law_go {d body : SDen} {c : Int} {N : Nat} {P0 : Addr} {CC : CloT} {a : Addr} {ns : List Int} (hd : d = sqP (asP (.one 1) (callP (bagF c) (consP (varP 0) nilP))) body) (hN : 2 ≤ N) (h0 : 0 ≤ c) (h1 : c < 4000000000) (hl : ns.length ≤ 63)
    (h : ∀ b, okB b → T1 ⟨some b, some (a, ns), [(1, .tab P0 CC none)], 1⟩ P0 CC → ∃ st', body (some (.opq (.ref a)) :: some (.hnd 0) :: List.replicate (N - 2) none) ⟨some b, some (a, ns), [(1, .tab P0 CC none)], 1⟩ = some (.ok (.rt (.bl true)), st')) :
    ∃ st', runD d N [.opq (.ref a)] (st0L P0 CC a ns) = some (.ok (.bl true), st') := by
  let b0 : BagSt := ⟨ns, 0, 0, c + ns.length, 0⟩
  have hb0 : okB b0 := ⟨by show (0 : Int) ≤ c + ((ns.length : Nat) : Int); omega, by show c + ((ns.length : Nat) : Int) < (4294967296 : Int); omega⟩
  have p0 : bagF c [.opq (.ref a)] ⟨none, some (a, ns), [(1, .tab P0 CC none)], 1⟩ = some (.ok (.hnd 0), ⟨some b0, some (a, ns), [(1, .tab P0 CC none)], 1⟩) := by
    unfold bagF
    simp only
    rw [if_pos ⟨trivial, hl⟩]
  obtain ⟨st', q⟩ := h b0 hb0 ⟨rfl, Nat.le_refl 1⟩
  refine ⟨st', ?_⟩
  obtain ⟨m, rfl⟩ : ∃ m, N = m + 2 := ⟨N - 2, by omega⟩
  rw [show m + 2 - 2 = m by omega] at q
  have e : d (some (.opq (.ref a)) :: none :: List.replicate m none) (st0L P0 CC a ns) = some (.ok (.rt (.bl true)), st') := by
    rw [hd]
    refine sq_step (st1 := ⟨some b0, some (a, ns), [(1, .tab P0 CC none)], 1⟩) (Δ1 := some (.opq (.ref a)) :: some (.hnd 0) :: List.replicate m none) ?_ q
    exact as_at (call1 (rfl : (varP 0 : EDen) _ (st0L P0 CC a ns) = some (.ok (.opq (.ref a)), st0L P0 CC a ns)) p0) rfl
  unfold runD
  exact (congrArg (fun m => Option.bind m fun p => (outR p.1).map fun r => (r, p.2)) e).trans rfl
end Dn

set_option Elab.async false
set_option linter.all false
set_option maxRecDepth 100000
set_option maxHeartbeats 4000000
namespace Dn
open PySem PySem.Spec PyProof.Rows L2
end Dn

set_option Elab.async false
set_option linter.all false
set_option maxRecDepth 100000
set_option maxHeartbeats 4000000
namespace Dn
open PySem PySem.Spec PyProof.Rows L2
end Dn

set_option Elab.async false
set_option linter.all false
set_option maxRecDepth 100000
set_option maxHeartbeats 4000000
namespace Dn
open PySem PySem.Spec PyProof.Rows L2
end Dn

set_option Elab.async false
set_option linter.all false
set_option maxRecDepth 100000
set_option maxHeartbeats 4000000
namespace Dn
open PySem PySem.Spec PyProof.Rows L2
end Dn

set_option Elab.async false
set_option linter.all false
set_option maxRecDepth 100000
set_option maxHeartbeats 4000000
namespace Dn
open PySem PySem.Spec PyProof.Rows L2
def d_l_counts : SDen :=
    (sqP (asP (.one 1) (lstP (consP (cstP (.int 0)) nilP)))
    (sqP (foP (rng1P (consP (varP 0) nilP)) (.one 2) (asP (.one 1) (binP addD (varP 1) (lcP (itP (varP 1)) (.one 3) yesT (binP addD (varP 3) (cstP (.int 1))) [3]))))
    (rtP (varP 1))))
def F_l_counts : FDen := gd 1 (runD (d_l_counts) 4)
end Dn

set_option Elab.async false
set_option linter.all false
set_option maxRecDepth 100000
set_option maxHeartbeats 4000000
namespace Dn
open PySem PySem.Spec PyProof.Rows L2
/-! ### sums of sets, the methods of a structure -/
theorem counts_ok (n : Nat) (hn : n ≤ 12) (st : Sta) : F_l_counts [.int n] st = some (.ok (.lst (tabI n fun i => (Mr.cnt n i : Int))), st) := by
  have hp : 2 ^ n ≤ 2 ^ 12 := Nat.pow_le_pow_right (by decide) hn
  have loop : ∀ (ks : List Nat) (s : List Int) (x2 : Option D), s.length * 2 ^ ks.length ≤ big →
      ∃ y2, foGo (.one 2) (asP (.one 1) (binP addD (varP 1) (lcP (itP (varP 1)) (.one 3) yesT (binP addD (varP 3) (cstP (.int 1))) [3]))) (ks.map fun k => .int (k : Nat)) [some (.int n), some (.lst (s.map .int)), x2, none] st =
        some (.ok (.nx [some (.int n), some (.lst (((List.replicate ks.length (1 : Int)).foldl (fun s a => s ++ s.map (· + a)) s).map .int)), y2, none]), st) := by
    intro ks
    induction ks with
    | nil => intro s x2 _; exact ⟨x2, rfl⟩
    | cons k ks ih =>
      intro s x2 hb
      have hp := Nat.two_pow_pos ks.length
      have h2 : s.length * 2 ^ (k :: ks).length = (s.length + s.length) * 2 ^ ks.length := by rw [List.length_cons, Nat.pow_succ, Nat.mul_comm (2 ^ ks.length) 2, ← Nat.mul_assoc, Nat.mul_two]
      have hs : s.length + s.length ≤ big := Nat.le_trans (Nat.le_mul_of_pos_right _ hp) (h2 ▸ hb)
      have lc := lc_map (t := .one 3) (te := binP addD (varP 3) (cstP (.int 1))) (Δ := [some (.int n), some (.lst (s.map .int)), some (.int k), none]) (st := st) (fun i : Int => D.int i) (fun i => .int (i + 1)) s (fun i _ => ⟨_, rfl, by simp only [gd, runD, callP, kwF, pick, rtP, sqP, asP, parP, nxP, ifP, andV, orV, notV, andT, orT, notT, truP, tstP, truD, isiP, isisP, isTys, isNP, notNP, isNon, varP, chP, cstP, bltP, binP, consP, nilP, lstP, tupP, lcP, itP, rng1P, rng2P, slP, noP, soP, intOf, negP, sosP, bd_ok, List.map, List.replicate, List.length_cons, List.length_nil, List.cons_append, List.nil_append, List.append_nil, List.getElem?_cons_zero, List.getElem?_cons_succ, List.filterMap, List.set, omap_some, obind_some, isTy, blOf, if_t, if_f, lenF, leD_i, leD_s, ltD_i, ltD_s, gtD_i, geD_i, addD_i, subD_i, mulD_i, itemsD, wipeD, Tgt.put, setAll, outR, lb0, lb1, lb2, lb3, lb4, lb5, lb6, lb7, lb8, lb9, lb10, lb11, lb12, allF, listF, tupleF, intF, eq_self_iff_true, if_true, if_false, decide_true, decide_false, Bool.true_and, Bool.false_and, Bool.and_true, Bool.and_false, Bool.not_true, Bool.not_false, Nat.sub_self, Nat.reduceAdd, Nat.reduceSub, Nat.reduceEqDiff]⟩) (by omega)
      rw [show (s.map fun i => D.int (i + 1)) = (s.map (· + (1 : Int))).map D.int by rw [List.map_map]; rfl] at lc
      have body : asP (.one 1) (binP addD (varP 1) (lcP (itP (varP 1)) (.one 3) yesT (binP addD (varP 3) (cstP (.int 1))) [3])) [some (.int n), some (.lst (s.map .int)), some (.int k), none] st = some (.ok (.nx [some (.int n), some (.lst ((s ++ s.map (· + (1 : Int))).map .int)), some (.int k), none]), st) := by
        simp only [gd, runD, callP, kwF, pick, rtP, sqP, asP, parP, nxP, ifP, andV, orV, notV, andT, orT, notT, truP, tstP, truD, isiP, isisP, isTys, isNP, notNP, isNon, varP, chP, cstP, bltP, binP, consP, nilP, lstP, tupP, lcP, itP, rng1P, rng2P, slP, noP, soP, intOf, negP, sosP, bd_ok, List.map, List.replicate, List.length_cons, List.length_nil, List.cons_append, List.nil_append, List.append_nil, List.getElem?_cons_zero, List.getElem?_cons_succ, List.filterMap, List.set, omap_some, obind_some, isTy, blOf, if_t, if_f, lenF, leD_i, leD_s, ltD_i, ltD_s, gtD_i, geD_i, addD_i, subD_i, mulD_i, itemsD, wipeD, Tgt.put, setAll, outR, lb0, lb1, lb2, lb3, lb4, lb5, lb6, lb7, lb8, lb9, lb10, lb11, lb12, allF, listF, tupleF, intF, eq_self_iff_true, if_true, if_false, decide_true, decide_false, Bool.true_and, Bool.false_and, Bool.and_true, Bool.and_false, Bool.not_true, Bool.not_false, Nat.sub_self, Nat.reduceAdd, Nat.reduceSub, Nat.reduceEqDiff, lc, addI_lst s (s.map (· + (1 : Int))) (by rw [List.length_map]; exact hs)]
      obtain ⟨y2, ih⟩ := ih (s ++ s.map (· + (1 : Int))) (some (.int k)) (by rw [List.length_append, List.length_map]; rw [← h2]; exact hb)
      refine ⟨y2, ?_⟩
      rw [List.map_cons]
      unfold foGo
      rw [show Tgt.put (.one 2) (D.int (k : Nat)) [some (.int n), some (.lst (s.map .int)), x2, none] = some [some (.int n), some (.lst (s.map .int)), some (.int k), none] from rfl, obind_some, body]
      rw [List.length_cons, List.replicate_succ, List.foldl_cons]
      exact ih
  obtain ⟨y2, lp⟩ := loop (List.range n) [0] none (by rw [List.length_singleton, Nat.one_mul, List.length_range]; unfold big; omega)
  rw [List.length_range] at lp
  have rg := rngN' n (by omega)
  refine run_ret rfl ?_
  unfold d_l_counts
  (apply sq_step; focus (simp only [gd, runD, callP, kwF, pick, rtP, sqP, asP, parP, nxP, ifP, andV, orV, notV, andT, orT, notT, truP, tstP, truD, isiP, isisP, isTys, isNP, notNP, isNon, varP, chP, cstP, bltP, binP, consP, nilP, lstP, tupP, lcP, itP, rng1P, rng2P, slP, noP, soP, intOf, negP, sosP, bd_ok, List.map, List.replicate, List.length_cons, List.length_nil, List.cons_append, List.nil_append, List.append_nil, List.getElem?_cons_zero, List.getElem?_cons_succ, List.filterMap, List.set, omap_some, obind_some, isTy, blOf, if_t, if_f, lenF, leD_i, leD_s, ltD_i, ltD_s, gtD_i, geD_i, addD_i, subD_i, mulD_i, itemsD, wipeD, Tgt.put, setAll, outR, lb0, lb1, lb2, lb3, lb4, lb5, lb6, lb7, lb8, lb9, lb10, lb11, lb12, allF, listF, tupleF, intF, eq_self_iff_true, if_true, if_false, decide_true, decide_false, Bool.true_and, Bool.false_and, Bool.and_true, Bool.and_false, Bool.not_true, Bool.not_false, Nat.sub_self, Nat.reduceAdd, Nat.reduceSub, Nat.reduceEqDiff]; first | done | rfl))
  refine sq_step (by simp only [gd, runD, callP, kwF, pick, rtP, sqP, asP, parP, nxP, ifP, andV, orV, notV, andT, orT, notT, truP, tstP, truD, isiP, isisP, isTys, isNP, notNP, isNon, varP, chP, cstP, bltP, binP, consP, nilP, lstP, tupP, lcP, itP, rng1P, rng2P, slP, noP, soP, intOf, negP, sosP, bd_ok, List.map, List.replicate, List.length_cons, List.length_nil, List.cons_append, List.nil_append, List.append_nil, List.getElem?_cons_zero, List.getElem?_cons_succ, List.filterMap, List.set, omap_some, obind_some, isTy, blOf, if_t, if_f, lenF, leD_i, leD_s, ltD_i, ltD_s, gtD_i, geD_i, addD_i, subD_i, mulD_i, itemsD, wipeD, Tgt.put, setAll, outR, lb0, lb1, lb2, lb3, lb4, lb5, lb6, lb7, lb8, lb9, lb10, lb11, lb12, allF, listF, tupleF, intF, eq_self_iff_true, if_true, if_false, decide_true, decide_false, Bool.true_and, Bool.false_and, Bool.and_true, Bool.and_false, Bool.not_true, Bool.not_false, Nat.sub_self, Nat.reduceAdd, Nat.reduceSub, Nat.reduceEqDiff, foP, rg]; exact lp) ?_
  simp only [gd, runD, callP, kwF, pick, rtP, sqP, asP, parP, nxP, ifP, andV, orV, notV, andT, orT, notT, truP, tstP, truD, isiP, isisP, isTys, isNP, notNP, isNon, varP, chP, cstP, bltP, binP, consP, nilP, lstP, tupP, lcP, itP, rng1P, rng2P, slP, noP, soP, intOf, negP, sosP, bd_ok, List.map, List.replicate, List.length_cons, List.length_nil, List.cons_append, List.nil_append, List.append_nil, List.getElem?_cons_zero, List.getElem?_cons_succ, List.filterMap, List.set, omap_some, obind_some, isTy, blOf, if_t, if_f, lenF, leD_i, leD_s, ltD_i, ltD_s, gtD_i, geD_i, addD_i, subD_i, mulD_i, itemsD, wipeD, Tgt.put, setAll, outR, lb0, lb1, lb2, lb3, lb4, lb5, lb6, lb7, lb8, lb9, lb10, lb11, lb12, allF, listF, tupleF, intF, eq_self_iff_true, if_true, if_false, decide_true, decide_false, Bool.true_and, Bool.false_and, Bool.and_true, Bool.and_false, Bool.not_true, Bool.not_false, Nat.sub_self, Nat.reduceAdd, Nat.reduceSub, Nat.reduceEqDiff]
  show some (Except.ok (Out.rt (D.lst ((Mr.sumsL (List.replicate n 1)).map .int))), st) = _
  rw [Mr.sums_ones, List.map_map]
  rfl
/-! ### ~, == and what is told -/
section
variable (C : Nat → Addr) (N : D) (u : Int) (tab : List D) (st : Sta)
end
end Dn

set_option Elab.async false
set_option linter.all false
set_option maxRecDepth 100000
set_option maxHeartbeats 4000000
namespace Dn
open PySem PySem.Spec PyProof.Rows L2
/-! ### worlds as drawn, and the law's own reckoning with them -/
section
variable {ws : List Str} {h n : Nat} {r : Nat → Nat} (C : Nat → Addr) (W : Wrl ws h n r) (st : Sta)
end
section
variable {ws : List Str} {h n : Nat} (t : Nat → Int) (st : Sta)
end
/-! ### elements and marks -/
section
variable (C : Nat → Addr) {ws : List Str} {u n : Nat} (t : Nat → Int) (st : Sta)
end
end Dn

set_option Elab.async false
set_option linter.all false
set_option maxRecDepth 100000
set_option maxHeartbeats 4000000
namespace Dn
open PySem PySem.Spec PyProof.Rows L2
section
variable {ws : List Str} {h n : Nat} {r : Nat → Nat} (C : Nat → Addr) (W : Wrl ws h n r) (st : Sta)
end
/-! ### groups as masks -/
/-! ### the law's own reckoning -/
section
variable {ws : List Str} {h n : Nat} (t : Nat → Int) (st : Sta)
end
section
variable (C : Nat → Addr) {ws : List Str} {u n : Nat} (t : Nat → Int) (st : Sta)
end
end Dn

set_option Elab.async false
set_option linter.all false
set_option maxRecDepth 100000
set_option maxHeartbeats 4000000
namespace Dn
open PySem PySem.Spec PyProof.Rows L2
/-! ### ranks and spans of groups -/
section
variable (C : Nat → Addr) {ws : List Str} {u n : Nat} (t : Nat → Int) (st : Sta)
end
/-! ### tests -/
section
variable (C : Nat → Addr) {ws : List Str} {u n : Nat} (t : Nat → Int) (st : Sta)
end
end Dn

set_option Elab.async false
set_option linter.all false
set_option maxRecDepth 100000
set_option maxHeartbeats 4000000
namespace Dn
open PySem PySem.Spec PyProof.Rows L2
/-! ### ~, == and what is told -/
section
variable (C : Nat → Addr) (N : D) (u : Int) (tab : List D) (st : Sta)
end
section
variable {ws : List Str} {h n : Nat} {r : Nat → Nat} (C : Nat → Addr) (W : Wrl ws h n r) (st : Sta)
end
/-! ### groups as masks -/
/-! ### the law's own reckoning -/
section
variable {ws : List Str} {h n : Nat} (t : Nat → Int) (st : Sta)
end
section
variable (C : Nat → Addr) {ws : List Str} {u n : Nat} (t : Nat → Int) (st : Sta)
end
/-! ### what is drawn -/
section
variable {scr : Option (Addr × List Int)} {own : List (Nat × Cell)} {nx : Nat} {ws : List Str}
end
end Dn

set_option Elab.async false
set_option linter.all false
set_option maxRecDepth 100000
set_option maxHeartbeats 4000000
namespace Dn
open PySem PySem.Spec PyProof.Rows L2
/-! ### a name put into a sorted list -/
section
variable {ws vs : List Str} {z : Str} {s : Nat} (I : InsAt ws z vs s)
include I
end
/-! ### equal texts -/
end Dn

set_option Elab.async false
set_option linter.all false
set_option maxRecDepth 100000
set_option maxHeartbeats 4000000
namespace Dn
open PySem PySem.Spec PyProof.Rows L2
/-! ### changes of structures -/
section
variable (C : Nat → Addr) {ws : List Str} {u n : Nat} (t : Nat → Int) (st : Sta)
end
end Dn

set_option Elab.async false
set_option linter.all false
set_option maxRecDepth 100000
set_option maxHeartbeats 4000000
namespace Dn
open PySem PySem.Spec PyProof.Rows L2
section
variable (C : Nat → Addr) {ws vs : List Str} {z : Str} {s u n : Nat} (t : Nat → Int) (st : Sta)
end
end Dn

set_option Elab.async false
set_option linter.all false
set_option maxRecDepth 100000
set_option maxHeartbeats 4000000
namespace Dn
open PySem PySem.Spec PyProof.Rows L2
/-! ### the law's own tables -/
theorem setO_at {to ti te : EDen} {Δ : Dl} {st st1 : Sta} {d : D} {n k : Nat} {ds : List D} (h1 : te Δ st = some (.ok d, st1)) (h2 : to Δ st1 = some (.ok (.hnd n), st1)) (h3 : ti Δ st1 = some (.ok (.int (k : Nat)), st1)) (hl : st1.look n = some (.lst ds)) (hk : k < ds.length) :
    setOP to ti te Δ st = some (.ok (.nx Δ), st1.put n (.lst (ds.set k d))) := by
  have hj : ixN ds.length (k : Int) = some k := by
    unfold ixN
    rw [if_pos (by omega), if_pos (by omega), Int.toNat_natCast]
  unfold setOP
  rw [h1, bd_ok, h2, bd_ok, h3, bd_ok]
  show (match st1.look n with | some (.lst ds) => (ixN ds.length (k : Int)).map fun j => ((.ok (.nx Δ) : Except Exc Out), st1.put n (.lst (ds.set j d))) | _ => none) = _
  rw [hl]
  simp only
  rw [hj]
  rfl
section
variable {ws vs : List Str} {z : Str} {s h n : Nat} (t : Nat → Int) (st : Sta)
end
end Dn

set_option Elab.async false
set_option linter.all false
set_option maxRecDepth 100000
set_option maxHeartbeats 4000000
namespace Dn
open PySem PySem.Spec PyProof.Rows L2
section
variable {ws vs : List Str} {z : Str} {s h n : Nat} (t : Nat → Int) (st : Sta)
end
section
variable (C : Nat → Addr) {ws : List Str} {u n : Nat} (t : Nat → Int) (st : Sta)
end
end Dn

set_option Elab.async false
set_option linter.all false
set_option maxRecDepth 100000
set_option maxHeartbeats 4000000
namespace Dn
open PySem PySem.Spec PyProof.Rows L2
/-! ### tables of ranks cut and put -/
section
variable {n : Nat} {r : Nat → Nat} (R : Mr.Rk n r)
include R
end
end Dn

set_option Elab.async false
set_option linter.all false
set_option maxRecDepth 100000
set_option maxHeartbeats 4000000
namespace Dn
open PySem PySem.Spec PyProof.Rows L2
/-! ### ~, == and what is told -/
section
variable (C : Nat → Addr) (N : D) (u : Int) (tab : List D) (st : Sta)
end
section
variable {ws : List Str} {h n : Nat} {r : Nat → Nat} (C : Nat → Addr) (W : Wrl ws h n r) (st : Sta)
end
/-! ### groups as masks -/
/-! ### the law's own reckoning -/
section
variable {ws : List Str} {h n : Nat} (t : Nat → Int) (st : Sta)
end
section
variable (C : Nat → Addr) {ws : List Str} {u n : Nat} (t : Nat → Int) (st : Sta)
end
/-! ### what is drawn -/
section
variable {scr : Option (Addr × List Int)} {own : List (Nat × Cell)} {nx : Nat} {ws : List Str}
end
end Dn

set_option Elab.async false
set_option linter.all false
set_option maxRecDepth 100000
set_option maxHeartbeats 4000000
namespace Dn
open PySem PySem.Spec PyProof.Rows L2
/-! ### a name put into a sorted list -/
section
variable {ws vs : List Str} {z : Str} {s : Nat} (I : InsAt ws z vs s)
include I
end
/-! ### equal texts -/
end Dn

set_option Elab.async false
set_option linter.all false
set_option maxRecDepth 100000
set_option maxHeartbeats 4000000
namespace Dn
open PySem PySem.Spec PyProof.Rows L2
section
variable (C : Nat → Addr) {ws : List Str} {u n : Nat} (t : Nat → Int) (st : Sta)
end
end Dn

set_option Elab.async false
set_option linter.all false
set_option maxRecDepth 100000
set_option maxHeartbeats 4000000
namespace Dn
open PySem PySem.Spec PyProof.Rows L2
section
variable (C : Nat → Addr) {ws vs : List Str} {z : Str} {s u n : Nat} (t : Nat → Int) (st : Sta)
end
end Dn

set_option Elab.async false
set_option linter.all false
set_option maxRecDepth 100000
set_option maxHeartbeats 4000000
namespace Dn
open PySem PySem.Spec PyProof.Rows L2
/-! ### the law's own tables -/
section
variable {ws vs : List Str} {z : Str} {s h n : Nat} (t : Nat → Int) (st : Sta)
end
end Dn

set_option Elab.async false
set_option linter.all false
set_option maxRecDepth 100000
set_option maxHeartbeats 4000000
namespace Dn
open PySem PySem.Spec PyProof.Rows L2
section
variable (C : Nat → Addr) {ws : List Str} {u n : Nat} (t : Nat → Int) (st : Sta)
end
section
variable {n : Nat} {r : Nat → Nat} (R : Mr.Rk n r)
include R
end
end Dn

set_option Elab.async false
set_option linter.all false
set_option maxRecDepth 100000
set_option maxHeartbeats 4000000
namespace Dn
open PySem PySem.Spec PyProof.Rows L2
/-! ### ranks and spans of groups -/
section
variable (C : Nat → Addr) {ws : List Str} {u n : Nat} (t : Nat → Int) (st : Sta)
end
section
variable (C : Nat → Addr) {ws : List Str} {u n : Nat} (t : Nat → Int) (st : Sta)
end
section
variable (C : Nat → Addr) {ws vs : List Str} {z : Str} {s u n : Nat} (t : Nat → Int) (st : Sta)
end
end Dn

set_option Elab.async false
set_option linter.all false
set_option maxRecDepth 100000
set_option maxHeartbeats 4000000
namespace Dn
open PySem PySem.Spec PyProof.Rows L2
section
variable {ws : List Str} {h n : Nat} {r : Nat → Nat} (C : Nat → Addr) (W : Wrl ws h n r) (st : Sta)
end
/-! ### groups as masks -/
/-! ### the law's own reckoning -/
section
variable {ws : List Str} {h n : Nat} (t : Nat → Int) (st : Sta)
end
section
variable (C : Nat → Addr) {ws : List Str} {u n : Nat} (t : Nat → Int) (st : Sta)
end
section
variable (C : Nat → Addr) {ws : List Str} {u n : Nat} (t : Nat → Int) (st : Sta)
end
end Dn

set_option Elab.async false
set_option linter.all false
set_option maxRecDepth 100000
set_option maxHeartbeats 4000000
namespace Dn
open PySem PySem.Spec PyProof.Rows L2
/-! ### groups and numbers, right and wrong -/
theorem ix_str (zs : List Str) (i : Nat) (h : i < zs.length) : ixD (.tup (zs.map .str)) (.int i) = some (.str (zs.getD i Str.empty)) := by
  show atI _ _ = _
  unfold atI ixN
  rw [List.length_map, if_pos (by omega), if_pos (by omega), obind_some, Int.toNat_natCast, List.getElem?_map, List.getD_eq_getElem?_getD, List.getElem?_eq_getElem h] <;> rfl
theorem is_number_odd (d : D) (a b : Int) (st : Sta) (h : isTy d .int = some false) : F_is_number [d, .int a, .int b] st = some (.ok (.bl false), st) := by
  refine run_ret rfl ?_
  unfold d_is_number
  cases d <;> first | (simp only [gd, runD, callP, kwF, pick, rtP, sqP, asP, parP, nxP, ifP, andV, orV, notV, andT, orT, notT, truP, tstP, truD, isiP, isisP, isTys, isNP, notNP, isNon, varP, chP, cstP, bltP, binP, consP, nilP, lstP, tupP, lcP, itP, rng1P, rng2P, slP, noP, soP, intOf, negP, sosP, bd_ok, List.map, List.replicate, List.length_cons, List.length_nil, List.cons_append, List.nil_append, List.append_nil, List.getElem?_cons_zero, List.getElem?_cons_succ, List.filterMap, List.set, omap_some, obind_some, isTy, blOf, if_t, if_f, lenF, leD_i, leD_s, ltD_i, ltD_s, gtD_i, geD_i, addD_i, subD_i, mulD_i, itemsD, wipeD, Tgt.put, setAll, outR, lb0, lb1, lb2, lb3, lb4, lb5, lb6, lb7, lb8, lb9, lb10, lb11, lb12, allF, listF, tupleF, intF, eq_self_iff_true, if_true, if_false, decide_true, decide_false, Bool.true_and, Bool.false_and, Bool.and_true, Bool.and_false, Bool.not_true, Bool.not_false, Nat.sub_self, Nat.reduceAdd, Nat.reduceSub, Nat.reduceEqDiff]; done) | (simp [isTy] at h; done)
theorem is_number_bool (x : Bool) (a b : Int) (st : Sta) : F_is_number [.bl x, .int a, .int b] st = some (.ok (.bl false), st) := by
  refine run_ret rfl ?_
  unfold d_is_number
  simp only [gd, runD, callP, kwF, pick, rtP, sqP, asP, parP, nxP, ifP, andV, orV, notV, andT, orT, notT, truP, tstP, truD, isiP, isisP, isTys, isNP, notNP, isNon, varP, chP, cstP, bltP, binP, consP, nilP, lstP, tupP, lcP, itP, rng1P, rng2P, slP, noP, soP, intOf, negP, sosP, bd_ok, List.map, List.replicate, List.length_cons, List.length_nil, List.cons_append, List.nil_append, List.append_nil, List.getElem?_cons_zero, List.getElem?_cons_succ, List.filterMap, List.set, omap_some, obind_some, isTy, blOf, if_t, if_f, lenF, leD_i, leD_s, ltD_i, ltD_s, gtD_i, geD_i, addD_i, subD_i, mulD_i, itemsD, wipeD, Tgt.put, setAll, outR, lb0, lb1, lb2, lb3, lb4, lb5, lb6, lb7, lb8, lb9, lb10, lb11, lb12, allF, listF, tupleF, intF, eq_self_iff_true, if_true, if_false, decide_true, decide_false, Bool.true_and, Bool.false_and, Bool.and_true, Bool.and_false, Bool.not_true, Bool.not_false, Nat.sub_self, Nat.reduceAdd, Nat.reduceSub, Nat.reduceEqDiff]
end Dn

set_option Elab.async false
set_option linter.all false
set_option maxRecDepth 100000
set_option maxHeartbeats 4000000
namespace Dn
open PySem PySem.Spec PyProof.Rows L2
/-! ### the reading of the caught error -/
/-! ### facts -/
def wordS (l : Bool) : Str := if l then "least" else "most"
/-- a fact: least or most, the group, the number -/
structure Fct where
  l : Bool
  g : List Str
  k : Int
def Fct.d (f : Fct) : D := .tup [.str (wordS f.l), .tup (f.g.map .str), .int f.k]
def Fct.keeps (f : Fct) (r : Int) : Bool := if f.l then decide (f.k ≤ r) else decide (r ≤ f.k)
theorem x0 (a b c : D) : ixD (.tup [a, b, c]) (.int 0) = some a := rfl
theorem x1 (a b c : D) : ixD (.tup [a, b, c]) (.int 1) = some b := rfl
theorem x2 (a b c : D) : ixD (.tup [a, b, c]) (.int 2) = some c := rfl
theorem len3 (a b c : D) : lenF [.tup [a, b, c]] = some (.int 3) := rfl
end Dn

set_option Elab.async false
set_option linter.all false
set_option maxRecDepth 100000
set_option maxHeartbeats 4000000
namespace Dn
open PySem PySem.Spec PyProof.Rows L2
/-! ### facts told right from wrong -/
section
variable {ws : List Str}
end
end Dn

set_option Elab.async false
set_option linter.all false
set_option maxRecDepth 100000
set_option maxHeartbeats 4000000
namespace Dn
open PySem PySem.Spec PyProof.Rows L2
/-! ### what is no fact -/
section
variable {N : D} (st : Sta)
end
end Dn

set_option Elab.async false
set_option linter.all false
set_option maxRecDepth 100000
set_option maxHeartbeats 4000000
namespace Dn
open PySem PySem.Spec PyProof.Rows L2
/-! ### facts checked -/
section
variable (C : Nat → Addr) {N T : D} (st : Sta)
end
end Dn

set_option Elab.async false
set_option linter.all false
set_option maxRecDepth 100000
set_option maxHeartbeats 4000000
namespace Dn
open PySem PySem.Spec PyProof.Rows L2
/-! ### groups drawn; facts kept -/
section
variable {scr : Option (Addr × List Int)} {own : List (Nat × Cell)} {nx : Nat} {ws : List Str}
end
end Dn

set_option Elab.async false
set_option linter.all false
set_option maxRecDepth 100000
set_option maxHeartbeats 4000000
namespace Dn
open PySem PySem.Spec PyProof.Rows L2
section
variable (C : Nat → Addr) {ws : List Str} {u n : Nat} (t : Nat → Int) (st : Sta)
/-! ### the law's own reckoning -/
end
end Dn

set_option Elab.async false
set_option linter.all false
set_option maxRecDepth 100000
set_option maxHeartbeats 4000000
namespace Dn
open PySem PySem.Spec PyProof.Rows L2
/-! ### what is drawn -/
section
variable {scr : Option (Addr × List Int)} {own : List (Nat × Cell)} {nx : Nat} {ws : List Str}
end
/-! ### the world -/
end Dn

set_option Elab.async false
set_option linter.all false
set_option maxRecDepth 100000
set_option maxHeartbeats 4000000
namespace Dn
open PySem PySem.Spec PyProof.Rows L2
/-! ### plain data, item by item -/
def PlL (n : Nat) : List D → Prop
  | [] => True
  | d :: ds => Pl n d ∧ PlL n ds
theorem PlL.all {n : Nat} : ∀ {ds : List D}, PlL n ds → ∀ d ∈ ds, Pl n d
  | d :: ds, h, x, hx => by
    rcases List.mem_cons.mp hx with rfl | hx
    · exact h.1
    · exact PlL.all h.2 x hx
theorem pl_tup {n : Nat} {ds : List D} (h : PlL n ds) (hl : ds.length ≤ big := by unfold big; simp) : Pl (n + 1) (.tup ds) := .tup h.all hl
theorem pl_str {n : Nat} {s : Str} (h1 : s.cps.all (· < 0x110000) = true := by decide +kernel) (h2 : s.length ≤ big := by decide +kernel) : Pl n (.str s) := .str (by first | exact h1 | simpa using h1) (by first | exact h2 | simpa using h2)
theorem at_nat {ds : List D} {i : Nat} {d : D} (h : ds[i]? = some d) : atI ds (i : Nat) = some d := by
  have hi := (List.getElem?_eq_some_iff.mp h).1
  unfold atI ixN
  rw [if_pos (by omega), if_pos (by omega), obind_some, Int.toNat_natCast, h]
theorem ix_0 {d : D} {ds : List D} : ixD (.lst (d :: ds)) (.int 0) = some d := at_nat (i := 0) rfl
/-! ### loops that end in an error -/
/-- a loop of checks: xs pass, then d is refused -/
theorem fo_stop {α : Type} {g : Tgt} {tb : SDen} (f : α → D) (d : D) (rest : List D) (e : Exc) (I : Dl → Prop) (st : Sta) : ∀ (xs : List α) (Δ : Dl), I Δ → (∀ x ∈ xs, ∀ Δ, I Δ → ∃ Δ1, g.put (f x) Δ = some Δ1 ∧ tb Δ1 st = some (.ok (.nx Δ1), st) ∧ I Δ1) →
    (∀ Δ, I Δ → ∃ Δ1, g.put d Δ = some Δ1 ∧ tb Δ1 st = some (.error e, st)) → foGo g tb (xs.map f ++ d :: rest) Δ st = some (.error e, st)
  | [], Δ, h0, _, hd => by
    obtain ⟨Δ1, h1, h2⟩ := hd Δ h0
    rw [List.map_nil, List.nil_append]
    unfold foGo
    rw [h1, obind_some, h2]
  | x :: xs, Δ, h0, hs, hd => by
    obtain ⟨Δ1, h1, h2, h3⟩ := hs x List.mem_cons_self Δ h0
    rw [List.map_cons, List.cons_append]
    unfold foGo
    rw [h1, obind_some, h2]
    exact fo_stop f d rest e I st xs Δ1 h3 (fun y hy => hs y (List.mem_cons_of_mem _ hy)) hd
/-! ### names that are refused -/
abbrev eTable (C : Nat → Addr) (d : D) : Exc := ex1 (C 24) "InvalidTable" "at" d
section
variable (C : Nat → Addr) (d : D) (s : Str) (k : Int)
theorem tTable : excR (eTable C d) = some (errD "InvalidTable" [d]) := excR1 fc_InvalidTable
end
section
variable (C : Nat → Addr) {zs : List Str} {m : Nat} (st : Sta)
end
end Dn

set_option Elab.async false
set_option linter.all false
set_option maxRecDepth 100000
set_option maxHeartbeats 4000000
namespace Dn
open PySem PySem.Spec PyProof.Rows L2
/-! ### min and max of lists of ints, of two ints -/
section
variable {X : Cx}
end
end Dn

set_option Elab.async false
set_option linter.all false
set_option maxRecDepth 100000
set_option maxHeartbeats 4000000
namespace Dn
open PySem PySem.Spec PyProof.Rows L2
end Dn

set_option Elab.async false
set_option linter.all false
set_option maxRecDepth 100000
set_option maxHeartbeats 4000000
namespace Dn
open PySem PySem.Spec PyProof.Rows L2
/-! ### the free and the uniform structures -/
section
variable (C : Nat → Addr) {T : D} {zs : List Str} (st : Sta)
end
end Dn

set_option Elab.async false
set_option linter.all false
set_option maxRecDepth 100000
set_option maxHeartbeats 4000000
namespace Dn
open PySem PySem.Spec PyProof.Rows L2
/-! ### a, b, .. = a list -/
section
variable {X : Cx} {E : XK} {e : Expr} {te : EDen} {pos : Pos}
end
end Dn

set_option Elab.async false
set_option linter.all false
set_option maxRecDepth 100000
set_option maxHeartbeats 4000000
namespace Dn
open PySem PySem.Spec PyProof.Rows L2
end Dn

set_option Elab.async false
set_option linter.all false
set_option maxRecDepth 100000
set_option maxHeartbeats 4000000
namespace Dn
open PySem PySem.Spec PyProof.Rows L2
/-! ### marks as masks -/
/-! ### the law's own reckoning, with marks -/
section
variable {ws : List Str} {h n : Nat} (t : Nat → Int) (st : Sta)
end
/-! ### the program's marks -/
section
variable (C : Nat → Addr) {ws : List Str} {u n : Nat} (tab : List D) (t : Nat → Int) (st : Sta)
end
end Dn

set_option Elab.async false
set_option linter.all false
set_option maxRecDepth 100000
set_option maxHeartbeats 4000000
namespace Dn
open PySem PySem.Spec PyProof.Rows L2
/-! ### a drawn world -/
theorem wrl_ok (b : BagSt) (scr : Option (Addr × List Int)) (own : List (Nat × Cell)) (nx : Nat) (zs : List Str) (h : Nat) (hb : okB b) (nm : ∀ z ∈ zs, NameS z) (nd : zs.Nodup) (hz : zs.length + h ≤ 11) :
    ∃ n r b' own' nx', Wrl (srtS zs) h n r ∧ n = zs.length + h ∧ okB b' ∧ (∀ P CC, T1 ⟨some b, scr, own, nx⟩ P CC → T1 ⟨some b', scr, own', nx'⟩ P CC) ∧
      F_l_world [.hnd 0, .lst (zs.map .str), .int h] ⟨some b, scr, own, nx⟩ = some (.ok (worldD (srtS zs) h n fun i => (r i : Int)), ⟨some b', scr, own', nx'⟩) := by
  obtain ⟨q, t, cols, b', own', nx', hq, t0, t1, cl, vok, hb', hT, p4⟩ := world_ok b scr own nx zs h hb hz
  have e : ((Mr.tabR q t cols).map fun r => D.int (r : Nat)) = tabI cols.length fun i => (Mr.rkAt q t cols i : Int) := by
    rw [Mr.tab_world hq vok, List.map_map]; rfl
  rw [e] at p4
  have sl := srtS_len zs
  exact ⟨cols.length, Mr.rkAt q t cols, b', own', nx', ⟨by rw [sl]; exact cl, srt_srt _, fun z hz => nm z (srt_mem.mp hz), srt_nd nd, Mr.rk_world hq⟩, cl, hb', hT, p4⟩
/-! ### methods with marks -/
theorem meth_at {C : Addr} {m : Str} {F : FDen} {te : EDen} {tr : ADen} {Δ : Dl} {st st1 st2 : Sta} {d : D} {ds : List D} {p : List Str × List D} {r : Mo D} (h1 : te Δ st = some (.ok d, st1)) (hi : insOf st1 C d = some p) (hm : (m ∈ p.1) = False) (h2 : tr Δ st1 = some (.ok ds, st2)) (h : F (d :: ds) st2 = r) : methP C m F te tr Δ st = r := by
  obtain ⟨ns, es⟩ := p
  unfold methP
  rw [h1, bd_ok, hi]
  simp only
  rw [if_neg (by rw [hm]; exact not_false), h2, bd_ok]
  exact h
section
variable (C : Nat → Addr) {ws : List Str} {u n : Nat} (t : Nat → Int) (st : Sta) {ms : List Nat}
end
/-! ### the law's own reckoning -/
section
variable {ws : List Str} {u n : Nat} (t : Nat → Int) (st : Sta) {ms : List Nat}
end
end Dn

set_option Elab.async false
set_option linter.all false
set_option maxRecDepth 100000
set_option maxHeartbeats 4000000
namespace Dn
open PySem PySem.Spec PyProof.Rows L2
theorem lst_at {tr : ADen} {Δ : Dl} {st st1 : Sta} {ds : List D} (h : tr Δ st = some (.ok ds, st1)) (hl : ds.length ≤ 1000 := by simp) : lstP tr Δ st = some (.ok (.lst ds), st1) := by
  unfold lstP
  rw [h]
  have : ds.length ≤ big := by unfold big; omega
  simp [bd, this]
section
variable (C : Nat → Addr) {ws : List Str} {u n : Nat} (t : Nat → Int) (st : Sta) {ms : List Nat}
theorem eqL (k m : Nat) : eqD (.int (k : Nat)) (.int (m : Nat)) = some (.bl (decide (k = m))) := by
  show some (D.bl ((k : Int) == (m : Int))) = _
  congr 2
  rw [Bool.eq_iff_iff, beq_iff_eq, decide_eq_true_eq]
  omega
end
end Dn

set_option Elab.async false
set_option linter.all false
set_option maxRecDepth 100000
set_option maxHeartbeats 4000000
namespace Dn
open PySem PySem.Spec PyProof.Rows L2
/-! ### structures that are refused -/
section
variable (C : Nat → Addr) {N T U : D} {zs : List Str}
theorem makeK_at {C0 : Addr} {F : FDen} {tr tk : ADen} {Δ : Dl} {st st1 st2 : Sta} {a b d : D} (h1 : tr Δ st = some (.ok [a, b], st1)) (h2 : tk Δ st1 = some (.ok [d], st2)) : makeKP C0 2 1 [0] F tr tk Δ st = mkF C0 F [a, b, d] st2 := by
  unfold makeKP
  rw [h1, bd_ok, h2, bd_ok]
  unfold mkkF
  rw [if_pos ⟨rfl, rfl⟩]
  rfl
theorem mk_er {e : Exc} (h : ∀ n st, F_Structure_init C [.hnd n, N, T, U] st = some (.error e, st)) (st : Sta) : ∃ st', mkF (C 0) (F_Structure_init C) [N, T, U] st = some (.error e, st') ∧ KS st st' := by
  refine ⟨st.neu (.ins (C 0) [] []), ?_, ⟨rfl, rfl, Nat.le_succ _, fun m hm => look_neu_ne (by omega)⟩⟩
  unfold mkF
  rw [show F_Structure_init C (.hnd (st.next + 1) :: [N, T, U]) { st with own := (st.next + 1, .ins (C 0) [] []) :: st.own, next := st.next + 1 } = _ from h (st.next + 1) (st.neu (.ins (C 0) [] []))]
theorem init_table {u : Nat} {e : Exc} (hN : IsNames N zs) (nm : ∀ z ∈ zs, NameS z) (nd : zs.Nodup) (h6 : zs.length ≤ 6) (h9 : u ≤ 9) (h12 : zs.length + u ≤ 12) (h : ∀ st, F_check_table C [T, .int (zs.length + u : Nat)] st = some (.error e, st)) (n : Nat) (st : Sta) : F_Structure_init C [.hnd n, N, T, .int u] st = some (.error e, st) := by
  have c := checked_names_ok C hN nm nd h6 (by omega) st
  have sl : ((srtS zs).map D.str).length = zs.length := by rw [List.length_map, srtS_len]
  have ct := h st
  have ek : ((zs.length + u : Nat) : Int) = (zs.length : Int) + (u : Int) := by omega
  rw [ek] at ct
  refine gd_er rfl rfl ?_
  unfold d_Structure_init
  refine sq_step (st1 := st) (Δ1 := [some (.hnd n), some N, some T, some (.int u), some (.ftp ((srtS zs).map .str)), none]) (as_at (call2 rfl rfl c) rfl) ?_
  refine sq_step (if_ff (st1 := st) (by simp only [gd, runD, callP, kwF, pick, rtP, sqP, asP, parP, nxP, ifP, andV, orV, notV, andT, orT, notT, truP, tstP, truD, isiP, isisP, isTys, isNP, notNP, isNon, varP, chP, cstP, bltP, binP, consP, nilP, lstP, tupP, lcP, itP, rng1P, rng2P, slP, noP, soP, intOf, negP, sosP, bd_ok, List.map, List.replicate, List.length_cons, List.length_nil, List.cons_append, List.nil_append, List.append_nil, List.getElem?_cons_zero, List.getElem?_cons_succ, List.filterMap, List.set, omap_some, obind_some, isTy, blOf, if_t, if_f, lenF, leD_i, leD_s, ltD_i, ltD_s, gtD_i, geD_i, addD_i, subD_i, mulD_i, itemsD, wipeD, Tgt.put, setAll, outR, lb0, lb1, lb2, lb3, lb4, lb5, lb6, lb7, lb8, lb9, lb10, lb11, lb12, allF, listF, tupleF, intF, eq_self_iff_true, if_true, if_false, decide_true, decide_false, Bool.true_and, Bool.false_and, Bool.and_true, Bool.and_false, Bool.not_true, Bool.not_false, Nat.sub_self, Nat.reduceAdd, Nat.reduceSub, Nat.reduceEqDiff, is_number_ok (v := (u : Int)) (a := 0) (b := 9) st (by omega) (by omega)]) rfl) ?_
  (apply sq_step; focus (simp only [gd, runD, callP, kwF, pick, rtP, sqP, asP, parP, nxP, ifP, andV, orV, notV, andT, orT, notT, truP, tstP, truD, isiP, isisP, isTys, isNP, notNP, isNon, varP, chP, cstP, bltP, binP, consP, nilP, lstP, tupP, lcP, itP, rng1P, rng2P, slP, noP, soP, intOf, negP, sosP, bd_ok, List.map, List.replicate, List.length_cons, List.length_nil, List.cons_append, List.nil_append, List.append_nil, List.getElem?_cons_zero, List.getElem?_cons_succ, List.filterMap, List.set, omap_some, obind_some, isTy, blOf, if_t, if_f, lenF, leD_i, leD_s, ltD_i, ltD_s, gtD_i, geD_i, addD_i, subD_i, mulD_i, itemsD, wipeD, Tgt.put, setAll, outR, lb0, lb1, lb2, lb3, lb4, lb5, lb6, lb7, lb8, lb9, lb10, lb11, lb12, allF, listF, tupleF, intF, eq_self_iff_true, if_true, if_false, decide_true, decide_false, Bool.true_and, Bool.false_and, Bool.and_true, Bool.and_false, Bool.not_true, Bool.not_false, Nat.sub_self, Nat.reduceAdd, Nat.reduceSub, Nat.reduceEqDiff, thP, thawD, sl]; first | done | rfl))
  refine sq_step (if_ff (st1 := st) (by simp only [gd, runD, callP, kwF, pick, rtP, sqP, asP, parP, nxP, ifP, andV, orV, notV, andT, orT, notT, truP, tstP, truD, isiP, isisP, isTys, isNP, notNP, isNon, varP, chP, cstP, bltP, binP, consP, nilP, lstP, tupP, lcP, itP, rng1P, rng2P, slP, noP, soP, intOf, negP, sosP, bd_ok, List.map, List.replicate, List.length_cons, List.length_nil, List.cons_append, List.nil_append, List.append_nil, List.getElem?_cons_zero, List.getElem?_cons_succ, List.filterMap, List.set, omap_some, obind_some, isTy, blOf, if_t, if_f, lenF, leD_i, leD_s, ltD_i, ltD_s, gtD_i, geD_i, addD_i, subD_i, mulD_i, itemsD, wipeD, Tgt.put, setAll, outR, lb0, lb1, lb2, lb3, lb4, lb5, lb6, lb7, lb8, lb9, lb10, lb11, lb12, allF, listF, tupleF, intF, eq_self_iff_true, if_true, if_false, decide_true, decide_false, Bool.true_and, Bool.false_and, Bool.and_true, Bool.and_false, Bool.not_true, Bool.not_false, Nat.sub_self, Nat.reduceAdd, Nat.reduceSub, Nat.reduceEqDiff, show decide ((12 : Int) < (zs.length : Int) + (u : Int)) = false from decide_eq_false (by omega)]) rfl) ?_
  exact sq_er (ex_er (by simp only [gd, runD, callP, kwF, pick, rtP, sqP, asP, parP, nxP, ifP, andV, orV, notV, andT, orT, notT, truP, tstP, truD, isiP, isisP, isTys, isNP, notNP, isNon, varP, chP, cstP, bltP, binP, consP, nilP, lstP, tupP, lcP, itP, rng1P, rng2P, slP, noP, soP, intOf, negP, sosP, bd_ok, List.map, List.replicate, List.length_cons, List.length_nil, List.cons_append, List.nil_append, List.append_nil, List.getElem?_cons_zero, List.getElem?_cons_succ, List.filterMap, List.set, omap_some, obind_some, isTy, blOf, if_t, if_f, lenF, leD_i, leD_s, ltD_i, ltD_s, gtD_i, geD_i, addD_i, subD_i, mulD_i, itemsD, wipeD, Tgt.put, setAll, outR, lb0, lb1, lb2, lb3, lb4, lb5, lb6, lb7, lb8, lb9, lb10, lb11, lb12, allF, listF, tupleF, intF, eq_self_iff_true, if_true, if_false, decide_true, decide_false, Bool.true_and, Bool.false_and, Bool.and_true, Bool.and_false, Bool.not_true, Bool.not_false, Nat.sub_self, Nat.reduceAdd, Nat.reduceSub, Nat.reduceEqDiff, ct]))
end
/-! ### slices and lists put together -/
theorem meth_er {C : Addr} {m : Str} {F : FDen} {te : EDen} {tr : ADen} {Δ : Dl} {st st1 : Sta} {e : Exc} (h1 : te Δ st = some (.error e, st1)) : methP C m F te tr Δ st = some (.error e, st1) := by
  unfold methP
  rw [h1]
  rfl
end Dn

set_option Elab.async false
set_option linter.all false
set_option maxRecDepth 100000
set_option maxHeartbeats 4000000
namespace Dn
open PySem PySem.Spec PyProof.Rows L2
end Dn

set_option Elab.async false
set_option linter.all false
set_option maxRecDepth 100000
set_option maxHeartbeats 4000000
namespace Dn
open PySem PySem.Spec PyProof.Rows L2
/-! ### min of a list of texts -/
section
variable {X : Cx}
end
end Dn

set_option Elab.async false
set_option linter.all false
set_option maxRecDepth 100000
set_option maxHeartbeats 4000000
namespace Dn
open PySem PySem.Spec PyProof.Rows L2
/-! ### o + p of own objects: an own object again -/
section
variable {X : Cx} {E : XK} {k : Nat} {f C : Addr} {fd : FuncData} {ps : List Str} {F : FDen} {a b : Expr} {ta tb : EDen} {pos : Pos} {op : Operator}
end
end Dn

set_option Elab.async false
set_option linter.all false
set_option maxRecDepth 100000
set_option maxHeartbeats 4000000
namespace Dn
open PySem PySem.Spec PyProof.Rows L2
end Dn

set_option Elab.async false
set_option linter.all false
set_option maxRecDepth 100000
set_option maxHeartbeats 4000000
namespace Dn
open PySem PySem.Spec PyProof.Rows L2
/-! ### sums over sets, by places -/
section
variable (C : Nat → Addr) {ws : List Str} {u : Nat} (st : Sta)
end
end Dn

set_option Elab.async false
set_option linter.all false
set_option maxRecDepth 100000
set_option maxHeartbeats 4000000
namespace Dn
open PySem PySem.Spec PyProof.Rows L2
/-! ### sums of structures -/
section
variable (C : Nat → Addr) {w1 w2 : List Str} {u1 u2 n1 n2 : Nat} (t1 t2 : Nat → Int) (st : Sta)
end
end Dn

set_option Elab.async false
set_option linter.all false
set_option maxRecDepth 100000
set_option maxHeartbeats 4000000
namespace Dn
open PySem PySem.Spec PyProof.Rows L2
/-! ### the law's own sum -/
section
variable {w1 w2 vs : List Str} {u1 u2 n1 n2 : Nat} (t1 t2 : Nat → Int) (st : Sta)
end
end Dn

set_option Elab.async false
set_option linter.all false
set_option maxRecDepth 100000
set_option maxHeartbeats 4000000
namespace Dn
open PySem PySem.Spec PyProof.Rows L2
def d_l_is_count : SDen :=
    (rtP (andV (isiP .int (varP 0)) (notV (isiP .bl (varP 0)))))
def F_l_is_count : FDen := gd 1 (runD (d_l_is_count) 1)
def d_l_breaks : SDen :=
    (sqP (asP (.one 2) (lcP (rng1P (consP (binP addD (varP 1) (cstP (.int 1))) nilP)) (.one 6) (tstP (binP eqD (binP andD (varP 6) (varP 1)) (varP 6))) (varP 6) [6]))
    (sqP (ifP (orT (notT (truP (bltP allF (consP (lcP (itP (varP 2)) (.one 6) yesT (callP F_l_is_count (consP (binP ixD (varP 0) (varP 6)) nilP)) [6]) nilP)))) (tstP (binP neD (binP ixD (varP 0) (cstP (.int 0))) (cstP (.int 0))))) (rtP (cstP (.bl true))) nxP)
    (sqP (asP (.one 3) (callP F_l_counts (consP (cstP (.int 4)) nilP)))
    (sqP (foP (itP (varP 2)) (.one 4) (foP (itP (varP 2)) (.one 5) (sqP (ifP (tstP (binP ltD (binP addD (binP ixD (varP 0) (varP 4)) (binP ixD (varP 0) (varP 5))) (binP addD (binP ixD (varP 0) (binP andD (varP 4) (varP 5))) (binP ixD (varP 0) (binP orD (varP 4) (varP 5)))))) (rtP (cstP (.bl true))) nxP)
    (ifP (andT (tstP (binP eqD (binP andD (varP 4) (varP 5)) (varP 5))) (andT (tstP (binP eqD (binP ixD (varP 3) (binP subD (varP 4) (varP 5))) (cstP (.int 1)))) (notT (tstP (chP leD leD (cstP (.int 0)) (binP subD (binP ixD (varP 0) (varP 4)) (binP ixD (varP 0) (varP 5))) (cstP (.int 1))))))) (rtP (cstP (.bl true))) nxP))))
    (rtP (cstP (.bl false)))))))
def F_l_breaks : FDen := gd 2 (runD (d_l_breaks) 7)
end Dn

set_option Elab.async false
set_option linter.all false
set_option maxRecDepth 100000
set_option maxHeartbeats 4000000
namespace Dn
open PySem PySem.Spec PyProof.Rows L2
/-! ### o.m(.., k = v): the last parameter of a plain def by its name -/
end Dn

set_option Elab.async false
set_option linter.all false
set_option maxRecDepth 100000
set_option maxHeartbeats 4000000
namespace Dn
open PySem PySem.Spec PyProof.Rows L2
end Dn

set_option Elab.async false
set_option linter.all false
set_option maxRecDepth 100000
set_option maxHeartbeats 4000000
namespace Dn
open PySem PySem.Spec PyProof.Rows L2
/-! ### ranks: what is added counts less, the more there is -/
section
variable {n : Nat} {r : Nat → Nat} (R : Mr.Rk n r)
include R
theorem sub1 {x b d : Nat} (hx : x < 2 ^ n) (hb : b < n) (hd : d < n) (ne : b ≠ d) (xb : x.testBit b = false) (xd : x.testBit d = false) : r (x ||| 2 ^ b ||| 2 ^ d) + r x ≤ r (x ||| 2 ^ b) + r (x ||| 2 ^ d) := by
  have lb := Mr.or_bit_lt hx hb
  have ld := Mr.or_bit_lt hx hd
  have hi : x ||| 2 ^ b ||| 2 ^ d < 2 ^ n := Mr.or_bit_lt lb hd
  have sw : x ||| 2 ^ b ||| 2 ^ d = x ||| 2 ^ d ||| 2 ^ b := by rw [Nat.or_assoc, Nat.or_comm (2 ^ b), ← Nat.or_assoc]
  have tb : (x ||| 2 ^ d).testBit b = false := by rw [Nat.testBit_or, xb, Nat.testBit_two_pow, Bool.false_or]; exact decide_eq_false (Ne.symm ne)
  have td : (x ||| 2 ^ b).testBit d = false := by rw [Nat.testBit_or, xd, Nat.testBit_two_pow, Bool.false_or]; exact decide_eq_false ne
  have e1 : (x ||| 2 ^ b ||| 2 ^ d) ^^^ 2 ^ d = x ||| 2 ^ b := Mr.or_xor_bit td
  have e2 : (x ||| 2 ^ b ||| 2 ^ d) ^^^ 2 ^ b = x ||| 2 ^ d := by rw [sw]; exact Mr.or_xor_bit tb
  have bb : (x ||| 2 ^ b ||| 2 ^ d).testBit b = true := by rw [sw]; exact Mr.or_bit _ _
  have bd := Mr.or_bit (x ||| 2 ^ b) d
  have o1 := R.one _ b hi hb bb
  have o2 := R.one _ d hi hd bd
  rw [e2] at o1
  rw [e1] at o2
  have m1 := (Mr.addb R hx hb).1
  have m2 := (Mr.addb R hx hd).1
  rcases o1 with o1 | o1
  · omega
  · rcases o2 with o2 | o2
    · omega
    · have tw := R.two _ b d hi hb hd ne bb bd (by rw [e2]; omega) (by rw [e1]; omega)
      rw [e2, Mr.or_xor_bit xd] at tw
      omega
theorem submod {x b : Nat} (hx : x < 2 ^ n) (hb : b < n) : ∀ (m w : Nat), m ≤ n → w < 2 ^ m → (x ||| w).testBit b = false → r (x ||| w ||| 2 ^ b) + r x ≤ r (x ||| 2 ^ b) + r (x ||| w)
  | 0, w, _, h, _ => by
    have : w = 0 := by omega
    subst this
    rw [Nat.or_zero]
    omega
  | m + 1, w, hm, h, hbit => by
    rcases Mr.top_split R h with q | ⟨v, hv, rfl⟩
    · exact submod hx hb m w (by omega) q hbit
    · have lt : x ||| v < 2 ^ n := Nat.or_lt_two_pow hx (Nat.lt_of_lt_of_le hv (Mr.pow_le (by omega)))
      rw [← Nat.or_assoc] at hbit ⊢
      have hb2 : (x ||| v).testBit b = false := by
        rw [Nat.testBit_or] at hbit
        exact (Bool.or_eq_false_iff.mp hbit).1
      have ne : m ≠ b := fun e => by rw [e, Mr.or_bit] at hbit; cases hbit
      have ih := submod hx hb m v (by omega) hv hb2
      cases q : (x ||| v).testBit m with
      | true => rw [Mr.or_self_bit q]; exact ih
      | false =>
        have := sub1 R lt (show m < n by omega) hb ne q hb2
        omega
end
/-! ### step by step, and all at once -/
theorem xor_bit_lt {i b : Nat} (h : i.testBit b = true) : i ^^^ 2 ^ b < i := by
  have e : i = (i ^^^ 2 ^ b) ||| 2 ^ b := by
    refine Nat.eq_of_testBit_eq fun j => ?_
    rw [Nat.testBit_or, Nat.testBit_xor, Nat.testBit_two_pow]
    by_cases q : b = j
    · subst q; rw [h]; simp
    · simp [q]
  have hz : (i ^^^ 2 ^ b).testBit b = false := by rw [Nat.testBit_xor, h, Nat.testBit_two_pow]; simp
  have a := add_or hz
  have := Nat.two_pow_pos b
  omega
theorem bits_mem {n i b : Nat} : b ∈ Mr.bitsIn n i ↔ b < n ∧ i.testBit b = true := by
  unfold Mr.bitsIn
  rw [List.mem_filter, List.mem_range]
/-! ### comprehensions with two sources, loops that may end -/
theorem all_flat {α β : Type} (ys : List α) (zs : α → List β) (q : α → β → Bool) : allF [.lst (ys.flatMap fun x => (zs x).map fun z => .bl (q x z))] = some (.bl (ys.all fun x => (zs x).all (q x))) := by
  have e : (ys.flatMap fun x => (zs x).map fun z => D.bl (q x z)) = (ys.flatMap fun x => (zs x).map fun z => (x, z)).map fun p => D.bl (q p.1 p.2) := by
    rw [List.map_flatMap]
    congr 1
    funext x
    rw [List.map_map]
    rfl
  rw [e, allF_map]
  congr 2
  rw [List.all_flatMap]
  congr 1
  funext x
  rw [List.all_map]
  rfl
theorem fo_all {α : Type} {g : Tgt} {tb : SDen} (f : α → D) (I : Dl → Prop) (p : α → Bool) (r : D) (st : Sta) : ∀ (xs : List α) (Δ : Dl), I Δ →
    (∀ x ∈ xs, ∀ Δ, I Δ → ∃ Δ1, g.put (f x) Δ = some Δ1 ∧ ((p x = true ∧ ∃ Δ2, tb Δ1 st = some (.ok (.nx Δ2), st) ∧ I Δ2) ∨ (p x = false ∧ tb Δ1 st = some (.ok (.rt r), st)))) →
    (xs.all p = true ∧ ∃ Δ', foGo g tb (xs.map f) Δ st = some (.ok (.nx Δ'), st) ∧ I Δ') ∨ (xs.all p = false ∧ foGo g tb (xs.map f) Δ st = some (.ok (.rt r), st))
  | [], Δ, h0, _ => .inl ⟨rfl, Δ, rfl, h0⟩
  | x :: xs, Δ, h0, hs => by
    obtain ⟨Δ1, h1, h2⟩ := hs x List.mem_cons_self Δ h0
    rcases h2 with ⟨px, Δ2, h2, hI⟩ | ⟨px, h2⟩
    · have step : foGo g tb ((x :: xs).map f) Δ st = foGo g tb (xs.map f) Δ2 st := by
        rw [List.map_cons]
        show (g.put (f x) Δ).bind _ = _
        rw [h1, obind_some, h2]
      rw [step, List.all_cons, px, Bool.true_and]
      exact fo_all f I p r st xs Δ2 hI fun y hy => hs y (List.mem_cons_of_mem _ hy)
    · refine .inr ⟨by rw [List.all_cons, px, Bool.false_and], ?_⟩
      rw [List.map_cons]
      show (g.put (f x) Δ).bind _ = _
      rw [h1, obind_some, h2]
/-! ### quotients -/
section
variable (C : Nat → Addr) {ws : List Str} {u n : Nat} (t t' : Nat → Int) (st : Sta)
end
end Dn

set_option Elab.async false
set_option linter.all false
set_option maxRecDepth 100000
set_option maxHeartbeats 4000000
namespace Dn
open PySem PySem.Spec PyProof.Rows L2
/-! ### list(xs): a list of one's own -/
def listNP (ta : EDen) : EDen := fun Δ st => bd (ta Δ st) fun x st1 => match x with
  | .lst xs => some (.ok (.hnd (st1.next + 1)), { st1 with own := (st1.next + 1, .lst xs) :: st1.own, next := st1.next + 1 })
  | _ => none
section
variable {X : Cx} {E : XK} {a : Expr} {ta : EDen} {p pos : Pos}
theorem de_listN (hm : X.mg "list" = none) (ha : PE X a (tD X.K E ta)) (hg : Gl X "list" := by rfl) (he : starEach (a :: []) X.env = (false, eval a X.env) :: starEach [] X.env := by rfl) (hpl : (backTo pos (starEach [] X.env)).any (·.1) = false := by rfl) :
    PE X (.Call (.Name "list" p) [a] [] pos) (tD X.K E (listNP ta)) := by
  refine imE (pe_callTy call_list_of hg hm (by decide +kernel) (pa_cons ha pa_nil he) (by decide) (by decide) he hpl) fun σ H Q h => ?_
  obtain ⟨W, st0, h⟩ := h
  refine ⟨W, st0, h.seq.mono fun x st1 W1 H1 e1 i1 q v rv => ?_⟩
  obtain ⟨Δ, r, st', L, I, e, k⟩ := q.2
  simp only at e
  split at e
  · rename_i xs
    cases e
    cases rv with
    | @lst a0 vx _ n1 s1 q1 =>
      refine ⟨_, _, rfl, .inl (sq_l s1), fun p np => ?_⟩
      have s3 : Same H1 (upd H1 p (.lst vx)) := same_new np
      have le := le_addO (n := st1.next + 1) I s3 np (Nat.lt_succ_self _)
      exact k _ _ le (I.addO (c := .lst xs) s3 np rfl ⟨_, upd_same, q1.to le⟩) _ (.hnd _ (if_pos rfl))
  · cases e
end
end Dn

set_option Elab.async false
set_option linter.all false
set_option maxRecDepth 100000
set_option maxHeartbeats 4000000
namespace Dn
open PySem PySem.Spec PyProof.Rows L2
/-! ### a table's places: single steps, and all pairs -/
theorem submodA {n : Nat} {r : Nat → Nat} (R : Mr.Rk n r) {x w : Nat} (hx : x < 2 ^ n) (hw : w < 2 ^ n) : ∀ (m v : Nat), m ≤ n → v < 2 ^ m → r (x ||| w ||| v) + r x ≤ r (x ||| v) + r (x ||| w)
  | 0, v, _, h => by
    have : v = 0 := by omega
    subst this
    rw [Nat.or_zero, Nat.or_zero]
    omega
  | m + 1, v, hm, h => by
    rcases Mr.top_split R h with q | ⟨v', hv', rfl⟩
    · exact submodA R hx hw m v (by omega) q
    · have lv : v' < 2 ^ n := Nat.lt_of_lt_of_le hv' (Mr.pow_le (by omega))
      have ih := submodA R hx hw m v' (by omega) hv'
      have l1 : x ||| v' < 2 ^ n := Nat.or_lt_two_pow hx lv
      have mono := (Mr.addb R l1 (show m < n by omega)).1
      rw [← Nat.or_assoc, ← Nat.or_assoc]
      cases q : (x ||| w ||| v').testBit m with
      | true => rw [Mr.or_self_bit q]; omega
      | false =>
        have e : x ||| v' ||| w = x ||| w ||| v' := by rw [Nat.or_assoc, Nat.or_comm v', ← Nat.or_assoc]
        have s := submod R l1 (show m < n by omega) n w (Nat.le_refl _) hw (by rw [e]; exact q)
        rw [e] at s
        omega
def fitB (n : Nat) (f : Nat → Int) (g : Nat → Bool) (k : Nat) : Bool :=
  if g k = true ∧ 0 ≤ f k ∧ f k ≤ 12 then
    (if k = 0 then f k == 0 else
      if ((Mr.bitsIn n k).all fun b => (f k - 1 == f (k ^^^ 2 ^ b)) || (f k == f (k ^^^ 2 ^ b))) = true then
        ((Mr.bitsIn n k).filter fun b => f (k ^^^ 2 ^ b) == f k - 1).all fun b => (((Mr.bitsIn n k).filter fun b => f (k ^^^ 2 ^ b) == f k - 1).filter fun d => decide (((2 ^ b : Nat) : Int) < ((2 ^ d : Nat) : Int))).all fun d => f (k ^^^ 2 ^ b ^^^ 2 ^ d) == f k - 2
      else false)
  else false
structure Fit (n : Nat) (f : Nat → Int) (g : Nat → Bool) (k : Nat) : Prop where
  g : g k = true
  lo : 0 ≤ f k
  hi : f k ≤ 12
  zero : k = 0 → f k = 0
  one : ∀ b, b < n → k.testBit b = true → f (k ^^^ 2 ^ b) = f k - 1 ∨ f (k ^^^ 2 ^ b) = f k
  two : ∀ b d, b < n → d < n → b ≠ d → k.testBit b = true → k.testBit d = true → f (k ^^^ 2 ^ b) = f k - 1 → f (k ^^^ 2 ^ d) = f k - 1 → f (k ^^^ 2 ^ b ^^^ 2 ^ d) = f k - 2
theorem pow_lt_i {b d : Nat} : (((2 ^ b : Nat) : Int) < ((2 ^ d : Nat) : Int)) ↔ b < d := by
  rw [Int.ofNat_lt]
  exact Nat.pow_lt_pow_iff_right (by decide)
theorem fit_iff {n : Nat} {f : Nat → Int} {g : Nat → Bool} {k : Nat} : fitB n f g k = true ↔ Fit n f g k := by
  unfold fitB
  constructor
  · intro h
    split at h
    · rename_i h1
      split at h
      · rename_i h0
        subst h0
        exact ⟨h1.1, h1.2.1, h1.2.2, fun _ => eq_of_beq h, fun b _ hb => absurd hb (by rw [Nat.zero_testBit]; exact Bool.false_ne_true), fun b d _ _ _ hb => absurd hb (by rw [Nat.zero_testBit]; exact Bool.false_ne_true)⟩
      · rename_i h0
        split at h
        · rename_i ho
          rw [List.all_eq_true] at ho h
          refine ⟨h1.1, h1.2.1, h1.2.2, fun e => absurd e h0, fun b hb tb => ?_, fun b d hb hd ne tb td eb ed => ?_⟩
          · have := ho b (bits_mem.mpr ⟨hb, tb⟩)
            rw [Bool.or_eq_true] at this
            rcases this with q | q
            · exact .inl (eq_of_beq q).symm
            · exact .inr (eq_of_beq q).symm
          · have key : ∀ b d, b < n → d < n → k.testBit b = true → k.testBit d = true → f (k ^^^ 2 ^ b) = f k - 1 → f (k ^^^ 2 ^ d) = f k - 1 → b < d → f (k ^^^ 2 ^ b ^^^ 2 ^ d) = f k - 2 := fun b d hb hd tb td eb ed lt => by
              have q := h b (List.mem_filter.mpr ⟨bits_mem.mpr ⟨hb, tb⟩, by rw [eb]; exact beq_self_eq_true _⟩)
              rw [List.all_eq_true] at q
              exact eq_of_beq (q d (List.mem_filter.mpr ⟨List.mem_filter.mpr ⟨bits_mem.mpr ⟨hd, td⟩, by rw [ed]; exact beq_self_eq_true _⟩, decide_eq_true (pow_lt_i.mpr lt)⟩))
            rcases Nat.lt_or_gt_of_ne ne with lt | lt
            · exact key b d hb hd tb td eb ed lt
            · rw [Nat.xor_assoc, Nat.xor_comm (2 ^ b), ← Nat.xor_assoc]
              exact key d b hd hb td tb ed eb lt
        · cases h
    · cases h
  · intro F
    rw [if_pos ⟨F.g, F.lo, F.hi⟩]
    split
    · rename_i h0
      rw [F.zero h0]; rfl
    · rw [if_pos (by
        rw [List.all_eq_true]
        intro b hb
        obtain ⟨b1, b2⟩ := bits_mem.mp hb
        rcases F.one b b1 b2 with q | q
        · rw [q, beq_self_eq_true]; rfl
        · rw [q, beq_self_eq_true, Bool.or_true])]
      rw [List.all_eq_true]
      intro b hb
      rw [List.all_eq_true]
      intro d hd
      obtain ⟨hb, eb⟩ := List.mem_filter.mp hb
      obtain ⟨hd, lt⟩ := List.mem_filter.mp hd
      obtain ⟨hd, ed⟩ := List.mem_filter.mp hd
      obtain ⟨b1, b2⟩ := bits_mem.mp hb
      obtain ⟨d1, d2⟩ := bits_mem.mp hd
      have lt := pow_lt_i.mp (of_decide_eq_true lt)
      rw [F.two b d b1 d1 (by omega) b2 d2 (eq_of_beq eb) (eq_of_beq ed)]
      exact beq_self_eq_true _
def subK (k : Nat) : List Nat := (List.range (k + 1)).filter fun a => a &&& k == a
def pairB (f : Nat → Int) (a b : Nat) : Bool := !decide (f a + f b < f (a &&& b) + f (a ||| b)) && !((a &&& b == b) && ((Mr.cnt 4 (a - b) == 1) && !(decide (0 ≤ f a - f b) && decide (f a - f b ≤ 1))))
def brkB (f : Nat → Int) (g : Nat → Bool) (k : Nat) : Bool := !((subK k).all g) || (!(f 0 == 0) || !((subK k).all fun a => (subK k).all fun b => pairB f a b))
theorem own_mem {k a : Nat} : a ∈ subK k ↔ a &&& k = a := by
  unfold subK
  rw [List.mem_filter, List.mem_range]
  constructor
  · intro h; exact eq_of_beq h.2
  · intro h
    have : a ≤ k := h ▸ Nat.and_le_right
    exact ⟨by omega, by rw [h]; exact beq_self_eq_true _⟩
set_option synthInstance.maxHeartbeats 1000000 in
set_option synthInstance.maxSize 100000 in
theorem fd1 : ∀ k < 16, ∀ b < 4, k.testBit b = true → (k ^^^ 2 ^ b) &&& k = k ^^^ 2 ^ b ∧ k &&& (k ^^^ 2 ^ b) = k ^^^ 2 ^ b ∧ Mr.cnt 4 (k - (k ^^^ 2 ^ b)) = 1 ∧ k ^^^ 2 ^ b < k := by decide +kernel
set_option synthInstance.maxHeartbeats 1000000 in
set_option synthInstance.maxSize 100000 in
theorem fd2 : ∀ k < 16, ∀ b < 4, ∀ d < 4, b ≠ d → k.testBit b = true → k.testBit d = true → (k ^^^ 2 ^ b) &&& (k ^^^ 2 ^ d) = k ^^^ 2 ^ b ^^^ 2 ^ d ∧ (k ^^^ 2 ^ b) ||| (k ^^^ 2 ^ d) = k ∧ (k ^^^ 2 ^ b).testBit d = true := by decide +kernel
set_option synthInstance.maxHeartbeats 1000000 in
set_option synthInstance.maxSize 100000 in
theorem fd3 : ∀ a < 16, ∀ b < 16, a &&& b = b → Mr.cnt 4 (a - b) = 1 → ∃ e < 4, a.testBit e = true ∧ b = a ^^^ 2 ^ e := by decide +kernel
set_option synthInstance.maxHeartbeats 1000000 in
set_option synthInstance.maxSize 100000 in
theorem fd4 : ∀ i < 16, ∀ k < 16, ∀ b < 4, i.testBit b = true → (k.testBit b = true → (i ^^^ 2 ^ b) &&& k = (i &&& k) ^^^ 2 ^ b ∧ (i &&& k).testBit b = true) ∧ (k.testBit b = false → (i ^^^ 2 ^ b) &&& k = i &&& k) := by decide +kernel
set_option synthInstance.maxHeartbeats 1000000 in
set_option synthInstance.maxSize 100000 in
theorem fd5 : ∀ a < 16, ∀ b < 16, (a &&& b) ||| b = b ∧ (a &&& b) ||| a = a ∧ b ||| a = a ||| b := by decide +kernel
set_option synthInstance.maxHeartbeats 1000000 in
set_option synthInstance.maxSize 100000 in
theorem fd6 : ∀ i < 16, ∀ m < 4, 2 ^ m ≤ i → i < 2 ^ (m + 1) → i.testBit m = true ∧ i ^^^ 2 ^ m < 2 ^ m ∧ i ^^^ 2 ^ m < i := by decide +kernel
set_option synthInstance.maxHeartbeats 1000000 in
set_option synthInstance.maxSize 100000 in
theorem fd7 : ∀ i < 16, i ≠ 0 → ∃ b < 4, i.testBit b = true := by decide +kernel
section
variable {n : Nat} {f : Nat → Int} {g : Nat → Bool} {k : Nat}
theorem fit_le (hn : n ≤ 4) (hk : k < 2 ^ n) (F : ∀ j ≤ k, Fit n f g j) : ∀ (m i : Nat), m ≤ n → i ≤ k → i < 2 ^ m → f i ≤ m
  | 0, i, _, hi, h => by
    have : i = 0 := by omega
    rw [this, (F 0 (by omega)).zero rfl]
    exact Int.le_refl _
  | m + 1, i, hm, hi, h => by
    have p4 : 2 ^ n ≤ 2 ^ 4 := Nat.pow_le_pow_right (by decide) hn
    by_cases q : i < 2 ^ m
    · have := fit_le hn hk F m i (by omega) hi q
      omega
    · obtain ⟨t, l, lt⟩ := fd6 i (by omega) m (by omega) (by omega) h
      have := fit_le hn hk F m (i ^^^ 2 ^ m) (by omega) (by omega) l
      rcases (F i hi).one m (by omega) t with e | e <;> omega
theorem bit_lt {n k b : Nat} (h : k < 2 ^ n) (t : k.testBit b = true) : b < n := by
  by_cases q : b < n
  · exact q
  · rw [Nat.testBit_lt_two_pow (Nat.lt_of_lt_of_le h (Nat.pow_le_pow_right (by decide) (by omega)))] at t
    cases t
theorem fit_rk (hn : n ≤ 4) (hk : k < 2 ^ n) (F : ∀ j ≤ k, Fit n f g j) : Mr.Rk 4 fun i => (f (i &&& k)).toNat := by
  have p4 : 2 ^ n ≤ 2 ^ 4 := Nat.pow_le_pow_right (by decide) hn
  have sb : ∀ i, i &&& k ≤ k := fun i => Nat.and_le_right
  refine ⟨?_, fun i hi => ?_, fun i b hi hb t => ?_, fun i b d hi hb hd ne tb td eb ed => ?_⟩
  · show (f (0 &&& k)).toNat = 0
    rw [Nat.zero_and, (F 0 (by omega)).zero rfl]; rfl
  · show (f (i &&& k)).toNat ≤ 4
    have := fit_le hn hk F n (i &&& k) (Nat.le_refl _) (sb i) (Nat.lt_of_le_of_lt (sb i) hk)
    omega
  · show (f (i &&& k)).toNat = (f ((i ^^^ 2 ^ b) &&& k)).toNat ∨ (f (i &&& k)).toNat = (f ((i ^^^ 2 ^ b) &&& k)).toNat + 1
    obtain ⟨q1, q2⟩ := fd4 i hi k (by omega) b hb t
    cases kb : k.testBit b with
    | false => rw [q2 kb]; exact .inl rfl
    | true =>
      obtain ⟨e1, e2⟩ := q1 kb
      rw [e1]
      have l1 := (F _ (Nat.le_trans (Nat.le_of_lt (fd1 _ (by have := sb i; omega) b hb e2).2.2.2) (sb i))).lo
      rcases (F _ (sb i)).one b (bit_lt hk kb) e2 with e | e <;> omega
  · show (f ((i ^^^ 2 ^ b ^^^ 2 ^ d) &&& k)).toNat + 2 = (f (i &&& k)).toNat
    replace eb : (f ((i ^^^ 2 ^ b) &&& k)).toNat + 1 = (f (i &&& k)).toNat := eb
    replace ed : (f ((i ^^^ 2 ^ d) &&& k)).toNat + 1 = (f (i &&& k)).toNat := ed
    obtain ⟨q1, q2⟩ := fd4 i hi k (by omega) b hb tb
    obtain ⟨r1, r2⟩ := fd4 i hi k (by omega) d hd td
    cases kb : k.testBit b with
    | false => rw [q2 kb] at eb; omega
    | true =>
      cases kd : k.testBit d with
      | false => rw [r2 kd] at ed; omega
      | true =>
        obtain ⟨e1, e2⟩ := q1 kb
        obtain ⟨d1, d2⟩ := r1 kd
        have ti := (fd2 i hi b hb d hd ne tb td).2.2
        obtain ⟨s1, s2⟩ := fd4 (i ^^^ 2 ^ b) (Mr.two_pow_xor hb hi) k (by omega) d hd ti
        rw [(s1 kd).1, e1]
        rw [e1] at eb
        rw [d1] at ed
        have j16 : i &&& k < 16 := by have := sb i; omega
        have le1 := fd1 _ j16 b hb e2
        have le2 := fd1 _ j16 d hd d2
        have tj := (fd2 _ j16 b hb d hd ne e2 d2).2.2
        have le3 := fd1 _ (show (i &&& k) ^^^ 2 ^ b < 16 by omega) d hd tj
        have lo1 := (F _ (show (i &&& k) ^^^ 2 ^ b ≤ k by have := sb i; omega)).lo
        have lo2 := (F _ (show (i &&& k) ^^^ 2 ^ d ≤ k by have := sb i; omega)).lo
        have lo3 := (F _ (show (i &&& k) ^^^ 2 ^ b ^^^ 2 ^ d ≤ k by have := sb i; omega)).lo
        have tw := (F _ (sb i)).two b d (bit_lt hk kb) (bit_lt hk kd) ne e2 d2 (by omega) (by omega)
        omega
theorem fit_brk (hn : n ≤ 4) (hk : k < 2 ^ n) (pre : ∀ j < k, fitB n f g j = true) : fitB n f g k = !brkB f g k := by
  have p4 : 2 ^ n ≤ 2 ^ 4 := Nat.pow_le_pow_right (by decide) hn
  have key : Fit n f g k ↔ brkB f g k = false := by
    unfold brkB
    rw [Bool.or_eq_false_iff, Bool.or_eq_false_iff, Bool.not_eq_false', Bool.not_eq_false', Bool.not_eq_false', List.all_eq_true, List.all_eq_true]
    constructor
    · intro Fk
      have F : ∀ j ≤ k, Fit n f g j := fun j hj => by
        rcases Nat.lt_or_eq_of_le hj with h | h
        · exact fit_iff.mp (pre j h)
        · rw [h]; exact Fk
      have R := fit_rk hn hk F
      refine ⟨fun a ha => (F a ((own_mem.mp ha) ▸ Nat.and_le_right)).g, by rw [(F 0 (by omega)).zero rfl]; rfl, fun a ha => ?_⟩
      rw [List.all_eq_true]
      intro b hb
      have ha := own_mem.mp ha
      have hb := own_mem.mp hb
      have la : a ≤ k := ha ▸ Nat.and_le_right
      have lb : b ≤ k := hb ▸ Nat.and_le_right
      have mo : (a ||| b) &&& k = a ||| b := by rw [Nat.and_or_distrib_right, ha, hb]
      have ma : (a &&& b) &&& k = a &&& b := by rw [Nat.and_assoc, hb]
      have lo : a ||| b ≤ k := mo ▸ Nat.and_le_right
      have lm : a &&& b ≤ k := ma ▸ Nat.and_le_right
      obtain ⟨f1, f2, f3⟩ := fd5 a (by omega) b (by omega)
      have s := submodA R (x := a &&& b) (w := b) (by omega) (by omega) 4 a (Nat.le_refl _) (by omega)
      rw [f1, f2, f3, mo, ma, ha, hb] at s
      have := (F a la).lo
      have := (F b lb).lo
      have := (F _ lo).lo
      have := (F _ lm).lo
      unfold pairB
      rw [decide_eq_false (by omega), Bool.not_false, Bool.true_and, Bool.not_eq_true', Bool.and_eq_false_iff]
      by_cases c1 : a &&& b = b
      · right
        rw [Bool.and_eq_false_iff]
        by_cases c2 : Mr.cnt 4 (a - b) = 1
        · right
          obtain ⟨e, he, te, rfl⟩ := fd3 a (by omega) b (by omega) c1 c2
          rcases (F a la).one e (bit_lt (show a < 2 ^ n by omega) te) te with q | q
          · rw [decide_eq_true (by omega), decide_eq_true (by omega)]; rfl
          · rw [decide_eq_true (by omega), decide_eq_true (by omega)]; rfl
        · left; exact beq_eq_false_iff_ne.mpr c2
      · left; exact beq_eq_false_iff_ne.mpr c1
    · rintro ⟨hg, h0, hp⟩
      have h0 := eq_of_beq h0
      have kk : k ∈ subK k := own_mem.mpr (Nat.and_self k)
      have F : ∀ j < k, Fit n f g j := fun j hj => fit_iff.mp (pre j hj)
      have pr : ∀ a b, a &&& k = a → b &&& k = b → f (a &&& b) + f (a ||| b) ≤ f a + f b ∧ (a &&& b = b → Mr.cnt 4 (a - b) = 1 → 0 ≤ f a - f b ∧ f a - f b ≤ 1) := fun a b ha hb => by
        have q := hp a (own_mem.mpr ha)
        rw [List.all_eq_true] at q
        have q := q b (own_mem.mpr hb)
        unfold pairB at q
        rw [Bool.and_eq_true, Bool.not_eq_true', Bool.not_eq_true'] at q
        have q1 := of_decide_eq_false q.1
        refine ⟨by omega, fun c1 c2 => ?_⟩
        have q2 := q.2
        rw [c1, c2, beq_self_eq_true, beq_self_eq_true, Bool.true_and, Bool.true_and, Bool.not_eq_false', Bool.and_eq_true] at q2
        exact ⟨of_decide_eq_true q2.1, of_decide_eq_true q2.2⟩
      have un : ∀ b, b < n → k.testBit b = true → 0 ≤ f k - f (k ^^^ 2 ^ b) ∧ f k - f (k ^^^ 2 ^ b) ≤ 1 ∧ k ^^^ 2 ^ b < k := fun b hb t => by
        obtain ⟨d1, d2, d3, d4⟩ := fd1 k (by omega) b (by omega) t
        have := (pr k (k ^^^ 2 ^ b) (Nat.and_self k) d1).2 d2 d3
        exact ⟨this.1, this.2, d4⟩
      refine ⟨hg k kk, ?_, ?_, fun e => by rw [e]; exact h0, fun b hb t => ?_, fun b d hb hd ne tb td eb ed => ?_⟩
      · by_cases e : k = 0
        · rw [e, h0]; exact Int.le_refl _
        · obtain ⟨b, hb, t⟩ := fd7 k (by omega) e
          obtain ⟨u1, u2, u3⟩ := un b (bit_lt hk t) t
          have := (F _ u3).lo
          omega
      · by_cases e : k = 0
        · rw [e, h0]; decide
        · obtain ⟨b, hb, t⟩ := fd7 k (by omega) e
          obtain ⟨u1, u2, u3⟩ := un b (bit_lt hk t) t
          have := fit_le hn (k := k ^^^ 2 ^ b) (f := f) (g := g) (n := n) (by omega) (fun j hj => F j (by omega)) n (k ^^^ 2 ^ b) (Nat.le_refl _) (Nat.le_refl _) (by omega)
          omega
      · obtain ⟨u1, u2, u3⟩ := un b hb t
        omega
      · obtain ⟨d1, d2, d3⟩ := fd2 k (by omega) b (by omega) d (by omega) ne tb td
        obtain ⟨u1, u2, u3⟩ := un b hb tb
        have s := (pr (k ^^^ 2 ^ b) (k ^^^ 2 ^ d) (fd1 k (by omega) b (by omega) tb).1 (fd1 k (by omega) d (by omega) td).1).1
        rw [d1, d2] at s
        rcases (F _ u3).one d hd d3 with q | q <;> omega
  by_cases h : fitB n f g k = true
  · rw [h, key.mp (fit_iff.mp h)]; rfl
  · rw [Bool.not_eq_true] at h
    rw [h]
    cases hb : brkB f g k with
    | true => rfl
    | false => rw [fit_iff.mpr (key.mpr hb)] at h; cases h
end
end Dn

set_option Elab.async false
set_option linter.all false
set_option maxRecDepth 100000
set_option maxHeartbeats 4000000
namespace Dn
open PySem PySem.Spec PyProof.Rows L2
theorem fits_any {T : D} {n : Nat} {f : Nat → Int} {g : Nat → Bool} {c : Nat → D} (hT : ∀ i < 2 ^ n, ixD T (.int (i : Nat)) = some (c i)) (hn : n ≤ 12) {k : Nat} (hk : k < 2 ^ n) (hg : ∀ i ≤ k, g i = true → c i = .int (f i)) (hb : g k = false → ∀ st, F_is_number [c k, .int 0, .int 12] st = some (.ok (.bl false), st)) (pre : ∀ j < k, g j = true) (st : Sta) :
    F_fits [T, .int (k : Nat)] st = some (.ok (.bl (fitB n f g k)), st) := by
  have ixb : ∀ b ∈ Mr.bitsIn n k, b < n ∧ k.testBit b = true := fun b hb => bits_mem.mp hb
  refine run_ret rfl ?_
  unfold d_fits fitB
  cases hgk : g k with
  | false =>
    rw [if_neg (fun q => Bool.false_ne_true q.1)]
    (apply sq_step; focus (simp only [gd, runD, callP, kwF, pick, rtP, sqP, asP, parP, nxP, ifP, andV, orV, notV, andT, orT, notT, truP, tstP, truD, isiP, isisP, isTys, isNP, notNP, isNon, varP, chP, cstP, bltP, binP, consP, nilP, lstP, tupP, lcP, itP, rng1P, rng2P, slP, noP, soP, intOf, negP, sosP, bd_ok, List.map, List.replicate, List.length_cons, List.length_nil, List.cons_append, List.nil_append, List.append_nil, List.getElem?_cons_zero, List.getElem?_cons_succ, List.filterMap, List.set, omap_some, obind_some, isTy, blOf, if_t, if_f, lenF, leD_i, leD_s, ltD_i, ltD_s, gtD_i, geD_i, addD_i, subD_i, mulD_i, itemsD, wipeD, Tgt.put, setAll, outR, lb0, lb1, lb2, lb3, lb4, lb5, lb6, lb7, lb8, lb9, lb10, lb11, lb12, allF, listF, tupleF, intF, eq_self_iff_true, if_true, if_false, decide_true, decide_false, Bool.true_and, Bool.false_and, Bool.and_true, Bool.and_false, Bool.not_true, Bool.not_false, Nat.sub_self, Nat.reduceAdd, Nat.reduceSub, Nat.reduceEqDiff, hT k hk]; first | done | rfl))
    exact sq_ret (if_tt (st1 := st) (by simp only [gd, runD, callP, kwF, pick, rtP, sqP, asP, parP, nxP, ifP, andV, orV, notV, andT, orT, notT, truP, tstP, truD, isiP, isisP, isTys, isNP, notNP, isNon, varP, chP, cstP, bltP, binP, consP, nilP, lstP, tupP, lcP, itP, rng1P, rng2P, slP, noP, soP, intOf, negP, sosP, bd_ok, List.map, List.replicate, List.length_cons, List.length_nil, List.cons_append, List.nil_append, List.append_nil, List.getElem?_cons_zero, List.getElem?_cons_succ, List.filterMap, List.set, omap_some, obind_some, isTy, blOf, if_t, if_f, lenF, leD_i, leD_s, ltD_i, ltD_s, gtD_i, geD_i, addD_i, subD_i, mulD_i, itemsD, wipeD, Tgt.put, setAll, outR, lb0, lb1, lb2, lb3, lb4, lb5, lb6, lb7, lb8, lb9, lb10, lb11, lb12, allF, listF, tupleF, intF, eq_self_iff_true, if_true, if_false, decide_true, decide_false, Bool.true_and, Bool.false_and, Bool.and_true, Bool.and_false, Bool.not_true, Bool.not_false, Nat.sub_self, Nat.reduceAdd, Nat.reduceSub, Nat.reduceEqDiff, hb hgk st]) rfl)
  | true =>
    have hc := hg k (Nat.le_refl _) hgk
    have ixk := hT k hk
    rw [hc] at ixk
    (apply sq_step; focus (simp only [gd, runD, callP, kwF, pick, rtP, sqP, asP, parP, nxP, ifP, andV, orV, notV, andT, orT, notT, truP, tstP, truD, isiP, isisP, isTys, isNP, notNP, isNon, varP, chP, cstP, bltP, binP, consP, nilP, lstP, tupP, lcP, itP, rng1P, rng2P, slP, noP, soP, intOf, negP, sosP, bd_ok, List.map, List.replicate, List.length_cons, List.length_nil, List.cons_append, List.nil_append, List.append_nil, List.getElem?_cons_zero, List.getElem?_cons_succ, List.filterMap, List.set, omap_some, obind_some, isTy, blOf, if_t, if_f, lenF, leD_i, leD_s, ltD_i, ltD_s, gtD_i, geD_i, addD_i, subD_i, mulD_i, itemsD, wipeD, Tgt.put, setAll, outR, lb0, lb1, lb2, lb3, lb4, lb5, lb6, lb7, lb8, lb9, lb10, lb11, lb12, allF, listF, tupleF, intF, eq_self_iff_true, if_true, if_false, decide_true, decide_false, Bool.true_and, Bool.false_and, Bool.and_true, Bool.and_false, Bool.not_true, Bool.not_false, Nat.sub_self, Nat.reduceAdd, Nat.reduceSub, Nat.reduceEqDiff, ixk]; first | done | rfl))
    by_cases hr : 0 ≤ f k ∧ f k ≤ 12
    · rw [if_pos ⟨rfl, hr⟩]
      have ixx : ∀ b, b < n → k.testBit b = true → ixD T (.int (k ^^^ 2 ^ b : Nat)) = some (.int (f (k ^^^ 2 ^ b))) := fun b h1 h2 => by
        have lt : k ^^^ 2 ^ b < k := xor_bit_lt h2
        rw [hT _ (Mr.two_pow_xor h1 hk), hg _ (by omega) (pre _ lt)]
      refine sq_step (if_ff (st1 := st) (by simp only [gd, runD, callP, kwF, pick, rtP, sqP, asP, parP, nxP, ifP, andV, orV, notV, andT, orT, notT, truP, tstP, truD, isiP, isisP, isTys, isNP, notNP, isNon, varP, chP, cstP, bltP, binP, consP, nilP, lstP, tupP, lcP, itP, rng1P, rng2P, slP, noP, soP, intOf, negP, sosP, bd_ok, List.map, List.replicate, List.length_cons, List.length_nil, List.cons_append, List.nil_append, List.append_nil, List.getElem?_cons_zero, List.getElem?_cons_succ, List.filterMap, List.set, omap_some, obind_some, isTy, blOf, if_t, if_f, lenF, leD_i, leD_s, ltD_i, ltD_s, gtD_i, geD_i, addD_i, subD_i, mulD_i, itemsD, wipeD, Tgt.put, setAll, outR, lb0, lb1, lb2, lb3, lb4, lb5, lb6, lb7, lb8, lb9, lb10, lb11, lb12, allF, listF, tupleF, intF, eq_self_iff_true, if_true, if_false, decide_true, decide_false, Bool.true_and, Bool.false_and, Bool.and_true, Bool.and_false, Bool.not_true, Bool.not_false, Nat.sub_self, Nat.reduceAdd, Nat.reduceSub, Nat.reduceEqDiff, is_number_ok (v := f k) (a := 0) (b := 12) st hr.1 hr.2]) rfl) ?_
      by_cases h0 : k = 0
      · subst h0
        rw [if_pos rfl]
        refine sq_ret (if_tt (st1 := st) (by simp only [gd, runD, callP, kwF, pick, rtP, sqP, asP, parP, nxP, ifP, andV, orV, notV, andT, orT, notT, truP, tstP, truD, isiP, isisP, isTys, isNP, notNP, isNon, varP, chP, cstP, bltP, binP, consP, nilP, lstP, tupP, lcP, itP, rng1P, rng2P, slP, noP, soP, intOf, negP, sosP, bd_ok, List.map, List.replicate, List.length_cons, List.length_nil, List.cons_append, List.nil_append, List.append_nil, List.getElem?_cons_zero, List.getElem?_cons_succ, List.filterMap, List.set, omap_some, obind_some, isTy, blOf, if_t, if_f, lenF, leD_i, leD_s, ltD_i, ltD_s, gtD_i, geD_i, addD_i, subD_i, mulD_i, itemsD, wipeD, Tgt.put, setAll, outR, lb0, lb1, lb2, lb3, lb4, lb5, lb6, lb7, lb8, lb9, lb10, lb11, lb12, allF, listF, tupleF, intF, eq_self_iff_true, if_true, if_false, decide_true, decide_false, Bool.true_and, Bool.false_and, Bool.and_true, Bool.and_false, Bool.not_true, Bool.not_false, Nat.sub_self, Nat.reduceAdd, Nat.reduceSub, Nat.reduceEqDiff, eqD_i]; rfl) ?_)
        simp only [gd, runD, callP, kwF, pick, rtP, sqP, asP, parP, nxP, ifP, andV, orV, notV, andT, orT, notT, truP, tstP, truD, isiP, isisP, isTys, isNP, notNP, isNon, varP, chP, cstP, bltP, binP, consP, nilP, lstP, tupP, lcP, itP, rng1P, rng2P, slP, noP, soP, intOf, negP, sosP, bd_ok, List.map, List.replicate, List.length_cons, List.length_nil, List.cons_append, List.nil_append, List.append_nil, List.getElem?_cons_zero, List.getElem?_cons_succ, List.filterMap, List.set, omap_some, obind_some, isTy, blOf, if_t, if_f, lenF, leD_i, leD_s, ltD_i, ltD_s, gtD_i, geD_i, addD_i, subD_i, mulD_i, itemsD, wipeD, Tgt.put, setAll, outR, lb0, lb1, lb2, lb3, lb4, lb5, lb6, lb7, lb8, lb9, lb10, lb11, lb12, allF, listF, tupleF, intF, eq_self_iff_true, if_true, if_false, decide_true, decide_false, Bool.true_and, Bool.false_and, Bool.and_true, Bool.and_false, Bool.not_true, Bool.not_false, Nat.sub_self, Nat.reduceAdd, Nat.reduceSub, Nat.reduceEqDiff, eqD_i]
      · rw [if_neg h0]
        have e0 : ((k : Int) == 0) = false := by simp [h0]
        refine sq_step (if_ff (st1 := st) (by simp only [gd, runD, callP, kwF, pick, rtP, sqP, asP, parP, nxP, ifP, andV, orV, notV, andT, orT, notT, truP, tstP, truD, isiP, isisP, isTys, isNP, notNP, isNon, varP, chP, cstP, bltP, binP, consP, nilP, lstP, tupP, lcP, itP, rng1P, rng2P, slP, noP, soP, intOf, negP, sosP, bd_ok, List.map, List.replicate, List.length_cons, List.length_nil, List.cons_append, List.nil_append, List.append_nil, List.getElem?_cons_zero, List.getElem?_cons_succ, List.filterMap, List.set, omap_some, obind_some, isTy, blOf, if_t, if_f, lenF, leD_i, leD_s, ltD_i, ltD_s, gtD_i, geD_i, addD_i, subD_i, mulD_i, itemsD, wipeD, Tgt.put, setAll, outR, lb0, lb1, lb2, lb3, lb4, lb5, lb6, lb7, lb8, lb9, lb10, lb11, lb12, allF, listF, tupleF, intF, eq_self_iff_true, if_true, if_false, decide_true, decide_false, Bool.true_and, Bool.false_and, Bool.and_true, Bool.and_false, Bool.not_true, Bool.not_false, Nat.sub_self, Nat.reduceAdd, Nat.reduceSub, Nat.reduceEqDiff, eqD_i, e0]) rfl) ?_
        (apply sq_step; focus (simp only [gd, runD, callP, kwF, pick, rtP, sqP, asP, parP, nxP, ifP, andV, orV, notV, andT, orT, notT, truP, tstP, truD, isiP, isisP, isTys, isNP, notNP, isNon, varP, chP, cstP, bltP, binP, consP, nilP, lstP, tupP, lcP, itP, rng1P, rng2P, slP, noP, soP, intOf, negP, sosP, bd_ok, List.map, List.replicate, List.length_cons, List.length_nil, List.cons_append, List.nil_append, List.append_nil, List.getElem?_cons_zero, List.getElem?_cons_succ, List.filterMap, List.set, omap_some, obind_some, isTy, blOf, if_t, if_f, lenF, leD_i, leD_s, ltD_i, ltD_s, gtD_i, geD_i, addD_i, subD_i, mulD_i, itemsD, wipeD, Tgt.put, setAll, outR, lb0, lb1, lb2, lb3, lb4, lb5, lb6, lb7, lb8, lb9, lb10, lb11, lb12, allF, listF, tupleF, intF, eq_self_iff_true, if_true, if_false, decide_true, decide_false, Bool.true_and, Bool.false_and, Bool.and_true, Bool.and_false, Bool.not_true, Bool.not_false, Nat.sub_self, Nat.reduceAdd, Nat.reduceSub, Nat.reduceEqDiff, single_bits_ok hk (by omega) st]; first | done | rfl))
        have nb : (Mr.bitsIn n k).length ≤ 12 := Nat.le_trans (Nat.le_trans (List.length_filter_le _ _) (by rw [List.length_range]; exact Nat.le_refl _)) hn
        generalize hΔ : ([some T, some (.int k), some (.int (f k)), some (.lst ((Mr.bitsIn n k).map fun b => .int (2 ^ b : Nat))), none, none, none, none] : Dl) = Δ0
        have lc := lc_map (t := .one 5) (te := binP inD (binP ixD (varP 0) (binP xorD (varP 1) (varP 5))) (tupP (consP (binP subD (varP 2) (cstP (.int 1))) (consP (varP 2) nilP)))) (Δ := Δ0) (st := st) (fun b : Nat => D.int (2 ^ b : Nat)) (fun b => .bl ((f k - 1 == f (k ^^^ 2 ^ b)) || (f k == f (k ^^^ 2 ^ b)))) (Mr.bitsIn n k) (fun b hb => by
          subst hΔ
          obtain ⟨hb1, hb2⟩ := ixb b hb
          refine ⟨_, rfl, ?_⟩
          simp only [gd, runD, callP, kwF, pick, rtP, sqP, asP, parP, nxP, ifP, andV, orV, notV, andT, orT, notT, truP, tstP, truD, isiP, isisP, isTys, isNP, notNP, isNon, varP, chP, cstP, bltP, binP, consP, nilP, lstP, tupP, lcP, itP, rng1P, rng2P, slP, noP, soP, intOf, negP, sosP, bd_ok, List.map, List.replicate, List.length_cons, List.length_nil, List.cons_append, List.nil_append, List.append_nil, List.getElem?_cons_zero, List.getElem?_cons_succ, List.filterMap, List.set, omap_some, obind_some, isTy, blOf, if_t, if_f, lenF, leD_i, leD_s, ltD_i, ltD_s, gtD_i, geD_i, addD_i, subD_i, mulD_i, itemsD, wipeD, Tgt.put, setAll, outR, lb0, lb1, lb2, lb3, lb4, lb5, lb6, lb7, lb8, lb9, lb10, lb11, lb12, allF, listF, tupleF, intF, eq_self_iff_true, if_true, if_false, decide_true, decide_false, Bool.true_and, Bool.false_and, Bool.and_true, Bool.and_false, Bool.not_true, Bool.not_false, Nat.sub_self, Nat.reduceAdd, Nat.reduceSub, Nat.reduceEqDiff, xorD_n, ixx b hb1 hb2, in_pair]) (by unfold big; omega)
        by_cases ho : ((Mr.bitsIn n k).all fun b => (f k - 1 == f (k ^^^ 2 ^ b)) || (f k == f (k ^^^ 2 ^ b))) = true
        · rw [if_pos ho]
          refine sq_step (if_ff (st1 := st) (by
            subst hΔ
            have al := allF_map (fun b => (f k - 1 == f (k ^^^ 2 ^ b)) || (f k == f (k ^^^ 2 ^ b))) (Mr.bitsIn n k)
            rw [ho] at al
            exact not_at (tru_at (blt_at (cons_at (by simp only [gd, runD, callP, kwF, pick, rtP, sqP, asP, parP, nxP, ifP, andV, orV, notV, andT, orT, notT, truP, tstP, truD, isiP, isisP, isTys, isNP, notNP, isNon, varP, chP, cstP, bltP, binP, consP, nilP, lstP, tupP, lcP, itP, rng1P, rng2P, slP, noP, soP, intOf, negP, sosP, bd_ok, List.map, List.replicate, List.length_cons, List.length_nil, List.cons_append, List.nil_append, List.append_nil, List.getElem?_cons_zero, List.getElem?_cons_succ, List.filterMap, List.set, omap_some, obind_some, isTy, blOf, if_t, if_f, lenF, leD_i, leD_s, ltD_i, ltD_s, gtD_i, geD_i, addD_i, subD_i, mulD_i, itemsD, wipeD, Tgt.put, setAll, outR, lb0, lb1, lb2, lb3, lb4, lb5, lb6, lb7, lb8, lb9, lb10, lb11, lb12, allF, listF, tupleF, intF, eq_self_iff_true, if_true, if_false, decide_true, decide_false, Bool.true_and, Bool.false_and, Bool.and_true, Bool.and_false, Bool.not_true, Bool.not_false, Nat.sub_self, Nat.reduceAdd, Nat.reduceSub, Nat.reduceEqDiff, lc]) rfl) al))) rfl) ?_
          have lf := lc_filt (t := .one 5) (tt := tstP (binP eqD (binP ixD (varP 0) (binP xorD (varP 1) (varP 5))) (binP subD (varP 2) (cstP (.int 1))))) (te := varP 5) (Δ := Δ0) (st := st) (fun b : Nat => D.int (2 ^ b : Nat)) (fun b => f (k ^^^ 2 ^ b) == f k - 1) (fun b => .int (2 ^ b : Nat)) (Mr.bitsIn n k) [] (fun b hb => by
            subst hΔ
            obtain ⟨hb1, hb2⟩ := ixb b hb
            refine ⟨_, rfl, ?_, fun _ => ?_⟩
            · simp only [gd, runD, callP, kwF, pick, rtP, sqP, asP, parP, nxP, ifP, andV, orV, notV, andT, orT, notT, truP, tstP, truD, isiP, isisP, isTys, isNP, notNP, isNon, varP, chP, cstP, bltP, binP, consP, nilP, lstP, tupP, lcP, itP, rng1P, rng2P, slP, noP, soP, intOf, negP, sosP, bd_ok, List.map, List.replicate, List.length_cons, List.length_nil, List.cons_append, List.nil_append, List.append_nil, List.getElem?_cons_zero, List.getElem?_cons_succ, List.filterMap, List.set, omap_some, obind_some, isTy, blOf, if_t, if_f, lenF, leD_i, leD_s, ltD_i, ltD_s, gtD_i, geD_i, addD_i, subD_i, mulD_i, itemsD, wipeD, Tgt.put, setAll, outR, lb0, lb1, lb2, lb3, lb4, lb5, lb6, lb7, lb8, lb9, lb10, lb11, lb12, allF, listF, tupleF, intF, eq_self_iff_true, if_true, if_false, decide_true, decide_false, Bool.true_and, Bool.false_and, Bool.and_true, Bool.and_false, Bool.not_true, Bool.not_false, Nat.sub_self, Nat.reduceAdd, Nat.reduceSub, Nat.reduceEqDiff, xorD_n, ixx b hb1 hb2, eqD_i]
            · simp only [gd, runD, callP, kwF, pick, rtP, sqP, asP, parP, nxP, ifP, andV, orV, notV, andT, orT, notT, truP, tstP, truD, isiP, isisP, isTys, isNP, notNP, isNon, varP, chP, cstP, bltP, binP, consP, nilP, lstP, tupP, lcP, itP, rng1P, rng2P, slP, noP, soP, intOf, negP, sosP, bd_ok, List.map, List.replicate, List.length_cons, List.length_nil, List.cons_append, List.nil_append, List.append_nil, List.getElem?_cons_zero, List.getElem?_cons_succ, List.filterMap, List.set, omap_some, obind_some, isTy, blOf, if_t, if_f, lenF, leD_i, leD_s, ltD_i, ltD_s, gtD_i, geD_i, addD_i, subD_i, mulD_i, itemsD, wipeD, Tgt.put, setAll, outR, lb0, lb1, lb2, lb3, lb4, lb5, lb6, lb7, lb8, lb9, lb10, lb11, lb12, allF, listF, tupleF, intF, eq_self_iff_true, if_true, if_false, decide_true, decide_false, Bool.true_and, Bool.false_and, Bool.and_true, Bool.and_false, Bool.not_true, Bool.not_false, Nat.sub_self, Nat.reduceAdd, Nat.reduceSub, Nat.reduceEqDiff]) (by rw [List.length_nil]; unfold big; omega)
          rw [List.nil_append] at lf
          subst hΔ
          (apply sq_step; focus (simp only [gd, runD, callP, kwF, pick, rtP, sqP, asP, parP, nxP, ifP, andV, orV, notV, andT, orT, notT, truP, tstP, truD, isiP, isisP, isTys, isNP, notNP, isNon, varP, chP, cstP, bltP, binP, consP, nilP, lstP, tupP, lcP, itP, rng1P, rng2P, slP, noP, soP, intOf, negP, sosP, bd_ok, List.map, List.replicate, List.length_cons, List.length_nil, List.cons_append, List.nil_append, List.append_nil, List.getElem?_cons_zero, List.getElem?_cons_succ, List.filterMap, List.set, omap_some, obind_some, isTy, blOf, if_t, if_f, lenF, leD_i, leD_s, ltD_i, ltD_s, gtD_i, geD_i, addD_i, subD_i, mulD_i, itemsD, wipeD, Tgt.put, setAll, outR, lb0, lb1, lb2, lb3, lb4, lb5, lb6, lb7, lb8, lb9, lb10, lb11, lb12, allF, listF, tupleF, intF, eq_self_iff_true, if_true, if_false, decide_true, decide_false, Bool.true_and, Bool.false_and, Bool.and_true, Bool.and_false, Bool.not_true, Bool.not_false, Nat.sub_self, Nat.reduceAdd, Nat.reduceSub, Nat.reduceEqDiff, lf]; first | done | rfl))
          generalize hA : (Mr.bitsIn n k).filter (fun b => f (k ^^^ 2 ^ b) == f k - 1) = A
          have hAm : ∀ b ∈ A, b < n ∧ k.testBit b = true ∧ f (k ^^^ 2 ^ b) = f k - 1 := fun b hb => by
            rw [← hA] at hb
            obtain ⟨m1, m2⟩ := List.mem_filter.mp hb
            obtain ⟨hb1, hb2⟩ := ixb b m1
            exact ⟨hb1, hb2, eq_of_beq m2⟩
          have nA : A.length ≤ 12 := by rw [← hA]; exact Nat.le_trans (List.length_filter_le _ _) nb
          generalize hΔ : ([some T, some (.int k), some (.int (f k)), some (.lst ((Mr.bitsIn n k).map fun b => .int (2 ^ b : Nat))), some (.lst (A.map fun b => .int (2 ^ b : Nat))), none, none, none] : Dl) = Δ1
          have lt := lc_two (t := .one 6) (t1 := .one 7) (tt1 := tstP (binP ltD (varP 6) (varP 7))) (ti1 := itP (varP 4)) (te := binP eqD (binP ixD (varP 0) (binP xorD (binP xorD (varP 1) (varP 6)) (varP 7))) (binP subD (varP 2) (cstP (.int 2)))) (vs1 := [7]) (Δ := Δ1) (st := st)
            (fun b : Nat => D.int (2 ^ b : Nat)) (fun b : Nat => D.int (2 ^ b : Nat)) A (fun b d => decide (((2 ^ b : Nat) : Int) < ((2 ^ d : Nat) : Int))) (fun b d => .bl (f (k ^^^ 2 ^ b ^^^ 2 ^ d) == f k - 2)) A [] (fun b hb => by
            subst hΔ
            refine ⟨_, rfl, by simp only [gd, runD, callP, kwF, pick, rtP, sqP, asP, parP, nxP, ifP, andV, orV, notV, andT, orT, notT, truP, tstP, truD, isiP, isisP, isTys, isNP, notNP, isNon, varP, chP, cstP, bltP, binP, consP, nilP, lstP, tupP, lcP, itP, rng1P, rng2P, slP, noP, soP, intOf, negP, sosP, bd_ok, List.map, List.replicate, List.length_cons, List.length_nil, List.cons_append, List.nil_append, List.append_nil, List.getElem?_cons_zero, List.getElem?_cons_succ, List.filterMap, List.set, omap_some, obind_some, isTy, blOf, if_t, if_f, lenF, leD_i, leD_s, ltD_i, ltD_s, gtD_i, geD_i, addD_i, subD_i, mulD_i, itemsD, wipeD, Tgt.put, setAll, outR, lb0, lb1, lb2, lb3, lb4, lb5, lb6, lb7, lb8, lb9, lb10, lb11, lb12, allF, listF, tupleF, intF, eq_self_iff_true, if_true, if_false, decide_true, decide_false, Bool.true_and, Bool.false_and, Bool.and_true, Bool.and_false, Bool.not_true, Bool.not_false, Nat.sub_self, Nat.reduceAdd, Nat.reduceSub, Nat.reduceEqDiff], fun d hd => ⟨_, rfl, by simp only [gd, runD, callP, kwF, pick, rtP, sqP, asP, parP, nxP, ifP, andV, orV, notV, andT, orT, notT, truP, tstP, truD, isiP, isisP, isTys, isNP, notNP, isNon, varP, chP, cstP, bltP, binP, consP, nilP, lstP, tupP, lcP, itP, rng1P, rng2P, slP, noP, soP, intOf, negP, sosP, bd_ok, List.map, List.replicate, List.length_cons, List.length_nil, List.cons_append, List.nil_append, List.append_nil, List.getElem?_cons_zero, List.getElem?_cons_succ, List.filterMap, List.set, omap_some, obind_some, isTy, blOf, if_t, if_f, lenF, leD_i, leD_s, ltD_i, ltD_s, gtD_i, geD_i, addD_i, subD_i, mulD_i, itemsD, wipeD, Tgt.put, setAll, outR, lb0, lb1, lb2, lb3, lb4, lb5, lb6, lb7, lb8, lb9, lb10, lb11, lb12, allF, listF, tupleF, intF, eq_self_iff_true, if_true, if_false, decide_true, decide_false, Bool.true_and, Bool.false_and, Bool.and_true, Bool.and_false, Bool.not_true, Bool.not_false, Nat.sub_self, Nat.reduceAdd, Nat.reduceSub, Nat.reduceEqDiff], fun hlt => ?_⟩⟩
            obtain ⟨b1, b2, b3⟩ := hAm b hb
            obtain ⟨d1, d2, d3⟩ := hAm d hd
            have ne : b ≠ d := fun e => by subst e; simp at hlt
            have l1 : k ^^^ 2 ^ b < k := xor_bit_lt b2
            have td : (k ^^^ 2 ^ b).testBit d = true := by rw [Nat.testBit_xor, d2, Nat.testBit_two_pow, decide_eq_false ne]; rfl
            have l2 : k ^^^ 2 ^ b ^^^ 2 ^ d < k ^^^ 2 ^ b := xor_bit_lt td
            have ix2 : ixD T (.int (k ^^^ 2 ^ b ^^^ 2 ^ d : Nat)) = some (.int (f (k ^^^ 2 ^ b ^^^ 2 ^ d))) := by rw [hT _ (Mr.two_pow_xor d1 (Mr.two_pow_xor b1 hk)), hg _ (by omega) (pre _ (by omega))]
            simp only [gd, runD, callP, kwF, pick, rtP, sqP, asP, parP, nxP, ifP, andV, orV, notV, andT, orT, notT, truP, tstP, truD, isiP, isisP, isTys, isNP, notNP, isNon, varP, chP, cstP, bltP, binP, consP, nilP, lstP, tupP, lcP, itP, rng1P, rng2P, slP, noP, soP, intOf, negP, sosP, bd_ok, List.map, List.replicate, List.length_cons, List.length_nil, List.cons_append, List.nil_append, List.append_nil, List.getElem?_cons_zero, List.getElem?_cons_succ, List.filterMap, List.set, omap_some, obind_some, isTy, blOf, if_t, if_f, lenF, leD_i, leD_s, ltD_i, ltD_s, gtD_i, geD_i, addD_i, subD_i, mulD_i, itemsD, wipeD, Tgt.put, setAll, outR, lb0, lb1, lb2, lb3, lb4, lb5, lb6, lb7, lb8, lb9, lb10, lb11, lb12, allF, listF, tupleF, intF, eq_self_iff_true, if_true, if_false, decide_true, decide_false, Bool.true_and, Bool.false_and, Bool.and_true, Bool.and_false, Bool.not_true, Bool.not_false, Nat.sub_self, Nat.reduceAdd, Nat.reduceSub, Nat.reduceEqDiff, xorD_n, ix2, eqD_i]) (by rw [List.length_nil]; have : A.length * A.length ≤ 12 * 12 := Nat.mul_le_mul nA nA; unfold big; omega)
          rw [List.nil_append] at lt
          subst hΔ
          have al := all_flat A (fun b => A.filter fun d => decide (((2 ^ b : Nat) : Int) < ((2 ^ d : Nat) : Int))) fun b d => f (k ^^^ 2 ^ b ^^^ 2 ^ d) == f k - 2
          exact rt_at (blt_at (cons_at (by simp only [gd, runD, callP, kwF, pick, rtP, sqP, asP, parP, nxP, ifP, andV, orV, notV, andT, orT, notT, truP, tstP, truD, isiP, isisP, isTys, isNP, notNP, isNon, varP, chP, cstP, bltP, binP, consP, nilP, lstP, tupP, lcP, itP, rng1P, rng2P, slP, noP, soP, intOf, negP, sosP, bd_ok, List.map, List.replicate, List.length_cons, List.length_nil, List.cons_append, List.nil_append, List.append_nil, List.getElem?_cons_zero, List.getElem?_cons_succ, List.filterMap, List.set, omap_some, obind_some, isTy, blOf, if_t, if_f, lenF, leD_i, leD_s, ltD_i, ltD_s, gtD_i, geD_i, addD_i, subD_i, mulD_i, itemsD, wipeD, Tgt.put, setAll, outR, lb0, lb1, lb2, lb3, lb4, lb5, lb6, lb7, lb8, lb9, lb10, lb11, lb12, allF, listF, tupleF, intF, eq_self_iff_true, if_true, if_false, decide_true, decide_false, Bool.true_and, Bool.false_and, Bool.and_true, Bool.and_false, Bool.not_true, Bool.not_false, Nat.sub_self, Nat.reduceAdd, Nat.reduceSub, Nat.reduceEqDiff, lc2P, lt]) rfl) al)
        · rw [if_neg ho]
          exact sq_ret (if_tt (st1 := st) (by
            subst hΔ
            have al := allF_map (fun b => (f k - 1 == f (k ^^^ 2 ^ b)) || (f k == f (k ^^^ 2 ^ b))) (Mr.bitsIn n k)
            rw [Bool.not_eq_true] at ho
            rw [ho] at al
            exact not_at (tru_at (blt_at (cons_at (by simp only [gd, runD, callP, kwF, pick, rtP, sqP, asP, parP, nxP, ifP, andV, orV, notV, andT, orT, notT, truP, tstP, truD, isiP, isisP, isTys, isNP, notNP, isNon, varP, chP, cstP, bltP, binP, consP, nilP, lstP, tupP, lcP, itP, rng1P, rng2P, slP, noP, soP, intOf, negP, sosP, bd_ok, List.map, List.replicate, List.length_cons, List.length_nil, List.cons_append, List.nil_append, List.append_nil, List.getElem?_cons_zero, List.getElem?_cons_succ, List.filterMap, List.set, omap_some, obind_some, isTy, blOf, if_t, if_f, lenF, leD_i, leD_s, ltD_i, ltD_s, gtD_i, geD_i, addD_i, subD_i, mulD_i, itemsD, wipeD, Tgt.put, setAll, outR, lb0, lb1, lb2, lb3, lb4, lb5, lb6, lb7, lb8, lb9, lb10, lb11, lb12, allF, listF, tupleF, intF, eq_self_iff_true, if_true, if_false, decide_true, decide_false, Bool.true_and, Bool.false_and, Bool.and_true, Bool.and_false, Bool.not_true, Bool.not_false, Nat.sub_self, Nat.reduceAdd, Nat.reduceSub, Nat.reduceEqDiff, lc]) rfl) al))) rfl)
    · rw [if_neg (fun q => hr q.2)]
      refine sq_ret (if_tt (st1 := st) (by
        have : (decide (0 ≤ f k) && decide (f k ≤ 12)) = false := by
          rw [Bool.and_eq_false_iff]
          by_cases q : 0 ≤ f k
          · exact .inr (decide_eq_false fun z => hr ⟨q, z⟩)
          · exact .inl (decide_eq_false q)
        simp only [gd, runD, callP, kwF, pick, rtP, sqP, asP, parP, nxP, ifP, andV, orV, notV, andT, orT, notT, truP, tstP, truD, isiP, isisP, isTys, isNP, notNP, isNon, varP, chP, cstP, bltP, binP, consP, nilP, lstP, tupP, lcP, itP, rng1P, rng2P, slP, noP, soP, intOf, negP, sosP, bd_ok, List.map, List.replicate, List.length_cons, List.length_nil, List.cons_append, List.nil_append, List.append_nil, List.getElem?_cons_zero, List.getElem?_cons_succ, List.filterMap, List.set, omap_some, obind_some, isTy, blOf, if_t, if_f, lenF, leD_i, leD_s, ltD_i, ltD_s, gtD_i, geD_i, addD_i, subD_i, mulD_i, itemsD, wipeD, Tgt.put, setAll, outR, lb0, lb1, lb2, lb3, lb4, lb5, lb6, lb7, lb8, lb9, lb10, lb11, lb12, allF, listF, tupleF, intF, eq_self_iff_true, if_true, if_false, decide_true, decide_false, Bool.true_and, Bool.false_and, Bool.and_true, Bool.and_false, Bool.not_true, Bool.not_false, Nat.sub_self, Nat.reduceAdd, Nat.reduceSub, Nat.reduceEqDiff, is_number_int, this]) rfl)
end Dn

set_option Elab.async false
set_option linter.all false
set_option maxRecDepth 100000
set_option maxHeartbeats 4000000
namespace Dn
open PySem PySem.Spec PyProof.Rows L2
theorem andT_at {ta tb : TDen} {Δ : Dl} {st : Sta} {p q : Bool} (h1 : ta Δ st = some (.ok p, st)) (h2 : p = true → tb Δ st = some (.ok q, st)) : andT ta tb Δ st = some (.ok (p && q), st) := by
  unfold andT
  rw [h1, bd_ok]
  cases p with
  | true => rw [if_pos rfl, h2 rfl, Bool.true_and]
  | false => rw [if_neg Bool.false_ne_true, Bool.false_and]
theorem orT_at {ta tb : TDen} {Δ : Dl} {st : Sta} {p q : Bool} (h1 : ta Δ st = some (.ok p, st)) (h2 : p = false → tb Δ st = some (.ok q, st)) : orT ta tb Δ st = some (.ok (p || q), st) := by
  unfold orT
  rw [h1, bd_ok]
  cases p with
  | true => rw [if_pos rfl, Bool.true_or]
  | false => rw [if_neg Bool.false_ne_true, h2 rfl, Bool.false_or]
theorem ch_le {ta tb tc : EDen} {Δ : Dl} {st : Sta} {x y z : Int} (h1 : ta Δ st = some (.ok (.int x), st)) (h2 : tb Δ st = some (.ok (.int y), st)) (h3 : tc Δ st = some (.ok (.int z), st)) : chP leD leD ta tb tc Δ st = some (.ok (.bl (decide (x ≤ y) && decide (y ≤ z))), st) := by
  cases q : decide (x ≤ y) with
  | true => simp only [gd, runD, callP, kwF, pick, rtP, sqP, asP, parP, nxP, ifP, andV, orV, notV, andT, orT, notT, truP, tstP, truD, isiP, isisP, isTys, isNP, notNP, isNon, varP, chP, cstP, bltP, binP, consP, nilP, lstP, tupP, lcP, itP, rng1P, rng2P, slP, noP, soP, intOf, negP, sosP, bd_ok, List.map, List.replicate, List.length_cons, List.length_nil, List.cons_append, List.nil_append, List.append_nil, List.getElem?_cons_zero, List.getElem?_cons_succ, List.filterMap, List.set, omap_some, obind_some, isTy, blOf, if_t, if_f, lenF, leD_i, leD_s, ltD_i, ltD_s, gtD_i, geD_i, addD_i, subD_i, mulD_i, itemsD, wipeD, Tgt.put, setAll, outR, lb0, lb1, lb2, lb3, lb4, lb5, lb6, lb7, lb8, lb9, lb10, lb11, lb12, allF, listF, tupleF, intF, eq_self_iff_true, if_true, if_false, decide_true, decide_false, Bool.true_and, Bool.false_and, Bool.and_true, Bool.and_false, Bool.not_true, Bool.not_false, Nat.sub_self, Nat.reduceAdd, Nat.reduceSub, Nat.reduceEqDiff, h1, h2, h3, leD_i, q]
  | false => simp only [gd, runD, callP, kwF, pick, rtP, sqP, asP, parP, nxP, ifP, andV, orV, notV, andT, orT, notT, truP, tstP, truD, isiP, isisP, isTys, isNP, notNP, isNon, varP, chP, cstP, bltP, binP, consP, nilP, lstP, tupP, lcP, itP, rng1P, rng2P, slP, noP, soP, intOf, negP, sosP, bd_ok, List.map, List.replicate, List.length_cons, List.length_nil, List.cons_append, List.nil_append, List.append_nil, List.getElem?_cons_zero, List.getElem?_cons_succ, List.filterMap, List.set, omap_some, obind_some, isTy, blOf, if_t, if_f, lenF, leD_i, leD_s, ltD_i, ltD_s, gtD_i, geD_i, addD_i, subD_i, mulD_i, itemsD, wipeD, Tgt.put, setAll, outR, lb0, lb1, lb2, lb3, lb4, lb5, lb6, lb7, lb8, lb9, lb10, lb11, lb12, allF, listF, tupleF, intF, eq_self_iff_true, if_true, if_false, decide_true, decide_false, Bool.true_and, Bool.false_and, Bool.and_true, Bool.and_false, Bool.not_true, Bool.not_false, Nat.sub_self, Nat.reduceAdd, Nat.reduceSub, Nat.reduceEqDiff, h1, h2, h3, leD_i, q]
def isZ : D → Bool
  | .int _ => true
  | _ => false
def intZ : D → Int
  | .int v => v
  | _ => 0
/-- what a place of a table may hold here -/
def CellOk (d : D) : Prop := (∃ v, d = .int v) ∨ d = .non ∨ d = .bl true ∨ d = .str "1"
theorem CellOk.int {d : D} (h : isZ d = true) : d = .int (intZ d) := by
  unfold isZ at h
  split at h
  · rfl
  · cases h
theorem CellOk.no {d : D} (h : CellOk d) (q : isZ d = false) (st : Sta) : F_is_number [d, .int 0, .int 12] st = some (.ok (.bl false), st) := by
  rcases h with ⟨v, rfl⟩ | rfl | rfl | rfl
  · cases q
  · exact is_number_odd _ _ _ _ rfl
  · exact is_number_bool _ _ _ _
  · exact is_number_odd _ _ _ _ rfl
theorem is_count {d : D} (h : CellOk d) (st : Sta) : F_l_is_count [d] st = some (.ok (.bl (isZ d)), st) := by
  refine run_ret rfl ?_
  unfold d_l_is_count
  rcases h with ⟨v, rfl⟩ | rfl | rfl | rfl <;> (simp only [gd, runD, callP, kwF, pick, rtP, sqP, asP, parP, nxP, ifP, andV, orV, notV, andT, orT, notT, truP, tstP, truD, isiP, isisP, isTys, isNP, notNP, isNon, varP, chP, cstP, bltP, binP, consP, nilP, lstP, tupP, lcP, itP, rng1P, rng2P, slP, noP, soP, intOf, negP, sosP, bd_ok, List.map, List.replicate, List.length_cons, List.length_nil, List.cons_append, List.nil_append, List.append_nil, List.getElem?_cons_zero, List.getElem?_cons_succ, List.filterMap, List.set, omap_some, obind_some, isTy, blOf, if_t, if_f, lenF, leD_i, leD_s, ltD_i, ltD_s, gtD_i, geD_i, addD_i, subD_i, mulD_i, itemsD, wipeD, Tgt.put, setAll, outR, lb0, lb1, lb2, lb3, lb4, lb5, lb6, lb7, lb8, lb9, lb10, lb11, lb12, allF, listF, tupleF, intF, eq_self_iff_true, if_true, if_false, decide_true, decide_false, Bool.true_and, Bool.false_and, Bool.and_true, Bool.and_false, Bool.not_true, Bool.not_false, Nat.sub_self, Nat.reduceAdd, Nat.reduceSub, Nat.reduceEqDiff]; rfl)
theorem range_cut {N k : Nat} (h : k < N) : List.range N = List.range k ++ k :: (List.range (N - k - 1)).map fun i => k + (i + 1) := by
  obtain ⟨m, rfl⟩ : ∃ m, N = k + (m + 1) := ⟨N - k - 1, by omega⟩
  rw [List.range_add, List.range_succ_eq_map, List.map_cons, List.map_map]
  congr 2
  rw [show k + (m + 1) - k - 1 = m by omega]
  rfl
section
variable (C : Nat → Addr) {n : Nat} (c : Nat → D) (st : Sta)
abbrev tabC (n : Nat) (c : Nat → D) : List D := (List.range (2 ^ n)).map c
theorem tabC_at {n : Nat} {c : Nat → D} {i : Nat} (h : i < 2 ^ n) : (tabC n c)[i]? = some (c i) := by
  unfold tabC
  rw [List.getElem?_map, List.getElem?_range h]
  rfl
theorem tabC_len : (tabC n c).length = 2 ^ n := by rw [List.length_map, List.length_range]
theorem ixT (ok : ∀ i, i < 2 ^ n → CellOk (c i)) : ∀ i < 2 ^ n, ixD (.tup (tabC n c)) (.int (i : Nat)) = some (c i) := fun i hi => at_nat (tabC_at hi)
theorem ixL {n : Nat} {c : Nat → D} {i : Nat} (h : i < 2 ^ n) : ixD (.lst (tabC n c)) (.int (i : Nat)) = some (c i) := at_nat (tabC_at h)
theorem fits_c (ok : ∀ i, i < 2 ^ n → CellOk (c i)) (hn : n ≤ 12) {k : Nat} (hk : k < 2 ^ n) (pre : ∀ j < k, fitB n (fun i => intZ (c i)) (fun i => isZ (c i)) j = true) : F_fits [.tup (tabC n c), .int (k : Nat)] st = some (.ok (.bl (fitB n (fun i => intZ (c i)) (fun i => isZ (c i)) k)), st) :=
  fits_any (c := c) (ixT c ok) hn hk (fun i _ h => CellOk.int h) (fun h st => (ok k hk).no h st) (fun j hj => (fit_iff.mp (pre j hj)).g) st
theorem check_at (ok : ∀ i, i < 2 ^ n → CellOk (c i)) (hn : n ≤ 12) {k : Nat} (hk : k < 2 ^ n) (pre : ∀ j < k, fitB n (fun i => intZ (c i)) (fun i => isZ (c i)) j = true) (no : fitB n (fun i => intZ (c i)) (fun i => isZ (c i)) k = false) : F_check_table C [.tup (tabC n c), .int n] st = some (.error (eTable C (.int (k : Nat))), st) := by
  have hp : 2 ^ n ≤ 2 ^ 12 := Nat.pow_le_pow_right (by decide) hn
  let T : D := .tup (tabC n c)
  have lp := fo_stop (g := .one 2) (tb := ifP (notT (truP (callP F_fits (consP (varP 0) (consP (varP 2) nilP))))) (raiseP (C 24) ["at"] "InvalidTable" (consP (varP 2) nilP)) nxP) (fun i : Nat => D.int i) (.int (k : Nat)) (((List.range (2 ^ n - k - 1)).map fun i => k + (i + 1)).map fun i : Nat => D.int i) (eTable C (.int (k : Nat))) (fun Δ => ∃ x, Δ = [some T, some (.int n), x]) st (List.range k) [some T, some (.int n), none] ⟨_, rfl⟩ (fun i hi Δ ⟨x, e⟩ => by
    subst e
    have hi' := List.mem_range.mp hi
    have := fits_c c st ok hn (show i < 2 ^ n by omega) fun j hj => pre j (by omega)
    rw [pre i hi'] at this
    refine ⟨_, rfl, if_ff (st1 := st) (not_at (tru_at (call2 rfl rfl this))) rfl, ⟨_, rfl⟩⟩) (fun Δ ⟨x, e⟩ => by
    subst e
    have := fits_c c st ok hn hk pre
    rw [no] at this
    exact ⟨_, rfl, if_tt (st1 := st) (not_at (tru_at (call2 rfl rfl this))) (raise1 (by simp only [gd, runD, callP, kwF, pick, rtP, sqP, asP, parP, nxP, ifP, andV, orV, notV, andT, orT, notT, truP, tstP, truD, isiP, isisP, isTys, isNP, notNP, isNon, varP, chP, cstP, bltP, binP, consP, nilP, lstP, tupP, lcP, itP, rng1P, rng2P, slP, noP, soP, intOf, negP, sosP, bd_ok, List.map, List.replicate, List.length_cons, List.length_nil, List.cons_append, List.nil_append, List.append_nil, List.getElem?_cons_zero, List.getElem?_cons_succ, List.filterMap, List.set, omap_some, obind_some, isTy, blOf, if_t, if_f, lenF, leD_i, leD_s, ltD_i, ltD_s, gtD_i, geD_i, addD_i, subD_i, mulD_i, itemsD, wipeD, Tgt.put, setAll, outR, lb0, lb1, lb2, lb3, lb4, lb5, lb6, lb7, lb8, lb9, lb10, lb11, lb12, allF, listF, tupleF, intF, eq_self_iff_true, if_true, if_false, decide_true, decide_false, Bool.true_and, Bool.false_and, Bool.and_true, Bool.and_false, Bool.not_true, Bool.not_false, Nat.sub_self, Nat.reduceAdd, Nat.reduceSub, Nat.reduceEqDiff]))⟩)
  have rg := rngN' (2 ^ n) (by omega)
  rw [range_cut hk, List.map_append, List.map_cons] at rg
  refine gd_er rfl rfl ?_
  show d_check_table C [some T, some (.int n), none] st = _
  unfold d_check_table
  have ne : neD (.int (2 ^ n : Nat)) (.int (2 ^ n : Nat)) = some (.bl false) := by show some (D.bl (!((2 ^ n : Nat) : Int) == ((2 ^ n : Nat) : Int))) = _; simp
  refine sq_step (if_ff (st1 := st) (by simp only [gd, runD, callP, kwF, pick, rtP, sqP, asP, parP, nxP, ifP, andV, orV, notV, andT, orT, notT, truP, tstP, truD, isiP, isisP, isTys, isNP, notNP, isNon, varP, chP, cstP, bltP, binP, consP, nilP, lstP, tupP, lcP, itP, rng1P, rng2P, slP, noP, soP, intOf, negP, sosP, bd_ok, List.map, List.replicate, List.length_cons, List.length_nil, List.cons_append, List.nil_append, List.append_nil, List.getElem?_cons_zero, List.getElem?_cons_succ, List.filterMap, List.set, omap_some, obind_some, isTy, blOf, if_t, if_f, lenF, leD_i, leD_s, ltD_i, ltD_s, gtD_i, geD_i, addD_i, subD_i, mulD_i, itemsD, wipeD, Tgt.put, setAll, outR, lb0, lb1, lb2, lb3, lb4, lb5, lb6, lb7, lb8, lb9, lb10, lb11, lb12, allF, listF, tupleF, intF, eq_self_iff_true, if_true, if_false, decide_true, decide_false, Bool.true_and, Bool.false_and, Bool.and_true, Bool.and_false, Bool.not_true, Bool.not_false, Nat.sub_self, Nat.reduceAdd, Nat.reduceSub, Nat.reduceEqDiff, T, shlD_n n (by omega), List.length_map, List.length_range, ne]) rfl) ?_
  simp only [gd, runD, callP, kwF, pick, rtP, sqP, asP, parP, nxP, ifP, andV, orV, notV, andT, orT, notT, truP, tstP, truD, isiP, isisP, isTys, isNP, notNP, isNon, varP, chP, cstP, bltP, binP, consP, nilP, lstP, tupP, lcP, itP, rng1P, rng2P, slP, noP, soP, intOf, negP, sosP, bd_ok, List.map, List.replicate, List.length_cons, List.length_nil, List.cons_append, List.nil_append, List.append_nil, List.getElem?_cons_zero, List.getElem?_cons_succ, List.filterMap, List.set, omap_some, obind_some, isTy, blOf, if_t, if_f, lenF, leD_i, leD_s, ltD_i, ltD_s, gtD_i, geD_i, addD_i, subD_i, mulD_i, itemsD, wipeD, Tgt.put, setAll, outR, lb0, lb1, lb2, lb3, lb4, lb5, lb6, lb7, lb8, lb9, lb10, lb11, lb12, allF, listF, tupleF, intF, eq_self_iff_true, if_true, if_false, decide_true, decide_false, Bool.true_and, Bool.false_and, Bool.and_true, Bool.and_false, Bool.not_true, Bool.not_false, Nat.sub_self, Nat.reduceAdd, Nat.reduceSub, Nat.reduceEqDiff, foP, T, List.length_map, List.length_range, rg]
  exact lp
theorem pair_ok (hn : n ≤ 4) (f : Nat → Int) {a b : Nat} (ha : a < 2 ^ n) (hb : b < 2 ^ n) (ca : c a = .int (f a)) (cb : c b = .int (f b)) (cm : c (a &&& b) = .int (f (a &&& b))) (co : c (a ||| b) = .int (f (a ||| b))) (K O : D) (Δ : Dl) (hΔ : Δ = [some (.lst (tabC n c)), some K, some O, some (.lst (tabI 4 fun i => (Mr.cnt 4 i : Int))), some (.int (a : Nat)), some (.int (b : Nat)), none]) :
    ((pairB f a b) = true ∧ (sqP (ifP (tstP (binP ltD (binP addD (binP ixD (varP 0) (varP 4)) (binP ixD (varP 0) (varP 5))) (binP addD (binP ixD (varP 0) (binP andD (varP 4) (varP 5))) (binP ixD (varP 0) (binP orD (varP 4) (varP 5)))))) (rtP (cstP (.bl true))) nxP)
      (ifP (andT (tstP (binP eqD (binP andD (varP 4) (varP 5)) (varP 5))) (andT (tstP (binP eqD (binP ixD (varP 3) (binP subD (varP 4) (varP 5))) (cstP (.int 1)))) (notT (tstP (chP leD leD (cstP (.int 0)) (binP subD (binP ixD (varP 0) (varP 4)) (binP ixD (varP 0) (varP 5))) (cstP (.int 1))))))) (rtP (cstP (.bl true))) nxP)) Δ st = some (.ok (.nx Δ), st)) ∨
    ((pairB f a b) = false ∧ (sqP (ifP (tstP (binP ltD (binP addD (binP ixD (varP 0) (varP 4)) (binP ixD (varP 0) (varP 5))) (binP addD (binP ixD (varP 0) (binP andD (varP 4) (varP 5))) (binP ixD (varP 0) (binP orD (varP 4) (varP 5)))))) (rtP (cstP (.bl true))) nxP)
      (ifP (andT (tstP (binP eqD (binP andD (varP 4) (varP 5)) (varP 5))) (andT (tstP (binP eqD (binP ixD (varP 3) (binP subD (varP 4) (varP 5))) (cstP (.int 1)))) (notT (tstP (chP leD leD (cstP (.int 0)) (binP subD (binP ixD (varP 0) (varP 4)) (binP ixD (varP 0) (varP 5))) (cstP (.int 1))))))) (rtP (cstP (.bl true))) nxP)) Δ st = some (.ok (.rt (.bl true)), st)) := by
  subst hΔ
  have p4 : 2 ^ n ≤ 2 ^ 4 := Nat.pow_le_pow_right (by decide) hn
  have lm : a &&& b < 2 ^ n := Nat.lt_of_le_of_lt Nat.and_le_left ha
  have lo : a ||| b < 2 ^ n := Nat.or_lt_two_pow ha hb
  have xa := (ixL (c := c) ha).trans (congrArg some ca)
  have xb := (ixL (c := c) hb).trans (congrArg some cb)
  have xm := (ixL (c := c) lm).trans (congrArg some cm)
  have xo := (ixL (c := c) lo).trans (congrArg some co)
  let Δ : Dl := [some (.lst (tabC n c)), some K, some O, some (.lst (tabI 4 fun i => (Mr.cnt 4 i : Int))), some (.int (a : Nat)), some (.int (b : Nat)), none]
  have c1 : tstP (binP ltD (binP addD (binP ixD (varP 0) (varP 4)) (binP ixD (varP 0) (varP 5))) (binP addD (binP ixD (varP 0) (binP andD (varP 4) (varP 5))) (binP ixD (varP 0) (binP orD (varP 4) (varP 5))))) Δ st = some (.ok (decide (f a + f b < f (a &&& b) + f (a ||| b))), st) :=
    tst_at (bin_at (bin_at (bin_at rfl rfl xa) (bin_at rfl rfl xb) rfl) (bin_at (bin_at rfl (bin_at rfl rfl (andD_n a b)) xm) (bin_at rfl (bin_at rfl rfl (orD_n a b)) xo) rfl) rfl)
  have c2 : tstP (binP eqD (binP andD (varP 4) (varP 5)) (varP 5)) Δ st = some (.ok (a &&& b == b), st) := tst_at (bin_at (bin_at rfl rfl (andD_n a b)) rfl ((eqL _ _).trans (by congr 2)))
  have c3 : (a &&& b == b) = true → tstP (binP eqD (binP ixD (varP 3) (binP subD (varP 4) (varP 5))) (cstP (.int 1))) Δ st = some (.ok (Mr.cnt 4 (a - b) == 1), st) := fun q => by
    have q := eq_of_beq q
    have le : b ≤ a := q ▸ Nat.and_le_left
    have sb : subD (.int (a : Nat)) (.int (b : Nat)) = some (.int (a - b : Nat)) := by rw [subD_i]; congr 2; omega
    exact tst_at (bin_at (bin_at rfl (bin_at rfl rfl sb) (tabI_at (n := 4) (show a - b < 2 ^ 4 by omega))) rfl ((eqL (Mr.cnt 4 (a - b)) 1).trans (by congr 2)))
  have c4 : notT (tstP (chP leD leD (cstP (.int 0)) (binP subD (binP ixD (varP 0) (varP 4)) (binP ixD (varP 0) (varP 5))) (cstP (.int 1)))) Δ st = some (.ok (!(decide (0 ≤ f a - f b) && decide (f a - f b ≤ 1))), st) := not_at (tst_at (ch_le rfl (bin_at (bin_at rfl rfl xa) (bin_at rfl rfl xb) rfl) rfl))
  have c5 := andT_at c2 fun q => andT_at (c3 q) fun _ => c4
  unfold pairB
  cases q1 : decide (f a + f b < f (a &&& b) + f (a ||| b)) with
  | true =>
    rw [q1] at c1
    exact .inr ⟨rfl, sq_ret (if_tt c1 rfl)⟩
  | false =>
    rw [q1] at c1
    cases q2 : ((a &&& b == b) && ((Mr.cnt 4 (a - b) == 1) && !(decide (0 ≤ f a - f b) && decide (f a - f b ≤ 1)))) with
    | true =>
      rw [q2] at c5
      exact .inr ⟨rfl, sq_step (if_ff c1 rfl) (if_tt c5 rfl)⟩
    | false =>
      rw [q2] at c5
      exact .inl ⟨rfl, sq_step (if_ff c1 rfl) (if_ff c5 rfl)⟩
end
end Dn

set_option Elab.async false
set_option linter.all false
set_option maxRecDepth 100000
set_option maxHeartbeats 4000000
namespace Dn
open PySem PySem.Spec PyProof.Rows L2
section
variable {n : Nat} (c : Nat → D) (st : Sta)
theorem breaks_ok (ok : ∀ i, i < 2 ^ n → CellOk (c i)) (hn : n ≤ 4) {k : Nat} (hk : k < 2 ^ n) : F_l_breaks [.lst (tabC n c), .int (k : Nat)] st = some (.ok (.bl (brkB (fun i => intZ (c i)) (fun i => isZ (c i)) k)), st) := by
  have p4 : 2 ^ n ≤ 2 ^ 4 := Nat.pow_le_pow_right (by decide) hn
  let f : Nat → Int := fun i => intZ (c i)
  let g : Nat → Bool := fun i => isZ (c i)
  let A : D := .lst (tabC n c)
  let O : D := .lst ((subK k).map fun a : Nat => D.int a)
  have ml : ∀ a ∈ subK k, a ≤ k := fun a h => (own_mem.mp h) ▸ Nat.and_le_right
  have sl : (subK k).length ≤ 16 := by
    unfold subK
    exact Nat.le_trans (List.length_filter_le _ _) (by rw [List.length_range]; omega)
  have lf := lc_filt (t := .one 6) (tt := tstP (binP eqD (binP andD (varP 6) (varP 1)) (varP 6))) (te := varP 6) (Δ := [some A, some (.int (k : Nat)), none, none, none, none, none]) (st := st) (fun a : Nat => D.int a) (fun a => a &&& k == a) (fun a => .int a) (List.range (k + 1)) [] (fun a _ => ⟨_, rfl, tst_at (bin_at (bin_at rfl rfl (andD_n a k)) rfl ((eqL _ _).trans (by congr 2))), fun _ => rfl⟩) (by rw [List.length_nil, List.length_range]; unfold big; omega)
  rw [List.nil_append] at lf
  have e2 : lcP (rng1P (consP (binP addD (varP 1) (cstP (.int 1))) nilP)) (.one 6) (tstP (binP eqD (binP andD (varP 6) (varP 1)) (varP 6))) (varP 6) [6] [some A, some (.int (k : Nat)), none, none, none, none, none] st = some (.ok O, st) := by
    unfold lcP
    rw [rng1_at (ds := [.int ((k + 1 : Nat) : Int)]) (st1 := st) (cons_at (bin_at rfl rfl rfl) rfl) (rngN' _ (by omega)), bd_ok]
    exact lf
  have lm := lc_map (t := .one 6) (te := callP F_l_is_count (consP (binP ixD (varP 0) (varP 6)) nilP)) (Δ := [some A, some (.int (k : Nat)), some O, none, none, none, none]) (st := st) (fun a : Nat => D.int a) (fun a => .bl (g a)) (subK k) (fun a ha => ⟨_, rfl, call1 (bin_at rfl rfl (ixL (c := c) (show a < 2 ^ n by have := ml a ha; omega))) (is_count (ok a (by have := ml a ha; omega)) st)⟩) (by unfold big; omega)
  have ta : truP (bltP allF (consP (lcP (itP (varP 2)) (.one 6) yesT (callP F_l_is_count (consP (binP ixD (varP 0) (varP 6)) nilP)) [6]) nilP)) [some A, some (.int (k : Nat)), some O, none, none, none, none] st = some (.ok ((subK k).all g), st) := tru_at (blt_at (cons_at (d := .lst ((subK k).map fun a => .bl (g a))) (by unfold lcP; rw [show itP (varP 2) [some A, some (.int (k : Nat)), some O, none, none, none, none] st = some (.ok ((subK k).map fun a : Nat => D.int a), st) from it_at rfl, bd_ok]; exact lm) rfl) (allF_map g (subK k)))
  have m0 : (0 : Nat) ∈ subK k := own_mem.mpr (Nat.zero_and k)
  have c0 : (subK k).all g = true → tstP (binP neD (binP ixD (varP 0) (cstP (.int 0))) (cstP (.int 0))) [some A, some (.int (k : Nat)), some O, none, none, none, none] st = some (.ok (!(f 0 == 0)), st) := fun h => by
    have g0 := List.all_eq_true.mp h 0 m0
    have x0 := (ixL (n := n) (c := c) (i := 0) (Nat.two_pow_pos n)).trans (congrArg some (CellOk.int g0))
    exact tst_at (bin_at (bin_at rfl rfl x0) rfl (neD_i _ _))
  have co := orT_at (not_at ta) fun h => c0 (by rw [Bool.not_eq_false'] at h; exact h)
  refine run_ret rfl ?_
  unfold d_l_breaks
  refine sq_step (st1 := st) (Δ1 := [some A, some (.int (k : Nat)), some O, none, none, none, none]) (as_at e2 rfl) ?_
  unfold brkB
  cases q1 : (!((subK k).all g) || !(f 0 == 0)) with
  | true =>
    rw [q1] at co
    rw [← Bool.or_assoc]
    rw [show (!((subK k).all fun i => isZ (c i)) || !((fun i => intZ (c i)) 0 == 0)) = true from q1, Bool.true_or]
    exact sq_ret (if_tt co rfl)
  | false =>
    rw [q1] at co
    rw [← Bool.or_assoc]
    rw [show (!((subK k).all fun i => isZ (c i)) || !((fun i => intZ (c i)) 0 == 0)) = false from q1, Bool.false_or]
    refine sq_step (if_ff co rfl) ?_
    have ga : ∀ a ∈ subK k, c a = .int (f a) := fun a ha => CellOk.int (List.all_eq_true.mp (by
      have := (Bool.or_eq_false_iff.mp q1).1
      rw [Bool.not_eq_false'] at this
      exact this) a ha)
    let Cn : D := .lst (tabI 4 fun i => (Mr.cnt 4 i : Int))
    refine sq_step (st1 := st) (Δ1 := [some A, some (.int (k : Nat)), some O, some Cn, none, none, none]) (as_at (call1 rfl (counts_ok 4 (by decide) st)) rfl) ?_
    have inner : ∀ a ∈ subK k, ∀ x5, (((subK k).all fun b => pairB f a b) = true ∧ ∃ Δ', foP (itP (varP 2)) (.one 5) _ [some A, some (.int (k : Nat)), some O, some Cn, some (.int (a : Nat)), x5, none] st = some (.ok (.nx Δ'), st) ∧ ∃ x5, Δ' = [some A, some (.int (k : Nat)), some O, some Cn, some (.int (a : Nat)), x5, none]) ∨
        (((subK k).all fun b => pairB f a b) = false ∧ foP (itP (varP 2)) (.one 5) _ [some A, some (.int (k : Nat)), some O, some Cn, some (.int (a : Nat)), x5, none] st = some (.ok (.rt (.bl true)), st)) := fun a ha x5 => by
      have := fo_all (g := .one 5) (tb := _) (fun b : Nat => D.int b) (fun Δ => ∃ x5, Δ = [some A, some (.int (k : Nat)), some O, some Cn, some (.int (a : Nat)), x5, none]) (fun b => pairB f a b) (.bl true) st (subK k) [some A, some (.int (k : Nat)), some O, some Cn, some (.int (a : Nat)), x5, none] ⟨x5, rfl⟩ (fun b hb Δ ⟨x5, e⟩ => by
        subst e
        have ha1 := own_mem.mp ha
        have hb1 := own_mem.mp hb
        refine ⟨[some A, some (.int (k : Nat)), some O, some Cn, some (.int (a : Nat)), some (.int (b : Nat)), none], rfl, ?_⟩
        rcases pair_ok c st hn f (a := a) (b := b) (by have := ml a ha; omega) (by have := ml b hb; omega) (ga a ha) (ga b hb) (ga _ (own_mem.mpr (by rw [Nat.and_assoc, hb1]))) (ga _ (own_mem.mpr (by rw [Nat.and_or_distrib_right, ha1, hb1]))) (.int (k : Nat)) O _ rfl with ⟨p1, p2⟩ | ⟨p1, p2⟩
        · exact .inl ⟨p1, _, p2, _, rfl⟩
        · exact .inr ⟨p1, p2⟩)
      have rg : itP (varP 2) [some A, some (.int (k : Nat)), some O, some Cn, some (.int (a : Nat)), x5, none] st = some (.ok ((subK k).map fun a : Nat => D.int a), st) := it_at rfl
      unfold foP
      rw [rg, bd_ok]
      rcases this with ⟨a, Δ', b, x3', c⟩ | ⟨a, b⟩
      · exact .inl ⟨a, Δ', b, x3', c⟩
      · exact .inr ⟨a, b⟩
    have outer := fo_all (g := .one 4) (tb := _) (fun a : Nat => D.int a) (fun Δ => ∃ x4 x5, Δ = [some A, some (.int (k : Nat)), some O, some Cn, x4, x5, none]) (fun a => (subK k).all fun b => pairB f a b) (.bl true) st (subK k) [some A, some (.int (k : Nat)), some O, some Cn, none, none, none] ⟨none, none, rfl⟩ (fun a ha Δ ⟨x4, x5, e⟩ => by
      subst e
      refine ⟨[some A, some (.int (k : Nat)), some O, some Cn, some (.int (a : Nat)), x5, none], rfl, ?_⟩
      rcases inner a ha x5 with ⟨p1, Δ', p2, x3', p3⟩ | ⟨p1, p2⟩
      · exact .inl ⟨p1, Δ', p2, _, x3', p3⟩
      · exact .inr ⟨p1, p2⟩)
    have rg : itP (varP 2) [some A, some (.int (k : Nat)), some O, some Cn, none, none, none] st = some (.ok ((subK k).map fun a : Nat => D.int a), st) := it_at rfl
    rcases outer with ⟨p1, Δ', p2, x4, x5, p3⟩ | ⟨p1, p2⟩
    · rw [show ((subK k).all fun a => (subK k).all fun b => pairB (fun i => intZ (c i)) a b) = true from p1]
      subst p3
      exact sq_step (st1 := st) (Δ1 := [some A, some (.int (k : Nat)), some O, some Cn, x4, x5, none]) (by unfold foP; rw [rg, bd_ok]; exact p2) rfl
    · rw [show ((subK k).all fun a => (subK k).all fun b => pairB (fun i => intZ (c i)) a b) = false from p1]
      exact sq_ret (by unfold foP; rw [rg, bd_ok]; exact p2)
end
end Dn

set_option Elab.async false
set_option linter.all false
set_option maxRecDepth 100000
set_option maxHeartbeats 4000000
namespace Dn
open PySem PySem.Spec PyProof.Rows L2
/-! ### a list of one's own that changes no more is plain data -/
def fzV (i : Nat) (d : SDen) : SDen := fun Δ st => match d Δ st with
  | some (.ok (.nx Δ2), st2) => (match Δ2[i]? with
    | some (some (.hnd n)) => if st.next < n then (match st2.look n with
      | some (.lst ds) => some (.ok (.nx (Δ2.set i (some (.lst ds)))), st2.drop n)
      | _ => none) else none
    | _ => none)
  | _ => none
theorem fzV_at {i n : Nat} {d : SDen} {Δ Δ2 : Dl} {st st2 : Sta} {ds : List D} (h : d Δ st = some (.ok (.nx Δ2), st2)) (hi : Δ2[i]? = some (some (.hnd n))) (hn : st.next < n) (hl : st2.look n = some (.lst ds)) :
    fzV i d Δ st = some (.ok (.nx (Δ2.set i (some (.lst ds)))), st2.drop n) := by
  unfold fzV
  rw [h]
  simp only
  rw [hi]
  simp only
  rw [if_pos hn, hl]
theorem fzV_inv {i : Nat} {d : SDen} {Δ : Dl} {st : Sta} {p : Except Exc Out × Sta} (h : fzV i d Δ st = some p) :
    ∃ Δ2 st2 n ds, d Δ st = some (.ok (.nx Δ2), st2) ∧ Δ2[i]? = some (some (.hnd n)) ∧ st.next < n ∧ st2.look n = some (.lst ds) ∧ p = (.ok (.nx (Δ2.set i (some (.lst ds)))), st2.drop n) := by
  unfold fzV at h
  split at h
  · rename_i Δ2 st2 q
    split at h
    · rename_i n q2
      split at h
      · rename_i hn
        split at h
        · rename_i ds q3
          cases h
          exact ⟨Δ2, st2, n, ds, q, q2, hn, q3, rfl⟩
        · cases h
      · cases h
    · cases h
  · cases h
theorem sqP_inv {a b : SDen} {Δ Δ2 : Dl} {st st2 : Sta} (h : sqP a b Δ st = some (.ok (.nx Δ2), st2)) : ∃ Δ1 st1, a Δ st = some (.ok (.nx Δ1), st1) ∧ b Δ1 st1 = some (.ok (.nx Δ2), st2) := by
  replace h : Dn.bd (a Δ st) (fun o st1 => match o with | .nx Δ1 => b Δ1 st1 | o => some (.ok o, st1)) = some (.ok (.nx Δ2), st2) := h
  unfold Dn.bd at h
  cases hm : a Δ st with
  | none => rw [hm] at h; cases h
  | some p =>
    obtain ⟨ra, st1⟩ := p
    rw [hm] at h
    cases ra with
    | error x => simp only at h; cases h
    | ok o =>
      cases o with
      | nx Δ1 => exact ⟨Δ1, st1, rfl, h⟩
      | rt d => simp only at h; cases h
      | bk d => simp only at h; cases h
      | ct d => simp only at h; cases h
section
variable {X : Cx} {E : XK} {s1 s2 : Stmt} {rest : List Stmt} {a b c : SDen}
theorem tSD_fz {i : Nat} {D : Ends} {σ : L2.St} {H : Hp} (h : tSD X.K E (sqP (fzV i (sqP a b)) c) D σ H) : tSeq (tSD X.K E a) (tSeq (tSD X.K E b) (tSD X.K E c)) D σ H := by
  obtain ⟨W, st, Δ, r, st', L, I, e, k⟩ := h
  replace e : Dn.bd (fzV i (sqP a b) Δ st) (fun o st1 => match o with | .nx Δ1 => c Δ1 st1 | o => some (.ok o, st1)) = some (r, st') := e
  unfold Dn.bd at e
  cases hm : fzV i (sqP a b) Δ st with
  | none => rw [hm] at e; cases e
  | some p =>
    obtain ⟨Δ2, st2, n, ds, h1, hi, hn, hl, rfl⟩ := fzV_inv hm
    rw [hm] at e
    simp only at e
    obtain ⟨Δ1, st1, ha, hb⟩ := sqP_inv h1
    refine ⟨W, st, Δ, .ok (.nx Δ1), st1, L, I, ha, fun W1 H1 e1 i1 σ1 L1 => ⟨W1, st1, Δ1, .ok (.nx Δ2), st2, L1, i1, hb, fun W2 H2 e2 i2 σ2 L2 => ?_⟩⟩
    have le := e1.trans e2
    obtain ⟨v, hv, rv⟩ := L2.2 i _ hi
    cases rv with
    | @hnd x n hx =>
      have nW : W.h n ≠ some x := fun z => by have := I.bd n x z; omega
      have nx : H x = none := (le.newH n x hx).resolve_left nW
      have nN : ¬ W.N x := fun z => I.there x z nx
      have n0 : n ≠ 0 := by omega
      obtain ⟨_, p, h1, h2, us, h3, h5⟩ := i2.own _ _ (look_mem hl)
      rw [hx] at h1
      cases h1
      refine ⟨W2.delO x, st2.drop n, Δ2.set i (some (.lst ds)), r, st', ⟨by rw [List.length_set]; exact L2.1, fun j d hj => ?_⟩, i2.delO hx n0, e, k.to (le.delO nN)⟩
      rw [List.getElem?_set] at hj
      split at hj
      · rename_i ij
        subst ij
        split at hj
        · cases hj
          exact ⟨_, hv, .lst (fun z => z.2 rfl) h3 (h5.tow lw_delO)⟩
        · cases hj
      · obtain ⟨u, hu, ru⟩ := L2.2 j d hj
        exact ⟨u, hu, ru.lw lw_delO⟩
theorem dss_fz2 {i : Nat} (h1 : PS X s1 (tSD X.K E a)) (h2 : PS X s2 (tSD X.K E b)) (h3 : PSs X rest (tSD X.K E c)) : PSs X (s1 :: s2 :: rest) (tSD X.K E (sqP (fzV i (sqP a b)) c)) :=
  imSs (pss_cons h1 (pss_cons h2 h3)) fun _ _ _ => tSD_fz
end
end Dn

set_option Elab.async false
set_option linter.all false
set_option maxRecDepth 100000
set_option maxHeartbeats 4000000
namespace Dn
open PySem PySem.Spec PyProof.Rows L2
/-- the caught classes -/
abbrev CSL (C : Nat → Addr) : List Addr := [C 24]
def topS (i : Nat) : Stmt := PySem.Challenge.pw_unseenrest_k05_whole_tables_are_ranks.main.body.getD i (.Pass ⟨0, 0, 0, 0⟩)
abbrev s_l_bag : Stmt := (topS 30)
abbrev N_l_bag : List Str := ["_law_script"]
theorem sc_l_bag : FnScope N_l_bag ["_law_script"] (defScope s_l_bag) := ⟨rfl, rfl, rfl, by decide +kernel, rfl, by decide +kernel, by decide +kernel⟩
def F_l_bag : FDen := bagF 10038
abbrev s_l_pull : Stmt := (topS 31)
abbrev N_l_pull : List Str := ["_law_bag_here", "_law_many", "_law_seed", "_law_cell", "_law_digit"]
theorem sc_l_pull : FnScope N_l_pull ["_law_bag_here", "_law_many"] (defScope s_l_pull) := ⟨rfl, rfl, rfl, by decide +kernel, rfl, by decide +kernel, by decide +kernel⟩
abbrev s_l_any : Stmt := (topS 32)
abbrev N_l_any : List Str := ["_law_bag_here", "_law_things"]
theorem sc_l_any : FnScope N_l_any ["_law_bag_here", "_law_things"] (defScope s_l_any) := ⟨rfl, rfl, rfl, by decide +kernel, rfl, by decide +kernel, by decide +kernel⟩
abbrev s_l_names : Stmt := (topS 36)
abbrev N_l_names : List Str := ["_law_bag_here", "_law_many", "_law_letters", "_law_stem", "_law_at", "_law_first", "_law_k"]
theorem sc_l_names : FnScope N_l_names ["_law_bag_here", "_law_many"] (defScope s_l_names) := ⟨rfl, rfl, rfl, by decide +kernel, rfl, by decide +kernel, by decide +kernel⟩
abbrev s_l_columns : Stmt := (topS 41)
abbrev N_l_columns : List Str := ["_law_bag_here", "_law_many", "_law_modulus", "_law_tall", "_law_j", "_law_k"]
theorem sc_l_columns : FnScope N_l_columns ["_law_bag_here", "_law_many", "_law_modulus", "_law_tall"] (defScope s_l_columns) := ⟨rfl, rfl, rfl, by decide +kernel, rfl, by decide +kernel, by decide +kernel⟩
abbrev s_l_added : Stmt := (topS 38)
abbrev N_l_added : List Str := ["_law_one", "_law_column", "_law_factor", "_law_modulus", "_law_a", "_law_b"]
theorem sc_l_added : FnScope N_l_added ["_law_one", "_law_column", "_law_factor", "_law_modulus"] (defScope s_l_added) := ⟨rfl, rfl, rfl, by decide +kernel, rfl, by decide +kernel, by decide +kernel⟩
abbrev s_l_spread_out : Stmt := (topS 39)
abbrev N_l_spread_out : List Str := ["_law_space", "_law_column", "_law_modulus", "_law_wide", "_law_factor", "_law_one"]
theorem sc_l_spread_out : FnScope N_l_spread_out ["_law_space", "_law_column", "_law_modulus"] (defScope s_l_spread_out) := ⟨rfl, rfl, rfl, by decide +kernel, rfl, by decide +kernel, by decide +kernel⟩
abbrev s_l_column_ranks : Stmt := (topS 40)
abbrev N_l_column_ranks : List Str := ["_law_columns_here", "_law_modulus", "_law_tall", "_law_found", "_law_column", "_law_late", "_law_rank", "_law_space", "_law_pair"]
theorem sc_l_column_ranks : FnScope N_l_column_ranks ["_law_columns_here", "_law_modulus", "_law_tall"] (defScope s_l_column_ranks) := ⟨rfl, rfl, rfl, by decide +kernel, rfl, by decide +kernel, by decide +kernel⟩
abbrev s_l_world : Stmt := (topS 42)
abbrev N_l_world : List Str := ["_law_bag_here", "_law_names_here", "_law_hidden", "_law_modulus", "_law_tall", "_law_columns_here"]
theorem sc_l_world : FnScope N_l_world ["_law_bag_here", "_law_names_here", "_law_hidden"] (defScope s_l_world) := ⟨rfl, rfl, rfl, by decide +kernel, rfl, by decide +kernel, by decide +kernel⟩
abbrev s_l_is_count : Stmt := (topS 43)
abbrev N_l_is_count : List Str := ["_law_thing"]
theorem sc_l_is_count : FnScope N_l_is_count ["_law_thing"] (defScope s_l_is_count) := ⟨rfl, rfl, rfl, by decide +kernel, rfl, by decide +kernel, by decide +kernel⟩
abbrev s_l_counts : Stmt := (topS 37)
abbrev N_l_counts : List Str := ["_law_size", "_law_found", "_law_k", "_law_count"]
theorem sc_l_counts : FnScope N_l_counts ["_law_size"] (defScope s_l_counts) := ⟨rfl, rfl, rfl, by decide +kernel, rfl, by decide +kernel, by decide +kernel⟩
abbrev s_l_breaks : Stmt := (topS 44)
abbrev N_l_breaks : List Str := ["_law_cells", "_law_top", "_law_own", "_law_counts_here", "_law_one", "_law_two", "_law_k"]
theorem sc_l_breaks : FnScope N_l_breaks ["_law_cells", "_law_top"] (defScope s_l_breaks) := ⟨rfl, rfl, rfl, by decide +kernel, rfl, by decide +kernel, by decide +kernel⟩
abbrev s_l_field : Stmt := (topS 34)
abbrev N_l_field : List Str := ["_law_e", "_law_code"]
theorem sc_l_field : FnScope N_l_field ["_law_e"] (defScope s_l_field) := ⟨rfl, rfl, rfl, by decide +kernel, rfl, by decide +kernel, by decide +kernel⟩
abbrev s_InvalidName_init : Stmt := (inClass (topS 4) 0)
abbrev N_InvalidName_init : List Str := ["self", "value"]
theorem sc_InvalidName_init : FnScope N_InvalidName_init ["self", "value"] (defScope s_InvalidName_init) := ⟨rfl, rfl, rfl, by decide +kernel, rfl, by decide +kernel, by decide +kernel⟩
abbrev s_is_word : Stmt := (topS 17)
abbrev N_is_word : List Str := ["value", "most", "sign"]
theorem sc_is_word : FnScope N_is_word ["value", "most"] (defScope s_is_word) := ⟨rfl, rfl, rfl, by decide +kernel, rfl, by decide +kernel, by decide +kernel⟩
abbrev s_is_name : Stmt := (topS 13)
abbrev N_is_name : List Str := ["value"]
theorem sc_is_name : FnScope N_is_name ["value"] (defScope s_is_name) := ⟨rfl, rfl, rfl, by decide +kernel, rfl, by decide +kernel, by decide +kernel⟩
abbrev s_DuplicateName_init : Stmt := (inClass (topS 8) 0)
abbrev N_DuplicateName_init : List Str := ["self", "name"]
theorem sc_DuplicateName_init : FnScope N_DuplicateName_init ["self", "name"] (defScope s_DuplicateName_init) := ⟨rfl, rfl, rfl, by decide +kernel, rfl, by decide +kernel, by decide +kernel⟩
abbrev s_TooMany_init : Stmt := (inClass (topS 9) 0)
abbrev N_TooMany_init : List Str := ["self", "subject", "most"]
theorem sc_TooMany_init : FnScope N_TooMany_init ["self", "subject", "most"] (defScope s_TooMany_init) := ⟨rfl, rfl, rfl, by decide +kernel, rfl, by decide +kernel, by decide +kernel⟩
abbrev s_checked_names : Stmt := (topS 15)
abbrev N_checked_names : List Str := ["names", "most", "name", "at"]
theorem sc_checked_names : FnScope N_checked_names ["names", "most"] (defScope s_checked_names) := ⟨rfl, rfl, rfl, by decide +kernel, rfl, by decide +kernel, by decide +kernel⟩
abbrev s_is_number : Stmt := (topS 14)
abbrev N_is_number : List Str := ["value", "least", "most"]
theorem sc_is_number : FnScope N_is_number ["value", "least", "most"] (defScope s_is_number) := ⟨rfl, rfl, rfl, by decide +kernel, rfl, by decide +kernel, by decide +kernel⟩
abbrev s_InvalidNumber_init : Stmt := (inClass (topS 5) 0)
abbrev N_InvalidNumber_init : List Str := ["self", "value"]
theorem sc_InvalidNumber_init : FnScope N_InvalidNumber_init ["self", "value"] (defScope s_InvalidNumber_init) := ⟨rfl, rfl, rfl, by decide +kernel, rfl, by decide +kernel, by decide +kernel⟩
abbrev s_InvalidTable_init : Stmt := (inClass (topS 6) 0)
abbrev N_InvalidTable_init : List Str := ["self", "at"]
theorem sc_InvalidTable_init : FnScope N_InvalidTable_init ["self", "at"] (defScope s_InvalidTable_init) := ⟨rfl, rfl, rfl, by decide +kernel, rfl, by decide +kernel, by decide +kernel⟩
abbrev s_single_bits : Stmt := (topS 25)
abbrev N_single_bits : List Str := ["index", "at"]
theorem sc_single_bits : FnScope N_single_bits ["index"] (defScope s_single_bits) := ⟨rfl, rfl, rfl, by decide +kernel, rfl, by decide +kernel, by decide +kernel⟩
abbrev s_fits : Stmt := (topS 27)
abbrev N_fits : List Str := ["table", "at", "rank", "bits", "adding", "bit", "one", "two"]
theorem sc_fits : FnScope N_fits ["table", "at"] (defScope s_fits) := ⟨rfl, rfl, rfl, by decide +kernel, rfl, by decide +kernel, by decide +kernel⟩
abbrev s_check_table : Stmt := (topS 26)
abbrev N_check_table : List Str := ["table", "count", "at"]
theorem sc_check_table : FnScope N_check_table ["table", "count"] (defScope s_check_table) := ⟨rfl, rfl, rfl, by decide +kernel, rfl, by decide +kernel, by decide +kernel⟩
abbrev s_Structure_init : Stmt := (inClass (topS 21) 1)
abbrev N_Structure_init : List Str := ["self", "names", "table", "unseen", "known", "count"]
theorem sc_Structure_init : FnScope N_Structure_init ["self", "names", "table", "unseen"] (defScope s_Structure_init) := ⟨rfl, rfl, rfl, by decide +kernel, rfl, by decide +kernel, by decide +kernel⟩
abbrev s_Structure_table : Stmt := (inClass (topS 21) 5)
abbrev N_Structure_table : List Str := ["self"]
theorem sc_Structure_table : FnScope N_Structure_table ["self"] (defScope s_Structure_table) := ⟨rfl, rfl, rfl, by decide +kernel, rfl, by decide +kernel, by decide +kernel⟩
abbrev s_l_same : Stmt := (topS 33)
abbrev N_l_same : List Str := ["_law_found", "_law_due", "_law_one", "_law_two"]
theorem sc_l_same : FnScope N_l_same ["_law_found", "_law_due"] (defScope s_l_same) := ⟨rfl, rfl, rfl, by decide +kernel, rfl, by decide +kernel, by decide +kernel⟩
abbrev s_l_why : Stmt := (topS 35)
abbrev N_l_why : List Str := ["_law_ask", "_law_e"]
theorem sc_l_why : FnScope N_l_why ["_law_ask"] (defScope s_l_why) := ⟨rfl, rfl, rfl, by decide +kernel, rfl, by decide +kernel, by decide +kernel⟩
def tl_law_0 (C : Nat → Addr) : EDen := (methP (C 0) "table" (F_Structure_table C) (makeKP (C 0) 2 1 [0] (F_Structure_init C) (consP (varP 3) (consP (tupHP (varP 6)) nilP)) (consP (varP 4) nilP)) nilP)
def tau_law (C : Nat → Addr) : Nat → Option EDen
  | 0 => some (tl_law_0 C)
  | _ => none
abbrev NLW : List Str := ["_law_script", "_law_bag_here", "_law_turn", "_law_names_here", "_law_hidden", "_law_world_here", "_law_cells", "_law_k", "_law_wrong", "_law_found", "_law_at"]
noncomputable def F_l_why (C : Nat → Addr) (P0 : Addr) (CC : CloT) (σ0 : L2.St) : FDen := whyF 1 P0 CC (CSL C) ffX (tau_law C) σ0
abbrev s_law : Stmt := (topS 45)
abbrev N_law : List Str := ["_law_script", "_law_bag_here", "_law_turn", "_law_names_here", "_law_hidden", "_law_world_here", "_law_cells", "_law_k", "_law_wrong", "_law_found", "_law_at"]
theorem sc_law : FnScope N_law ["_law_script"] (defScope s_law) := ⟨rfl, rfl, rfl, by decide +kernel, rfl, by decide +kernel, by decide +kernel⟩
noncomputable def d_law (C : Nat → Addr) (P0 : Addr) (CC : CloT) : SDen :=
    (sqP (asP (.one 1) (callP F_l_bag (consP (varP 0) nilP)))
    (sqP (foP (rng1P (consP (cstP (.int 6)) nilP)) (.one 2) (sqP (asP (.one 3) (callP F_l_names (consP (varP 1) (consP (binP addD (cstP (.int 1)) (callP F_l_pull (consP (varP 1) (consP (cstP (.int 4)) nilP)))) nilP))))
    (sqP (asP (.one 4) (callP F_l_pull (consP (varP 1) (consP (binP subD (cstP (.int 5)) (bltP lenF (consP (varP 3) nilP))) nilP))))
    (sqP (asP (.one 5) (callP F_l_world (consP (varP 1) (consP (varP 3) (consP (varP 4) nilP)))))
    (sqP (fzV 6 (sqP (asP (.one 6) (listNP (binP ixD (varP 5) (cstP (.int 2)))))
    (foP (rng1P (consP (callP F_l_pull (consP (varP 1) (consP (cstP (.int 3)) nilP))) nilP)) (.one 7) (sqP (asP (.one 10) (callP F_l_pull (consP (varP 1) (consP (lenLP (varP 6)) nilP))))
    (setOP (varP 6) (varP 10) (callP F_l_any (consP (varP 1) (consP (lstP (consP (cstP (.int 0)) (consP (cstP (.int 1)) (consP (cstP (.int 2)) (consP (cstP (.int 3)) (consP (negP (cstP (.int 1))) (consP (binP addD (binP ixD (binP ixD (varP 5) (cstP (.int 2))) (varP 10)) (cstP (.int 1))) (consP (binP subD (binP ixD (binP ixD (varP 5) (cstP (.int 2))) (varP 10)) (cstP (.int 1))) (consP (cstP .non) (consP (cstP (.bl true)) (consP (cstP (.str "1")) nilP))))))))))) nilP))))))))
    (sqP (asP (.one 8) (lcP (rng1P (consP (lenLP (varP 6)) nilP)) (.one 7) (truP (callP F_l_breaks (consP (varP 6) (consP (varP 7) nilP)))) (varP 7) [7]))
    (sqP (asP (.one 9) (envP 1 P0 CC (F_l_why C P0 CC) (consP (lamP 1 P0 CC 0) nilP)))
    (ifP (notT (truP (callP (F_l_same 8) (consP (varP 9) (consP (ifP (tstP (binP eqD (varP 8) (lstP nilP))) (tupP (consP (cstP (.str "")) (consP (varP 6) nilP))) (tupP (consP (cstP (.str "InvalidTable")) (consP (tupP (consP (binP ixD (varP 8) (cstP (.int 0))) nilP)) nilP)))) nilP))))) (rtP (cstP (.bl false))) nxP))))))))
    (rtP (cstP (.bl true)))))
end Dn

set_option Elab.async false
set_option linter.all false
set_option maxRecDepth 100000
set_option maxHeartbeats 4000000
namespace Dn
open PySem PySem.Spec PyProof.Rows L2
theorem lenL_at {te : EDen} {Δ : Dl} {st st1 : Sta} {n : Nat} {ds : List D} (h : te Δ st = some (.ok (.hnd n), st1)) (hl : st1.look n = some (.lst ds)) : lenLP te Δ st = some (.ok (.int ds.length), st1) := by
  unfold lenLP
  rw [h, bd_ok]
  unfold lstOf
  simp only
  rw [hl]
  rfl
theorem tabC_set {n : Nat} {c : Nat → D} {k : Nat} {d : D} : (tabC n c).set k d = tabC n fun i => if i = k then d else c i := by
  apply List.ext_getElem?
  intro i
  rw [List.getElem?_set]
  unfold tabC
  rw [List.getElem?_map, List.getElem?_map, List.length_map, List.length_range]
  by_cases h : i < 2 ^ n
  · rw [List.getElem?_range h]
    by_cases q : k = i
    · subst q
      rw [if_pos rfl, if_pos h]
      show _ = some (if k = k then d else c k)
      rw [if_pos rfl]
    · rw [if_neg q]
      show _ = some (if i = k then d else c i)
      rw [if_neg (fun z => q z.symm)]
      rfl
  · rw [List.getElem?_eq_none (by rw [List.length_range]; omega)]
    by_cases q : k = i
    · subst q
      rw [if_pos rfl, if_neg h]
      rfl
    · rw [if_neg q]; rfl
theorem first_of (p : Nat → Bool) : ∀ N : Nat, (((List.range N).filter p) = [] ∧ ∀ k < N, p k = false) ∨ ∃ w rest, ((List.range N).filter p) = w :: rest ∧ w < N ∧ p w = true ∧ ∀ j < w, p j = false
  | 0 => .inl ⟨rfl, fun k h => by omega⟩
  | N + 1 => by
    rw [List.range_succ, List.filter_append]
    rcases first_of p N with ⟨e, h⟩ | ⟨w, rest, e, h1, h2, h3⟩
    · rw [e, List.nil_append]
      cases q : p N with
      | true => exact .inr ⟨N, [], by simp [q], by omega, q, h⟩
      | false =>
        refine .inl ⟨by simp [q], fun k hk => ?_⟩
        rcases Nat.lt_or_eq_of_le (Nat.le_of_lt_succ hk) with h1 | h1
        · exact h k h1
        · rw [h1]; exact q
    · rw [e]
      exact .inr ⟨w, rest ++ List.filter p [N], rfl, by omega, h2, h3⟩
theorem pys_nats : ∀ ws : List Nat, toPys (ws.map fun i : Nat => D.int i) = some (ws.map fun i : Nat => PyData.int i)
  | [] => rfl
  | w :: ws => by
    rw [List.map_cons, List.map_cons]
    unfold toPys
    rw [pys_nats ws]
    rfl
theorem eqD_nil {ws : List Nat} (hl : ws.length ≤ 1000) : eqD (.lst (ws.map fun i : Nat => D.int i)) (.lst []) = some (.bl (decide (ws = []))) := by
  have pl : Pl 1 (.lst (ws.map fun i : Nat => D.int i)) := .lst (fun x hx => by obtain ⟨i, _, rfl⟩ := List.mem_map.mp hx; exact .int _) (by rw [List.length_map]; unfold big; omega)
  obtain ⟨p, h1, h2⟩ := pl.sh (by decide)
  have g5 : toPy (.lst (ws.map fun i : Nat => D.int i)) = some (.list (ws.map fun i : Nat => PyData.int i)) := by unfold toPy; rw [pys_nats] <;> rfl
  have g3 := (shP_of h1).1
  rw [g5] at g3
  cases g3
  unfold eqD eqB
  rw [h1, obind_some, show shP (.lst []) = some (.list []) from rfl, omap_some, omap_some]
  congr 2
  cases ws with
  | nil => rfl
  | cons z zs => simp [PyData.eqv, PyData.eqvAll]
theorem all_rk {n : Nat} {c : Nat → D} (hn : n ≤ 4) (all : ∀ k < 2 ^ n, fitB n (fun i => intZ (c i)) (fun i => isZ (c i)) k = true) : Mr.Rk n (fun i => (intZ (c i)).toNat) ∧ tabC n c = tabI n fun i => (((intZ (c i)).toNat : Nat) : Int) := by
  have F := fun k hk => fit_iff.mp (all k hk)
  have tp := Nat.two_pow_pos n
  have lx : ∀ i b, i < 2 ^ n → b < n → i ^^^ 2 ^ b < 2 ^ n := fun i b hi hb => Mr.two_pow_xor hb hi
  refine ⟨⟨?_, fun i hi => ?_, fun i b hi hb t => ?_, fun i b d hi hb hd ne tb td eb ed => ?_⟩, ?_⟩
  · show (intZ (c 0)).toNat = 0
    rw [(F 0 tp).zero rfl]; rfl
  · have := fit_le hn (k := 2 ^ n - 1) (f := fun i => intZ (c i)) (g := fun i => isZ (c i)) (by omega) (fun j hj => F j (by omega)) n i (Nat.le_refl _) (by omega) hi
    show (intZ (c i)).toNat ≤ n
    omega
  · have l1 := (F _ (lx i b hi hb)).lo
    show (intZ (c i)).toNat = (intZ (c (i ^^^ 2 ^ b))).toNat ∨ (intZ (c i)).toNat = (intZ (c (i ^^^ 2 ^ b))).toNat + 1
    rcases (F i hi).one b hb t with e | e <;> omega
  · have l1 := (F _ (lx i b hi hb)).lo
    have l2 := (F _ (lx i d hi hd)).lo
    have l3 := (F _ (lx _ d (lx i b hi hb) hd)).lo
    show (intZ (c (i ^^^ 2 ^ b ^^^ 2 ^ d))).toNat + 2 = (intZ (c i)).toNat
    replace eb : (intZ (c (i ^^^ 2 ^ b))).toNat + 1 = (intZ (c i)).toNat := eb
    replace ed : (intZ (c (i ^^^ 2 ^ d))).toNat + 1 = (intZ (c i)).toNat := ed
    have := (F i hi).two b d hb hd ne tb td (by omega) (by omega)
    omega
  · unfold tabC tabI
    refine List.map_congr_left fun i hi => ?_
    have hi := List.mem_range.mp hi
    rw [CellOk.int (F i hi).g]
    have := (F i hi).lo
    congr 1
    show intZ (c i) = (((intZ (c i)).toNat : Nat) : Int)
    omega
theorem all_fit {n : Nat} {c : Nat → D} (hn : n ≤ 4) {w : Nat} (hw : w ≤ 2 ^ n) (no : ∀ j < w, brkB (fun i => intZ (c i)) (fun i => isZ (c i)) j = false) : ∀ m, m ≤ w → ∀ j < m, fitB n (fun i => intZ (c i)) (fun i => isZ (c i)) j = true
  | 0, _, j, h => by omega
  | m + 1, hm, j, h => by
    have ih := all_fit hn hw no m (by omega)
    rcases Nat.lt_or_eq_of_le (Nat.le_of_lt_succ h) with q | q
    · exact ih j q
    · subst q
      rw [fit_brk hn (by omega) ih, no j (by omega)]; rfl
noncomputable def q1 (C : Nat → Addr) (P0 : Addr) (CC : CloT) : SDen := asP (.one 1) (callP F_l_bag (consP (varP 0) nilP))
noncomputable def t1 (C : Nat → Addr) (P0 : Addr) (CC : CloT) : SDen := asP (.one 3) (callP F_l_names (consP (varP 1) (consP (binP addD (cstP (.int 1)) (callP F_l_pull (consP (varP 1) (consP (cstP (.int 4)) nilP)))) nilP)))
noncomputable def t2 (C : Nat → Addr) (P0 : Addr) (CC : CloT) : SDen := asP (.one 4) (callP F_l_pull (consP (varP 1) (consP (binP subD (cstP (.int 5)) (bltP lenF (consP (varP 3) nilP))) nilP)))
noncomputable def t3 (C : Nat → Addr) (P0 : Addr) (CC : CloT) : SDen := asP (.one 5) (callP F_l_world (consP (varP 1) (consP (varP 3) (consP (varP 4) nilP))))
noncomputable def t4 (C : Nat → Addr) (P0 : Addr) (CC : CloT) : SDen := fzV 6 (sqP (asP (.one 6) (listNP (binP ixD (varP 5) (cstP (.int 2))))) (foP (rng1P (consP (callP F_l_pull (consP (varP 1) (consP (cstP (.int 3)) nilP))) nilP)) (.one 7) (sqP (asP (.one 10) (callP F_l_pull (consP (varP 1) (consP (lenLP (varP 6)) nilP)))) (setOP (varP 6) (varP 10) (callP F_l_any (consP (varP 1) (consP (lstP (consP (cstP (.int 0)) (consP (cstP (.int 1)) (consP (cstP (.int 2)) (consP (cstP (.int 3)) (consP (negP (cstP (.int 1))) (consP (binP addD (binP ixD (binP ixD (varP 5) (cstP (.int 2))) (varP 10)) (cstP (.int 1))) (consP (binP subD (binP ixD (binP ixD (varP 5) (cstP (.int 2))) (varP 10)) (cstP (.int 1))) (consP (cstP .non) (consP (cstP (.bl true)) (consP (cstP (.str "1")) nilP))))))))))) nilP)))))))
noncomputable def t5 (C : Nat → Addr) (P0 : Addr) (CC : CloT) : SDen := asP (.one 8) (lcP (rng1P (consP (lenLP (varP 6)) nilP)) (.one 7) (truP (callP F_l_breaks (consP (varP 6) (consP (varP 7) nilP)))) (varP 7) [7])
noncomputable def t6 (C : Nat → Addr) (P0 : Addr) (CC : CloT) : SDen := asP (.one 9) (envP 1 P0 CC (F_l_why C P0 CC) (consP (lamP 1 P0 CC 0) nilP))
noncomputable def t7 (C : Nat → Addr) (P0 : Addr) (CC : CloT) : SDen := ifP (notT (truP (callP (F_l_same 8) (consP (varP 9) (consP (ifP (tstP (binP eqD (varP 8) (lstP nilP))) (tupP (consP (cstP (.str "")) (consP (varP 6) nilP))) (tupP (consP (cstP (.str "InvalidTable")) (consP (tupP (consP (binP ixD (varP 8) (cstP (.int 0))) nilP)) nilP)))) nilP))))) (rtP (cstP (.bl false))) nxP
noncomputable def turn (C : Nat → Addr) (P0 : Addr) (CC : CloT) : SDen := (sqP (t1 C P0 CC) (sqP (t2 C P0 CC) (sqP (t3 C P0 CC) (sqP (t4 C P0 CC) (sqP (t5 C P0 CC) (sqP (t6 C P0 CC) (t7 C P0 CC)))))))
noncomputable def q2 (C : Nat → Addr) (P0 : Addr) (CC : CloT) : SDen := foP (rng1P (consP (cstP (.int 6)) nilP)) (.one 2) (turn C P0 CC)
noncomputable def q3 (C : Nat → Addr) (P0 : Addr) (CC : CloT) : SDen := rtP (cstP (.bl true))
theorem law_parts (C : Nat → Addr) (P0 : Addr) (CC : CloT) : d_law C P0 CC = (sqP (q1 C P0 CC) (sqP (q2 C P0 CC) (q3 C P0 CC))) := rfl
section
variable (C : Nat → Addr) (P0 : Addr) (CC : CloT)
theorem odd_cell {a b : Int} {d : D} (h : d ∈ ([.int 0, .int 1, .int 2, .int 3, .int (-1), .int a, .int b, .non, .bl true, .str "1"] : List D)) : CellOk d := by
  simp only [List.mem_cons, List.not_mem_nil, or_false] at h
  rcases h with rfl | rfl | rfl | rfl | rfl | rfl | rfl | rfl | rfl | rfl
  all_goals first | exact .inl ⟨_, rfl⟩ | exact .inr (.inl rfl) | exact .inr (.inr (.inl rfl)) | exact .inr (.inr (.inr rfl))
def setB : SDen := (sqP (asP (.one 10) (callP F_l_pull (consP (varP 1) (consP (lenLP (varP 6)) nilP)))) (setOP (varP 6) (varP 10) (callP F_l_any (consP (varP 1) (consP (lstP (consP (cstP (.int 0)) (consP (cstP (.int 1)) (consP (cstP (.int 2)) (consP (cstP (.int 3)) (consP (negP (cstP (.int 1))) (consP (binP addD (binP ixD (binP ixD (varP 5) (cstP (.int 2))) (varP 10)) (cstP (.int 1))) (consP (binP subD (binP ixD (binP ixD (varP 5) (cstP (.int 2))) (varP 10)) (cstP (.int 1))) (consP (cstP .non) (consP (cstP (.bl true)) (consP (cstP (.str "1")) nilP))))))))))) nilP)))))
theorem cells_ok {n : Nat} (hn : n ≤ 4) (r : Nat → Nat) (scr : Option (Addr × List Int)) (own : List (Nat × Cell)) (nx : Nat) (b : BagSt) (hb : okB b) (x0 x2 x3 x4 x6 x7 x8 x9 x10 : Option D) {Wd : D} (hW : ixD Wd (.int 2) = some (.lst (tabI n fun i => (r i : Int)))) :
    ∃ y7 y10 b' own' c, t4 C P0 CC [x0, some (.hnd 0), x2, x3, x4, some Wd, x6, x7, x8, x9, x10] ⟨some b, scr, own, nx⟩ = some (.ok (.nx [x0, some (.hnd 0), x2, x3, x4, some Wd, some (.lst (tabC n c)), y7, x8, x9, y10]), ⟨some b', scr, own', nx + 1⟩) ∧
      okB b' ∧ (∀ i < 2 ^ n, CellOk (c i)) ∧ ∀ j ≤ nx, (⟨some b', scr, own', nx + 1⟩ : Sta).look j = (⟨some b, scr, own, nx⟩ : Sta).look j := by
  have p4 : 2 ^ n ≤ 2 ^ 4 := Nat.pow_le_pow_right (by decide) hn
  have tp := Nat.two_pow_pos n
  let own1 : List (Nat × Cell) := (nx + 1, .lst (tabI n fun i => (r i : Int))) :: own
  obtain ⟨jj, b1, p1, j0, j1, hb1⟩ := pull_ok b scr own1 (nx + 1) 3 hb (by decide) (by decide)
  obtain ⟨m, em⟩ : ∃ m : Nat, jj = m := ⟨jj.toNat, by omega⟩
  subst em
  let Δ0 : Option D → Option D → Dl := fun x7 x10 => [x0, some (.hnd 0), x2, x3, x4, some Wd, some (.hnd (nx + 1)), x7, x8, x9, x10]
  have lk1 : ∀ j ≤ nx, (⟨some b1, scr, own1, nx + 1⟩ : Sta).look j = (⟨some b, scr, own, nx⟩ : Sta).look j := fun j hj => by
    have e : ((nx + 1) == j) = false := beq_eq_false_iff_ne.mpr (by omega)
    show ((List.find? (fun p : Nat × Cell => p.1 == j) own1).map (·.2)) = _
    show ((List.find? (fun p : Nat × Cell => p.1 == j) ((nx + 1, Cell.lst (tabI n fun i => (r i : Int))) :: own)).map (·.2)) = _
    rw [List.find?_cons_of_neg (by show ¬ ((nx + 1) == j) = true; rw [e]; exact Bool.false_ne_true)]
    rfl
  have lkm : (⟨some b1, scr, own1, nx + 1⟩ : Sta).look (nx + 1) = some (.lst (tabI n fun i => (r i : Int))) := by
    show ((List.find? (fun p : Nat × Cell => p.1 == nx + 1) ((nx + 1, Cell.lst (tabI n fun i => (r i : Int))) :: own)).map (·.2)) = _
    rw [List.find?_cons_of_pos (by show ((nx + 1) == (nx + 1)) = true; exact beq_self_eq_true _)]
    rfl
  obtain ⟨Δ', st', q, y7, y10, b2, own2, c, e1, e2, hb2, ok, lm, lo⟩ := fo_inv (g := .one 7) (tb := setB) (fun _ Δ st => ∃ x7 x10 b2 own2 c, Δ = Δ0 x7 x10 ∧ st = ⟨some b2, scr, own2, nx + 1⟩ ∧ okB b2 ∧ (∀ i < 2 ^ n, CellOk (c i)) ∧ st.look (nx + 1) = some (.lst (tabC n c)) ∧ ∀ j ≤ nx, st.look j = (⟨some b, scr, own, nx⟩ : Sta).look j)
    ((List.range m).map fun i => D.int (i : Nat)) 0 (Δ0 x7 x10) ⟨some b1, scr, own1, nx + 1⟩ ⟨x7, x10, b1, own1, fun i => .int (r i : Int), rfl, rfl, hb1, fun i _ => .inl ⟨_, rfl⟩, lkm, lk1⟩ (fun i d hd Δ st ⟨x7, x10, b2, own2, c, e1, e2, hb2, ok, lm, lo⟩ => by
      subst e1
      subst e2
      obtain ⟨kk, b3, p3, k0, k1, hb3⟩ := pull_ok b2 scr own2 (nx + 1) (2 ^ n : Nat) hb2 (by omega) (by omega)
      obtain ⟨k, ek⟩ : ∃ k : Nat, kk = k := ⟨kk.toNat, by omega⟩
      subst ek
      have hk : k < 2 ^ n := by omega
      obtain ⟨v, b4, hv, p4', hb4⟩ := any_lst b3 scr own2 (nx + 1) [.int 0, .int 1, .int 2, .int 3, .int (-1), .int ((r k : Int) + 1), .int ((r k : Int) - 1), .non, .bl true, .str "1"] hb3 (by show 0 < 10; decide) (by show 10 ≤ big; decide)
      refine ⟨Δ0 (some d) x10, Δ0 (some d) (some (.int (k : Nat))), (⟨some b4, scr, own2, nx + 1⟩ : Sta).put (nx + 1) (.lst (tabC n fun i => if i = k then v else c i)), rfl, ?_, some d, some (.int (k : Nat)), b4, _, fun i => if i = k then v else c i, rfl, rfl, hb4, fun i hi => ?_, look_put _ _ _, fun j hj => ?_⟩
      · unfold setB
        refine sq_step (st1 := ⟨some b3, scr, own2, nx + 1⟩) (Δ1 := Δ0 (some d) (some (.int (k : Nat)))) (as_at (call2 rfl (lenL_at (ds := tabC n c) rfl lm) (by rw [tabC_len]; exact p3)) rfl) ?_
        have rk : ∀ st, binP ixD (binP ixD (varP 5) (cstP (.int 2))) (varP 10) (Δ0 (some d) (some (.int (k : Nat)))) st = some (.ok (.int (r k : Int)), st) := fun st => bin_at (bin_at rfl rfl hW) rfl (tabI_at hk)
        rw [← tabC_set (n := n) (c := c) (k := k) (d := v)]
        exact setO_at (st1 := ⟨some b4, scr, own2, nx + 1⟩) (d := v) (n := nx + 1) (k := k) (ds := tabC n c) (call2 rfl (lst_at (cons_at rfl (cons_at rfl (cons_at rfl (cons_at rfl (cons_at rfl (cons_at (bin_at (rk _) rfl rfl) (cons_at (bin_at (rk _) rfl rfl) (cons_at rfl (cons_at rfl (cons_at rfl rfl))))))))))) p4') rfl rfl lm (by rw [tabC_len]; exact hk)
      · show CellOk (if i = k then v else c i)
        by_cases e : i = k
        · rw [if_pos e]; exact odd_cell hv
        · rw [if_neg e]; exact ok i hi
      · exact (look_put_ne (by omega)).trans (lo j hj))
  subst e1
  subst e2
  have rg : rng1P (consP (callP F_l_pull (consP (varP 1) (consP (cstP (.int 3)) nilP))) nilP) (Δ0 x7 x10) ⟨some b, scr, own1, nx + 1⟩ = some (.ok ((List.range m).map fun i => D.int (i : Nat)), ⟨some b1, scr, own1, nx + 1⟩) := rng1_at (cons_at (call2 rfl rfl p1) rfl) (rngN' m (by omega))
  have run : sqP (asP (.one 6) (listNP (binP ixD (varP 5) (cstP (.int 2))))) (foP (rng1P (consP (callP F_l_pull (consP (varP 1) (consP (cstP (.int 3)) nilP))) nilP)) (.one 7) setB) [x0, some (.hnd 0), x2, x3, x4, some Wd, x6, x7, x8, x9, x10] ⟨some b, scr, own, nx⟩ = some (.ok (.nx (Δ0 y7 y10)), ⟨some b2, scr, own2, nx + 1⟩) := by
    refine sq_step (st1 := ⟨some b, scr, own1, nx + 1⟩) (Δ1 := Δ0 x7 x10) (as_at (d := .hnd (nx + 1)) (by
      unfold listNP
      rw [show binP ixD (varP 5) (cstP (.int 2)) [x0, some (.hnd 0), x2, x3, x4, some Wd, x6, x7, x8, x9, x10] ⟨some b, scr, own, nx⟩ = some (.ok (.lst (tabI n fun i => (r i : Int))), ⟨some b, scr, own, nx⟩) from bin_at rfl rfl hW, bd_ok]) rfl) ?_
    unfold foP
    rw [rg, bd_ok]
    exact q
  have fz := fzV_at (i := 6) run rfl (Nat.lt_succ_self nx) lm
  refine ⟨y7, y10, b2, _, c, fz, hb2, ok, fun j hj => ?_⟩
  exact (look_drop_ne (st := ⟨some b2, scr, own2, nx + 1⟩) (n := nx + 1) (by omega)).trans (lo j hj)
theorem turn_ok (scr : Option (Addr × List Int)) : TurnOk P0 CC scr 8 (turn C P0 CC) := by
  intro x0 x2 xs b own nx hx hb hT
  match xs, hx with
  | [x3, x4, x5, x6, x7, x8, x9, x10], _ =>
  obtain ⟨aa, b1, p1, a0, a1, hb1⟩ := pull_ok b scr own nx 4 hb (by decide) (by decide)
  obtain ⟨k, ek⟩ : ∃ k : Nat, aa = k := ⟨aa.toNat, by omega⟩
  subst ek
  obtain ⟨zs, b2, p2, len, nmz, hb2, ndz⟩ := names_ok b1 scr own nx (1 + (k : Int)) hb1 (by omega) (by omega)
  have ndz := ndz (by omega)
  have hz : zs.length = 1 + k := by omega
  obtain ⟨hh, b3, p3, h0, h1, hb3⟩ := pull_ok b2 scr own nx (5 - (zs.length : Int)) hb2 (by omega) (by omega)
  obtain ⟨u, eu⟩ : ∃ u : Nat, hh = u := ⟨hh.toNat, by omega⟩
  subst eu
  obtain ⟨n, r, b4, own4, nx4, W1, hn, hb4, T4, p4⟩ := wrl_ok b3 scr own nx zs u hb3 nmz ndz (by omega)
  have T4 := T4 P0 CC ⟨hT.1, hT.2⟩
  have hn4 : n ≤ 4 := by omega
  have pw : 2 ^ n ≤ 2 ^ 4 := Nat.pow_le_pow_right (by decide) hn4
  let Z : D := .lst (zs.map .str)
  let Wx := worldD (srtS zs) u n fun i => (r i : Int)
  obtain ⟨y7, y10, b5, own5, c, q4, hb5, ok, lk⟩ := cells_ok C P0 CC hn4 r scr own4 nx4 b4 hb4 x0 x2 (some Z) (some (.int (u : Nat))) x6 x7 x8 x9 x10 (Wd := Wx) rfl
  have T5 : T1 ⟨some b5, scr, own5, nx4 + 1⟩ P0 CC := by
    refine ⟨?_, Nat.le_trans T4.2 (Nat.le_succ _)⟩
    have := lk 1 T4.2
    have t := T4.1
    unfold TabIs at t ⊢
    rw [this]
    exact t
  let f : Nat → Int := fun i => intZ (c i)
  let g : Nat → Bool := fun i => isZ (c i)
  let ws := (List.range (2 ^ n)).filter (brkB f g)
  have lw : ws.length ≤ 16 := Nat.le_trans (List.length_filter_le _ _) (by rw [List.length_range]; omega)
  let cells : D := .lst (tabC n c)
  let wrong : D := .lst (ws.map fun i : Nat => D.int i)
  let st5 : Sta := ⟨some b5, scr, own5, nx4 + 1⟩
  have lf := lc_filt (t := .one 7) (tt := truP (callP F_l_breaks (consP (varP 6) (consP (varP 7) nilP)))) (te := varP 7) (Δ := [x0, some (.hnd 0), x2, some Z, some (.int (u : Nat)), some Wx, some cells, none, x8, x9, y10]) (st := st5) (fun a : Nat => D.int a) (brkB f g) (fun a => .int a) (List.range (2 ^ n)) [] (fun a ha => ⟨_, rfl, tru_at (call2 rfl rfl (breaks_ok c st5 ok hn4 (List.mem_range.mp ha))), fun _ => rfl⟩) (by rw [List.length_nil, List.length_range]; unfold big; omega)
  rw [List.nil_append] at lf
  have e8 : lcP (rng1P (consP (lenLP (varP 6)) nilP)) (.one 7) (truP (callP F_l_breaks (consP (varP 6) (consP (varP 7) nilP)))) (varP 7) [7] [x0, some (.hnd 0), x2, some Z, some (.int (u : Nat)), some Wx, some cells, y7, x8, x9, y10] st5 = some (.ok wrong, st5) := by
    unfold lcP
    rw [rng1_at (ds := [.int (2 ^ n : Nat)]) (st1 := st5) (cons_at (by
      unfold lenLP
      rw [show varP 6 [x0, some (.hnd 0), x2, some Z, some (.int (u : Nat)), some Wx, some cells, y7, x8, x9, y10] st5 = some (.ok cells, st5) from rfl, bd_ok]
      show some (Except.ok (D.int ((tabC n c).length : Nat)), st5) = _
      rw [tabC_len]) rfl) (rngN' _ (by omega)), bd_ok]
    exact lf
  let Δ : Option D → Dl := fun y9 => [x0, some (.hnd 0), x2, some Z, some (.int (u : Nat)), some Wx, some cells, y7, some wrong, y9, y10]
  have wl : ws.length ≤ 1000 := by omega
  have hN : IsNames Z zs := .inl rfl
  have tt : ∀ st, consP (varP 3) (consP (tupHP (varP 6)) nilP) (Δ x9) st = some (.ok [Z, .tup (tabC n c)], st) := fun st => cons_at rfl (cons_at rfl rfl)
  have last : ∃ rD due own7 nx7, envP 1 P0 CC (F_l_why C P0 CC) (consP (lamP 1 P0 CC 0) nilP) (Δ x9) st5 = some (.ok rD, ⟨some b5, scr, own7, nx7⟩) ∧ T1 ⟨some b5, scr, own7, nx7⟩ P0 CC ∧
      (∀ st, (ifP (tstP (binP eqD (varP 8) (lstP nilP))) (tupP (consP (cstP (.str "")) (consP (varP 6) nilP))) (tupP (consP (cstP (.str "InvalidTable")) (consP (tupP (consP (binP ixD (varP 8) (cstP (.int 0))) nilP)) nilP))) : EDen) (Δ (some rD)) st = some (.ok due, st)) ∧ ∀ st, F_l_same 8 [rD, due] st = some (.ok (.bl true), st) := by
    have en := eqD_nil wl
    have te : ∀ (y9 : Option D) (st : Sta), tstP (binP eqD (varP 8) (lstP nilP)) (Δ y9) st = some (.ok (decide (ws = [])), st) := fun y9 st => tst_at (bin_at rfl (lst_at rfl) en)
    rcases first_of (brkB f g) (2 ^ n) with ⟨e, no⟩ | ⟨w, rest, e, h1, h2, h3⟩
    · have af := all_fit (c := c) hn4 (Nat.le_refl _) no _ (Nat.le_refl _)
      obtain ⟨R, tab⟩ := all_rk hn4 af
      let rD : D := valD (.lst (tabC n c))
      have g0 : Gives (CSL C) (tau_law C) P0 CC (Δ x9) 0 rD := by
        refine gives_val rfl fun st _ => ?_
        obtain ⟨sa, fa, ka⟩ := mk_ok C (u := u) (r := fun i => (intZ (c i)).toNat) (N := Z) (T := .tup (tabC n c)) (zs := zs) ⟨hN, nmz, ndz, by omega, by omega, by omega, .inr (by rw [← hn, tab]), by rw [← hn]; exact R⟩ st
        refine ⟨sa, meth_at ((makeK_at (tt st) (cons_at rfl rfl)).trans fa) (ins_o _ _ _ _ _) n_table rfl ?_, ka⟩
        rw [tab, hn]
        exact table_m C _ _ _ _
      obtain ⟨st6, ev, k6⟩ := env1_ok (W := F_l_why C P0 CC) (tr := consP (lamP 1 P0 CC 0) nilP) (Δ := Δ x9) (fun _ => rfl) g0 T5 (cons_at (lam_at T5.1) rfl)
      have T6 := ks_T1 k6 T5
      obtain ⟨own6, nx6, e6⟩ := k6.split
      subst e6
      have pr : Pl 3 rD := by
        show Pl 3 (valD (.lst (tabC n c)))
        rw [tab]
        exact pl_tup ⟨pl_str, (pl_tab (n := 1) _ (by omega)).1, trivial⟩
      refine ⟨rD, rD, own6, nx6, ev, T6, fun st => ?_, fun st => same_refl pr 8 _ (by decide) (by decide)⟩
      have t := te (some rD) st
      rw [decide_eq_true (show ws = [] from e)] at t
      exact if_tt t (tup_at (cons_at rfl (cons_at rfl rfl)) (by show 2 ≤ 2; decide))
    · have pre := all_fit (c := c) hn4 (Nat.le_of_lt h1) h3 _ (Nat.le_refl _)
      have nf := fit_brk hn4 h1 pre
      rw [h2] at nf
      let rD : D := errD "InvalidTable" [.int (w : Nat)]
      have g0 : Gives (CSL C) (tau_law C) P0 CC (Δ x9) 0 rD := by
        refine gives_err (e := eTable C (.int (w : Nat))) rfl (tTable C _) (by simp) fun st _ => ?_
        obtain ⟨sa, fa, ka⟩ := mk_er C (N := Z) (T := .tup (tabC n c)) (U := .int (u : Nat)) (e := eTable C (.int (w : Nat))) (fun m st => init_table C hN nmz ndz (by omega) (by omega) (by omega) (fun st => by rw [← hn]; exact check_at C c st ok (by omega) h1 pre nf) m st) st
        exact ⟨sa, meth_er ((makeK_at (tt st) (cons_at rfl rfl)).trans fa), ka⟩
      obtain ⟨st6, ev, k6⟩ := env1_ok (W := F_l_why C P0 CC) (tr := consP (lamP 1 P0 CC 0) nilP) (Δ := Δ x9) (fun _ => rfl) g0 T5 (cons_at (lam_at T5.1) rfl)
      have T6 := ks_T1 k6 T5
      obtain ⟨own6, nx6, e6⟩ := k6.split
      subst e6
      have pr : Pl 3 rD := pl_tup ⟨pl_str, pl_tup ⟨.int _, trivial⟩, trivial⟩
      refine ⟨rD, rD, own6, nx6, ev, T6, fun st => ?_, fun st => same_refl pr 8 _ (by decide) (by decide)⟩
      have ne : ws ≠ [] := by rw [show ws = w :: rest from e]; exact List.cons_ne_nil _ _
      have t := te (some rD) st
      rw [decide_eq_false ne] at t
      have ix : ixD wrong (.int 0) = some (.int (w : Nat)) := by
        show ixD (.lst (ws.map fun i : Nat => D.int i)) (.int 0) = _
        rw [show ws = w :: rest from e]
        exact ix_0
      exact if_ff t (tup_at (cons_at rfl (cons_at (tup_at (cons_at (bin_at rfl rfl ix) rfl) (by show 1 ≤ 2; decide)) rfl)) (by show 2 ≤ 2; decide))
  obtain ⟨rD, due, own7, nx7, ev, T7, hd, sm⟩ := last
  refine ⟨[some Z, some (.int (u : Nat)), some Wx, some cells, y7, some wrong, some rD, y10], b5, own7, nx7, ?_, rfl, hb5, T7⟩
  unfold turn
  refine sq_step (st1 := ⟨some b2, scr, own, nx⟩) (Δ1 := [x0, some (.hnd 0), x2, some Z, x4, x5, x6, x7, x8, x9, x10]) (as_at (call2 rfl (bin_at rfl (call2 rfl rfl p1) rfl) p2) rfl) ?_
  refine sq_step (st1 := ⟨some b3, scr, own, nx⟩) (Δ1 := [x0, some (.hnd 0), x2, some Z, some (.int (u : Nat)), x5, x6, x7, x8, x9, x10]) (as_at (call2 rfl (bin_at rfl (blt_at (cons_at rfl rfl) (show lenF [Z] = some (.int ((zs.map D.str).length : Nat)) from rfl)) (show subD (.int 5) (.int ((zs.map D.str).length : Nat)) = some (.int (5 - (zs.length : Int))) by rw [List.length_map]; rfl)) p3) rfl) ?_
  refine sq_step (st1 := ⟨some b4, scr, own4, nx4⟩) (Δ1 := [x0, some (.hnd 0), x2, some Z, some (.int (u : Nat)), some Wx, x6, x7, x8, x9, x10]) (as_at (call3 rfl rfl rfl p4) rfl) ?_
  refine sq_step (st1 := st5) (Δ1 := [x0, some (.hnd 0), x2, some Z, some (.int (u : Nat)), some Wx, some cells, y7, x8, x9, y10]) q4 ?_
  refine sq_step (st1 := st5) (Δ1 := Δ x9) (as_at e8 rfl) ?_
  refine sq_step (st1 := ⟨some b5, scr, own7, nx7⟩) (Δ1 := Δ (some rD)) (as_at ev rfl) ?_
  exact if_ff (st1 := ⟨some b5, scr, own7, nx7⟩) (not_at (tru_at (call2 rfl (hd _) (sm _)))) rfl
end
theorem law_true (C : Nat → Addr) (P0 : Addr) (CC : CloT) (a : Addr) (ns : List Int) (h : ns.length ≤ 63) : ∃ st', runD (d_law C P0 CC) N_law.length [.opq (.ref a)] (st0L P0 CC a ns) = some (.ok (.bl true), st') := by
  refine law_go (law_parts C P0 CC) (by decide) (show (0 : Int) ≤ _ by decide) (by decide) h fun b hb hT => ?_
  obtain ⟨y2, ys, b1, own1, nx1, q, hy, hb1, T1_⟩ := law_for (turn_ok C P0 CC (some (a, ns))) 6 (by decide) (some (.opq (.ref a))) none (List.replicate 8 none) b _ _ (List.length_replicate ..) hb hT
  exact ⟨_, sq_step q rfl⟩
end Dn

set_option Elab.async false
set_option linter.all false
set_option maxRecDepth 100000
set_option maxHeartbeats 4000000
namespace Dn
open PySem PySem.Spec PyProof.Rows L2
structure Txt (K : PySem.W.Frag) (mg : Str → Option Value) (C : Nat → Addr) (f : Nat → Addr) (fd : Nat → FuncData) : Prop where
  F_l_bag : Fun K "_law_bag" "_law_bag" s_l_bag (f 0) (fd 0)
  b_l_bag : Binds K (fd 0) ["_law_script"] []
  g_l_bag : mg "_law_bag" = some (.ref (f 0))
  F_l_pull : Fun K "_law_pull" "_law_pull" s_l_pull (f 1) (fd 1)
  b_l_pull : Binds K (fd 1) ["_law_bag_here", "_law_many"] []
  g_l_pull : mg "_law_pull" = some (.ref (f 1))
  F_l_any : Fun K "_law_any" "_law_any" s_l_any (f 2) (fd 2)
  b_l_any : Binds K (fd 2) ["_law_bag_here", "_law_things"] []
  g_l_any : mg "_law_any" = some (.ref (f 2))
  F_l_names : Fun K "_law_names" "_law_names" s_l_names (f 3) (fd 3)
  b_l_names : Binds K (fd 3) ["_law_bag_here", "_law_many"] []
  g_l_names : mg "_law_names" = some (.ref (f 3))
  F_l_columns : Fun K "_law_columns" "_law_columns" s_l_columns (f 4) (fd 4)
  b_l_columns : Binds K (fd 4) ["_law_bag_here", "_law_many", "_law_modulus", "_law_tall"] []
  g_l_columns : mg "_law_columns" = some (.ref (f 4))
  F_l_added : Fun K "_law_added" "_law_added" s_l_added (f 5) (fd 5)
  b_l_added : Binds K (fd 5) ["_law_one", "_law_column", "_law_factor", "_law_modulus"] []
  g_l_added : mg "_law_added" = some (.ref (f 5))
  F_l_spread_out : Fun K "_law_spread_out" "_law_spread_out" s_l_spread_out (f 6) (fd 6)
  b_l_spread_out : Binds K (fd 6) ["_law_space", "_law_column", "_law_modulus"] []
  g_l_spread_out : mg "_law_spread_out" = some (.ref (f 6))
  F_l_column_ranks : Fun K "_law_column_ranks" "_law_column_ranks" s_l_column_ranks (f 7) (fd 7)
  b_l_column_ranks : Binds K (fd 7) ["_law_columns_here", "_law_modulus", "_law_tall"] []
  g_l_column_ranks : mg "_law_column_ranks" = some (.ref (f 7))
  F_l_world : Fun K "_law_world" "_law_world" s_l_world (f 8) (fd 8)
  b_l_world : Binds K (fd 8) ["_law_bag_here", "_law_names_here", "_law_hidden"] []
  g_l_world : mg "_law_world" = some (.ref (f 8))
  F_l_is_count : Fun K "_law_is_count" "_law_is_count" s_l_is_count (f 9) (fd 9)
  b_l_is_count : Binds K (fd 9) ["_law_thing"] []
  g_l_is_count : mg "_law_is_count" = some (.ref (f 9))
  F_l_counts : Fun K "_law_counts" "_law_counts" s_l_counts (f 10) (fd 10)
  b_l_counts : Binds K (fd 10) ["_law_size"] []
  g_l_counts : mg "_law_counts" = some (.ref (f 10))
  F_l_breaks : Fun K "_law_breaks" "_law_breaks" s_l_breaks (f 11) (fd 11)
  b_l_breaks : Binds K (fd 11) ["_law_cells", "_law_top"] []
  g_l_breaks : mg "_law_breaks" = some (.ref (f 11))
  F_l_field : Fun K "_law_field" "_law_field" s_l_field (f 12) (fd 12)
  b_l_field : Binds K (fd 12) ["_law_e"] []
  g_l_field : mg "_law_field" = some (.ref (f 12))
  F_InvalidName_init : Fun K "__init__" "InvalidName.__init__" s_InvalidName_init (f 13) (fd 13)
  b_InvalidName_init : Binds K (fd 13) ["self", "value"] []
  F_is_word : Fun K "_is_word" "_is_word" s_is_word (f 14) (fd 14)
  b_is_word : Binds K (fd 14) ["value", "most"] []
  g_is_word : mg "_is_word" = some (.ref (f 14))
  F_is_name : Fun K "is_name" "is_name" s_is_name (f 15) (fd 15)
  b_is_name : Binds K (fd 15) ["value"] []
  g_is_name : mg "is_name" = some (.ref (f 15))
  F_DuplicateName_init : Fun K "__init__" "DuplicateName.__init__" s_DuplicateName_init (f 16) (fd 16)
  b_DuplicateName_init : Binds K (fd 16) ["self", "name"] []
  F_TooMany_init : Fun K "__init__" "TooMany.__init__" s_TooMany_init (f 17) (fd 17)
  b_TooMany_init : Binds K (fd 17) ["self", "subject", "most"] []
  F_checked_names : Fun K "checked_names" "checked_names" s_checked_names (f 18) (fd 18)
  b_checked_names : Binds K (fd 18) ["names", "most"] []
  g_checked_names : mg "checked_names" = some (.ref (f 18))
  F_is_number : Fun K "is_number" "is_number" s_is_number (f 19) (fd 19)
  b_is_number : Binds K (fd 19) ["value", "least", "most"] []
  g_is_number : mg "is_number" = some (.ref (f 19))
  F_InvalidNumber_init : Fun K "__init__" "InvalidNumber.__init__" s_InvalidNumber_init (f 20) (fd 20)
  b_InvalidNumber_init : Binds K (fd 20) ["self", "value"] []
  F_InvalidTable_init : Fun K "__init__" "InvalidTable.__init__" s_InvalidTable_init (f 21) (fd 21)
  b_InvalidTable_init : Binds K (fd 21) ["self", "at"] []
  F_single_bits : Fun K "single_bits" "single_bits" s_single_bits (f 22) (fd 22)
  b_single_bits : Binds K (fd 22) ["index"] []
  g_single_bits : mg "single_bits" = some (.ref (f 22))
  F_fits : Fun K "_fits" "_fits" s_fits (f 23) (fd 23)
  b_fits : Binds K (fd 23) ["table", "at"] []
  g_fits : mg "_fits" = some (.ref (f 23))
  F_check_table : Fun K "_check_table" "_check_table" s_check_table (f 24) (fd 24)
  b_check_table : Binds K (fd 24) ["table", "count"] []
  g_check_table : mg "_check_table" = some (.ref (f 24))
  F_Structure_init : FunD K "__init__" "Structure.__init__" (defArgs s_Structure_init) (defBody s_Structure_init) (defScope s_Structure_init) [] [("unseen", V.int 0)] (f 25) (fd 25)
  F_Structure_table : Fun K "table" "Structure.table" s_Structure_table (f 26) (fd 26)
  b_Structure_table : Binds K (fd 26) ["self"] []
  F_l_same : Fun K "_law_same" "_law_same" s_l_same (f 27) (fd 27)
  b_l_same : Binds K (fd 27) ["_law_found", "_law_due"] []
  g_l_same : mg "_law_same" = some (.ref (f 27))
  F_l_why : Fun K "_law_why" "_law_why" s_l_why (f 28) (fd 28)
  b_l_why : Binds K (fd 28) ["_law_ask"] []
  g_l_why : mg "_law_why" = some (.ref (f 28))
  F_law : Fun K "law" "law" s_law (f 29) (fd 29)
  b_law : Binds K (fd 29) ["_law_script"] []
  g_law : mg "law" = some (.ref (f 29))
  kc_Structure_init_3_0 : KBn K (fd 25) ["self", "names", "table", "unseen"] 3 ["unseen"] (fun us ws => us ++ pick [0] ws) (fun us zs => us ++ pick [0] zs)
  xc_all : XClss K (CSL C) XFS
  m_RestError : mg "RestError" = some (.ref (C 20))
  m_Missing : mg "Missing" = some (.ref (C 21))
  m_NothingLeft : mg "NothingLeft" = some (.ref (C 29))
  ex_all : ∀ Z ∈ CSL C, PySem.W.exmAny K (.ref Z) [.ref (C 20), .ref (C 21), .ref (C 29)] = some true
  ox_InvalidName : OexG K (C 22)
  oi_InvalidName : PySem.W.findIn K (.ref (C 22)) "__init__" = some (some (.ref (f 13)))
  ot_InvalidName : PySem.W.typeIn K (.ref (f 13)) = some (.type "function")
  nf_InvalidName_value : PySem.W.findIn K (.ref (C 22)) "value" = some none
  nf_InvalidName_code : PySem.W.findIn K (.ref (C 22)) "code" = some none
  m_InvalidName : mg "InvalidName" = some (.ref (C 22))
  ox_DuplicateName : OexG K (C 26)
  oi_DuplicateName : PySem.W.findIn K (.ref (C 26)) "__init__" = some (some (.ref (f 16)))
  ot_DuplicateName : PySem.W.typeIn K (.ref (f 16)) = some (.type "function")
  nf_DuplicateName_name : PySem.W.findIn K (.ref (C 26)) "name" = some none
  nf_DuplicateName_code : PySem.W.findIn K (.ref (C 26)) "code" = some none
  m_DuplicateName : mg "DuplicateName" = some (.ref (C 26))
  ox_TooMany : OexG K (C 27)
  oi_TooMany : PySem.W.findIn K (.ref (C 27)) "__init__" = some (some (.ref (f 17)))
  ot_TooMany : PySem.W.typeIn K (.ref (f 17)) = some (.type "function")
  nf_TooMany_subject : PySem.W.findIn K (.ref (C 27)) "subject" = some none
  nf_TooMany_most : PySem.W.findIn K (.ref (C 27)) "most" = some none
  nf_TooMany_code : PySem.W.findIn K (.ref (C 27)) "code" = some none
  m_TooMany : mg "TooMany" = some (.ref (C 27))
  k_MOST_NAMES : ∃ u, mg "MOST_NAMES" = some u ∧ RelV (V.int 6) u
  k_MOST_UNSEEN : ∃ u, mg "MOST_UNSEEN" = some u ∧ RelV (V.int 9) u
  ox_InvalidNumber : OexG K (C 23)
  oi_InvalidNumber : PySem.W.findIn K (.ref (C 23)) "__init__" = some (some (.ref (f 20)))
  ot_InvalidNumber : PySem.W.typeIn K (.ref (f 20)) = some (.type "function")
  nf_InvalidNumber_value : PySem.W.findIn K (.ref (C 23)) "value" = some none
  nf_InvalidNumber_code : PySem.W.findIn K (.ref (C 23)) "code" = some none
  m_InvalidNumber : mg "InvalidNumber" = some (.ref (C 23))
  v_Structure_MOST : ∃ mc u, ClX.CRead K (C 0) mc ∧ ClX.CVal K (C 0) mc "MOST" (V.int 12) u
  m_Structure : mg "Structure" = some (.ref (C 0))
  ox_InvalidTable : OexG K (C 24)
  oi_InvalidTable : PySem.W.findIn K (.ref (C 24)) "__init__" = some (some (.ref (f 21)))
  ot_InvalidTable : PySem.W.typeIn K (.ref (f 21)) = some (.type "function")
  nf_InvalidTable_at : PySem.W.findIn K (.ref (C 24)) "at" = some none
  nf_InvalidTable_code : PySem.W.findIn K (.ref (C 24)) "code" = some none
  m_InvalidTable : mg "InvalidTable" = some (.ref (C 24))
  n_Structure_names : NoAttr K (C 0) "_names"
  c_Structure : Cls K (C 0)
  n_Structure_unseen : NoAttr K (C 0) "_unseen"
  n_Structure_table : NoAttr K (C 0) "_table"
  mk_Structure : Mk K (C 0) (f 25)
  me_Structure_table : Meth K (C 0) "table" (f 26)
  z_all : mg "all" = none
  z_bool : mg "bool" = none
  z_enumerate : mg "enumerate" = none
  z_int : mg "int" = none
  z_isinstance : mg "isinstance" = none
  z_len : mg "len" = none
  z_list : mg "list" = none
  z_range : mg "range" = none
  z_sorted : mg "sorted" = none
  z_str : mg "str" = none
  z_tuple : mg "tuple" = none
  z_zip : mg "zip" = none
section
variable {P : Program} {w : World} {K : PySem.W.Frag} {mg : Str → Option Value} {base : Heap} {C : Nat → Addr} {f : Nat → Addr} {fd : Nat → FuncData}
theorem ok_l_bag (T : Txt K mg C f fd) : FnOk P w K mg base (L2.CX P w) 1 (f 0) (fd 0) ["_law_script"] (spF K F_l_bag) := ok_bag 10038 T.F_l_bag sc_l_bag T.z_list T.z_len rfl rfl rfl rfl
theorem ok_l_pull (T : Txt K mg C f fd) : FnOk P w K mg base (L2.CX P w) 1 (f 1) (fd 1) ["_law_bag_here", "_law_many"] (spF K F_l_pull) :=
  fn_den d_l_pull T.F_l_pull sc_l_pull gd_len gd_run fun cdv A outer s H E hr hp ho =>
    (dss_cons (ds_if (dt_w (dw_and (dt_cmp (or_eq hr.units) (de_bagIx (i := 0) 2) de_int (nomark _)) (dw_and1 (dt_cmp or_lt (de_bagIx (i := 0) 1) (de_blt cr_len T.z_len PySem.boot_len (da_cons (de_bagIx (i := 0) 0) da_nil)) (nomark _))))) (dss_cons (ds_set (i := 3) sc_l_pull.nd rfl (by first | exact Or.inl rfl | exact Or.inr rfl) (de_ix (de_bagIx (i := 0) 0) (de_bagIx (i := 0) 1)))
      (dss_cons (ds_bagSet (i := 0) 1 (de_bin or_add (de_bagIx (i := 0) 1) de_int))
      (dss_one (ds_if (dt_cmp or_ge (de_var 3) (de_bin or_pow de_int de_int) (nomark _)) (dss_one (ds_bagSet (i := 0) 2 (de_var 3))) (dss_one (ds_bagSet (i := 0) 3 (de_bin or_mod (de_ty cr_int T.z_int (by decide +kernel) (da_cons (de_bin or_add (de_bin or_add (de_bin or_mul (de_bagIx (i := 0) 3) de_int) (de_bin or_mul (de_bin or_mod (de_ty cr_int T.z_int (by decide +kernel) (da_cons (de_var 3) da_nil)) de_int) de_int)) de_int) da_nil)) de_int))))))) dss_nil)
      (dss_cons (ds_if (dt_cmp or_gt (de_bagIx (i := 0) 2) de_int (nomark _)) (dss_cons (ds_set (i := 4) sc_l_pull.nd rfl (by first | exact Or.inl rfl | exact Or.inr rfl) (de_bin or_mod (de_ty cr_int T.z_int (by decide +kernel) (da_cons (de_bagIx (i := 0) 2) da_nil)) (de_var 1)))
      (dss_cons (ds_bagSet (i := 0) 2 (de_bin or_fdiv (de_bagIx (i := 0) 2) (de_var 1)))
      (dss_one (ds_ret (de_var 4))))) dss_nil)
      (dss_cons (ds_bagSet (i := 0) 4 (de_bin or_add (de_bagIx (i := 0) 4) de_int))
      (dss_cons (ds_set (i := 2) sc_l_pull.nd rfl (by first | exact Or.inl rfl | exact Or.inr rfl) (de_bagIx (i := 0) 3))
      (dss_cons (ds_bagSet (i := 0) 3 (de_bin or_mod (de_ty cr_int T.z_int (by decide +kernel) (da_cons (de_bin or_add (de_bin or_add (de_bin or_add (de_bin or_mul (de_bin or_mul (de_var 2) (de_var 2)) de_int) (de_bin or_mul (de_var 2) de_int)) (de_bin or_mul (de_bagIx (i := 0) 4) de_int)) de_int) da_nil)) de_int))
      (dss_one (ds_ret (de_bin or_mod (de_ty cr_int T.z_int (by decide +kernel) (da_cons (de_bin or_add (de_bin or_fdiv (de_bagIx (i := 0) 3) de_int) (de_bin or_mul (de_bin or_mod (de_ty cr_int T.z_int (by decide +kernel) (da_cons (de_bagIx (i := 0) 3) da_nil)) de_int) de_int)) da_nil)) (de_var 1)))))))))
theorem ok_l_any (T : Txt K mg C f fd) : FnOk P w K mg base (L2.CX P w) 2 (f 2) (fd 2) ["_law_bag_here", "_law_things"] (spF K F_l_any) :=
  fn_den d_l_any T.F_l_any sc_l_any gd_len gd_run fun cdv A outer s H E hr hp ho =>
    (dss_one (ds_ret (de_ix (de_var 1) (de_call' (ok_l_pull T) (hr.mono (by decide)) T.g_l_pull T.F_l_pull.kp T.b_l_pull hp (da_cons (de_var 0) (da_cons (de_blt cr_len T.z_len PySem.boot_len (da_cons (de_var 1) da_nil)) da_nil))))))
theorem ok_l_names (T : Txt K mg C f fd) : FnOk P w K mg base (L2.CX P w) 3 (f 3) (fd 3) ["_law_bag_here", "_law_many"] (spF K F_l_names) :=
  fn_den d_l_names T.F_l_names sc_l_names gd_len gd_run fun cdv A outer s H E hr hp ho =>
    (dss_cons (ds_set (i := 2) sc_l_names.nd rfl (by first | exact Or.inl rfl | exact Or.inr rfl) de_str)
      (dss_cons (ds_set (i := 3) sc_l_names.nd rfl (by first | exact Or.inl rfl | exact Or.inr rfl) (de_join de_str (de_lc (.one 6) [("_law_k", 6)] rfl sc_l_names.nd (by decide) (di_range1 T.z_range (da_cons (de_call' (ok_l_pull T) (hr.mono (by decide)) T.g_l_pull T.F_l_pull.kp T.b_l_pull hp (da_cons (de_var 0) (da_cons de_int da_nil))) da_nil)) (blkOk_by (N := N_l_names) (sc := defScope s_l_names) (by decide +kernel)) (fun _ _ _ _ _ => (pg_name (i := 6) sc_l_names.nd rfl (by first | exact Or.inl rfl | exact Or.inr rfl))) (fun _ _ _ _ _ => dts_nil) (fun _ _ _ _ _ => (de_call' (ok_l_any T) (hr.mono (by decide)) T.g_l_any T.F_l_any.kp T.b_l_any passL (da_cons (de_var 0) (da_cons (de_var 2) da_nil))))) (hstr := fun _ _ _ _ h => by cases h; exact ⟨_, rfl⟩)))
      (dss_cons (ds_asg (.tup [4, 5]) (de_tup (da_cons (de_call' (ok_l_pull T) (hr.mono (by decide)) T.g_l_pull T.F_l_pull.kp T.b_l_pull hp (da_cons (de_var 0) (da_cons (de_bin or_add (de_blt cr_len T.z_len PySem.boot_len (da_cons (de_var 3) da_nil)) de_int) da_nil))) (da_cons (de_call' (ok_l_pull T) (hr.mono (by decide)) T.g_l_pull T.F_l_pull.kp T.b_l_pull hp (da_cons (de_var 0) (da_cons de_int da_nil))) da_nil))) (pg_tup rfl (pgs_cons (pg_name (i := 4) sc_l_names.nd rfl (by first | exact Or.inl rfl | exact Or.inr rfl)) (pgs_cons (pg_name (i := 5) sc_l_names.nd rfl (by first | exact Or.inl rfl | exact Or.inr rfl)) pgs_nil))))
      (dss_one (ds_ret (de_lc (.one 6) [("_law_k", 6)] rfl sc_l_names.nd (by decide) (di_range1 T.z_range (da_cons (de_var 1) da_nil)) (blkOk_by (N := N_l_names) (sc := defScope s_l_names) (by decide +kernel)) (fun _ _ _ _ _ => (pg_name (i := 6) sc_l_names.nd rfl (by first | exact Or.inl rfl | exact Or.inr rfl))) (fun _ _ _ _ _ => dts_nil) (fun _ _ _ _ _ => (de_bin or_add (de_bin or_add (de_sl (de_var 3) do_no (do_so (de_var 4))) (de_ix (de_var 2) (de_bin or_mod (de_ty cr_int T.z_int (by decide +kernel) (da_cons (de_bin or_add (de_var 5) (de_bin or_mul de_int (de_var 6))) da_nil)) de_int))) (de_sl (de_var 3) (do_so (de_var 4)) do_no)))))))))
theorem ok_l_columns (T : Txt K mg C f fd) : FnOk P w K mg base (L2.CX P w) 2 (f 4) (fd 4) ["_law_bag_here", "_law_many", "_law_modulus", "_law_tall"] (spF K F_l_columns) :=
  fn_den d_l_columns T.F_l_columns sc_l_columns gd_len gd_run fun cdv A outer s H E hr hp ho =>
    (dss_one (ds_ret (de_lc (.one 4) [("_law_j", 4)] rfl sc_l_columns.nd (by decide) (di_range1 T.z_range (da_cons (de_var 1) da_nil)) (blkOk_by (N := N_l_columns) (sc := defScope s_l_columns) (by decide +kernel)) (fun _ _ _ _ _ => (pg_name (i := 4) sc_l_columns.nd rfl (by first | exact Or.inl rfl | exact Or.inr rfl))) (fun _ _ _ _ _ => dts_nil) (fun _ _ _ _ _ => (de_ty cr_tuple T.z_tuple (by decide +kernel) (da_cons (de_lc (.one 5) [("_law_k", 5)] rfl sc_l_columns.nd (by decide) (di_range1 T.z_range (da_cons (de_var 3) da_nil)) (blkOk_by (by rfl)) (fun _ _ _ _ _ => (pg_name (i := 5) sc_l_columns.nd rfl (by first | exact Or.inl rfl | exact Or.inr rfl))) (fun _ _ _ _ _ => dts_nil) (fun _ _ _ _ _ => (de_call' (ok_l_pull T) (hr.mono (by decide)) T.g_l_pull T.F_l_pull.kp T.b_l_pull passL (da_cons (de_var 0) (da_cons (de_var 2) da_nil))))) da_nil))))))
theorem ok_l_added (T : Txt K mg C f fd) : FnOk P w K mg base (L2.CX P w) 1 (f 5) (fd 5) ["_law_one", "_law_column", "_law_factor", "_law_modulus"] (spF K F_l_added) :=
  fn_den d_l_added T.F_l_added sc_l_added gd_len gd_run fun cdv A outer s H E hr hp ho =>
    (dss_one (ds_ret (de_ty cr_tuple T.z_tuple (by decide +kernel) (da_cons (de_lc (.tup [4, 5]) [("_law_a", 4), ("_law_b", 5)] rfl sc_l_added.nd (by decide) (di_zip T.z_zip (da_cons (de_var 0) (da_cons (de_var 1) da_nil))) (blkOk_by (N := N_l_added) (sc := defScope s_l_added) (by decide +kernel)) (fun _ _ _ _ _ => (pg_tup rfl (pgs_cons (pg_name (i := 4) sc_l_added.nd rfl (by first | exact Or.inl rfl | exact Or.inr rfl)) (pgs_cons (pg_name (i := 5) sc_l_added.nd rfl (by first | exact Or.inl rfl | exact Or.inr rfl)) pgs_nil)))) (fun _ _ _ _ _ => dts_nil) (fun _ _ _ _ _ => (de_bin or_mod (de_ty cr_int T.z_int (by decide +kernel) (da_cons (de_bin or_add (de_var 4) (de_bin or_mul (de_var 2) (de_var 5))) da_nil)) (de_var 3)))) da_nil))))
theorem ok_l_spread_out (T : Txt K mg C f fd) : FnOk P w K mg base (L2.CX P w) 2 (f 6) (fd 6) ["_law_space", "_law_column", "_law_modulus"] (spF K F_l_spread_out) :=
  fn_den d_l_spread_out T.F_l_spread_out sc_l_spread_out gd_len gd_run fun cdv A outer s H E hr hp ho =>
    (dss_cons (ds_set (i := 3) sc_l_spread_out.nd rfl (by first | exact Or.inl rfl | exact Or.inr rfl) (de_lst da_nil))
      (dss_cons (ds_for (.one 4) ho rfl (di_range1 T.z_range (da_cons (de_var 2) da_nil)) (pg_name (i := 4) sc_l_spread_out.nd rfl (by first | exact Or.inl rfl | exact Or.inr rfl)) (dss_one (ds_set (i := 3) sc_l_spread_out.nd rfl (by first | exact Or.inl rfl | exact Or.inr rfl) (de_bin or_add (de_var 3) (de_lc (.one 5) [("_law_one", 5)] rfl sc_l_spread_out.nd (by decide) (di_seq (de_var 0)) (blkOk_by (N := N_l_spread_out) (sc := defScope s_l_spread_out) (by decide +kernel)) (fun _ _ _ _ _ => (pg_name (i := 5) sc_l_spread_out.nd rfl (by first | exact Or.inl rfl | exact Or.inr rfl))) (fun _ _ _ _ _ => dts_nil) (fun _ _ _ _ _ => (de_call' (ok_l_added T) (hr.mono (by decide)) T.g_l_added T.F_l_added.kp T.b_l_added passL (da_cons (de_var 5) (da_cons (de_var 1) (da_cons (de_var 4) (da_cons (de_var 2) da_nil)))))))))))
      (dss_one (ds_ret (de_var 3)))))
theorem ok_l_column_ranks (T : Txt K mg C f fd) : FnOk P w K mg base (L2.CX P w) 3 (f 7) (fd 7) ["_law_columns_here", "_law_modulus", "_law_tall"] (spF K F_l_column_ranks) :=
  fn_den d_l_column_ranks T.F_l_column_ranks sc_l_column_ranks gd_len gd_run fun cdv A outer s H E hr hp ho =>
    (dss_cons (ds_set (i := 3) sc_l_column_ranks.nd rfl (by first | exact Or.inl rfl | exact Or.inr rfl) (de_lst (da_cons (de_tup (da_cons de_int (da_cons (de_lst (da_cons (de_ty cr_tuple T.z_tuple (by decide +kernel) (da_cons (de_bin or_mul (de_lst (da_cons de_int da_nil)) (de_var 2)) da_nil)) da_nil)) da_nil))) da_nil)))
      (dss_cons (ds_for (.one 4) ho rfl (di_seq (de_var 0)) (pg_name (i := 4) sc_l_column_ranks.nd rfl (by first | exact Or.inl rfl | exact Or.inr rfl)) (dss_cons (ds_set (i := 5) sc_l_column_ranks.nd rfl (by first | exact Or.inl rfl | exact Or.inr rfl) (de_newl da_nil))
      (dss_cons (ds_for (.tup [6, 7]) ho rfl (di_seq (de_var 3)) (pg_tup rfl (pgs_cons (pg_name (i := 6) sc_l_column_ranks.nd rfl (by first | exact Or.inl rfl | exact Or.inr rfl)) (pgs_cons (pg_name (i := 7) sc_l_column_ranks.nd rfl (by first | exact Or.inl rfl | exact Or.inr rfl)) pgs_nil))) (dss_one (ds_expr (de_app (de_var 5) (de_if (dt_cmp (or_inDeep (units65 hr)) (de_var 4) (de_var 7) (by rfl)) (de_tup (da_cons (de_var 6) (da_cons (de_var 7) da_nil))) (de_tup (da_cons (de_bin or_add (de_var 6) de_int) (da_cons (de_call' (ok_l_spread_out T) (hr.mono (by decide)) T.g_l_spread_out T.F_l_spread_out.kp T.b_l_spread_out hp (da_cons (de_var 7) (da_cons (de_var 4) (da_cons (de_var 1) da_nil)))) da_nil))))))))
      (dss_one (ds_set (i := 3) sc_l_column_ranks.nd rfl (by first | exact Or.inl rfl | exact Or.inr rfl) (de_cat (de_var 3) (de_var 5)))))))
      (dss_one (ds_ret (de_lc (.one 8) [("_law_pair", 8)] rfl sc_l_column_ranks.nd (by decide) (di_seq (de_var 3)) (blkOk_by (N := N_l_column_ranks) (sc := defScope s_l_column_ranks) (by decide +kernel)) (fun _ _ _ _ _ => (pg_name (i := 8) sc_l_column_ranks.nd rfl (by first | exact Or.inl rfl | exact Or.inr rfl))) (fun _ _ _ _ _ => dts_nil) (fun _ _ _ _ _ => (de_ix (de_var 8) de_int)))))))
theorem ok_l_world (T : Txt K mg C f fd) : FnOk P w K mg base (L2.CX P w) 4 (f 8) (fd 8) ["_law_bag_here", "_law_names_here", "_law_hidden"] (spF K F_l_world) :=
  fn_den d_l_world T.F_l_world sc_l_world gd_len gd_run fun cdv A outer s H E hr hp ho =>
    (dss_cons (ds_par (i := 3) (j := 4) sc_l_world.nd (da_cons (de_bin or_add de_int (de_call' (ok_l_pull T) (hr.mono (by decide)) T.g_l_pull T.F_l_pull.kp T.b_l_pull hp (da_cons (de_var 0) (da_cons de_int da_nil)))) (da_cons (de_bin or_add de_int (de_call' (ok_l_pull T) (hr.mono (by decide)) T.g_l_pull T.F_l_pull.kp T.b_l_pull hp (da_cons (de_var 0) (da_cons de_int da_nil)))) da_nil)))
      (dss_cons (ds_set (i := 5) sc_l_world.nd rfl (by first | exact Or.inl rfl | exact Or.inr rfl) (de_call' (ok_l_columns T) (hr.mono (by decide)) T.g_l_columns T.F_l_columns.kp T.b_l_columns hp (da_cons (de_var 0) (da_cons (de_bin or_add (de_blt cr_len T.z_len PySem.boot_len (da_cons (de_var 1) da_nil)) (de_var 2)) (da_cons (de_var 3) (da_cons (de_var 4) da_nil))))))
      (dss_one (ds_ret (de_tup (da_cons (de_blt cr_sortD T.z_sorted boot_sorted (da_cons (de_var 1) da_nil)) (da_cons (de_var 2) (da_cons (de_call' (ok_l_column_ranks T) (hr.mono (by decide)) T.g_l_column_ranks T.F_l_column_ranks.kp T.b_l_column_ranks hp (da_cons (de_var 5) (da_cons (de_var 3) (da_cons (de_var 4) da_nil)))) da_nil))))))))
theorem ok_l_is_count (T : Txt K mg C f fd) : FnOk P w K mg base (L2.CX P w) 1 (f 9) (fd 9) ["_law_thing"] (spF K F_l_is_count) :=
  fn_den d_l_is_count T.F_l_is_count sc_l_is_count gd_len gd_run fun cdv A outer s H E hr hp ho =>
    (dss_one (ds_ret (de_and (de_isi .int T.z_isinstance T.z_int (by decide +kernel) (de_var 0)) (de_one (de_not (de_isi .bl T.z_isinstance T.z_bool (by decide +kernel) (de_var 0)))))))
theorem ok_l_counts (T : Txt K mg C f fd) : FnOk P w K mg base (L2.CX P w) 1 (f 10) (fd 10) ["_law_size"] (spF K F_l_counts) :=
  fn_den d_l_counts T.F_l_counts sc_l_counts gd_len gd_run fun cdv A outer s H E hr hp ho =>
    (dss_cons (ds_set (i := 1) sc_l_counts.nd rfl (by first | exact Or.inl rfl | exact Or.inr rfl) (de_lst (da_cons de_int da_nil)))
      (dss_cons (ds_for (.one 2) ho rfl (di_range1 T.z_range (da_cons (de_var 0) da_nil)) (pg_name (i := 2) sc_l_counts.nd rfl (by first | exact Or.inl rfl | exact Or.inr rfl)) (dss_one (ds_set (i := 1) sc_l_counts.nd rfl (by first | exact Or.inl rfl | exact Or.inr rfl) (de_bin or_add (de_var 1) (de_lc (.one 3) [("_law_count", 3)] rfl sc_l_counts.nd (by decide) (di_seq (de_var 1)) (blkOk_by (N := N_l_counts) (sc := defScope s_l_counts) (by decide +kernel)) (fun _ _ _ _ _ => (pg_name (i := 3) sc_l_counts.nd rfl (by first | exact Or.inl rfl | exact Or.inr rfl))) (fun _ _ _ _ _ => dts_nil) (fun _ _ _ _ _ => (de_bin or_add (de_var 3) de_int)))))))
      (dss_one (ds_ret (de_var 1)))))
theorem ok_l_breaks (T : Txt K mg C f fd) : FnOk P w K mg base (L2.CX P w) 2 (f 11) (fd 11) ["_law_cells", "_law_top"] (spF K F_l_breaks) :=
  fn_den d_l_breaks T.F_l_breaks sc_l_breaks gd_len gd_run fun cdv A outer s H E hr hp ho =>
    (dss_cons (ds_setLc (i := 2) (.one 6) [("_law_k", 6)] rfl sc_l_breaks.nd (by decide) (di_range1 T.z_range (da_cons (de_bin or_add (de_var 1) de_int) da_nil)) (blkOk_by (N := N_l_breaks) (sc := defScope s_l_breaks) (by decide +kernel)) (fun _ _ _ _ _ => (pg_name (i := 6) sc_l_breaks.nd rfl (by first | exact Or.inl rfl | exact Or.inr rfl))) (fun _ _ _ _ _ => (pts_one (dt_cmp (or_eq hr.units) (de_bin or_and (de_var 6) (de_var 1)) (de_var 6) (nomark _)))) (fun _ _ _ _ _ => (de_var 6)))
      (dss_cons (ds_if (dt_w (dw_or (dt_not (dt_tru (de_blt (Dn.cr_all rfl) T.z_all (by decide +kernel) (da_cons (de_lc (.one 6) [("_law_k", 6)] rfl sc_l_breaks.nd (by decide) (di_seq (de_var 2)) (blkOk_by (N := N_l_breaks) (sc := defScope s_l_breaks) (by decide +kernel)) (fun _ _ _ _ _ => (pg_name (i := 6) sc_l_breaks.nd rfl (by first | exact Or.inl rfl | exact Or.inr rfl))) (fun _ _ _ _ _ => dts_nil) (fun _ _ _ _ _ => (de_call' (ok_l_is_count T) (hr.mono (by decide)) T.g_l_is_count T.F_l_is_count.kp T.b_l_is_count passL (da_cons (de_ix (de_var 0) (de_var 6)) da_nil)))) da_nil)))) (dw_or1 (dt_cmp (or_ne hr.units) (de_ix (de_var 0) de_int) de_int (nomark _))))) (dss_one (ds_ret de_bl)) dss_nil)
      (dss_cons (ds_set (i := 3) sc_l_breaks.nd rfl (by first | exact Or.inl rfl | exact Or.inr rfl) (de_call' (ok_l_counts T) (hr.mono (by decide)) T.g_l_counts T.F_l_counts.kp T.b_l_counts hp (da_cons de_int da_nil)))
      (dss_cons (ds_for (.one 4) ho rfl (di_seq (de_var 2)) (pg_name (i := 4) sc_l_breaks.nd rfl (by first | exact Or.inl rfl | exact Or.inr rfl)) (dss_one (ds_for (.one 5) ho rfl (di_seq (de_var 2)) (pg_name (i := 5) sc_l_breaks.nd rfl (by first | exact Or.inl rfl | exact Or.inr rfl)) (dss_cons (ds_if (dt_cmp or_lt (de_bin or_add (de_ix (de_var 0) (de_var 4)) (de_ix (de_var 0) (de_var 5))) (de_bin or_add (de_ix (de_var 0) (de_bin or_and (de_var 4) (de_var 5))) (de_ix (de_var 0) (de_bin or_or (de_var 4) (de_var 5)))) (nomark _)) (dss_one (ds_ret de_bl)) dss_nil)
      (dss_one (ds_if (dt_w (dw_and (dt_cmp (or_eq hr.units) (de_bin or_and (de_var 4) (de_var 5)) (de_var 5) (nomark _)) (dw_and (dt_cmp (or_eq hr.units) (de_ix (de_var 3) (de_bin or_sub (de_var 4) (de_var 5))) de_int (nomark _)) (dw_and1 (dt_not (dt_ch or_le or_le de_int (de_bin or_sub (de_ix (de_var 0) (de_var 4)) (de_ix (de_var 0) (de_var 5))) de_int)))))) (dss_one (ds_ret de_bl)) dss_nil))))))
      (dss_one (ds_ret de_bl))))))
theorem ok_l_field (T : Txt K mg C f fd) : FnX P w K mg base (CSL C) (f 12) (fd 12) ["_law_e"] F_l_field :=
  fn_denX d_l_field T.F_l_field sc_l_field gd_run2 fun cdv A outer s H p dx hr px =>
    (dss_cons (ds_set (i := 1) sc_l_field.nd rfl (by first | exact Or.inl rfl | exact Or.inr rfl) (de_xfld List.mem_cons_self px T.xc_all (by decide) (de_var 0)))
      (dss_cons (ds_if (dt_cmp or_in (de_var 1) (de_tup (da_cons de_str (da_cons de_str (da_cons de_str (da_cons de_str da_nil))))) (by rfl)) (dss_one (ds_ret (de_tup (da_cons (de_xfld List.mem_cons_self px T.xc_all (by decide) (de_var 0)) da_nil)))) dss_nil)
      (dss_cons (ds_if (dt_cmp or_in (de_var 1) (de_tup (da_cons de_str (da_cons de_str (da_cons de_str (da_cons de_str da_nil))))) (by rfl)) (dss_one (ds_ret (de_tup (da_cons (de_xfld List.mem_cons_self px T.xc_all (by decide) (de_var 0)) da_nil)))) dss_nil)
      (dss_cons (ds_if (dt_cmp or_in (de_var 1) (de_tup (da_cons de_str (da_cons de_str (da_cons de_str da_nil)))) (by rfl)) (dss_one (ds_ret (de_tup (da_cons (de_xfld List.mem_cons_self px T.xc_all (by decide) (de_var 0)) da_nil)))) dss_nil)
      (dss_cons (ds_if (dt_cmp or_in (de_var 1) (de_tup (da_cons de_str (da_cons de_str da_nil))) (by rfl)) (dss_one (ds_ret (de_tup (da_cons (de_if (dt_cmp (or_eq hr.units) (de_var 1) de_str (nomark _)) (de_xfld List.mem_cons_self px T.xc_all (by decide) (de_var 0)) (de_xfld List.mem_cons_self px T.xc_all (by decide) (de_var 0))) da_nil)))) dss_nil)
      (dss_cons (ds_if (dt_cmp or_in (de_var 1) (de_tup (da_cons de_str (da_cons de_str da_nil))) (by rfl)) (dss_one (ds_ret (de_tup (da_cons (de_xfld List.mem_cons_self px T.xc_all (by decide) (de_var 0)) da_nil)))) dss_nil)
      (dss_cons (ds_if (dt_cmp or_in (de_var 1) (de_tup (da_cons de_str (da_cons de_str da_nil))) (by rfl)) (dss_one (ds_ret (de_tup (da_cons (de_xfld List.mem_cons_self px T.xc_all (by decide) (de_var 0)) da_nil)))) dss_nil)
      (dss_cons (ds_if (dt_cmp or_in (de_var 1) (de_tup (da_cons de_str (da_cons de_str da_nil))) (by rfl)) (dss_one (ds_ret (de_if (dt_cmp (or_eq hr.units) (de_var 1) de_str (nomark _)) (de_tup (da_cons (de_xfld List.mem_cons_self px T.xc_all (by decide) (de_var 0)) (da_cons (de_xfld List.mem_cons_self px T.xc_all (by decide) (de_var 0)) da_nil))) (de_tup (da_cons (de_xfld List.mem_cons_self px T.xc_all (by decide) (de_var 0)) (da_cons (de_xfld List.mem_cons_self px T.xc_all (by decide) (de_var 0)) da_nil)))))) dss_nil)
      (dss_cons (ds_if (dt_cmp or_in (de_var 1) (de_tup (da_cons de_str (da_cons de_str da_nil))) (by rfl)) (dss_one (ds_ret (de_tup (da_cons (de_if (dt_cmp (or_eq hr.units) (de_var 1) de_str (nomark _)) (de_xfld List.mem_cons_self px T.xc_all (by decide) (de_var 0)) (de_xfld List.mem_cons_self px T.xc_all (by decide) (de_var 0))) da_nil)))) dss_nil)
      (dss_one (ds_ret (de_tup da_nil))))))))))))
theorem ok_InvalidName_init (T : Txt K mg C f fd) : FnOk P w K mg base (L2.CX P w) 1 (f 13) (fd 13) ["self", "value"] (spI (C 22) 1 ["value"] "InvalidName") :=
  fn_init1 T.F_InvalidName_init sc_InvalidName_init T.ox_InvalidName T.nf_InvalidName_value T.nf_InvalidName_code fun cdv A outer s H E => (pss_cons (ps_fld (pe_var (i := 0) rfl (.inl rfl)) (pe_var (i := 1) rfl (.inl rfl))) (pss_one (ps_fld (pe_var (i := 0) rfl (.inl rfl)) pe_str)))
theorem ok_is_word (T : Txt K mg C f fd) : FnOk P w K mg base (L2.CX P w) 1 (f 14) (fd 14) ["value", "most"] (spF K F_is_word) :=
  fn_den d_is_word T.F_is_word sc_is_word gd_len gd_run fun cdv A outer s H E hr hp ho =>
    (dss_one (ds_ret (de_and (de_isi .str T.z_isinstance T.z_str (by decide +kernel) (de_var 0)) (de_and (de_ch or_le or_le de_int (de_blt cr_len T.z_len PySem.boot_len (da_cons (de_var 0) da_nil)) (de_var 1)) (de_one (de_blt (Dn.cr_all rfl) T.z_all (by decide +kernel) (da_cons (de_lc (.one 2) [("sign", 2)] rfl sc_is_word.nd (by decide) (di_seq (de_var 0)) (blkOk_by (N := N_is_word) (sc := defScope s_is_word) (by decide +kernel)) (fun _ _ _ _ _ => (pg_name (i := 2) sc_is_word.nd rfl (by first | exact Or.inl rfl | exact Or.inr rfl))) (fun _ _ _ _ _ => dts_nil) (fun _ _ _ _ _ => (de_ch or_le or_le de_str (de_var 2) de_str))) da_nil)))))))
theorem ok_is_name (T : Txt K mg C f fd) : FnOk P w K mg base (L2.CX P w) 2 (f 15) (fd 15) ["value"] (spF K F_is_name) :=
  fn_den d_is_name T.F_is_name sc_is_name gd_len gd_run fun cdv A outer s H E hr hp ho =>
    (dss_one (ds_ret (de_call' (ok_is_word T) (hr.mono (by decide)) T.g_is_word T.F_is_word.kp T.b_is_word hp (da_cons (de_var 0) (da_cons de_int da_nil)))))
theorem ok_DuplicateName_init (T : Txt K mg C f fd) : FnOk P w K mg base (L2.CX P w) 1 (f 16) (fd 16) ["self", "name"] (spI (C 26) 1 ["name"] "DuplicateName") :=
  fn_init1 T.F_DuplicateName_init sc_DuplicateName_init T.ox_DuplicateName T.nf_DuplicateName_name T.nf_DuplicateName_code fun cdv A outer s H E => (pss_cons (ps_fld (pe_var (i := 0) rfl (.inl rfl)) (pe_var (i := 1) rfl (.inl rfl))) (pss_one (ps_fld (pe_var (i := 0) rfl (.inl rfl)) pe_str)))
theorem ok_TooMany_init (T : Txt K mg C f fd) : FnOk P w K mg base (L2.CX P w) 1 (f 17) (fd 17) ["self", "subject", "most"] (spI (C 27) 2 ["subject", "most"] "TooMany") :=
  fn_init2 T.F_TooMany_init sc_TooMany_init T.ox_TooMany T.nf_TooMany_subject T.nf_TooMany_most T.nf_TooMany_code fun cdv A outer s H E => (pss_cons (ps_fld (pe_var (i := 0) rfl (.inl rfl)) (pe_var (i := 1) rfl (.inl rfl))) (pss_cons (ps_fld (pe_var (i := 0) rfl (.inl rfl)) (pe_var (i := 2) rfl (.inl rfl))) (pss_one (ps_fld (pe_var (i := 0) rfl (.inl rfl)) pe_str))))
theorem ok_checked_names (T : Txt K mg C f fd) : FnOk P w K mg base (L2.CX P w) 3 (f 18) (fd 18) ["names", "most"] (spF K (F_checked_names C)) :=
  fn_den (d_checked_names C) T.F_checked_names sc_checked_names gd_len gd_run fun cdv A outer s H E hr hp ho =>
    (dss_cons (ds_if (dt_not (dt_tru (de_isi2 .lst .tup T.z_isinstance T.z_list T.z_tuple (by decide +kernel) (by decide +kernel) (de_var 0)))) (dss_one (ds_raise T.ox_InvalidName T.oi_InvalidName T.ot_InvalidName (ok_InvalidName_init T) (hr.mono (by decide)) T.b_InvalidName_init (passes_call (takes_of (E := E) rfl rfl rfl rfl) fun _ _ _ _ e => e.elim) rfl (takes_of rfl rfl rfl rfl) T.m_InvalidName (da_cons (de_var 0) da_nil))) dss_nil)
      (dss_cons (ds_for (.one 2) ho rfl (di_seq (de_thaw (de_var 0))) (pg_name (i := 2) sc_checked_names.nd rfl (by first | exact Or.inl rfl | exact Or.inr rfl)) (dss_one (ds_if (dt_not (dt_tru (de_call' (ok_is_name T) (hr.mono (by decide)) T.g_is_name T.F_is_name.kp T.b_is_name hp (da_cons (de_var 2) da_nil)))) (dss_one (ds_raise T.ox_InvalidName T.oi_InvalidName T.ot_InvalidName (ok_InvalidName_init T) (hr.mono (by decide)) T.b_InvalidName_init (passes_call (takes_of (E := E) rfl rfl rfl rfl) fun _ _ _ _ e => e.elim) rfl (takes_of rfl rfl rfl rfl) T.m_InvalidName (da_cons (de_var 2) da_nil))) dss_nil)))
      (dss_cons (ds_for (.tup [3, 2]) ho rfl (di_enum2 T.z_enumerate (da_cons (de_thaw (de_var 0)) da_nil)) (pg_tup rfl (pgs_cons (pg_name (i := 3) sc_checked_names.nd rfl (by first | exact Or.inl rfl | exact Or.inr rfl)) (pgs_cons (pg_name (i := 2) sc_checked_names.nd rfl (by first | exact Or.inl rfl | exact Or.inr rfl)) pgs_nil))) (dss_one (ds_if (dt_cmp or_in (de_var 2) (de_sl (de_thaw (de_var 0)) do_no (do_so (de_var 3))) (by rfl)) (dss_one (ds_raise T.ox_DuplicateName T.oi_DuplicateName T.ot_DuplicateName (ok_DuplicateName_init T) (hr.mono (by decide)) T.b_DuplicateName_init (passes_call (takes_of (E := E) rfl rfl rfl rfl) fun _ _ _ _ e => e.elim) rfl (takes_of rfl rfl rfl rfl) T.m_DuplicateName (da_cons (de_var 2) da_nil))) dss_nil)))
      (dss_cons (ds_if (dt_cmp or_gt (de_blt cr_len T.z_len PySem.boot_len (da_cons (de_thaw (de_var 0)) da_nil)) (de_var 1) (nomark _)) (dss_one (ds_raise T.ox_TooMany T.oi_TooMany T.ot_TooMany (ok_TooMany_init T) (hr.mono (by decide)) T.b_TooMany_init (passes_call (takes_of (E := E) rfl rfl rfl rfl) fun _ _ _ _ e => e.elim) rfl (takes_of rfl rfl rfl rfl) T.m_TooMany (da_cons de_str (da_cons (de_var 1) da_nil)))) dss_nil)
      (dss_one (ds_ret (de_ty cr_ftup T.z_tuple (by decide +kernel) (da_cons (de_blt cr_sort2 T.z_sorted boot_sorted (da_cons (de_thaw (de_var 0)) da_nil)) da_nil))))))))
theorem ok_is_number (T : Txt K mg C f fd) : FnOk P w K mg base (L2.CX P w) 1 (f 19) (fd 19) ["value", "least", "most"] (spF K F_is_number) :=
  fn_den d_is_number T.F_is_number sc_is_number gd_len gd_run fun cdv A outer s H E hr hp ho =>
    (dss_one (ds_ret (de_and (de_isi .int T.z_isinstance T.z_int (by decide +kernel) (de_var 0)) (de_and (de_not (de_isi .bl T.z_isinstance T.z_bool (by decide +kernel) (de_var 0))) (de_one (de_ch or_le or_le (de_var 1) (de_var 0) (de_var 2)))))))
theorem ok_InvalidNumber_init (T : Txt K mg C f fd) : FnOk P w K mg base (L2.CX P w) 1 (f 20) (fd 20) ["self", "value"] (spI (C 23) 1 ["value"] "InvalidNumber") :=
  fn_init1 T.F_InvalidNumber_init sc_InvalidNumber_init T.ox_InvalidNumber T.nf_InvalidNumber_value T.nf_InvalidNumber_code fun cdv A outer s H E => (pss_cons (ps_fld (pe_var (i := 0) rfl (.inl rfl)) (pe_var (i := 1) rfl (.inl rfl))) (pss_one (ps_fld (pe_var (i := 0) rfl (.inl rfl)) pe_str)))
theorem ok_InvalidTable_init (T : Txt K mg C f fd) : FnOk P w K mg base (L2.CX P w) 1 (f 21) (fd 21) ["self", "at"] (spI (C 24) 1 ["at"] "InvalidTable") :=
  fn_init1 T.F_InvalidTable_init sc_InvalidTable_init T.ox_InvalidTable T.nf_InvalidTable_at T.nf_InvalidTable_code fun cdv A outer s H E => (pss_cons (ps_fld (pe_var (i := 0) rfl (.inl rfl)) (pe_var (i := 1) rfl (.inl rfl))) (pss_one (ps_fld (pe_var (i := 0) rfl (.inl rfl)) pe_str)))
theorem ok_single_bits (T : Txt K mg C f fd) : FnOk P w K mg base (L2.CX P w) 1 (f 22) (fd 22) ["index"] (spF K F_single_bits) :=
  fn_den d_single_bits T.F_single_bits sc_single_bits gd_len gd_run fun cdv A outer s H E hr hp ho =>
    (dss_one (ds_ret (de_lc (.one 1) [("at", 1)] rfl sc_single_bits.nd (by decide) (di_range1 T.z_range (da_cons (de_bits (de_var 0)) da_nil)) (blkOk_by (N := N_single_bits) (sc := defScope s_single_bits) (by decide +kernel)) (fun _ _ _ _ _ => (pg_name (i := 1) sc_single_bits.nd rfl (by first | exact Or.inl rfl | exact Or.inr rfl))) (fun _ _ _ _ _ => (pts_one (dt_tru (de_bin or_and (de_bin or_shr (de_var 0) (de_var 1)) de_int)))) (fun _ _ _ _ _ => (de_bin or_shl de_int (de_var 1))))))
theorem ok_fits (T : Txt K mg C f fd) : FnOk P w K mg base (L2.CX P w) 2 (f 23) (fd 23) ["table", "at"] (spF K F_fits) :=
  fn_den d_fits T.F_fits sc_fits gd_len gd_run fun cdv A outer s H E hr hp ho =>
    (dss_cons (ds_set (i := 2) sc_fits.nd rfl (by first | exact Or.inl rfl | exact Or.inr rfl) (de_ix (de_var 0) (de_var 1)))
      (dss_cons (ds_if (dt_not (dt_tru (de_call' (ok_is_number T) (hr.mono (by decide)) T.g_is_number T.F_is_number.kp T.b_is_number hp (da_cons (de_var 2) (da_cons de_int (da_cons (de_cval T.m_Structure T.v_Structure_MOST.choose_spec.choose_spec.1 T.v_Structure_MOST.choose_spec.choose_spec.2 (fun _ _ => .int _)) da_nil)))))) (dss_one (ds_ret de_bl)) dss_nil)
      (dss_cons (ds_if (dt_cmp (or_eq hr.units) (de_var 1) de_int (nomark _)) (dss_one (ds_ret (de_cmp (or_eq hr.units) (de_var 2) de_int (nomark _)))) dss_nil)
      (dss_cons (ds_set (i := 3) sc_fits.nd rfl (by first | exact Or.inl rfl | exact Or.inr rfl) (de_call' (ok_single_bits T) (hr.mono (by decide)) T.g_single_bits T.F_single_bits.kp T.b_single_bits hp (da_cons (de_var 1) da_nil)))
      (dss_cons (ds_if (dt_not (dt_tru (de_blt (Dn.cr_all rfl) T.z_all (by decide +kernel) (da_cons (de_lc (.one 5) [("bit", 5)] rfl sc_fits.nd (by decide) (di_seq (de_var 3)) (blkOk_by (N := N_fits) (sc := defScope s_fits) (by decide +kernel)) (fun _ _ _ _ _ => (pg_name (i := 5) sc_fits.nd rfl (by first | exact Or.inl rfl | exact Or.inr rfl))) (fun _ _ _ _ _ => dts_nil) (fun _ _ _ _ _ => (de_cmp or_in (de_ix (de_var 0) (de_bin or_xor (de_var 1) (de_var 5))) (de_tup (da_cons (de_bin or_sub (de_var 2) de_int) (da_cons (de_var 2) da_nil))) (by rfl)))) da_nil)))) (dss_one (ds_ret de_bl)) dss_nil)
      (dss_cons (ds_set (i := 4) sc_fits.nd rfl (by first | exact Or.inl rfl | exact Or.inr rfl) (de_lc (.one 5) [("bit", 5)] rfl sc_fits.nd (by decide) (di_seq (de_var 3)) (blkOk_by (N := N_fits) (sc := defScope s_fits) (by decide +kernel)) (fun _ _ _ _ _ => (pg_name (i := 5) sc_fits.nd rfl (by first | exact Or.inl rfl | exact Or.inr rfl))) (fun _ _ _ _ _ => (pts_one (dt_cmp (or_eq hr.units) (de_ix (de_var 0) (de_bin or_xor (de_var 1) (de_var 5))) (de_bin or_sub (de_var 2) de_int) (nomark _)))) (fun _ _ _ _ _ => (de_var 5))))
      (dss_one (ds_ret (de_blt (Dn.cr_all rfl) T.z_all (by decide +kernel) (da_cons (de_lc2 (.one 6) (.one 7) [("one", 6), ("two", 7)] [7] rfl sc_fits.nd (by decide) (by decide) (by decide) (di_seq (de_var 4)) (blkOk_by (N := N_fits) (sc := defScope s_fits) (by decide +kernel)) (fun _ _ _ _ _ => (pg_name (i := 6) sc_fits.nd rfl (by first | exact Or.inl rfl | exact Or.inr rfl))) (fun _ _ _ _ _ => dts_nil) (fun _ _ _ _ _ => (di_seq (de_var 4))) (fun _ _ _ _ _ => (pg_name (i := 7) sc_fits.nd rfl (by first | exact Or.inl rfl | exact Or.inr rfl))) (fun _ _ _ _ _ => (pts_one (dt_cmp or_lt (de_var 6) (de_var 7) (nomark _)))) (fun _ _ _ _ _ => (de_cmp (or_eq hr.units) (de_ix (de_var 0) (de_bin or_xor (de_bin or_xor (de_var 1) (de_var 6)) (de_var 7))) (de_bin or_sub (de_var 2) de_int) (nomark _)))) da_nil))))))))))
theorem ok_check_table (T : Txt K mg C f fd) : FnOk P w K mg base (L2.CX P w) 3 (f 24) (fd 24) ["table", "count"] (spF K (F_check_table C)) :=
  fn_den (d_check_table C) T.F_check_table sc_check_table gd_len gd_run fun cdv A outer s H E hr hp ho =>
    (dss_cons (ds_if (dt_w (dw_or (dt_not (dt_tru (de_isi2 .lst .tup T.z_isinstance T.z_list T.z_tuple (by decide +kernel) (by decide +kernel) (de_var 0)))) (dw_or1 (dt_cmp (or_ne hr.units) (de_blt cr_len T.z_len PySem.boot_len (da_cons (de_var 0) da_nil)) (de_bin or_shl de_int (de_var 1)) (nomark _))))) (dss_one (ds_raise T.ox_InvalidTable T.oi_InvalidTable T.ot_InvalidTable (ok_InvalidTable_init T) (hr.mono (by decide)) T.b_InvalidTable_init (passes_call (takes_of (E := E) rfl rfl rfl rfl) fun _ _ _ _ e => e.elim) rfl (takes_of rfl rfl rfl rfl) T.m_InvalidTable (da_cons (de_neg de_int) da_nil))) dss_nil)
      (dss_one (ds_for (.one 2) ho rfl (di_range1 T.z_range (da_cons (de_blt cr_len T.z_len PySem.boot_len (da_cons (de_var 0) da_nil)) da_nil)) (pg_name (i := 2) sc_check_table.nd rfl (by first | exact Or.inl rfl | exact Or.inr rfl)) (dss_one (ds_if (dt_not (dt_tru (de_call' (ok_fits T) (hr.mono (by decide)) T.g_fits T.F_fits.kp T.b_fits hp (da_cons (de_var 0) (da_cons (de_var 2) da_nil))))) (dss_one (ds_raise T.ox_InvalidTable T.oi_InvalidTable T.ot_InvalidTable (ok_InvalidTable_init T) (hr.mono (by decide)) T.b_InvalidTable_init (passes_call (takes_of (E := E) rfl rfl rfl rfl) fun _ _ _ _ e => e.elim) rfl (takes_of rfl rfl rfl rfl) T.m_InvalidTable (da_cons (de_var 2) da_nil))) dss_nil)))))
theorem ok_Structure_init (T : Txt K mg C f fd) : FnOk P w K mg base (L2.CX P w) 4 (f 25) (fd 25) ["self", "names", "table", "unseen"] (spF K (F_Structure_init C)) :=
  fn_denD (d_Structure_init C) T.F_Structure_init sc_Structure_init gd_len gd_run fun cdv A outer s H E hr hp ho =>
    (dss_cons (ds_set (i := 4) sc_Structure_init.nd rfl (by first | exact Or.inl rfl | exact Or.inr rfl) (de_call' (ok_checked_names T) (hr.mono (by decide)) T.g_checked_names T.F_checked_names.kp T.b_checked_names hp (da_cons (de_var 1) (da_cons (de_glob (by rfl) T.k_MOST_NAMES.choose_spec.1 T.k_MOST_NAMES.choose_spec.2 (fun _ _ => .int _)) da_nil))))
      (dss_cons (ds_if (dt_not (dt_tru (de_call' (ok_is_number T) (hr.mono (by decide)) T.g_is_number T.F_is_number.kp T.b_is_number hp (da_cons (de_var 3) (da_cons de_int (da_cons (de_glob (by rfl) T.k_MOST_UNSEEN.choose_spec.1 T.k_MOST_UNSEEN.choose_spec.2 (fun _ _ => .int _)) da_nil)))))) (dss_one (ds_raise T.ox_InvalidNumber T.oi_InvalidNumber T.ot_InvalidNumber (ok_InvalidNumber_init T) (hr.mono (by decide)) T.b_InvalidNumber_init (passes_call (takes_of (E := E) rfl rfl rfl rfl) fun _ _ _ _ e => e.elim) rfl (takes_of rfl rfl rfl rfl) T.m_InvalidNumber (da_cons (de_var 3) da_nil))) dss_nil)
      (dss_cons (ds_set (i := 5) sc_Structure_init.nd rfl (by first | exact Or.inl rfl | exact Or.inr rfl) (de_bin or_add (de_blt cr_len T.z_len PySem.boot_len (da_cons (de_thaw (de_var 4)) da_nil)) (de_var 3)))
      (dss_cons (ds_if (dt_cmp or_gt (de_var 5) (de_cval T.m_Structure T.v_Structure_MOST.choose_spec.choose_spec.1 T.v_Structure_MOST.choose_spec.choose_spec.2 (fun _ _ => .int _)) (nomark _)) (dss_one (ds_raise T.ox_TooMany T.oi_TooMany T.ot_TooMany (ok_TooMany_init T) (hr.mono (by decide)) T.b_TooMany_init (passes_call (takes_of (E := E) rfl rfl rfl rfl) fun _ _ _ _ e => e.elim) rfl (takes_of rfl rfl rfl rfl) T.m_TooMany (da_cons de_str (da_cons (de_cval T.m_Structure T.v_Structure_MOST.choose_spec.choose_spec.1 T.v_Structure_MOST.choose_spec.choose_spec.2 (fun _ _ => .int _)) da_nil)))) dss_nil)
      (dss_cons (ds_expr (de_call' (ok_check_table T) (hr.mono (by decide)) T.g_check_table T.F_check_table.kp T.b_check_table hp (da_cons (de_var 2) (da_cons (de_var 5) da_nil))))
      (dss_cons (ds_fld T.c_Structure T.n_Structure_names (de_var 0) (de_var 4))
      (dss_cons (ds_fld T.c_Structure T.n_Structure_unseen (de_var 0) (de_var 3))
      (dss_one (ds_fld T.c_Structure T.n_Structure_table (de_var 0) (de_ty cr_tuple T.z_tuple (by decide +kernel) (da_cons (de_var 2) da_nil)))))))))))
theorem ok_Structure_table (T : Txt K mg C f fd) : FnOk P w K mg base (L2.CX P w) 1 (f 26) (fd 26) ["self"] (spF K (F_Structure_table C)) :=
  fn_den (d_Structure_table C) T.F_Structure_table sc_Structure_table gd_len gd_run fun cdv A outer s H E hr hp ho =>
    (dss_one (ds_ret (de_ty cr_list T.z_list (by decide +kernel) (da_cons (de_fld T.c_Structure T.n_Structure_table (de_var 0)) da_nil))))
theorem ok_l_same (T : Txt K mg C f fd) : ∀ n : Nat, FnOk P w K mg base (L2.CX P w) (1 + n) (f 27) (fd 27) ["_law_found", "_law_due"] (spF K (F_l_same n))
  | 0 => fn_void
  | n + 1 => have G := ok_l_same T n
    fn_den (d_l_same (F_l_same n)) T.F_l_same sc_l_same gd_len gd_run fun cdv A outer s H E hr hp ho =>
      (dss_cons (ds_if (dt_tru (de_isi2 .lst .tup T.z_isinstance T.z_list T.z_tuple (by decide +kernel) (by decide +kernel) (de_var 1))) (dss_cons (ds_if (dt_w (dw_or (dt_cmp (or_ne hr.units) (de_isi .lst T.z_isinstance T.z_list (by decide +kernel) (de_var 0)) (de_isi .lst T.z_isinstance T.z_list (by decide +kernel) (de_var 1)) (nomark _)) (dw_or1 (dt_cmp (or_ne hr.units) (de_isi .tup T.z_isinstance T.z_tuple (by decide +kernel) (de_var 0)) (de_isi .tup T.z_isinstance T.z_tuple (by decide +kernel) (de_var 1)) (nomark _))))) (dss_one (ds_ret de_bl)) dss_nil)
      (dss_one (ds_ret (de_and (de_cmp (or_eq hr.units) (de_blt cr_len T.z_len PySem.boot_len (da_cons (de_var 0) da_nil)) (de_blt cr_len T.z_len PySem.boot_len (da_cons (de_var 1) da_nil)) (nomark _)) (de_one (de_blt (Dn.cr_all rfl) T.z_all (by decide +kernel) (da_cons (de_lc (.tup [2, 3]) [("_law_one", 2), ("_law_two", 3)] rfl sc_l_same.nd (by decide) (di_zip T.z_zip (da_cons (de_var 0) (da_cons (de_var 1) da_nil))) (blkOk_by (N := N_l_same) (sc := defScope s_l_same) (by decide +kernel)) (fun _ _ _ _ _ => (pg_tup rfl (pgs_cons (pg_name (i := 2) sc_l_same.nd rfl (by first | exact Or.inl rfl | exact Or.inr rfl)) (pgs_cons (pg_name (i := 3) sc_l_same.nd rfl (by first | exact Or.inl rfl | exact Or.inr rfl)) pgs_nil)))) (fun _ _ _ _ _ => dts_nil) (fun _ _ _ _ _ => (de_call' G hr T.g_l_same T.F_l_same.kp T.b_l_same passL (da_cons (de_var 2) (da_cons (de_var 3) da_nil))))) da_nil))))))) dss_nil)
      (dss_cons (ds_if (dt_w (dw_or (dt_isN (de_var 1)) (dw_or1 (dt_isN (de_var 0))))) (dss_one (ds_ret (de_and (de_isN (de_var 1)) (de_one (de_isN (de_var 0)))))) dss_nil)
      (dss_cons (ds_if (dt_w (dw_or (dt_cmp (or_ne hr.units) (de_isi .bl T.z_isinstance T.z_bool (by decide +kernel) (de_var 0)) (de_isi .bl T.z_isinstance T.z_bool (by decide +kernel) (de_var 1)) (nomark _)) (dw_or1 (dt_cmp (or_ne hr.units) (de_isi .int T.z_isinstance T.z_int (by decide +kernel) (de_var 0)) (de_isi .int T.z_isinstance T.z_int (by decide +kernel) (de_var 1)) (nomark _))))) (dss_one (ds_ret de_bl)) dss_nil)
      (dss_one (ds_ret (de_and (de_cmp (or_eq hr.units) (de_isi .str T.z_isinstance T.z_str (by decide +kernel) (de_var 0)) (de_isi .str T.z_isinstance T.z_str (by decide +kernel) (de_var 1)) (nomark _)) (de_one (de_cmp (or_eq hr.units) (de_var 0) (de_var 1) (nomark _)))))))))
theorem ok_l_why (T : Txt K mg C f fd) (FF : FfOk) {P0 : Addr} {CC : CloT} {cl : List (Str × Addr)} {σ0 : L2.St} (CI : CellsIn base NLW cl σ0) (HL : ∀ k τ, tau_law C k = some τ → LamAt P w K mg base NLW cl CC 5 k τ) : FnOk P w K mg base (L2.CX P w) 7 (f 28) (fd 28) ["_law_ask"] (spF K (F_l_why C P0 CC σ0)) :=
  fn_why CI HL T.F_l_why sc_l_why rfl rfl rfl rfl rfl rfl rfl T.m_RestError T.m_Missing T.m_NothingLeft T.g_l_field T.ex_all T.xc_all (by decide) (ok_l_field T) gd_len2 FF T.F_l_field.kp T.b_l_field
set_option maxHeartbeats 0 in
theorem lams_law (T : Txt K mg C f fd) (n : Nat) : ∀ (k : Nat) (τ : EDen), tau_law C k = some τ → LamAt P w K mg base NLW (cellsFrom n (defScope s_law).names []) (CCl s_law (("law" ++ ".<locals>.") ++ "<lambda>") (cellsFrom n (defScope s_law).names [])) 5 k τ := by
  intro k τ h
  match k, h with
  | 0, h =>
    cases h
    exact lamAt_mk (st := s_law) (b := false) (an := Str.empty) (by rfl) rfl (by rfl) ⟨(fun _ _ _ _ _ _ => rfl), (fun z => nomatch z)⟩ fun A outer s H E f c' hr hp =>
      (de_methR0 T.c_Structure T.me_Structure_table (fn_plain (ok_Structure_table T) T.b_Structure_table) (hr.mono (by decide)) hp (de_makeK (is := [0]) T.mk_Structure (ok_Structure_init T) (hr.mono (by decide)) T.m_Structure T.kc_Structure_init_3_0 hp (da_cons (de_var 3) (da_cons (de_tupH T.z_tuple (de_var 6)) da_nil)) (dk_cons (de_var 4) dk_nil)))
  | _ + 1, h => cases h
theorem ok_law (T : Txt K mg C f fd) {P0 c0 : Addr} {oc kV doc pm ct : Value} {an od : Option Addr} {osl : Array (Option Value)} (FF : FfOk) (TB : LamX.TabB base mg c0 P0) (lk : K.lookup (f 29) = some ⟨oc, od, .func (PySem.W.fnOf "law" "law" (defArgs s_law) (defBody s_law) (defScope s_law) .none kV doc pm an (.ref c0) ct), osl⟩) (hcd : PySem.W.codeIn K (.ref c0) "law" = true)
    (ht : ∀ (CC : CloT) (a : Addr) (ns : List Int), ns.length ≤ 63 → ∃ st', runD (d_law C P0 CC) N_law.length [.opq (.ref a)] (st0L P0 CC a ns) = some (.ok (.bl true), st')) :
    FnOk P w K mg base (L2.CX P w) 10 (f 29) (PySem.W.fnOf "law" "law" (defArgs s_law) (defBody s_law) (defScope s_law) .none kV doc pm an (.ref c0) ct) ["_law_script"] (spL K P0) :=
  fn_law (d_law C P0) lk hcd sc_law (("law" ++ ".<locals>.") ++ "<lambda>") (fun A outer s H E hr hp ho =>
    (dss_cons (ds_set (i := 1) sc_law.nd rfl (by first | exact Or.inl rfl | exact Or.inr rfl) (de_call' (ok_l_bag T) (hr.mono (by decide)) T.g_l_bag T.F_l_bag.kp T.b_l_bag hp (da_cons (de_var 0) da_nil)))
      (dss_cons (ds_for (.one 2) ho rfl (di_range1 T.z_range (da_cons de_int da_nil)) (pg_name (i := 2) sc_law.nd rfl (by first | exact Or.inl rfl | exact Or.inr rfl)) (dss_cons (ds_set (i := 3) sc_law.nd rfl (by first | exact Or.inl rfl | exact Or.inr rfl) (de_call' (ok_l_names T) (hr.mono (by decide)) T.g_l_names T.F_l_names.kp T.b_l_names hp (da_cons (de_var 1) (da_cons (de_bin or_add de_int (de_call' (ok_l_pull T) (hr.mono (by decide)) T.g_l_pull T.F_l_pull.kp T.b_l_pull hp (da_cons (de_var 1) (da_cons de_int da_nil)))) da_nil))))
      (dss_cons (ds_set (i := 4) sc_law.nd rfl (by first | exact Or.inl rfl | exact Or.inr rfl) (de_call' (ok_l_pull T) (hr.mono (by decide)) T.g_l_pull T.F_l_pull.kp T.b_l_pull hp (da_cons (de_var 1) (da_cons (de_bin or_sub de_int (de_blt cr_len T.z_len PySem.boot_len (da_cons (de_var 3) da_nil))) da_nil))))
      (dss_cons (ds_set (i := 5) sc_law.nd rfl (by first | exact Or.inl rfl | exact Or.inr rfl) (de_call' (ok_l_world T) (hr.mono (by decide)) T.g_l_world T.F_l_world.kp T.b_l_world hp (da_cons (de_var 1) (da_cons (de_var 3) (da_cons (de_var 4) da_nil)))))
      (dss_fz2 (i := 6) (ds_set (i := 6) sc_law.nd rfl (by first | exact Or.inl rfl | exact Or.inr rfl) (de_listN T.z_list (de_ix (de_var 5) de_int)))
      (ds_for (.one 7) ho rfl (di_range1 T.z_range (da_cons (de_call' (ok_l_pull T) (hr.mono (by decide)) T.g_l_pull T.F_l_pull.kp T.b_l_pull hp (da_cons (de_var 1) (da_cons de_int da_nil))) da_nil)) (pg_name (i := 7) sc_law.nd rfl (by first | exact Or.inl rfl | exact Or.inr rfl)) (dss_cons (ds_set (i := 10) sc_law.nd rfl (by first | exact Or.inl rfl | exact Or.inr rfl) (de_call' (ok_l_pull T) (hr.mono (by decide)) T.g_l_pull T.F_l_pull.kp T.b_l_pull hp (da_cons (de_var 1) (da_cons (de_lenL T.z_len (de_var 6)) da_nil))))
      (dss_one (ds_setO (de_var 6) (de_var 10) (de_call' (ok_l_any T) (hr.mono (by decide)) T.g_l_any T.F_l_any.kp T.b_l_any hp (da_cons (de_var 1) (da_cons (de_lst (da_cons de_int (da_cons de_int (da_cons de_int (da_cons de_int (da_cons (de_neg de_int) (da_cons (de_bin or_add (de_ix (de_ix (de_var 5) de_int) (de_var 10)) de_int) (da_cons (de_bin or_sub (de_ix (de_ix (de_var 5) de_int) (de_var 10)) de_int) (da_cons de_non (da_cons de_bl (da_cons de_str da_nil))))))))))) da_nil)))))))
      (dss_cons (ds_setLc (i := 8) (.one 7) [("_law_k", 7)] rfl sc_law.nd (by decide) (di_range1 T.z_range (da_cons (de_lenL T.z_len (de_var 6)) da_nil)) (blkOk_by (N := N_law) (sc := defScope s_law) (by decide +kernel)) (fun _ _ _ _ _ => (pg_name (i := 7) sc_law.nd rfl (by first | exact Or.inl rfl | exact Or.inr rfl))) (fun _ _ _ _ _ => (pts_one (dt_tru (de_call' (ok_l_breaks T) (hr.mono (by decide)) T.g_l_breaks T.F_l_breaks.kp T.b_l_breaks passL (da_cons (de_var 6) (da_cons (de_var 7) da_nil)))))) (fun _ _ _ _ _ => (de_var 7)))
      (dss_cons (ds_set (i := 9) sc_law.nd rfl (by first | exact Or.inl rfl | exact Or.inr rfl) (de_env (n := 1) (P0 := P0) (C := (CCl s_law (("law" ++ ".<locals>.") ++ "<lambda>") (cellsFrom (s.heap.objs.size + 1) (defScope s_law).names []))) (F := F_l_why C P0 (CCl s_law (("law" ++ ".<locals>.") ++ "<lambda>") (cellsFrom (s.heap.objs.size + 1) (defScope s_law).names []))) (fun base σ CI => ok_l_why T FF CI (lams_law T _)) (hr.mono (by decide)) (fun _ => rfl) (cells_kind (by rfl)) T.g_l_why T.F_l_why.kp T.b_l_why (da_cons (de_lamK (k := 0) (an := Str.empty) TB rfl (by rfl) rfl (by rfl) rfl) da_nil)))
      (dss_one (ds_if (dt_not (dt_tru (de_call' (ok_l_same T 8) (hr.mono (by decide)) T.g_l_same T.F_l_same.kp T.b_l_same hp (da_cons (de_var 9) (da_cons (de_if (dt_cmp (or_eq hr.units) (de_var 8) (de_lst da_nil) (nomark _)) (de_tup (da_cons de_str (da_cons (de_var 6) da_nil))) (de_tup (da_cons de_str (da_cons (de_tup (da_cons (de_ix (de_var 8) de_int) da_nil)) da_nil)))) da_nil))))) (dss_one (ds_ret de_bl)) dss_nil)))))))))
      (dss_one (ds_ret de_bl))))) ht
end
end Dn

set_option Elab.async false
set_option linter.all false
set_option maxRecDepth 100000
set_option maxHeartbeats 8000000
namespace Dn
open PySem PySem.Spec PyProof.Rows L2
theorem all_mk {P : Program} {w : World} {K : PySem.W.Frag} {h : Heap} {mg : Str → Option Value} {fa C0 C20 C21 C22 C23 C24 C26 C27 C29 f0 f1 f2 f3 f4 f5 f6 f7 f8 f9 f10 f11 f12 f13 f14 f15 f16 f17 f18 f19 f20 f21 f22 f23 f24 f25 KD25 f26 f27 f28 f29 lawC P0 : Addr} (X : K.In h) (G : h.Ns mainGlobals mg) (hfa : mg "law" = some (.ref fa))
    {od0 an0 od1 an1 od2 an2 od3 an3 od4 an4 od5 an5 od6 an6 od7 an7 od8 an8 od9 an9 od10 an10 od11 an11 od12 an12 od13 an13 od14 an14 od15 an15 od16 an16 od17 an17 od18 an18 od19 an19 od20 an20 od21 an21 od22 an22 od23 an23 od24 an24 od25 an25 od26 an26 od27 an27 od28 an28 od29 an29 : Option Addr} {sl0 sl1 sl2 sl3 sl4 sl5 sl6 sl7 sl8 sl9 sl10 sl11 sl12 sl13 sl14 sl15 sl16 sl17 sl18 sl19 sl20 sl21 sl22 sl23 sl24 sl25 sl26 sl27 sl28 sl29 : Array (Option Value)} {oc0 dc0 pm0 cd0 ct0 kV0 oc1 dc1 pm1 cd1 ct1 kV1 oc2 dc2 pm2 cd2 ct2 kV2 oc3 dc3 pm3 cd3 ct3 kV3 oc4 dc4 pm4 cd4 ct4 kV4 oc5 dc5 pm5 cd5 ct5 kV5 oc6 dc6 pm6 cd6 ct6 kV6 oc7 dc7 pm7 cd7 ct7 kV7 oc8 dc8 pm8 cd8 ct8 kV8 oc9 dc9 pm9 cd9 ct9 kV9 oc10 dc10 pm10 cd10 ct10 kV10 oc11 dc11 pm11 cd11 ct11 kV11 oc12 dc12 pm12 cd12 ct12 kV12 oc13 dc13 pm13 cd13 ct13 kV13 oc14 dc14 pm14 cd14 ct14 kV14 oc15 dc15 pm15 cd15 ct15 kV15 oc16 dc16 pm16 cd16 ct16 kV16 oc17 dc17 pm17 cd17 ct17 kV17 oc18 dc18 pm18 cd18 ct18 kV18 oc19 dc19 pm19 cd19 ct19 kV19 oc20 dc20 pm20 cd20 ct20 kV20 oc21 dc21 pm21 cd21 ct21 kV21 oc22 dc22 pm22 cd22 ct22 kV22 oc23 dc23 pm23 cd23 ct23 kV23 oc24 dc24 pm24 cd24 ct24 kV24 oc25 dc25 pm25 cd25 ct25 oc26 dc26 pm26 cd26 ct26 kV26 oc27 dc27 pm27 cd27 ct27 kV27 oc28 dc28 pm28 cd28 ct28 kV28 oc29 dc29 pm29 ct29 kV29 mc_Structure_MOST : Value} {tk25_unseen : Tok} {nm_InvalidName : Str} {qq_InvalidName : Str} {NN_InvalidName : Addr} {bs_InvalidName : List Value} {bm_InvalidName : List Value} {sn_InvalidName : List Str} {sb_InvalidName : List Value} {ab_InvalidName : Bool} {co_InvalidName : Option Bool} {dd_InvalidName : Option Addr} {k0_InvalidName : Option Value} {k1_InvalidName : Option Value} {k2_InvalidName : Option Value} {k3_InvalidName : Option Value} {k5_InvalidName : Option Value} {nm_DuplicateName : Str} {qq_DuplicateName : Str} {NN_DuplicateName : Addr} {bs_DuplicateName : List Value} {bm_DuplicateName : List Value} {sn_DuplicateName : List Str} {sb_DuplicateName : List Value} {ab_DuplicateName : Bool} {co_DuplicateName : Option Bool} {dd_DuplicateName : Option Addr} {k0_DuplicateName : Option Value} {k1_DuplicateName : Option Value} {k2_DuplicateName : Option Value} {k3_DuplicateName : Option Value} {k5_DuplicateName : Option Value} {nm_TooMany : Str} {qq_TooMany : Str} {NN_TooMany : Addr} {bs_TooMany : List Value} {bm_TooMany : List Value} {sn_TooMany : List Str} {sb_TooMany : List Value} {ab_TooMany : Bool} {co_TooMany : Option Bool} {dd_TooMany : Option Addr} {k0_TooMany : Option Value} {k1_TooMany : Option Value} {k2_TooMany : Option Value} {k3_TooMany : Option Value} {k5_TooMany : Option Value} {kt_MOST_NAMES : Tok} {kt_MOST_UNSEEN : Tok} {nm_InvalidNumber : Str} {qq_InvalidNumber : Str} {NN_InvalidNumber : Addr} {bs_InvalidNumber : List Value} {bm_InvalidNumber : List Value} {sn_InvalidNumber : List Str} {sb_InvalidNumber : List Value} {ab_InvalidNumber : Bool} {co_InvalidNumber : Option Bool} {dd_InvalidNumber : Option Addr} {k0_InvalidNumber : Option Value} {k1_InvalidNumber : Option Value} {k2_InvalidNumber : Option Value} {k3_InvalidNumber : Option Value} {k5_InvalidNumber : Option Value} {vt_Structure_MOST : Tok} {nm_InvalidTable : Str} {qq_InvalidTable : Str} {NN_InvalidTable : Addr} {bs_InvalidTable : List Value} {bm_InvalidTable : List Value} {sn_InvalidTable : List Str} {sb_InvalidTable : List Value} {ab_InvalidTable : Bool} {co_InvalidTable : Option Bool} {dd_InvalidTable : Option Addr} {k0_InvalidTable : Option Value} {k1_InvalidTable : Option Value} {k2_InvalidTable : Option Value} {k3_InvalidTable : Option Value} {k5_InvalidTable : Option Value}
    (aC_RestError : PySem.W.nsIn K mainGlobals "RestError" = some (some (.ref C20)))
    (aC_Missing : PySem.W.nsIn K mainGlobals "Missing" = some (some (.ref C21)))
    (aC_NothingLeft : PySem.W.nsIn K mainGlobals "NothingLeft" = some (some (.ref C29)))
    (aC_InvalidName : PySem.W.nsIn K mainGlobals "InvalidName" = some (some (.ref C22)))
    (aC_DuplicateName : PySem.W.nsIn K mainGlobals "DuplicateName" = some (some (.ref C26)))
    (aC_TooMany : PySem.W.nsIn K mainGlobals "TooMany" = some (some (.ref C27)))
    (aC_InvalidNumber : PySem.W.nsIn K mainGlobals "InvalidNumber" = some (some (.ref C23)))
    (aC_Structure : PySem.W.nsIn K mainGlobals "Structure" = some (some (.ref C0)))
    (aC_InvalidTable : PySem.W.nsIn K mainGlobals "InvalidTable" = some (some (.ref C24)))
    (a0 : PySem.W.nsIn K mainGlobals "_law_bag" = some (some (.ref f0)))
    (l0 : K.lookup f0 = some ⟨oc0, od0, .func (PySem.W.fnOf "_law_bag" "_law_bag" (defArgs s_l_bag) (defBody s_l_bag) (defScope s_l_bag) .none kV0 dc0 pm0 an0 cd0 ct0), sl0⟩)
    (c0 : PySem.W.codeIn K cd0 "_law_bag" = true)
    (k0 : PySem.W.keepIn K (.ref f0) = true)
    (a1 : PySem.W.nsIn K mainGlobals "_law_pull" = some (some (.ref f1)))
    (l1 : K.lookup f1 = some ⟨oc1, od1, .func (PySem.W.fnOf "_law_pull" "_law_pull" (defArgs s_l_pull) (defBody s_l_pull) (defScope s_l_pull) .none kV1 dc1 pm1 an1 cd1 ct1), sl1⟩)
    (c1 : PySem.W.codeIn K cd1 "_law_pull" = true)
    (k1 : PySem.W.keepIn K (.ref f1) = true)
    (a2 : PySem.W.nsIn K mainGlobals "_law_any" = some (some (.ref f2)))
    (l2 : K.lookup f2 = some ⟨oc2, od2, .func (PySem.W.fnOf "_law_any" "_law_any" (defArgs s_l_any) (defBody s_l_any) (defScope s_l_any) .none kV2 dc2 pm2 an2 cd2 ct2), sl2⟩)
    (c2 : PySem.W.codeIn K cd2 "_law_any" = true)
    (k2 : PySem.W.keepIn K (.ref f2) = true)
    (a3 : PySem.W.nsIn K mainGlobals "_law_names" = some (some (.ref f3)))
    (l3 : K.lookup f3 = some ⟨oc3, od3, .func (PySem.W.fnOf "_law_names" "_law_names" (defArgs s_l_names) (defBody s_l_names) (defScope s_l_names) .none kV3 dc3 pm3 an3 cd3 ct3), sl3⟩)
    (c3 : PySem.W.codeIn K cd3 "_law_names" = true)
    (k3 : PySem.W.keepIn K (.ref f3) = true)
    (a4 : PySem.W.nsIn K mainGlobals "_law_columns" = some (some (.ref f4)))
    (l4 : K.lookup f4 = some ⟨oc4, od4, .func (PySem.W.fnOf "_law_columns" "_law_columns" (defArgs s_l_columns) (defBody s_l_columns) (defScope s_l_columns) .none kV4 dc4 pm4 an4 cd4 ct4), sl4⟩)
    (c4 : PySem.W.codeIn K cd4 "_law_columns" = true)
    (k4 : PySem.W.keepIn K (.ref f4) = true)
    (a5 : PySem.W.nsIn K mainGlobals "_law_added" = some (some (.ref f5)))
    (l5 : K.lookup f5 = some ⟨oc5, od5, .func (PySem.W.fnOf "_law_added" "_law_added" (defArgs s_l_added) (defBody s_l_added) (defScope s_l_added) .none kV5 dc5 pm5 an5 cd5 ct5), sl5⟩)
    (c5 : PySem.W.codeIn K cd5 "_law_added" = true)
    (k5 : PySem.W.keepIn K (.ref f5) = true)
    (a6 : PySem.W.nsIn K mainGlobals "_law_spread_out" = some (some (.ref f6)))
    (l6 : K.lookup f6 = some ⟨oc6, od6, .func (PySem.W.fnOf "_law_spread_out" "_law_spread_out" (defArgs s_l_spread_out) (defBody s_l_spread_out) (defScope s_l_spread_out) .none kV6 dc6 pm6 an6 cd6 ct6), sl6⟩)
    (c6 : PySem.W.codeIn K cd6 "_law_spread_out" = true)
    (k6 : PySem.W.keepIn K (.ref f6) = true)
    (a7 : PySem.W.nsIn K mainGlobals "_law_column_ranks" = some (some (.ref f7)))
    (l7 : K.lookup f7 = some ⟨oc7, od7, .func (PySem.W.fnOf "_law_column_ranks" "_law_column_ranks" (defArgs s_l_column_ranks) (defBody s_l_column_ranks) (defScope s_l_column_ranks) .none kV7 dc7 pm7 an7 cd7 ct7), sl7⟩)
    (c7 : PySem.W.codeIn K cd7 "_law_column_ranks" = true)
    (k7 : PySem.W.keepIn K (.ref f7) = true)
    (a8 : PySem.W.nsIn K mainGlobals "_law_world" = some (some (.ref f8)))
    (l8 : K.lookup f8 = some ⟨oc8, od8, .func (PySem.W.fnOf "_law_world" "_law_world" (defArgs s_l_world) (defBody s_l_world) (defScope s_l_world) .none kV8 dc8 pm8 an8 cd8 ct8), sl8⟩)
    (c8 : PySem.W.codeIn K cd8 "_law_world" = true)
    (k8 : PySem.W.keepIn K (.ref f8) = true)
    (a9 : PySem.W.nsIn K mainGlobals "_law_is_count" = some (some (.ref f9)))
    (l9 : K.lookup f9 = some ⟨oc9, od9, .func (PySem.W.fnOf "_law_is_count" "_law_is_count" (defArgs s_l_is_count) (defBody s_l_is_count) (defScope s_l_is_count) .none kV9 dc9 pm9 an9 cd9 ct9), sl9⟩)
    (c9 : PySem.W.codeIn K cd9 "_law_is_count" = true)
    (k9 : PySem.W.keepIn K (.ref f9) = true)
    (a10 : PySem.W.nsIn K mainGlobals "_law_counts" = some (some (.ref f10)))
    (l10 : K.lookup f10 = some ⟨oc10, od10, .func (PySem.W.fnOf "_law_counts" "_law_counts" (defArgs s_l_counts) (defBody s_l_counts) (defScope s_l_counts) .none kV10 dc10 pm10 an10 cd10 ct10), sl10⟩)
    (c10 : PySem.W.codeIn K cd10 "_law_counts" = true)
    (k10 : PySem.W.keepIn K (.ref f10) = true)
    (a11 : PySem.W.nsIn K mainGlobals "_law_breaks" = some (some (.ref f11)))
    (l11 : K.lookup f11 = some ⟨oc11, od11, .func (PySem.W.fnOf "_law_breaks" "_law_breaks" (defArgs s_l_breaks) (defBody s_l_breaks) (defScope s_l_breaks) .none kV11 dc11 pm11 an11 cd11 ct11), sl11⟩)
    (c11 : PySem.W.codeIn K cd11 "_law_breaks" = true)
    (k11 : PySem.W.keepIn K (.ref f11) = true)
    (a12 : PySem.W.nsIn K mainGlobals "_law_field" = some (some (.ref f12)))
    (l12 : K.lookup f12 = some ⟨oc12, od12, .func (PySem.W.fnOf "_law_field" "_law_field" (defArgs s_l_field) (defBody s_l_field) (defScope s_l_field) .none kV12 dc12 pm12 an12 cd12 ct12), sl12⟩)
    (c12 : PySem.W.codeIn K cd12 "_law_field" = true)
    (k12 : PySem.W.keepIn K (.ref f12) = true)
    (a13 : PySem.W.findIn K (.ref C22) "__init__" = some (some (.ref f13)))
    (i13 : PySem.W.isFn K (.ref f13) = true)
    (l13 : K.lookup f13 = some ⟨oc13, od13, .func (PySem.W.fnOf "__init__" "InvalidName.__init__" (defArgs s_InvalidName_init) (defBody s_InvalidName_init) (defScope s_InvalidName_init) .none kV13 dc13 pm13 an13 cd13 ct13), sl13⟩)
    (c13 : PySem.W.codeIn K cd13 "InvalidName.__init__" = true)
    (k13 : PySem.W.keepIn K (.ref f13) = true)
    (a14 : PySem.W.nsIn K mainGlobals "_is_word" = some (some (.ref f14)))
    (l14 : K.lookup f14 = some ⟨oc14, od14, .func (PySem.W.fnOf "_is_word" "_is_word" (defArgs s_is_word) (defBody s_is_word) (defScope s_is_word) .none kV14 dc14 pm14 an14 cd14 ct14), sl14⟩)
    (c14 : PySem.W.codeIn K cd14 "_is_word" = true)
    (k14 : PySem.W.keepIn K (.ref f14) = true)
    (a15 : PySem.W.nsIn K mainGlobals "is_name" = some (some (.ref f15)))
    (l15 : K.lookup f15 = some ⟨oc15, od15, .func (PySem.W.fnOf "is_name" "is_name" (defArgs s_is_name) (defBody s_is_name) (defScope s_is_name) .none kV15 dc15 pm15 an15 cd15 ct15), sl15⟩)
    (c15 : PySem.W.codeIn K cd15 "is_name" = true)
    (k15 : PySem.W.keepIn K (.ref f15) = true)
    (a16 : PySem.W.findIn K (.ref C26) "__init__" = some (some (.ref f16)))
    (i16 : PySem.W.isFn K (.ref f16) = true)
    (l16 : K.lookup f16 = some ⟨oc16, od16, .func (PySem.W.fnOf "__init__" "DuplicateName.__init__" (defArgs s_DuplicateName_init) (defBody s_DuplicateName_init) (defScope s_DuplicateName_init) .none kV16 dc16 pm16 an16 cd16 ct16), sl16⟩)
    (c16 : PySem.W.codeIn K cd16 "DuplicateName.__init__" = true)
    (k16 : PySem.W.keepIn K (.ref f16) = true)
    (a17 : PySem.W.findIn K (.ref C27) "__init__" = some (some (.ref f17)))
    (i17 : PySem.W.isFn K (.ref f17) = true)
    (l17 : K.lookup f17 = some ⟨oc17, od17, .func (PySem.W.fnOf "__init__" "TooMany.__init__" (defArgs s_TooMany_init) (defBody s_TooMany_init) (defScope s_TooMany_init) .none kV17 dc17 pm17 an17 cd17 ct17), sl17⟩)
    (c17 : PySem.W.codeIn K cd17 "TooMany.__init__" = true)
    (k17 : PySem.W.keepIn K (.ref f17) = true)
    (a18 : PySem.W.nsIn K mainGlobals "checked_names" = some (some (.ref f18)))
    (l18 : K.lookup f18 = some ⟨oc18, od18, .func (PySem.W.fnOf "checked_names" "checked_names" (defArgs s_checked_names) (defBody s_checked_names) (defScope s_checked_names) .none kV18 dc18 pm18 an18 cd18 ct18), sl18⟩)
    (c18 : PySem.W.codeIn K cd18 "checked_names" = true)
    (k18 : PySem.W.keepIn K (.ref f18) = true)
    (a19 : PySem.W.nsIn K mainGlobals "is_number" = some (some (.ref f19)))
    (l19 : K.lookup f19 = some ⟨oc19, od19, .func (PySem.W.fnOf "is_number" "is_number" (defArgs s_is_number) (defBody s_is_number) (defScope s_is_number) .none kV19 dc19 pm19 an19 cd19 ct19), sl19⟩)
    (c19 : PySem.W.codeIn K cd19 "is_number" = true)
    (k19 : PySem.W.keepIn K (.ref f19) = true)
    (a20 : PySem.W.findIn K (.ref C23) "__init__" = some (some (.ref f20)))
    (i20 : PySem.W.isFn K (.ref f20) = true)
    (l20 : K.lookup f20 = some ⟨oc20, od20, .func (PySem.W.fnOf "__init__" "InvalidNumber.__init__" (defArgs s_InvalidNumber_init) (defBody s_InvalidNumber_init) (defScope s_InvalidNumber_init) .none kV20 dc20 pm20 an20 cd20 ct20), sl20⟩)
    (c20 : PySem.W.codeIn K cd20 "InvalidNumber.__init__" = true)
    (k20 : PySem.W.keepIn K (.ref f20) = true)
    (a21 : PySem.W.findIn K (.ref C24) "__init__" = some (some (.ref f21)))
    (i21 : PySem.W.isFn K (.ref f21) = true)
    (l21 : K.lookup f21 = some ⟨oc21, od21, .func (PySem.W.fnOf "__init__" "InvalidTable.__init__" (defArgs s_InvalidTable_init) (defBody s_InvalidTable_init) (defScope s_InvalidTable_init) .none kV21 dc21 pm21 an21 cd21 ct21), sl21⟩)
    (c21 : PySem.W.codeIn K cd21 "InvalidTable.__init__" = true)
    (k21 : PySem.W.keepIn K (.ref f21) = true)
    (a22 : PySem.W.nsIn K mainGlobals "single_bits" = some (some (.ref f22)))
    (l22 : K.lookup f22 = some ⟨oc22, od22, .func (PySem.W.fnOf "single_bits" "single_bits" (defArgs s_single_bits) (defBody s_single_bits) (defScope s_single_bits) .none kV22 dc22 pm22 an22 cd22 ct22), sl22⟩)
    (c22 : PySem.W.codeIn K cd22 "single_bits" = true)
    (k22 : PySem.W.keepIn K (.ref f22) = true)
    (a23 : PySem.W.nsIn K mainGlobals "_fits" = some (some (.ref f23)))
    (l23 : K.lookup f23 = some ⟨oc23, od23, .func (PySem.W.fnOf "_fits" "_fits" (defArgs s_fits) (defBody s_fits) (defScope s_fits) .none kV23 dc23 pm23 an23 cd23 ct23), sl23⟩)
    (c23 : PySem.W.codeIn K cd23 "_fits" = true)
    (k23 : PySem.W.keepIn K (.ref f23) = true)
    (a24 : PySem.W.nsIn K mainGlobals "_check_table" = some (some (.ref f24)))
    (l24 : K.lookup f24 = some ⟨oc24, od24, .func (PySem.W.fnOf "_check_table" "_check_table" (defArgs s_check_table) (defBody s_check_table) (defScope s_check_table) .none kV24 dc24 pm24 an24 cd24 ct24), sl24⟩)
    (c24 : PySem.W.codeIn K cd24 "_check_table" = true)
    (k24 : PySem.W.keepIn K (.ref f24) = true)
    (a25 : PySem.W.findIn K (.ref C0) "__init__" = some (some (.ref f25)))
    (i25 : PySem.W.isFn K (.ref f25) = true)
    (l25 : K.lookup f25 = some ⟨oc25, od25, .func (PySem.W.fnOf "__init__" "Structure.__init__" (defArgs s_Structure_init) (defBody s_Structure_init) (defScope s_Structure_init) .none (.ref KD25) dc25 pm25 an25 cd25 ct25), sl25⟩)
    (c25 : PySem.W.codeIn K cd25 "Structure.__init__" = true)
    (k25 : PySem.W.keepIn K (.ref f25) = true)
    (w25_unseen : PySem.W.nsIn K KD25 "unseen" = some (some (.int 0 tk25_unseen)))
    (a26 : PySem.W.findIn K (.ref C0) "table" = some (some (.ref f26)))
    (i26 : PySem.W.isFn K (.ref f26) = true)
    (l26 : K.lookup f26 = some ⟨oc26, od26, .func (PySem.W.fnOf "table" "Structure.table" (defArgs s_Structure_table) (defBody s_Structure_table) (defScope s_Structure_table) .none kV26 dc26 pm26 an26 cd26 ct26), sl26⟩)
    (c26 : PySem.W.codeIn K cd26 "Structure.table" = true)
    (k26 : PySem.W.keepIn K (.ref f26) = true)
    (a27 : PySem.W.nsIn K mainGlobals "_law_same" = some (some (.ref f27)))
    (l27 : K.lookup f27 = some ⟨oc27, od27, .func (PySem.W.fnOf "_law_same" "_law_same" (defArgs s_l_same) (defBody s_l_same) (defScope s_l_same) .none kV27 dc27 pm27 an27 cd27 ct27), sl27⟩)
    (c27 : PySem.W.codeIn K cd27 "_law_same" = true)
    (k27 : PySem.W.keepIn K (.ref f27) = true)
    (a28 : PySem.W.nsIn K mainGlobals "_law_why" = some (some (.ref f28)))
    (l28 : K.lookup f28 = some ⟨oc28, od28, .func (PySem.W.fnOf "_law_why" "_law_why" (defArgs s_l_why) (defBody s_l_why) (defScope s_l_why) .none kV28 dc28 pm28 an28 cd28 ct28), sl28⟩)
    (c28 : PySem.W.codeIn K cd28 "_law_why" = true)
    (k28 : PySem.W.keepIn K (.ref f28) = true)
    (a29 : PySem.W.nsIn K mainGlobals "law" = some (some (.ref f29)))
    (l29 : K.lookup f29 = some ⟨oc29, od29, .func (PySem.W.fnOf "law" "law" (defArgs s_law) (defBody s_law) (defScope s_law) .none kV29 dc29 pm29 an29 (.ref lawC) ct29), sl29⟩)
    (c29 : PySem.W.codeIn K (.ref lawC) "law" = true)
    (k29 : PySem.W.keepIn K (.ref f29) = true)
    (xg_InvalidTable : PySem.W.findIn K (.ref C24) "__getattribute__" = some (some (.builtin "BaseException.__getattribute__")))
    (xh_InvalidTable : PySem.W.findIn K (.ref C24) "__getattr__" = some none)
    (xb_InvalidTable : PySem.W.subIn K (.ref C24) (.type "BaseException") = some true)
    (xd_InvalidTable : PySem.W.hasDictIn K C24 = true)
    (xn_InvalidTable_code : PySem.W.findIn K (.ref C24) "code" = some none)
    (xn_InvalidTable_value : PySem.W.findIn K (.ref C24) "value" = some none)
    (xn_InvalidTable_at : PySem.W.findIn K (.ref C24) "at" = some none)
    (xn_InvalidTable_path : PySem.W.findIn K (.ref C24) "path" = some none)
    (xn_InvalidTable_word : PySem.W.findIn K (.ref C24) "word" = some none)
    (xn_InvalidTable_line : PySem.W.findIn K (.ref C24) "line" = some none)
    (xn_InvalidTable_name : PySem.W.findIn K (.ref C24) "name" = some none)
    (xn_InvalidTable_piece : PySem.W.findIn K (.ref C24) "piece" = some none)
    (xn_InvalidTable_user : PySem.W.findIn K (.ref C24) "user" = some none)
    (xn_InvalidTable_subject : PySem.W.findIn K (.ref C24) "subject" = some none)
    (xn_InvalidTable_most : PySem.W.findIn K (.ref C24) "most" = some none)
    (xn_InvalidTable_limit : PySem.W.findIn K (.ref C24) "limit" = some none)
    (ex_InvalidTable : PySem.W.exmAny K (.ref C24) [.ref C20, .ref C21, .ref C29] = some true)
    (oc_InvalidName : K.lookup C22 = some (excClassObj nm_InvalidName qq_InvalidName C22 NN_InvalidName bs_InvalidName bm_InvalidName true sn_InvalidName sb_InvalidName ab_InvalidName co_InvalidName dd_InvalidName k0_InvalidName k1_InvalidName k2_InvalidName k3_InvalidName k5_InvalidName "ValueError.__new__"))
    (os_InvalidName : PySem.W.findIn K (.ref C22) "__setattr__" = some (some (.builtin "object.__setattr__")))
    (oe_InvalidName : PySem.W.subIn K (.ref C22) (.type "BaseException") = some true)
    (oy_InvalidName : PySem.W.typeIn K (.ref C22) = some (.type "type"))
    (ok_InvalidName : PySem.W.keepIn K (.ref C22) = true)
    (oty13 : PySem.W.typeIn K (.ref f13) = some (.type "function"))
    (nf_InvalidName_value : PySem.W.findIn K (.ref C22) "value" = some none)
    (nf_InvalidName_code : PySem.W.findIn K (.ref C22) "code" = some none)
    (oc_DuplicateName : K.lookup C26 = some (excClassObj nm_DuplicateName qq_DuplicateName C26 NN_DuplicateName bs_DuplicateName bm_DuplicateName true sn_DuplicateName sb_DuplicateName ab_DuplicateName co_DuplicateName dd_DuplicateName k0_DuplicateName k1_DuplicateName k2_DuplicateName k3_DuplicateName k5_DuplicateName "ValueError.__new__"))
    (os_DuplicateName : PySem.W.findIn K (.ref C26) "__setattr__" = some (some (.builtin "object.__setattr__")))
    (oe_DuplicateName : PySem.W.subIn K (.ref C26) (.type "BaseException") = some true)
    (oy_DuplicateName : PySem.W.typeIn K (.ref C26) = some (.type "type"))
    (ok_DuplicateName : PySem.W.keepIn K (.ref C26) = true)
    (oty16 : PySem.W.typeIn K (.ref f16) = some (.type "function"))
    (nf_DuplicateName_name : PySem.W.findIn K (.ref C26) "name" = some none)
    (nf_DuplicateName_code : PySem.W.findIn K (.ref C26) "code" = some none)
    (oc_TooMany : K.lookup C27 = some (excClassObj nm_TooMany qq_TooMany C27 NN_TooMany bs_TooMany bm_TooMany true sn_TooMany sb_TooMany ab_TooMany co_TooMany dd_TooMany k0_TooMany k1_TooMany k2_TooMany k3_TooMany k5_TooMany "ValueError.__new__"))
    (os_TooMany : PySem.W.findIn K (.ref C27) "__setattr__" = some (some (.builtin "object.__setattr__")))
    (oe_TooMany : PySem.W.subIn K (.ref C27) (.type "BaseException") = some true)
    (oy_TooMany : PySem.W.typeIn K (.ref C27) = some (.type "type"))
    (ok_TooMany : PySem.W.keepIn K (.ref C27) = true)
    (oty17 : PySem.W.typeIn K (.ref f17) = some (.type "function"))
    (nf_TooMany_subject : PySem.W.findIn K (.ref C27) "subject" = some none)
    (nf_TooMany_most : PySem.W.findIn K (.ref C27) "most" = some none)
    (nf_TooMany_code : PySem.W.findIn K (.ref C27) "code" = some none)
    (kk_MOST_NAMES : PySem.W.nsIn K mainGlobals "MOST_NAMES" = some (some (.int 6 kt_MOST_NAMES)))
    (kk_MOST_UNSEEN : PySem.W.nsIn K mainGlobals "MOST_UNSEEN" = some (some (.int 9 kt_MOST_UNSEEN)))
    (oc_InvalidNumber : K.lookup C23 = some (excClassObj nm_InvalidNumber qq_InvalidNumber C23 NN_InvalidNumber bs_InvalidNumber bm_InvalidNumber true sn_InvalidNumber sb_InvalidNumber ab_InvalidNumber co_InvalidNumber dd_InvalidNumber k0_InvalidNumber k1_InvalidNumber k2_InvalidNumber k3_InvalidNumber k5_InvalidNumber "ValueError.__new__"))
    (os_InvalidNumber : PySem.W.findIn K (.ref C23) "__setattr__" = some (some (.builtin "object.__setattr__")))
    (oe_InvalidNumber : PySem.W.subIn K (.ref C23) (.type "BaseException") = some true)
    (oy_InvalidNumber : PySem.W.typeIn K (.ref C23) = some (.type "type"))
    (ok_InvalidNumber : PySem.W.keepIn K (.ref C23) = true)
    (oty20 : PySem.W.typeIn K (.ref f20) = some (.type "function"))
    (nf_InvalidNumber_value : PySem.W.findIn K (.ref C23) "value" = some none)
    (nf_InvalidNumber_code : PySem.W.findIn K (.ref C23) "code" = some none)
    (vd_Structure_MOST : PySem.W.typeIn K (.ref C0) = some mc_Structure_MOST)
    (va_Structure_MOST : PySem.W.findCls K (.ref C0) mc_Structure_MOST "MOST" = some (.val (.int 12 vt_Structure_MOST)))
    (vb_Structure_MOST : PySem.W.readsIn K C0 mc_Structure_MOST = true)
    (vc_Structure_MOST : PySem.W.specialIn K (.ref C0) "__getattribute__" = some (some (.builtin "type.__getattribute__")))
    (oc_InvalidTable : K.lookup C24 = some (excClassObj nm_InvalidTable qq_InvalidTable C24 NN_InvalidTable bs_InvalidTable bm_InvalidTable true sn_InvalidTable sb_InvalidTable ab_InvalidTable co_InvalidTable dd_InvalidTable k0_InvalidTable k1_InvalidTable k2_InvalidTable k3_InvalidTable k5_InvalidTable "ValueError.__new__"))
    (os_InvalidTable : PySem.W.findIn K (.ref C24) "__setattr__" = some (some (.builtin "object.__setattr__")))
    (oe_InvalidTable : PySem.W.subIn K (.ref C24) (.type "BaseException") = some true)
    (oy_InvalidTable : PySem.W.typeIn K (.ref C24) = some (.type "type"))
    (ok_InvalidTable : PySem.W.keepIn K (.ref C24) = true)
    (oty21 : PySem.W.typeIn K (.ref f21) = some (.type "function"))
    (nf_InvalidTable_at : PySem.W.findIn K (.ref C24) "at" = some none)
    (nf_InvalidTable_code : PySem.W.findIn K (.ref C24) "code" = some none)
    (n_Structure_names : PySem.W.findIn K (.ref C0) "_names" = some none)
    (pg_Structure : PySem.W.plainGet K C0 Str.empty = true)
    (hd_Structure : PySem.W.hasDictIn K C0 = true)
    (po_Structure : PySem.W.plainOver K C0 = true)
    (sa_Structure : PySem.W.findIn K (.ref C0) "__setattr__" = some (some (.builtin "object.__setattr__")))
    (n_Structure_unseen : PySem.W.findIn K (.ref C0) "_unseen" = some none)
    (n_Structure_table : PySem.W.findIn K (.ref C0) "_table" = some none)
    (ms_Structure : PySem.W.makesIn K C0 = true)
    (kC_Structure : PySem.W.keepIn K (.ref C0) = true)
    (z_all : PySem.W.nsIn K mainGlobals "all" = some none)
    (z_bool : PySem.W.nsIn K mainGlobals "bool" = some none)
    (z_enumerate : PySem.W.nsIn K mainGlobals "enumerate" = some none)
    (z_int : PySem.W.nsIn K mainGlobals "int" = some none)
    (z_isinstance : PySem.W.nsIn K mainGlobals "isinstance" = some none)
    (z_len : PySem.W.nsIn K mainGlobals "len" = some none)
    (z_list : PySem.W.nsIn K mainGlobals "list" = some none)
    (z_range : PySem.W.nsIn K mainGlobals "range" = some none)
    (z_sorted : PySem.W.nsIn K mainGlobals "sorted" = some none)
    (z_str : PySem.W.nsIn K mainGlobals "str" = some none)
    (z_tuple : PySem.W.nsIn K mainGlobals "tuple" = some none)
    (z_zip : PySem.W.nsIn K mainGlobals "zip" = some none)
    (ob_InvalidName : ownB [.type "ValueError", .type "Exception", .type "BaseException", .type "object"] bm_InvalidName = true)
    (ob_DuplicateName : ownB [.type "ValueError", .type "Exception", .type "BaseException", .type "object"] bm_DuplicateName = true)
    (ob_TooMany : ownB [.type "ValueError", .type "Exception", .type "BaseException", .type "object"] bm_TooMany = true)
    (ob_InvalidNumber : ownB [.type "ValueError", .type "Exception", .type "BaseException", .type "object"] bm_InvalidNumber = true)
    (ob_InvalidTable : ownB [.type "ValueError", .type "Exception", .type "BaseException", .type "object"] bm_InvalidTable = true)
    (t1 : h.get? P0 = some { cls := .none, data := .fields #[] })
    (t2 : K.lookup P0 = none)
    (t3 : PySem.W.codeHdIn K lawC P0 = true)
    : ∃ (fd : FuncData) (c1 P1 : Addr), h.get? P1 = some { cls := .none, data := .fields #[] } ∧ K.lookup P1 = none ∧ PySem.W.CodeHd h c1 P1 ∧ (∀ (s : Shared) (v : Value), BindsTo s fd ⟨[v], []⟩ [("_law_script", v)]) ∧ ∀ base : Heap, K.In base → base.Ns mainGlobals mg → LamX.TabB base mg c1 P1 → FnOk P w K mg base (L2.CX P w) 10 fa fd ["_law_script"] (spL K P1) := by
  have e := hfa.symm.trans (PySem.W.mg_of X G a29)
  cases e
  let C : Nat → Addr := fun i => match i with
    | 0 => C0
    | 20 => C20
    | 21 => C21
    | 22 => C22
    | 23 => C23
    | 24 => C24
    | 26 => C26
    | 27 => C27
    | 29 => C29
    | _ => 0
  let f : Nat → Addr := fun i => match i with
    | 0 => f0
    | 1 => f1
    | 2 => f2
    | 3 => f3
    | 4 => f4
    | 5 => f5
    | 6 => f6
    | 7 => f7
    | 8 => f8
    | 9 => f9
    | 10 => f10
    | 11 => f11
    | 12 => f12
    | 13 => f13
    | 14 => f14
    | 15 => f15
    | 16 => f16
    | 17 => f17
    | 18 => f18
    | 19 => f19
    | 20 => f20
    | 21 => f21
    | 22 => f22
    | 23 => f23
    | 24 => f24
    | 25 => f25
    | 26 => f26
    | 27 => f27
    | 28 => f28
    | 29 => fa
    | _ => 0
  let fd : Nat → FuncData := fun i => match i with
    | 0 => (PySem.W.fnOf "_law_bag" "_law_bag" (defArgs s_l_bag) (defBody s_l_bag) (defScope s_l_bag) .none kV0 dc0 pm0 an0 cd0 ct0)
    | 1 => (PySem.W.fnOf "_law_pull" "_law_pull" (defArgs s_l_pull) (defBody s_l_pull) (defScope s_l_pull) .none kV1 dc1 pm1 an1 cd1 ct1)
    | 2 => (PySem.W.fnOf "_law_any" "_law_any" (defArgs s_l_any) (defBody s_l_any) (defScope s_l_any) .none kV2 dc2 pm2 an2 cd2 ct2)
    | 3 => (PySem.W.fnOf "_law_names" "_law_names" (defArgs s_l_names) (defBody s_l_names) (defScope s_l_names) .none kV3 dc3 pm3 an3 cd3 ct3)
    | 4 => (PySem.W.fnOf "_law_columns" "_law_columns" (defArgs s_l_columns) (defBody s_l_columns) (defScope s_l_columns) .none kV4 dc4 pm4 an4 cd4 ct4)
    | 5 => (PySem.W.fnOf "_law_added" "_law_added" (defArgs s_l_added) (defBody s_l_added) (defScope s_l_added) .none kV5 dc5 pm5 an5 cd5 ct5)
    | 6 => (PySem.W.fnOf "_law_spread_out" "_law_spread_out" (defArgs s_l_spread_out) (defBody s_l_spread_out) (defScope s_l_spread_out) .none kV6 dc6 pm6 an6 cd6 ct6)
    | 7 => (PySem.W.fnOf "_law_column_ranks" "_law_column_ranks" (defArgs s_l_column_ranks) (defBody s_l_column_ranks) (defScope s_l_column_ranks) .none kV7 dc7 pm7 an7 cd7 ct7)
    | 8 => (PySem.W.fnOf "_law_world" "_law_world" (defArgs s_l_world) (defBody s_l_world) (defScope s_l_world) .none kV8 dc8 pm8 an8 cd8 ct8)
    | 9 => (PySem.W.fnOf "_law_is_count" "_law_is_count" (defArgs s_l_is_count) (defBody s_l_is_count) (defScope s_l_is_count) .none kV9 dc9 pm9 an9 cd9 ct9)
    | 10 => (PySem.W.fnOf "_law_counts" "_law_counts" (defArgs s_l_counts) (defBody s_l_counts) (defScope s_l_counts) .none kV10 dc10 pm10 an10 cd10 ct10)
    | 11 => (PySem.W.fnOf "_law_breaks" "_law_breaks" (defArgs s_l_breaks) (defBody s_l_breaks) (defScope s_l_breaks) .none kV11 dc11 pm11 an11 cd11 ct11)
    | 12 => (PySem.W.fnOf "_law_field" "_law_field" (defArgs s_l_field) (defBody s_l_field) (defScope s_l_field) .none kV12 dc12 pm12 an12 cd12 ct12)
    | 13 => (PySem.W.fnOf "__init__" "InvalidName.__init__" (defArgs s_InvalidName_init) (defBody s_InvalidName_init) (defScope s_InvalidName_init) .none kV13 dc13 pm13 an13 cd13 ct13)
    | 14 => (PySem.W.fnOf "_is_word" "_is_word" (defArgs s_is_word) (defBody s_is_word) (defScope s_is_word) .none kV14 dc14 pm14 an14 cd14 ct14)
    | 15 => (PySem.W.fnOf "is_name" "is_name" (defArgs s_is_name) (defBody s_is_name) (defScope s_is_name) .none kV15 dc15 pm15 an15 cd15 ct15)
    | 16 => (PySem.W.fnOf "__init__" "DuplicateName.__init__" (defArgs s_DuplicateName_init) (defBody s_DuplicateName_init) (defScope s_DuplicateName_init) .none kV16 dc16 pm16 an16 cd16 ct16)
    | 17 => (PySem.W.fnOf "__init__" "TooMany.__init__" (defArgs s_TooMany_init) (defBody s_TooMany_init) (defScope s_TooMany_init) .none kV17 dc17 pm17 an17 cd17 ct17)
    | 18 => (PySem.W.fnOf "checked_names" "checked_names" (defArgs s_checked_names) (defBody s_checked_names) (defScope s_checked_names) .none kV18 dc18 pm18 an18 cd18 ct18)
    | 19 => (PySem.W.fnOf "is_number" "is_number" (defArgs s_is_number) (defBody s_is_number) (defScope s_is_number) .none kV19 dc19 pm19 an19 cd19 ct19)
    | 20 => (PySem.W.fnOf "__init__" "InvalidNumber.__init__" (defArgs s_InvalidNumber_init) (defBody s_InvalidNumber_init) (defScope s_InvalidNumber_init) .none kV20 dc20 pm20 an20 cd20 ct20)
    | 21 => (PySem.W.fnOf "__init__" "InvalidTable.__init__" (defArgs s_InvalidTable_init) (defBody s_InvalidTable_init) (defScope s_InvalidTable_init) .none kV21 dc21 pm21 an21 cd21 ct21)
    | 22 => (PySem.W.fnOf "single_bits" "single_bits" (defArgs s_single_bits) (defBody s_single_bits) (defScope s_single_bits) .none kV22 dc22 pm22 an22 cd22 ct22)
    | 23 => (PySem.W.fnOf "_fits" "_fits" (defArgs s_fits) (defBody s_fits) (defScope s_fits) .none kV23 dc23 pm23 an23 cd23 ct23)
    | 24 => (PySem.W.fnOf "_check_table" "_check_table" (defArgs s_check_table) (defBody s_check_table) (defScope s_check_table) .none kV24 dc24 pm24 an24 cd24 ct24)
    | 25 => (PySem.W.fnOf "__init__" "Structure.__init__" (defArgs s_Structure_init) (defBody s_Structure_init) (defScope s_Structure_init) .none (.ref KD25) dc25 pm25 an25 cd25 ct25)
    | 26 => (PySem.W.fnOf "table" "Structure.table" (defArgs s_Structure_table) (defBody s_Structure_table) (defScope s_Structure_table) .none kV26 dc26 pm26 an26 cd26 ct26)
    | 27 => (PySem.W.fnOf "_law_same" "_law_same" (defArgs s_l_same) (defBody s_l_same) (defScope s_l_same) .none kV27 dc27 pm27 an27 cd27 ct27)
    | 28 => (PySem.W.fnOf "_law_why" "_law_why" (defArgs s_l_why) (defBody s_l_why) (defScope s_l_why) .none kV28 dc28 pm28 an28 cd28 ct28)
    | 29 => (PySem.W.fnOf "law" "law" (defArgs s_law) (defBody s_law) (defScope s_law) .none kV29 dc29 pm29 an29 (.ref lawC) ct29)
    | _ => (PySem.W.fnOf "_law_bag" "_law_bag" (defArgs s_l_bag) (defBody s_l_bag) (defScope s_l_bag) .none kV0 dc0 pm0 an0 cd0 ct0)
  have F0 : Fun K "_law_bag" "_law_bag" s_l_bag f0 (PySem.W.fnOf "_law_bag" "_law_bag" (defArgs s_l_bag) (defBody s_l_bag) (defScope s_l_bag) .none kV0 dc0 pm0 an0 cd0 ct0) := fun_mk (st := s_l_bag) l0 c0 k0
  have F1 : Fun K "_law_pull" "_law_pull" s_l_pull f1 (PySem.W.fnOf "_law_pull" "_law_pull" (defArgs s_l_pull) (defBody s_l_pull) (defScope s_l_pull) .none kV1 dc1 pm1 an1 cd1 ct1) := fun_mk (st := s_l_pull) l1 c1 k1
  have F2 : Fun K "_law_any" "_law_any" s_l_any f2 (PySem.W.fnOf "_law_any" "_law_any" (defArgs s_l_any) (defBody s_l_any) (defScope s_l_any) .none kV2 dc2 pm2 an2 cd2 ct2) := fun_mk (st := s_l_any) l2 c2 k2
  have F3 : Fun K "_law_names" "_law_names" s_l_names f3 (PySem.W.fnOf "_law_names" "_law_names" (defArgs s_l_names) (defBody s_l_names) (defScope s_l_names) .none kV3 dc3 pm3 an3 cd3 ct3) := fun_mk (st := s_l_names) l3 c3 k3
  have F4 : Fun K "_law_columns" "_law_columns" s_l_columns f4 (PySem.W.fnOf "_law_columns" "_law_columns" (defArgs s_l_columns) (defBody s_l_columns) (defScope s_l_columns) .none kV4 dc4 pm4 an4 cd4 ct4) := fun_mk (st := s_l_columns) l4 c4 k4
  have F5 : Fun K "_law_added" "_law_added" s_l_added f5 (PySem.W.fnOf "_law_added" "_law_added" (defArgs s_l_added) (defBody s_l_added) (defScope s_l_added) .none kV5 dc5 pm5 an5 cd5 ct5) := fun_mk (st := s_l_added) l5 c5 k5
  have F6 : Fun K "_law_spread_out" "_law_spread_out" s_l_spread_out f6 (PySem.W.fnOf "_law_spread_out" "_law_spread_out" (defArgs s_l_spread_out) (defBody s_l_spread_out) (defScope s_l_spread_out) .none kV6 dc6 pm6 an6 cd6 ct6) := fun_mk (st := s_l_spread_out) l6 c6 k6
  have F7 : Fun K "_law_column_ranks" "_law_column_ranks" s_l_column_ranks f7 (PySem.W.fnOf "_law_column_ranks" "_law_column_ranks" (defArgs s_l_column_ranks) (defBody s_l_column_ranks) (defScope s_l_column_ranks) .none kV7 dc7 pm7 an7 cd7 ct7) := fun_mk (st := s_l_column_ranks) l7 c7 k7
  have F8 : Fun K "_law_world" "_law_world" s_l_world f8 (PySem.W.fnOf "_law_world" "_law_world" (defArgs s_l_world) (defBody s_l_world) (defScope s_l_world) .none kV8 dc8 pm8 an8 cd8 ct8) := fun_mk (st := s_l_world) l8 c8 k8
  have F9 : Fun K "_law_is_count" "_law_is_count" s_l_is_count f9 (PySem.W.fnOf "_law_is_count" "_law_is_count" (defArgs s_l_is_count) (defBody s_l_is_count) (defScope s_l_is_count) .none kV9 dc9 pm9 an9 cd9 ct9) := fun_mk (st := s_l_is_count) l9 c9 k9
  have F10 : Fun K "_law_counts" "_law_counts" s_l_counts f10 (PySem.W.fnOf "_law_counts" "_law_counts" (defArgs s_l_counts) (defBody s_l_counts) (defScope s_l_counts) .none kV10 dc10 pm10 an10 cd10 ct10) := fun_mk (st := s_l_counts) l10 c10 k10
  have F11 : Fun K "_law_breaks" "_law_breaks" s_l_breaks f11 (PySem.W.fnOf "_law_breaks" "_law_breaks" (defArgs s_l_breaks) (defBody s_l_breaks) (defScope s_l_breaks) .none kV11 dc11 pm11 an11 cd11 ct11) := fun_mk (st := s_l_breaks) l11 c11 k11
  have F12 : Fun K "_law_field" "_law_field" s_l_field f12 (PySem.W.fnOf "_law_field" "_law_field" (defArgs s_l_field) (defBody s_l_field) (defScope s_l_field) .none kV12 dc12 pm12 an12 cd12 ct12) := fun_mk (st := s_l_field) l12 c12 k12
  have F13 : Fun K "__init__" "InvalidName.__init__" s_InvalidName_init f13 (PySem.W.fnOf "__init__" "InvalidName.__init__" (defArgs s_InvalidName_init) (defBody s_InvalidName_init) (defScope s_InvalidName_init) .none kV13 dc13 pm13 an13 cd13 ct13) := fun_mk (st := s_InvalidName_init) l13 c13 k13
  have F14 : Fun K "_is_word" "_is_word" s_is_word f14 (PySem.W.fnOf "_is_word" "_is_word" (defArgs s_is_word) (defBody s_is_word) (defScope s_is_word) .none kV14 dc14 pm14 an14 cd14 ct14) := fun_mk (st := s_is_word) l14 c14 k14
  have F15 : Fun K "is_name" "is_name" s_is_name f15 (PySem.W.fnOf "is_name" "is_name" (defArgs s_is_name) (defBody s_is_name) (defScope s_is_name) .none kV15 dc15 pm15 an15 cd15 ct15) := fun_mk (st := s_is_name) l15 c15 k15
  have F16 : Fun K "__init__" "DuplicateName.__init__" s_DuplicateName_init f16 (PySem.W.fnOf "__init__" "DuplicateName.__init__" (defArgs s_DuplicateName_init) (defBody s_DuplicateName_init) (defScope s_DuplicateName_init) .none kV16 dc16 pm16 an16 cd16 ct16) := fun_mk (st := s_DuplicateName_init) l16 c16 k16
  have F17 : Fun K "__init__" "TooMany.__init__" s_TooMany_init f17 (PySem.W.fnOf "__init__" "TooMany.__init__" (defArgs s_TooMany_init) (defBody s_TooMany_init) (defScope s_TooMany_init) .none kV17 dc17 pm17 an17 cd17 ct17) := fun_mk (st := s_TooMany_init) l17 c17 k17
  have F18 : Fun K "checked_names" "checked_names" s_checked_names f18 (PySem.W.fnOf "checked_names" "checked_names" (defArgs s_checked_names) (defBody s_checked_names) (defScope s_checked_names) .none kV18 dc18 pm18 an18 cd18 ct18) := fun_mk (st := s_checked_names) l18 c18 k18
  have F19 : Fun K "is_number" "is_number" s_is_number f19 (PySem.W.fnOf "is_number" "is_number" (defArgs s_is_number) (defBody s_is_number) (defScope s_is_number) .none kV19 dc19 pm19 an19 cd19 ct19) := fun_mk (st := s_is_number) l19 c19 k19
  have F20 : Fun K "__init__" "InvalidNumber.__init__" s_InvalidNumber_init f20 (PySem.W.fnOf "__init__" "InvalidNumber.__init__" (defArgs s_InvalidNumber_init) (defBody s_InvalidNumber_init) (defScope s_InvalidNumber_init) .none kV20 dc20 pm20 an20 cd20 ct20) := fun_mk (st := s_InvalidNumber_init) l20 c20 k20
  have F21 : Fun K "__init__" "InvalidTable.__init__" s_InvalidTable_init f21 (PySem.W.fnOf "__init__" "InvalidTable.__init__" (defArgs s_InvalidTable_init) (defBody s_InvalidTable_init) (defScope s_InvalidTable_init) .none kV21 dc21 pm21 an21 cd21 ct21) := fun_mk (st := s_InvalidTable_init) l21 c21 k21
  have F22 : Fun K "single_bits" "single_bits" s_single_bits f22 (PySem.W.fnOf "single_bits" "single_bits" (defArgs s_single_bits) (defBody s_single_bits) (defScope s_single_bits) .none kV22 dc22 pm22 an22 cd22 ct22) := fun_mk (st := s_single_bits) l22 c22 k22
  have F23 : Fun K "_fits" "_fits" s_fits f23 (PySem.W.fnOf "_fits" "_fits" (defArgs s_fits) (defBody s_fits) (defScope s_fits) .none kV23 dc23 pm23 an23 cd23 ct23) := fun_mk (st := s_fits) l23 c23 k23
  have F24 : Fun K "_check_table" "_check_table" s_check_table f24 (PySem.W.fnOf "_check_table" "_check_table" (defArgs s_check_table) (defBody s_check_table) (defScope s_check_table) .none kV24 dc24 pm24 an24 cd24 ct24) := fun_mk (st := s_check_table) l24 c24 k24
  have F25 : FunD K "__init__" "Structure.__init__" (defArgs s_Structure_init) (defBody s_Structure_init) (defScope s_Structure_init) [] [("unseen", V.int 0)] f25 (PySem.W.fnOf "__init__" "Structure.__init__" (defArgs s_Structure_init) (defBody s_Structure_init) (defScope s_Structure_init) .none (.ref KD25) dc25 pm25 an25 cd25 ct25) := ⟨⟨_, _, _, _, _, _, _, _, _, _, rfl, l25, c25, .inl ⟨rfl, rfl⟩, .inr ⟨_, rfl, fun q hq => by
    rcases List.mem_cons.mp hq with e | hq
    · subst e; exact ⟨_, w25_unseen, ⟨_, rfl⟩⟩
    · cases hq⟩⟩, k25⟩
  have F26 : Fun K "table" "Structure.table" s_Structure_table f26 (PySem.W.fnOf "table" "Structure.table" (defArgs s_Structure_table) (defBody s_Structure_table) (defScope s_Structure_table) .none kV26 dc26 pm26 an26 cd26 ct26) := fun_mk (st := s_Structure_table) l26 c26 k26
  have F27 : Fun K "_law_same" "_law_same" s_l_same f27 (PySem.W.fnOf "_law_same" "_law_same" (defArgs s_l_same) (defBody s_l_same) (defScope s_l_same) .none kV27 dc27 pm27 an27 cd27 ct27) := fun_mk (st := s_l_same) l27 c27 k27
  have F28 : Fun K "_law_why" "_law_why" s_l_why f28 (PySem.W.fnOf "_law_why" "_law_why" (defArgs s_l_why) (defBody s_l_why) (defScope s_l_why) .none kV28 dc28 pm28 an28 cd28 ct28) := fun_mk (st := s_l_why) l28 c28 k28
  have F29 : Fun K "law" "law" s_law fa (PySem.W.fnOf "law" "law" (defArgs s_law) (defBody s_law) (defScope s_law) .none kV29 dc29 pm29 an29 (.ref lawC) ct29) := fun_mk (st := s_law) l29 c29 k29
  have T : Txt K mg C f fd := {
    F_l_bag := F0
    b_l_bag := F0.binds fun _ _ _ _ _ _ us hl => match us, hl with | [_], _ => rfl
    g_l_bag := PySem.W.mg_of X G a0
    F_l_pull := F1
    b_l_pull := F1.binds fun _ _ _ _ _ _ us hl => match us, hl with | [_, _], _ => rfl
    g_l_pull := PySem.W.mg_of X G a1
    F_l_any := F2
    b_l_any := F2.binds fun _ _ _ _ _ _ us hl => match us, hl with | [_, _], _ => rfl
    g_l_any := PySem.W.mg_of X G a2
    F_l_names := F3
    b_l_names := F3.binds fun _ _ _ _ _ _ us hl => match us, hl with | [_, _], _ => rfl
    g_l_names := PySem.W.mg_of X G a3
    F_l_columns := F4
    b_l_columns := F4.binds fun _ _ _ _ _ _ us hl => match us, hl with | [_, _, _, _], _ => rfl
    g_l_columns := PySem.W.mg_of X G a4
    F_l_added := F5
    b_l_added := F5.binds fun _ _ _ _ _ _ us hl => match us, hl with | [_, _, _, _], _ => rfl
    g_l_added := PySem.W.mg_of X G a5
    F_l_spread_out := F6
    b_l_spread_out := F6.binds fun _ _ _ _ _ _ us hl => match us, hl with | [_, _, _], _ => rfl
    g_l_spread_out := PySem.W.mg_of X G a6
    F_l_column_ranks := F7
    b_l_column_ranks := F7.binds fun _ _ _ _ _ _ us hl => match us, hl with | [_, _, _], _ => rfl
    g_l_column_ranks := PySem.W.mg_of X G a7
    F_l_world := F8
    b_l_world := F8.binds fun _ _ _ _ _ _ us hl => match us, hl with | [_, _, _], _ => rfl
    g_l_world := PySem.W.mg_of X G a8
    F_l_is_count := F9
    b_l_is_count := F9.binds fun _ _ _ _ _ _ us hl => match us, hl with | [_], _ => rfl
    g_l_is_count := PySem.W.mg_of X G a9
    F_l_counts := F10
    b_l_counts := F10.binds fun _ _ _ _ _ _ us hl => match us, hl with | [_], _ => rfl
    g_l_counts := PySem.W.mg_of X G a10
    F_l_breaks := F11
    b_l_breaks := F11.binds fun _ _ _ _ _ _ us hl => match us, hl with | [_, _], _ => rfl
    g_l_breaks := PySem.W.mg_of X G a11
    F_l_field := F12
    b_l_field := F12.binds fun _ _ _ _ _ _ us hl => match us, hl with | [_], _ => rfl
    g_l_field := PySem.W.mg_of X G a12
    F_InvalidName_init := F13
    b_InvalidName_init := F13.binds fun _ _ _ _ _ _ us hl => match us, hl with | [_, _], _ => rfl
    F_is_word := F14
    b_is_word := F14.binds fun _ _ _ _ _ _ us hl => match us, hl with | [_, _], _ => rfl
    g_is_word := PySem.W.mg_of X G a14
    F_is_name := F15
    b_is_name := F15.binds fun _ _ _ _ _ _ us hl => match us, hl with | [_], _ => rfl
    g_is_name := PySem.W.mg_of X G a15
    F_DuplicateName_init := F16
    b_DuplicateName_init := F16.binds fun _ _ _ _ _ _ us hl => match us, hl with | [_, _], _ => rfl
    F_TooMany_init := F17
    b_TooMany_init := F17.binds fun _ _ _ _ _ _ us hl => match us, hl with | [_, _, _], _ => rfl
    F_checked_names := F18
    b_checked_names := F18.binds fun _ _ _ _ _ _ us hl => match us, hl with | [_, _], _ => rfl
    g_checked_names := PySem.W.mg_of X G a18
    F_is_number := F19
    b_is_number := F19.binds fun _ _ _ _ _ _ us hl => match us, hl with | [_, _, _], _ => rfl
    g_is_number := PySem.W.mg_of X G a19
    F_InvalidNumber_init := F20
    b_InvalidNumber_init := F20.binds fun _ _ _ _ _ _ us hl => match us, hl with | [_, _], _ => rfl
    F_InvalidTable_init := F21
    b_InvalidTable_init := F21.binds fun _ _ _ _ _ _ us hl => match us, hl with | [_, _], _ => rfl
    F_single_bits := F22
    b_single_bits := F22.binds fun _ _ _ _ _ _ us hl => match us, hl with | [_], _ => rfl
    g_single_bits := PySem.W.mg_of X G a22
    F_fits := F23
    b_fits := F23.binds fun _ _ _ _ _ _ us hl => match us, hl with | [_, _], _ => rfl
    g_fits := PySem.W.mg_of X G a23
    F_check_table := F24
    b_check_table := F24.binds fun _ _ _ _ _ _ us hl => match us, hl with | [_, _], _ => rfl
    g_check_table := PySem.W.mg_of X G a24
    F_Structure_init := F25
    F_Structure_table := F26
    b_Structure_table := F26.binds fun _ _ _ _ _ _ us hl => match us, hl with | [_], _ => rfl
    F_l_same := F27
    b_l_same := F27.binds fun _ _ _ _ _ _ us hl => match us, hl with | [_, _], _ => rfl
    g_l_same := PySem.W.mg_of X G a27
    F_l_why := F28
    b_l_why := F28.binds fun _ _ _ _ _ _ us hl => match us, hl with | [_], _ => rfl
    g_l_why := PySem.W.mg_of X G a28
    F_law := F29
    b_law := F29.binds fun _ _ _ _ _ _ us hl => match us, hl with | [_], _ => rfl
    g_law := PySem.W.mg_of X G a29
    kc_Structure_init_3_0 := kbn_mkD F25 3 ["unseen"] [0] fun _ _ _ _ _ _ us ws h1 h2 => match us, ws, h1, h2 with | [_, _, _], [_], _, _ => rfl
    xc_all := ⟨(List.forall_mem_cons.mpr ⟨⟨xg_InvalidTable, xh_InvalidTable, xb_InvalidTable, xd_InvalidTable⟩, (fun _ h => nomatch h)⟩), (List.forall_mem_cons.mpr ⟨(List.forall_mem_cons.mpr ⟨xn_InvalidTable_code, (List.forall_mem_cons.mpr ⟨xn_InvalidTable_value, (List.forall_mem_cons.mpr ⟨xn_InvalidTable_at, (List.forall_mem_cons.mpr ⟨xn_InvalidTable_path, (List.forall_mem_cons.mpr ⟨xn_InvalidTable_word, (List.forall_mem_cons.mpr ⟨xn_InvalidTable_line, (List.forall_mem_cons.mpr ⟨xn_InvalidTable_name, (List.forall_mem_cons.mpr ⟨xn_InvalidTable_piece, (List.forall_mem_cons.mpr ⟨xn_InvalidTable_user, (List.forall_mem_cons.mpr ⟨xn_InvalidTable_subject, (List.forall_mem_cons.mpr ⟨xn_InvalidTable_most, (List.forall_mem_cons.mpr ⟨xn_InvalidTable_limit, (fun _ h => nomatch h)⟩)⟩)⟩)⟩)⟩)⟩)⟩)⟩)⟩)⟩)⟩)⟩), (fun _ h => nomatch h)⟩)⟩
    m_RestError := PySem.W.mg_of X G aC_RestError
    m_Missing := PySem.W.mg_of X G aC_Missing
    m_NothingLeft := PySem.W.mg_of X G aC_NothingLeft
    ex_all := (List.forall_mem_cons.mpr ⟨ex_InvalidTable, (fun _ h => nomatch h)⟩)
    ox_InvalidName := ⟨⟨_, _, _, _, _, _, _, _, _, _, _, _, _, _, _, _, _, _, _, base_value, oc_InvalidName, own_by ob_InvalidName⟩, os_InvalidName, oe_InvalidName, oy_InvalidName, ok_InvalidName⟩
    oi_InvalidName := a13
    ot_InvalidName := oty13
    nf_InvalidName_value := nf_InvalidName_value
    nf_InvalidName_code := nf_InvalidName_code
    m_InvalidName := PySem.W.mg_of X G aC_InvalidName
    ox_DuplicateName := ⟨⟨_, _, _, _, _, _, _, _, _, _, _, _, _, _, _, _, _, _, _, base_value, oc_DuplicateName, own_by ob_DuplicateName⟩, os_DuplicateName, oe_DuplicateName, oy_DuplicateName, ok_DuplicateName⟩
    oi_DuplicateName := a16
    ot_DuplicateName := oty16
    nf_DuplicateName_name := nf_DuplicateName_name
    nf_DuplicateName_code := nf_DuplicateName_code
    m_DuplicateName := PySem.W.mg_of X G aC_DuplicateName
    ox_TooMany := ⟨⟨_, _, _, _, _, _, _, _, _, _, _, _, _, _, _, _, _, _, _, base_value, oc_TooMany, own_by ob_TooMany⟩, os_TooMany, oe_TooMany, oy_TooMany, ok_TooMany⟩
    oi_TooMany := a17
    ot_TooMany := oty17
    nf_TooMany_subject := nf_TooMany_subject
    nf_TooMany_most := nf_TooMany_most
    nf_TooMany_code := nf_TooMany_code
    m_TooMany := PySem.W.mg_of X G aC_TooMany
    k_MOST_NAMES := ⟨_, PySem.W.mg_of X G kk_MOST_NAMES, ⟨_, rfl⟩⟩
    k_MOST_UNSEEN := ⟨_, PySem.W.mg_of X G kk_MOST_UNSEEN, ⟨_, rfl⟩⟩
    ox_InvalidNumber := ⟨⟨_, _, _, _, _, _, _, _, _, _, _, _, _, _, _, _, _, _, _, base_value, oc_InvalidNumber, own_by ob_InvalidNumber⟩, os_InvalidNumber, oe_InvalidNumber, oy_InvalidNumber, ok_InvalidNumber⟩
    oi_InvalidNumber := a20
    ot_InvalidNumber := oty20
    nf_InvalidNumber_value := nf_InvalidNumber_value
    nf_InvalidNumber_code := nf_InvalidNumber_code
    m_InvalidNumber := PySem.W.mg_of X G aC_InvalidNumber
    v_Structure_MOST := ⟨_, _, ⟨vb_Structure_MOST, vc_Structure_MOST⟩, ⟨va_Structure_MOST, ⟨_, rfl⟩⟩⟩
    m_Structure := PySem.W.mg_of X G aC_Structure
    ox_InvalidTable := ⟨⟨_, _, _, _, _, _, _, _, _, _, _, _, _, _, _, _, _, _, _, base_value, oc_InvalidTable, own_by ob_InvalidTable⟩, os_InvalidTable, oe_InvalidTable, oy_InvalidTable, ok_InvalidTable⟩
    oi_InvalidTable := a21
    ot_InvalidTable := oty21
    nf_InvalidTable_at := nf_InvalidTable_at
    nf_InvalidTable_code := nf_InvalidTable_code
    m_InvalidTable := PySem.W.mg_of X G aC_InvalidTable
    n_Structure_names := n_Structure_names
    c_Structure := ⟨pg_Structure, hd_Structure, po_Structure, sa_Structure⟩
    n_Structure_unseen := n_Structure_unseen
    n_Structure_table := n_Structure_table
    mk_Structure := ⟨ms_Structure, a25, i25, kC_Structure⟩
    me_Structure_table := ⟨a26, i26, k26⟩
    z_all := PySem.W.mg_none_of X G z_all
    z_bool := PySem.W.mg_none_of X G z_bool
    z_enumerate := PySem.W.mg_none_of X G z_enumerate
    z_int := PySem.W.mg_none_of X G z_int
    z_isinstance := PySem.W.mg_none_of X G z_isinstance
    z_len := PySem.W.mg_none_of X G z_len
    z_list := PySem.W.mg_none_of X G z_list
    z_range := PySem.W.mg_none_of X G z_range
    z_sorted := PySem.W.mg_none_of X G z_sorted
    z_str := PySem.W.mg_none_of X G z_str
    z_tuple := PySem.W.mg_none_of X G z_tuple
    z_zip := PySem.W.mg_none_of X G z_zip
  }
  exact ⟨_, lawC, P0, t1, t2, PySem.W.codeHd_of_K X t3, fun s v => .of_eq rfl, fun base _ _ TB => ok_law T ff_ok TB l29 c29 (law_true C P0)⟩
theorem no_exc {P : Program} {w : World} {H : Hp} {s : Shared} {e : Value} {s' : Shared} (h : L2.CX P w [] H s (fun _ _ _ => False) e s') : False := by
  obtain ⟨_, _, _, _, _, _, _, _, _, _, _, _, z⟩ := h
  exact z
end Dn
open PySem PySem.W PyProof.Rows
set_option maxHeartbeats 0 in
theorem PySem.Challenge.cw_unseenrest_k05_whole_tables_are_ranks_holds : PySem.Challenge.rw_unseenrest_k05_whole_tables_are_ranks.Holds := by
  w_on; o_law; k_head; (case hw => w_witness2)
  k_fill
  refine LamX.walk_ofTs (l := PySem.Challenge.rw_unseenrest_k05_whole_tables_are_ranks) (n := 63) (k := 10) (x := "_law_script") (CX := fun w => L2.CX PySem.Challenge.rw_unseenrest_k05_whole_tables_are_ranks.prog w) rfl (by decide) rfl ⟨rfl, by decide, by decide⟩ (fun w h Y => PySem.W.km_in_of Y) ?F (fun _ _ _ _ _ h => Dn.no_exc h)
  case F =>
    intro w mg fa h Y KX G hmg
    have q := by
      refine' Dn.all_mk (P := PySem.Challenge.rw_unseenrest_k05_whole_tables_are_ranks.prog) (w := w) KX G hmg ?aC_RestError ?aC_Missing ?aC_NothingLeft ?aC_InvalidName ?aC_DuplicateName ?aC_TooMany ?aC_InvalidNumber ?aC_Structure ?aC_InvalidTable ?a0 ?l0 ?c0 ?k0 ?a1 ?l1 ?c1 ?k1 ?a2 ?l2 ?c2 ?k2 ?a3 ?l3 ?c3 ?k3 ?a4 ?l4 ?c4 ?k4 ?a5 ?l5 ?c5 ?k5 ?a6 ?l6 ?c6 ?k6 ?a7 ?l7 ?c7 ?k7 ?a8 ?l8 ?c8 ?k8 ?a9 ?l9 ?c9 ?k9 ?a10 ?l10 ?c10 ?k10 ?a11 ?l11 ?c11 ?k11 ?a12 ?l12 ?c12 ?k12 ?a13 ?i13 ?l13 ?c13 ?k13 ?a14 ?l14 ?c14 ?k14 ?a15 ?l15 ?c15 ?k15 ?a16 ?i16 ?l16 ?c16 ?k16 ?a17 ?i17 ?l17 ?c17 ?k17 ?a18 ?l18 ?c18 ?k18 ?a19 ?l19 ?c19 ?k19 ?a20 ?i20 ?l20 ?c20 ?k20 ?a21 ?i21 ?l21 ?c21 ?k21 ?a22 ?l22 ?c22 ?k22 ?a23 ?l23 ?c23 ?k23 ?a24 ?l24 ?c24 ?k24 ?a25 ?i25 ?l25 ?c25 ?k25 ?w25_unseen ?a26 ?i26 ?l26 ?c26 ?k26 ?a27 ?l27 ?c27 ?k27 ?a28 ?l28 ?c28 ?k28 ?a29 ?l29 ?c29 ?k29 ?xg_InvalidTable ?xh_InvalidTable ?xb_InvalidTable ?xd_InvalidTable ?xn_InvalidTable_code ?xn_InvalidTable_value ?xn_InvalidTable_at ?xn_InvalidTable_path ?xn_InvalidTable_word ?xn_InvalidTable_line ?xn_InvalidTable_name ?xn_InvalidTable_piece ?xn_InvalidTable_user ?xn_InvalidTable_subject ?xn_InvalidTable_most ?xn_InvalidTable_limit ?ex_InvalidTable ?oc_InvalidName ?os_InvalidName ?oe_InvalidName ?oy_InvalidName ?ok_InvalidName ?oty13 ?nf_InvalidName_value ?nf_InvalidName_code ?oc_DuplicateName ?os_DuplicateName ?oe_DuplicateName ?oy_DuplicateName ?ok_DuplicateName ?oty16 ?nf_DuplicateName_name ?nf_DuplicateName_code ?oc_TooMany ?os_TooMany ?oe_TooMany ?oy_TooMany ?ok_TooMany ?oty17 ?nf_TooMany_subject ?nf_TooMany_most ?nf_TooMany_code ?kk_MOST_NAMES ?kk_MOST_UNSEEN ?oc_InvalidNumber ?os_InvalidNumber ?oe_InvalidNumber ?oy_InvalidNumber ?ok_InvalidNumber ?oty20 ?nf_InvalidNumber_value ?nf_InvalidNumber_code ?vd_Structure_MOST ?va_Structure_MOST ?vb_Structure_MOST ?vc_Structure_MOST ?oc_InvalidTable ?os_InvalidTable ?oe_InvalidTable ?oy_InvalidTable ?ok_InvalidTable ?oty21 ?nf_InvalidTable_at ?nf_InvalidTable_code ?n_Structure_names ?pg_Structure ?hd_Structure ?po_Structure ?sa_Structure ?n_Structure_unseen ?n_Structure_table ?ms_Structure ?kC_Structure ?z_all ?z_bool ?z_enumerate ?z_int ?z_isinstance ?z_len ?z_list ?z_range ?z_sorted ?z_str ?z_tuple ?z_zip ?ob_InvalidName ?ob_DuplicateName ?ob_TooMany ?ob_InvalidNumber ?ob_InvalidTable ?t1 ?t2 ?t3
      (case aC_RestError => k_is); (case aC_Missing => k_is); (case aC_NothingLeft => k_is); (case aC_InvalidName => k_is); (case aC_DuplicateName => k_is); (case aC_TooMany => k_is); (case aC_InvalidNumber => k_is); (case aC_Structure => k_is); (case aC_InvalidTable => k_is); (case a0 => k_is); (case l0 => k_is); (case c0 => k_is); (case k0 => k_is); (case a1 => k_is); (case l1 => k_is); (case c1 => k_is); (case k1 => k_is); (case a2 => k_is); (case l2 => k_is); (case c2 => k_is); (case k2 => k_is); (case a3 => k_is); (case l3 => k_is); (case c3 => k_is); (case k3 => k_is); (case a4 => k_is); (case l4 => k_is); (case c4 => k_is); (case k4 => k_is); (case a5 => k_is); (case l5 => k_is); (case c5 => k_is); (case k5 => k_is); (case a6 => k_is); (case l6 => k_is); (case c6 => k_is); (case k6 => k_is); (case a7 => k_is); (case l7 => k_is); (case c7 => k_is); (case k7 => k_is); (case a8 => k_is); (case l8 => k_is); (case c8 => k_is); (case k8 => k_is); (case a9 => k_is); (case l9 => k_is); (case c9 => k_is); (case k9 => k_is); (case a10 => k_is); (case l10 => k_is); (case c10 => k_is); (case k10 => k_is); (case a11 => k_is); (case l11 => k_is); (case c11 => k_is); (case k11 => k_is); (case a12 => k_is); (case l12 => k_is); (case c12 => k_is); (case k12 => k_is); (case a13 => k_is); (case i13 => k_is); (case l13 => k_is); (case c13 => k_is); (case k13 => k_is); (case a14 => k_is); (case l14 => k_is); (case c14 => k_is); (case k14 => k_is); (case a15 => k_is); (case l15 => k_is); (case c15 => k_is); (case k15 => k_is); (case a16 => k_is); (case i16 => k_is); (case l16 => k_is); (case c16 => k_is); (case k16 => k_is); (case a17 => k_is); (case i17 => k_is); (case l17 => k_is); (case c17 => k_is); (case k17 => k_is); (case a18 => k_is); (case l18 => k_is); (case c18 => k_is); (case k18 => k_is); (case a19 => k_is); (case l19 => k_is); (case c19 => k_is); (case k19 => k_is); (case a20 => k_is); (case i20 => k_is); (case l20 => k_is); (case c20 => k_is); (case k20 => k_is); (case a21 => k_is); (case i21 => k_is); (case l21 => k_is); (case c21 => k_is); (case k21 => k_is); (case a22 => k_is); (case l22 => k_is); (case c22 => k_is); (case k22 => k_is); (case a23 => k_is); (case l23 => k_is); (case c23 => k_is); (case k23 => k_is); (case a24 => k_is); (case l24 => k_is); (case c24 => k_is); (case k24 => k_is); (case a25 => k_is); (case i25 => k_is); (case l25 => k_is); (case c25 => k_is); (case k25 => k_is); (case w25_unseen => k_is); (case a26 => k_is); (case i26 => k_is); (case l26 => k_is); (case c26 => k_is); (case k26 => k_is); (case a27 => k_is); (case l27 => k_is); (case c27 => k_is); (case k27 => k_is); (case a28 => k_is); (case l28 => k_is); (case c28 => k_is); (case k28 => k_is); (case a29 => k_is); (case l29 => k_is); (case c29 => k_is); (case k29 => k_is); (case xg_InvalidTable => k_is); (case xh_InvalidTable => k_is); (case xb_InvalidTable => k_is); (case xd_InvalidTable => k_is); (case xn_InvalidTable_code => k_is); (case xn_InvalidTable_value => k_is); (case xn_InvalidTable_at => k_is); (case xn_InvalidTable_path => k_is); (case xn_InvalidTable_word => k_is); (case xn_InvalidTable_line => k_is); (case xn_InvalidTable_name => k_is); (case xn_InvalidTable_piece => k_is); (case xn_InvalidTable_user => k_is); (case xn_InvalidTable_subject => k_is); (case xn_InvalidTable_most => k_is); (case xn_InvalidTable_limit => k_is); (case ex_InvalidTable => kernel_rfl); (case oc_InvalidName => k_is); (case os_InvalidName => k_is); (case oe_InvalidName => k_is); (case oy_InvalidName => k_is); (case ok_InvalidName => k_is); (case oty13 => k_is); (case nf_InvalidName_value => k_is); (case nf_InvalidName_code => k_is); (case oc_DuplicateName => k_is); (case os_DuplicateName => k_is); (case oe_DuplicateName => k_is); (case oy_DuplicateName => k_is); (case ok_DuplicateName => k_is); (case oty16 => k_is); (case nf_DuplicateName_name => k_is); (case nf_DuplicateName_code => k_is); (case oc_TooMany => k_is); (case os_TooMany => k_is); (case oe_TooMany => k_is); (case oy_TooMany => k_is); (case ok_TooMany => k_is); (case oty17 => k_is); (case nf_TooMany_subject => k_is); (case nf_TooMany_most => k_is); (case nf_TooMany_code => k_is); (case kk_MOST_NAMES => k_is); (case kk_MOST_UNSEEN => k_is); (case oc_InvalidNumber => k_is); (case os_InvalidNumber => k_is); (case oe_InvalidNumber => k_is); (case oy_InvalidNumber => k_is); (case ok_InvalidNumber => k_is); (case oty20 => k_is); (case nf_InvalidNumber_value => k_is); (case nf_InvalidNumber_code => k_is); (case vd_Structure_MOST => k_is); (case va_Structure_MOST => k_is); (case vb_Structure_MOST => k_is); (case vc_Structure_MOST => k_is); (case oc_InvalidTable => k_is); (case os_InvalidTable => k_is); (case oe_InvalidTable => k_is); (case oy_InvalidTable => k_is); (case ok_InvalidTable => k_is); (case oty21 => k_is); (case nf_InvalidTable_at => k_is); (case nf_InvalidTable_code => k_is); (case n_Structure_names => k_is); (case pg_Structure => k_is); (case hd_Structure => k_is); (case po_Structure => k_is); (case sa_Structure => k_is); (case n_Structure_unseen => k_is); (case n_Structure_table => k_is); (case ms_Structure => k_is); (case kC_Structure => k_is); (case z_all => k_is); (case z_bool => k_is); (case z_enumerate => k_is); (case z_int => k_is); (case z_isinstance => k_is); (case z_len => k_is); (case z_list => k_is); (case z_range => k_is); (case z_sorted => k_is); (case z_str => k_is); (case z_tuple => k_is); (case z_zip => k_is); (case ob_InvalidName => rfl); (case ob_DuplicateName => rfl); (case ob_TooMany => rfl); (case ob_InvalidNumber => rfl); (case ob_InvalidTable => rfl); (case t1 => exact PySem.W.km_tabs_of Y _ List.mem_cons_self); (case t2 => kernel_rfl); (case t3 => kernel_rfl)
    obtain ⟨fd, c0, P0, t1, t2, t3, hb, hf⟩ := q
    exact Dn.lawAt_mk t1 t2 t3 hb hf
