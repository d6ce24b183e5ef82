import PyProof.Rows.All
import Wide.All
import OpenK.AllK
import Wide.FinOn
import HandS.ForMost
import HandS.Deep
import HandS.DictComp
import HandS.TupAny
import HandS.IsInst
import KE.KDictKeyed
import HandS.Lambda
import HandS.EndTab
import HandS.Conv
import HandS.TupLen
import HandS.SortInts
import KE.GoesEnum
import HandS.SetBool
import HandS.TupSets
import HandS.Style
import HandS.RevRange
import KE.KDictPairs
import KE.SortData
import HandS.SortRule
import KE.KDictDisplayH
import HandS.Zip
import HandS.SetFor
import HandS.Nested
import HandS.SetKeys
import KE.KDictSum
import PySem.Challenge.RW_roletalks_k08_whole_first_letters
set_option Elab.async false
set_option linter.all false
set_option maxRecDepth 100000
set_option maxHeartbeats 4000000
/-! A layer over the hand layer: expressions and statements as functions on plain data. -/
namespace RT
open PySem PySem.Spec PyProof.Rows L2

inductive D where
  | none
  | bool (b : Bool)
  | int (i : Int)
  | str (x : Str)
  | list (xs : List D)
  | tuple (xs : List D)
  | dict (kvs : List (D × D))
  | dictT (kvs : List (D × D))
  | sets (ns : List Int)
mutual
def D.py : D → PyData
  | .none => .none
  | .bool b => .bool b
  | .int i => .int i
  | .str x => .str x
  | .list xs => .list (pyAll xs)
  | .tuple xs => .tuple (pyAll xs)
  | .dict _ => .dict []
  | .dictT _ => .dict []
  | .sets _ => .dict []
def pyAll : List D → List PyData
  | [] => []
  | x :: xs => D.py x :: pyAll xs
end
def shapedD (d : D) : Bool := SeqAt.shaped d.py
def eqD (d e : D) : Bool := PyData.eqv d.py e.py
structure FRow where
  ns : List Int
  a : Int
  b : Int
  c : Int
inductive OwD where
  | lst (ds : List D) | dk (ds : List (D × D)) | dt (ds : List (D × D))
def OwD.d : OwD → D
  | .lst ds => .list ds
  | .dk ds => .dict ds
  | .dt ds => .dictT ds
inductive FSl where
  | no | va (d : D) | ow (d : OwD) | rw
  /-- an owned dict with keys of any kind -/
  | da (ds : List (D × D))
  /-- a function made here: its object, its code object, that one's name, what it captured -/
  | fn (f c : Addr) (q : Str) (gs : List (V × D))
abbrev FEn := List FSl
inductive FRs where
  | nx (e : FEn) | rt (d : D) | bk (e : FEn) | ct (e : FEn)
abbrev FE := FEn → FRow → Option (D × FRow)
abbrev FT := FEn → FRow → Option (Bool × FRow)
abbrev FA := FEn → FRow → Option (List D × FRow)
abbrev FS := FEn → FRow → Option (FRs × FRow)

def keyD : L2.Key → D
  | .inl i => .int i
  | .inr x => .str x

mutual
inductive Rp (K : PySem.W.Frag) (O : Addr → Prop) (H : Hp) : V → D → Prop
  | non : Rp K O H .non .none
  | bl (b : Bool) : Rp K O H (.bl b) (.bool b)
  | int (i : Int) : Rp K O H (.int i) (.int i)
  | str (x : Str) : Rp K O H (.str x) (.str x)
  | lst {a : Addr} {xs : List V} {ds : List D} : ¬ O a → H a = some (.lst xs) → RpA K O H xs ds → Rp K O H (.ref a) (.list ds)
  | tup {a : Addr} {xs : List V} {ds : List D} : ¬ O a → H a = some (.tup xs) → RpA K O H xs ds → Rp K O H (.ref a) (.tuple ds)
  | dK {a : Addr} {kvs : List (L2.Key × V)} {ds : List (D × D)} : ¬ O a → L2.Rd H a (.dK kvs) → RpK K O H kvs ds → Rp K O H (.ref a) (.dict ds)
  | dT {a : Addr} {kvs : List (List L2.Key × V)} {ds : List (D × D)} : ¬ O a → H a = some (.dT kvs) → RpT K O H kvs ds → Rp K O H (.ref a) (.dictT ds)
inductive RpA (K : PySem.W.Frag) (O : Addr → Prop) (H : Hp) : List V → List D → Prop
  | nil : RpA K O H [] []
  | cons {v : V} {vs : List V} {d : D} {ds : List D} : Rp K O H v d → RpA K O H vs ds → RpA K O H (v :: vs) (d :: ds)
inductive RpK (K : PySem.W.Frag) (O : Addr → Prop) (H : Hp) : List (L2.Key × V) → List (D × D) → Prop
  | nil : RpK K O H [] []
  | cons {k : L2.Key} {v : V} {vs : List (L2.Key × V)} {d : D} {ds : List (D × D)} : Rp K O H v d → RpK K O H vs ds → RpK K O H ((k, v) :: vs) ((keyD k, d) :: ds)
inductive RpT (K : PySem.W.Frag) (O : Addr → Prop) (H : Hp) : List (List L2.Key × V) → List (D × D) → Prop
  | nil : RpT K O H [] []
  | cons {k : List L2.Key} {v : V} {vs : List (List L2.Key × V)} {d : D} {ds : List (D × D)} : Rp K O H v d → RpT K O H vs ds → RpT K O H ((k, v) :: vs) ((.tuple (k.map keyD), d) :: ds)
end

/-- the defs in which functions are made -/
def makers : List Str := ["set_web", "letters_from", "scenes_behind", "position_web", "why_not", "met", "shake_web"]
def lamq (x : Str) : Str := x ++ ".<locals>." ++ "<lambda>"
/-- the tables of the makers' code objects, each with the name of its functions -/
def TOK (K : PySem.W.Frag) (T : List (Addr × Str)) : Prop := ∀ x ∈ makers, ∀ c P, PySem.W.tabIn K x = some (c, P) → (P, lamq x) ∈ T ∧ ∀ p ∈ T, p.1 = P → p.2 = lamq x
theorem tok_nil {K : PySem.W.Frag} (h : (makers.all fun x => (PySem.W.tabIn K x).isNone) = true) : TOK K [] := fun x hx c P e => by
  have z := List.all_eq_true.mp h x hx
  rw [e] at z
  cases z
def isNT : HO → Bool
  | .tbl _ => false
  | _ => true
theorem isNT.ne {o : HO} (h : isNT o = true) (ps : Array Value) : o ≠ .tbl ps := fun e => by rw [e] at h; cases h
/-- a code object -/
def IsC (o : HO) : Prop := ∃ c q, o = LamX.CodeO c q
/-- what may be owned -/
def MutC : Option HO → Prop
  | some (.lst _) => True
  | some (.dK _) => True
  | some (.dT _) => True
  | some (.ext φ) => ¬ IsC (.ext φ)
  | _ => False
theorem mut_nt {o : HO} (h : MutC (some o)) : isNT o = true := by cases o <;> first | rfl | exact h.elim
theorem notC_lst {xs : List V} : ¬ IsC (.lst xs) := fun ⟨_, _, e⟩ => by unfold LamX.CodeO at e; cases e
theorem notC_dK {xs : List (L2.Key × V)} : ¬ IsC (.dK xs) := fun ⟨_, _, e⟩ => by unfold LamX.CodeO at e; cases e
theorem notC_dT {xs : List (List L2.Key × V)} : ¬ IsC (.dT xs) := fun ⟨_, _, e⟩ => by unfold LamX.CodeO at e; cases e
theorem notC_frz {o : Obj} {u : HO} : ¬ IsC (.frz o u) := fun ⟨_, _, e⟩ => by unfold LamX.CodeO at e; cases e
theorem MutC.nc {o : HO} (h : MutC (some o)) : ¬ IsC o := by
  cases o with
  | lst => exact notC_lst
  | dK => exact notC_dK
  | dT => exact notC_dT
  | ext => exact h
  | _ => exact h.elim
theorem MutC.mut {o : HO} (h : MutC (some o)) : Mut (some o) := by cases o <;> first | trivial | exact h.elim
section
variable {ω : World} {K : PySem.W.Frag} {O O' : Addr → Prop} {H H' : Hp}
/-- what is not to change stays, but for the tables of code objects -/
def Keep (O : Addr → Prop) (H H' : Hp) : Prop := ∀ a o, ¬ O a → H a = some o → isNT o = true → H' a = some o
/-- all stays, but for the tables -/
def SameT (T : List (Addr × Str)) (H H' : Hp) : Prop := (∀ a o, H a = some o → isNT o = true → H' a = some o) ∧ LamX.Tabs T H'
theorem SameT.of {T : List (Addr × Str)} (t : LamX.Tabs T H) (h : Same H H') : SameT T H H' := ⟨fun a o e _ => h a o e, t.ext h⟩
/-- nothing is there, or a table -/
def Gone (H : Hp) (p : Addr) : Prop := ∀ o, H p = some o → isNT o = false
theorem Gone.of {p : Addr} (h : H p = none) : Gone H p := fun o e => by rw [h] at e; cases e
theorem Gone.no {p : Addr} {o : HO} (h : Gone H p) (e : H p = some o) (t : isNT o = true) : False := by have := h o e; rw [t] at this; cases this
def Wid (O O' : Addr → Prop) (H : Hp) : Prop := ∀ a, O' a → O a ∨ Gone H a
theorem Wid.no (w : Wid O O' H) {a : Addr} {o : HO} (h : ¬ O a) (e : H a = some o) (t : isNT o = true := by rfl) : ¬ O' a := fun z => by
  rcases w a z with q | q
  · exact h q
  · exact q.no e t
theorem Wid.noR (w : Wid O O' H) {a : Addr} {o : HO} (h : ¬ O a) (e : L2.Rd H a o) (t : isNT o = true := by rfl) : ¬ O' a := e.elim (fun e => w.no h e t) fun ⟨_, e⟩ => w.no h e
theorem Keep.rd (k : Keep O H H') {a : Addr} {o : HO} (h : ¬ O a) (e : L2.Rd H a o) (n : isNT o = true := by rfl) : L2.Rd H' a o := e.elim (fun e => .inl (k _ _ h e n)) fun ⟨q, e⟩ => .inr ⟨q, k _ _ h e rfl⟩
/-- what is read stays to be read -/
structure Kq (O : Addr → Prop) (H H' : Hp) : Prop where
  l : ∀ a xs, ¬ O a → H a = some (.lst xs) → H' a = some (.lst xs)
  t : ∀ a xs, ¬ O a → H a = some (.tup xs) → H' a = some (.tup xs)
  d : ∀ a xs, ¬ O a → H a = some (.dT xs) → H' a = some (.dT xs)
  k : ∀ a xs, ¬ O a → L2.Rd H a (.dK xs) → L2.Rd H' a (.dK xs)
mutual
theorem Rp.mv (k : Kq O H H') : ∀ {v : V} {d : D}, Rp K O H v d → Rp K O H' v d
  | _, _, .non => .non
  | _, _, .bl b => .bl b
  | _, _, .int i => .int i
  | _, _, .str x => .str x
  | _, _, .lst h e r => .lst h (k.l _ _ h e) (RpA.mv k r)
  | _, _, .tup h e r => .tup h (k.t _ _ h e) (RpA.mv k r)
  | _, _, .dK h e r => .dK h (k.k _ _ h e) (RpK.mv k r)
  | _, _, .dT h e r => .dT h (k.d _ _ h e) (RpT.mv k r)
theorem RpA.mv (k : Kq O H H') : ∀ {v : List V} {d : List D}, RpA K O H v d → RpA K O H' v d
  | _, _, .nil => .nil
  | _, _, .cons a b => .cons (Rp.mv k a) (RpA.mv k b)
theorem RpK.mv (k : Kq O H H') : ∀ {v : List (L2.Key × V)} {d : List (D × D)}, RpK K O H v d → RpK K O H' v d
  | _, _, .nil => .nil
  | _, _, .cons a b => .cons (Rp.mv k a) (RpK.mv k b)
theorem RpT.mv (k : Kq O H H') : ∀ {v : List (List L2.Key × V)} {d : List (D × D)}, RpT K O H v d → RpT K O H' v d
  | _, _, .nil => .nil
  | _, _, .cons a b => .cons (Rp.mv k a) (RpT.mv k b)
end
mutual
theorem Rp.move (k : Keep O H H') (w : Wid O O' H) : ∀ {v : V} {d : D}, Rp K O H v d → Rp K O' H' v d
  | _, _, .non => .non
  | _, _, .bl b => .bl b
  | _, _, .int i => .int i
  | _, _, .str x => .str x
  | _, _, .lst h e r => .lst (w.no h e) (k _ _ h e rfl) (RpA.move k w r)
  | _, _, .tup h e r => .tup (w.no h e) (k _ _ h e rfl) (RpA.move k w r)
  | _, _, .dK h e r => .dK (w.noR h e) (k.rd h e) (RpK.move k w r)
  | _, _, .dT h e r => .dT (w.no h e) (k _ _ h e rfl) (RpT.move k w r)
theorem RpA.move (k : Keep O H H') (w : Wid O O' H) : ∀ {v : List V} {d : List D}, RpA K O H v d → RpA K O' H' v d
  | _, _, .nil => .nil
  | _, _, .cons a b => .cons (Rp.move k w a) (RpA.move k w b)
theorem RpK.move (k : Keep O H H') (w : Wid O O' H) : ∀ {v : List (L2.Key × V)} {d : List (D × D)}, RpK K O H v d → RpK K O' H' v d
  | _, _, .nil => .nil
  | _, _, .cons a b => .cons (Rp.move k w a) (RpK.move k w b)
theorem RpT.move (k : Keep O H H') (w : Wid O O' H) : ∀ {v : List (List L2.Key × V)} {d : List (D × D)}, RpT K O H v d → RpT K O' H' v d
  | _, _, .nil => .nil
  | _, _, .cons a b => .cons (Rp.move k w a) (RpT.move k w b)
end
theorem Wid.refl : Wid O O H := fun _ h => .inl h
theorem Keep.of (h : Same H H') : Keep O H H' := fun a o _ e _ => h a o e
theorem Keep.ofT {T : List (Addr × Str)} (h : SameT T H H') : Keep O H H' := fun a o _ e n => h.1 a o e n
theorem RpA.length : ∀ {v : List V} {d : List D}, RpA K O H v d → v.length = d.length
  | _, _, .nil => rfl
  | _, _, .cons _ b => by rw [List.length_cons, List.length_cons, RpA.length b]
theorem RpA.app : ∀ {v w : List V} {d e : List D}, RpA K O H v d → RpA K O H w e → RpA K O H (v ++ w) (d ++ e)
  | _, _, _, _, .nil, h => h
  | _, _, _, _, .cons a b, h => .cons a (RpA.app b h)
theorem RpA.get : ∀ {v : List V} {d : List D} {i : Nat} {x : D}, RpA K O H v d → d[i]? = some x → ∃ y, v[i]? = some y ∧ Rp K O H y x
  | _, _, _, _, .nil, h => by simp at h
  | _, _, 0, _, .cons a b, h => by simp at h; subst h; exact ⟨_, rfl, a⟩
  | _, _, i + 1, _, .cons a b, h => by
    obtain ⟨y, e, r⟩ := RpA.get (i := i) b (by simpa using h)
    exact ⟨y, by simpa using e, r⟩
theorem RpA.get' : ∀ {v : List V} {d : List D} {i : Nat} {y : V}, RpA K O H v d → v[i]? = some y → ∃ x, d[i]? = some x ∧ Rp K O H y x
  | _, _, _, _, .nil, h => by simp at h
  | _, _, 0, _, .cons a b, h => by simp at h; subst h; exact ⟨_, rfl, a⟩
  | _, _, i + 1, _, .cons a b, h => by
    obtain ⟨y, e, r⟩ := RpA.get' (i := i) b (by simpa using h)
    exact ⟨y, by simpa using e, r⟩
theorem RpA.take : ∀ {v : List V} {d : List D} (n : Nat), RpA K O H v d → RpA K O H (v.take n) (d.take n)
  | _, _, 0, _ => by simp; exact .nil
  | _, _, _ + 1, .nil => .nil
  | _, _, n + 1, .cons a b => .cons a (RpA.take n b)
theorem RpA.drop : ∀ {v : List V} {d : List D} (n : Nat), RpA K O H v d → RpA K O H (v.drop n) (d.drop n)
  | _, _, 0, h => h
  | _, _, _ + 1, .nil => .nil
  | _, _, n + 1, .cons a b => RpA.drop n b
theorem RpA.ints : ∀ {v : List V} {ns : List Int}, RpA K O H v (ns.map .int) → v = ns.map V.int
  | _, [], h => by cases h; rfl
  | _, n :: ns, h => by
    cases h with
    | cons a b => cases a; rw [RpA.ints b]; rfl
theorem RpA.ofInts : ∀ (ns : List Int), RpA K O H (ns.map V.int) (ns.map .int)
  | [] => .nil
  | n :: ns => .cons (.int n) (RpA.ofInts ns)
theorem RpA.bls : ∀ {v : List V} {ns : List Bool}, RpA K O H v (ns.map .bool) → v = ns.map V.bl
  | _, [], h => by cases h; rfl
  | _, n :: ns, h => by
    cases h with
    | cons a b => cases a; rw [RpA.bls b]; rfl
mutual
theorem Rp.dp : ∀ {v : V} {d : D}, Rp K O H v d → d.py.canLay0 = true → Dp K H v d.py
  | _, _, .non, _ => by simp only [D.py]; exact .non
  | _, _, .bl b, _ => by simp only [D.py]; exact .bl b
  | _, _, .int i, _ => by simp only [D.py]; exact .int i
  | _, _, .str x, _ => by simp only [D.py]; exact .str x
  | _, _, .lst h e r, s => by simp only [D.py] at s ⊢; exact .lst (.inl (.inl e)) (RpA.dp r (by simpa [PyData.canLay0] using s))
  | _, _, .tup h e r, s => by simp only [D.py] at s ⊢; exact .tup (.inl (.inl e)) (RpA.dp r (by simpa [PyData.canLay0] using s))
  | _, _, .dK _ _ _, s => by simp [D.py, PyData.canLay0] at s
  | _, _, .dT _ _ _, s => by simp [D.py, PyData.canLay0] at s
theorem RpA.dp : ∀ {v : List V} {d : List D}, RpA K O H v d → PyData.canLayAll0 (pyAll d) = true → DpAll K H v (pyAll d)
  | _, _, .nil, _ => by simp only [pyAll]; exact .nil
  | _, _, .cons a b, h => by
    simp only [pyAll] at h ⊢
    rw [PyData.canLayAll0, Bool.and_eq_true] at h
    exact .cons (Rp.dp a h.1) (RpA.dp b h.2)
end
theorem Rp.seqT {a : Addr} {ds : List D} (h : Rp K O H (.ref a) (.tuple ds)) : ∃ xs, SqT K H a xs ∧ RpA K O H xs ds := by
  cases h with
  | tup n e r => exact ⟨_, .inl (.inl e), r⟩
theorem Rp.tupAt {v : V} {ds : List D} (h : Rp K O H v (.tuple ds)) : ∃ a xs, v = .ref a ∧ H a = some (.tup xs) ∧ RpA K O H xs ds := by
  cases h with
  | tup n e r => exact ⟨_, _, rfl, e, r⟩
theorem Rp.isRef {v : V} {ds : List D} (h : Rp K O H v (.tuple ds)) : ∃ a, v = .ref a := by cases h <;> exact ⟨_, rfl⟩
end

/-! ### the state -/
structure FG where
  O0 : Addr → Prop
  H0 : Hp
  R : Option Addr
  gs : List (V × D)
  T : List (Addr × Str)
  w : World
def Le (g : FG) (H H' : Hp) : Prop := ∀ a o, g.R ≠ some a → H a = some o → isNT o = true → H' a = some o
theorem Le.refl (g : FG) (H : Hp) : Le g H H := fun _ _ _ h _ => h
theorem Le.trans {g : FG} {H H1 H2 : Hp} (a : Le g H H1) (b : Le g H1 H2) : Le g H H2 := fun c o n h t => b c o n (a c o n h t) t
theorem Le.of {g : FG} {H H' : Hp} (h : Same H H') : Le g H H' := fun a o _ e _ => h a o e
theorem Le.ofT {g : FG} {T : List (Addr × Str)} {H H' : Hp} (h : SameT T H H') : Le g H H' := fun a o _ e n => h.1 a o e n
theorem Le.ofN {g : FG} {H H' : Hp} (h : LamX.ExtN H H') : Le g H H' := fun a o _ e n => h a o e (isNT.ne n)
/-- all but the tables -/
def noT (H : Hp) : Hp := fun a => match H a with
  | some o => if isNT o then some o else none
  | none => none
theorem noT_some {H : Hp} {a : Addr} {o : HO} (h : noT H a = some o) : H a = some o ∧ isNT o = true := by
  unfold noT at h
  split at h
  · split at h
    · rename_i e t; cases h; exact ⟨e, t⟩
    · cases h
  · cases h
theorem noT_of {H : Hp} {a : Addr} {o : HO} (h : H a = some o) (t : isNT o = true) : noT H a = some o := by
  unfold noT; rw [h]; simp only [t, if_true]
/-- the script -/
def RowL (K : PySem.W.Frag) (O : Addr → Prop) (H : Hp) (a0 : Addr) (ns : List Int) : Prop := (¬ O a0 ∧ L2.Rd H a0 (.lst (ns.map V.int))) ∨ SqL K (fun _ => none) a0 (ns.map V.int)
def RowAt (K : PySem.W.Frag) (O : Addr → Prop) (H : Hp) (r : Addr) (x : FRow) : Prop := ∃ a0, H r = some (.lst [.ref a0, .int x.a, .int x.b, .int x.c]) ∧ RowL K O H a0 x.ns
theorem RowL.to {K : PySem.W.Frag} {O O' : Addr → Prop} {H H' : Hp} {a0 : Addr} {ns : List Int} (q : RowL K O H a0 ns) (f : ¬ O a0 → ¬ O' a0 ∧ ∀ o, H a0 = some o → isNT o = true → H' a0 = some o) : RowL K O' H' a0 ns := by
  rcases q with ⟨n, q⟩ | q
  · obtain ⟨f1, f2⟩ := f n
    rcases q with q | ⟨o, q⟩
    · exact .inl ⟨f1, .inl (f2 _ q rfl)⟩
    · exact .inl ⟨f1, .inr ⟨o, f2 _ q rfl⟩⟩
  · exact .inr q
theorem RowL.updO {K : PySem.W.Frag} {O : Addr → Prop} {H : Hp} {a0 p : Addr} {o : HO} {ns : List Int} (q : RowL K O H a0 ns) (op : O p) : RowL K O (upd H p o) a0 ns :=
  q.to fun n => ⟨n, fun u e _ => by rw [upd_ne (show a0 ≠ p from fun z => n (z ▸ op))]; exact e⟩
theorem RowL.seq {K : PySem.W.Frag} {O : Addr → Prop} {H : Hp} {a0 : Addr} {ns : List Int} (q : RowL K O H a0 ns) : SqL K H a0 (ns.map V.int) := by
  rcases q with ⟨_, q⟩ | q
  · exact .inl q
  · rcases q with (q | ⟨o, q⟩) | q
    · cases q
    · cases q
    · exact .inr q
def OwAt (K : PySem.W.Frag) (O : Addr → Prop) (H : Hp) (a : Addr) : OwD → Prop
  | .lst ds => ∃ xs, H a = some (.lst xs) ∧ RpA K O H xs ds
  | .dk ds => ∃ kvs, H a = some (.dK kvs) ∧ RpK K O H kvs ds
  | .dt ds => ∃ kvs, H a = some (.dT kvs) ∧ RpT K O H kvs ds
/-! dicts with keys of any kind -/
mutual
def nk : D → Option NestedKey
  | .none => some .none
  | .bool b => some (.num (if b = true then 1 else 0))
  | .int i => some (.num i)
  | .str x => some (.text x)
  | .tuple xs => (nks xs).map .tup
  | _ => none
def nks : List D → Option (List NestedKey)
  | [] => some []
  | d :: ds => match nk d, nks ds with
    | some k, some ks => some (k :: ks)
    | _, _ => none
end
abbrev DaX := NestedKey × Value × Value
def RawD (w : World) (a : Addr) (xs : List DaX) (h : Heap) : Prop :=
  (a == sysModules) = false ∧ ∃ o es ep, h.get? a = some o ∧ o.ExactDict ∧ o.data = .dict es ep ∧ es.toList = xs.map (fun x => (⟨x.1.hash w, x.2.1, x.2.2⟩ : DictEntry)) ∧ (xs.map (·.1)).Nodup
def isTupD : D → Bool
  | .tuple _ => true
  | _ => false
def lf : D → Option Leaf
  | .none => some .none
  | .bool b => some (.num (if b = true then 1 else 0))
  | .int i => some (.num i)
  | .str x => some (.text x)
  | _ => none
structure DaR (K : PySem.W.Frag) (O : Addr → Prop) (H : Hp) (x : DaX) (p : D × D) : Prop where
  k : nk p.1 = some x.1
  dp : x.1.depth ≤ 8
  u : isTupD p.1 = true → ∃ v, L2.RelV v x.2.1 ∧ Rp K O H v p.1
  l : ∀ l, lf p.1 = some l → Leaf.isOf l x.2.1 = true
  v : ∃ v, L2.RelV v x.2.2 ∧ Rp K O H v p.2
def DaAt (K : PySem.W.Frag) (O : Addr → Prop) (H : Hp) (a : Addr) (w : World) (ds : List (D × D)) : Prop :=
  ∃ xs, H a = some (.ext (RawD w a xs)) ∧ Paired (DaR K O H) xs ds
theorem DaR.mv {K : PySem.W.Frag} {O O' : Addr → Prop} {H H' : Hp} {x : DaX} {p : D × D} (f : ∀ v d, Rp K O H v d → Rp K O' H' v d) (r : DaR K O H x p) : DaR K O' H' x p :=
  ⟨r.k, r.dp, fun t => let ⟨v, a, b⟩ := r.u t; ⟨v, a, f _ _ b⟩, r.l, let ⟨v, a, b⟩ := r.v; ⟨v, a, f _ _ b⟩⟩
theorem DaAt.mv {K : PySem.W.Frag} {O O' : Addr → Prop} {H H' : Hp} {a : Addr} {w : World} {ds : List (D × D)} (h : DaAt K O H a w ds) (e : ∀ o, H a = some o → isNT o = true → H' a = some o) (f : ∀ v d, Rp K O H v d → Rp K O' H' v d) : DaAt K O' H' a w ds :=
  let ⟨xs, q, r⟩ := h; ⟨xs, e _ q rfl, L2.Paired.mapP r fun _ _ => DaR.mv f⟩
inductive SlOk (K : PySem.W.Frag) (g : FG) (O : Addr → Prop) (H : Hp) : Option V → FSl → Prop
  | no (s : Option V) : SlOk K g O H s .no
  | va {v : V} {d : D} : Rp K O H v d → SlOk K g O H (some v) (.va d)
  | ow {a : Addr} {d : OwD} : O a → ¬ g.O0 a → g.R ≠ some a → OwAt K O H a d → SlOk K g O H (some (.ref a)) (.ow d)
  | rw {r : Addr} : g.R = some r → SlOk K g O H (some (.ref r)) .rw
  | da {a : Addr} {ds : List (D × D)} : O a → ¬ g.O0 a → g.R ≠ some a → DaAt K O H a g.w ds → SlOk K g O H (some (.ref a)) (.da ds)
  | fn {f c : Addr} {q : Str} {gs : List (V × D)} : ¬ O c → H c = some (LamX.CodeO c q) → (∀ p ∈ gs, Rp K O H p.1 p.2) → SlOk K g O H (some (.ref f)) (.fn f c q gs)
structure FSt (ω : World) (K : PySem.W.Frag) (g : FG) (O : Addr → Prop) (σ : L2.St) (H : Hp) (env : FEn) (x : FRow) : Prop where
  sub : ∀ a, g.O0 a → O a
  new : ∀ a, O a → g.O0 a ∨ g.H0 a = none
  dom : ∀ a, O a → MutC (H a)
  le : Le g g.H0 H
  row : ∀ r, g.R = some r → g.O0 r ∧ g.H0 r ≠ none ∧ RowAt K O H r x
  len : σ.length = env.length
  sl : ∀ (i : Nat) s e, σ[i]? = some s → env[i]? = some e → SlOk K g O H s e
  dis : ∀ (i j : Nat) d d' a b, i ≠ j → env[i]? = some (.ow d) → env[j]? = some (.ow d') → σ[i]? = some (some (.ref a)) → σ[j]? = some (some (.ref b)) → a ≠ b
  gh : ∀ p ∈ g.gs, Rp K O H p.1 p.2
  tb : LamX.Tabs g.T H
  tk : TOK K g.T
  nt0 : ∀ a o, g.H0 a = some o → isNT o = true
  ww : g.w = ω
section
variable {ω : World} {K : PySem.W.Frag} {g : FG} {O : Addr → Prop} {σ : L2.St} {H H' : Hp} {env : FEn} {x x' : FRow}
theorem OwAt.move {O' : Addr → Prop} {a : Addr} {d : OwD} (h : OwAt K O H a d) (e : ∀ o, H a = some o → isNT o = true → H' a = some o) (k : Keep O H H') (w : Wid O O' H) : OwAt K O' H' a d := by
  cases d with
  | lst ds => obtain ⟨xs, q, r⟩ := h; exact ⟨xs, e _ q rfl, r.move k w⟩
  | dk ds => obtain ⟨xs, q, r⟩ := h; exact ⟨xs, e _ q rfl, r.move k w⟩
  | dt ds => obtain ⟨xs, q, r⟩ := h; exact ⟨xs, e _ q rfl, r.move k w⟩
theorem FSt.keep (S : FSt ω K g O σ H env x) (h : Le g H H') : Keep O H H' := fun a o n e t => h a o (fun z => n (S.sub a (S.row a z).1)) e t
/-- an expression went by: what is not the row's stays -/
theorem FSt.step (S : FSt ω K g O σ H env x) (h : Le g H H') (ht : LamX.Tabs g.T H') (hr : ∀ r, g.R = some r → RowAt K O H' r x') : FSt ω K g O σ H' env x' where
  tb := ht
  tk := S.tk
  nt0 := S.nt0
  ww := S.ww
  sub := S.sub
  new := S.new
  dom := fun a ha => by
    have z := S.dom a ha
    cases q : H a with
    | none => rw [q] at z; exact z.elim
    | some o =>
      by_cases hR : g.R = some a
      · obtain ⟨a0, e, _⟩ := hr a hR
        rw [e]; exact True.intro
      · rw [h a o hR q (mut_nt (by rw [q] at z; exact z)), ← q]; exact z
  le := S.le.trans h
  row := fun r e => ⟨(S.row r e).1, (S.row r e).2.1, hr r e⟩
  len := S.len
  sl := fun i s e h1 h2 => by
    have k := S.keep h
    cases S.sl i s e h1 h2 with
    | no => exact .no _
    | va r => exact .va (r.move k .refl)
    | ow a b c d => exact .ow a b c (d.move (fun o q t => h _ o c q t) k .refl)
    | rw e => exact .rw e
    | da a b c d => exact .da a b c (d.mv (fun o q t => h _ o c q t) fun _ _ r => r.move k .refl)
    | fn a b c => exact .fn a (k _ _ a b rfl) fun p hp => (c p hp).move k .refl
  dis := S.dis
  gh := fun p hp => (S.gh p hp).move (S.keep h) .refl
theorem RowAt.to {O' : Addr → Prop} {r : Addr} (q : RowAt K O H r x) (hr : ∀ o, H r = some o → isNT o = true → H' r = some o) (f : ∀ a0, ¬ O a0 → ¬ O' a0 ∧ ∀ o, H a0 = some o → isNT o = true → H' a0 = some o) : RowAt K O' H' r x := by
  obtain ⟨a0, e, q⟩ := q
  exact ⟨a0, hr _ e rfl, q.to (f a0)⟩
theorem RowAt.same {r : Addr} (h : Same H H') (q : RowAt K O H r x) : RowAt K O H' r x := q.to (fun o e _ => h _ _ e) fun a0 n => ⟨n, fun o e _ => h _ _ e⟩
theorem RowAt.sameT {T : List (Addr × Str)} {r : Addr} (h : SameT T H H') (q : RowAt K O H r x) : RowAt K O H' r x := q.to (fun o e t => h.1 _ _ e t) fun a0 n => ⟨n, fun o e t => h.1 _ _ e t⟩
theorem RowAt.ext {r : Addr} (h : LamX.ExtN H H') (q : RowAt K O H r x) : RowAt K O H' r x := q.to (fun o e t => h _ _ e (isNT.ne t)) fun a0 n => ⟨n, fun o e t => h _ _ e (isNT.ne t)⟩
theorem RowAt.sub {O' : Addr → Prop} {r : Addr} (q : RowAt K O' H r x) (h : ∀ a, O a → O' a) : RowAt K O H r x := q.to (fun o e _ => e) fun a0 n => ⟨fun z => n (h _ z), fun o e _ => e⟩
theorem FSt.same (S : FSt ω K g O σ H env x) (h : Same H H') : FSt ω K g O σ H' env x := S.step (.of h) (S.tb.ext h) fun r e => (S.row r e).2.2.same h
theorem FSt.sameT (S : FSt ω K g O σ H env x) (h : SameT g.T H H') : FSt ω K g O σ H' env x := S.step (.ofT h) h.2 fun r e => (S.row r e).2.2.sameT h
theorem notC_ow {O : Addr → Prop} {a : Addr} {d : OwD} {o : HO} (h : OwAt K O H a d) (e : H a = some o) : ¬ IsC o := by
  cases d with
  | lst ds => obtain ⟨xs, q, _⟩ := h; rw [q] at e; cases e; exact notC_lst
  | dk ds => obtain ⟨xs, q, _⟩ := h; rw [q] at e; cases e; exact notC_dK
  | dt ds => obtain ⟨xs, q, _⟩ := h; rw [q] at e; cases e; exact notC_dT
theorem tabs_upd {T : List (Addr × Str)} {a : Addr} {o o' : HO} (t : LamX.Tabs T H) (h : H a = some o) (n : isNT o = true) (c : ¬ IsC o) : LamX.Tabs T (upd H a o') := fun p hp => by
  obtain ⟨ps, h1, h2, h3⟩ := t p hp
  refine ⟨ps, by rw [upd_ne (fun z => by rw [z, h] at h1; cases h1; cases n)]; exact h1, h2, fun pos cv hc => ?_⟩
  obtain ⟨b, e1, e2⟩ := h3 pos cv hc
  exact ⟨b, e1, by rw [upd_ne (fun z => by rw [z, h] at e2; cases e2; exact c ⟨_, _, rfl⟩)]; exact e2⟩
theorem not_code {φ : Heap → Prop} (h : ∀ (hp : Heap), φ hp → ∃ (a : Addr) (o : Obj), hp.get? a = some o ∧ ∀ vs, o.data ≠ .fields vs) : ¬ IsC (.ext φ) := fun ⟨c, q, e⟩ => by
  have e' : φ = fun h => ∃ (oc : Obj) (vs : Array Value) (t : Tok), h.get? c = some oc ∧ oc.data = .fields vs ∧ vs[1]? = some (.str q t) := by unfold LamX.CodeO at e; injection e
  have g : ∀ n a o, Heap.get? ⟨Array.replicate n ⟨.none, none, .fields #[.none, .str q default], #[]⟩, {}⟩ a = some o → o = ⟨.none, none, .fields #[.none, .str q default], #[]⟩ := fun n a o z => by
    unfold Heap.get? at z
    rw [Array.getElem?_replicate] at z
    split at z
    · cases z
    · split at z
      · exact (Option.some.inj z).symm
      · cases z
  have k : φ ⟨Array.replicate (c + 1) ⟨.none, none, .fields #[.none, .str q default], #[]⟩, {}⟩ := by
    rw [e']
    refine ⟨⟨.none, none, .fields #[.none, .str q default], #[]⟩, #[.none, .str q default], default, ?_, rfl, rfl⟩
    unfold Heap.get?
    rw [Array.getElem?_replicate, if_pos (Nat.lt_succ_self c)]
  obtain ⟨a, o, ho, hd⟩ := h _ k
  rw [g _ _ _ ho] at hd
  exact hd _ rfl
theorem same_upd {p : Addr} {o : HO} (h : H p = none) : Same H (upd H p o) := fun b x e => by
  rw [upd_ne (ne_of_none e h)]
  exact e
theorem FSt.notO (S : FSt ω K g O σ H env x) {p : Addr} (h : H p = none) : ¬ O p := fun z => by
  have q := S.dom p z
  rw [h] at q
  exact q
end

/-! ### readings -/
def tE (ω : World) (K : PySem.W.Frag) (f : FE) : TE := fun σ H Q => ∃ g O env x d x', FSt ω K g O σ H env x ∧ f env x = some (d, x') ∧
  ∀ v H', FSt ω K g O σ H' env x' → Le g H H' → Rp K O H' v d → Q v H'
/-- borrowed: what an owned name holds, too -/
def RpB (K : PySem.W.Frag) (g : FG) (O : Addr → Prop) (H : Hp) (v : V) (d : D) : Prop := Rp K O H v d ∨ ∃ a w, v = .ref a ∧ d = OwD.d w ∧ O a ∧ g.R ≠ some a ∧ OwAt K O H a w
def tB (ω : World) (K : PySem.W.Frag) (f : FE) : TE := fun σ H Q => ∃ g O env x d x', FSt ω K g O σ H env x ∧ f env x = some (d, x') ∧
  ∀ v H', FSt ω K g O σ H' env x' → Le g H H' → RpB K g O H' v d → Q v H'
def tT (ω : World) (K : PySem.W.Frag) (f : FT) : TT := fun σ H Q => ∃ g O env x d x', FSt ω K g O σ H env x ∧ f env x = some (d, x') ∧
  ∀ H', FSt ω K g O σ H' env x' → Le g H H' → Q d H'
def tA (ω : World) (K : PySem.W.Frag) (f : FA) : TA := fun σ H Q => ∃ g O env x d x', FSt ω K g O σ H env x ∧ f env x = some (d, x') ∧
  ∀ v H', FSt ω K g O σ H' env x' → Le g H H' → RpA K O H' v d → Q v H'
def tS (ω : World) (K : PySem.W.Frag) (f : FS) : TS := fun Dn σ H => ∃ g O env x r x', FSt ω K g O σ H env x ∧ f env x = some (r, x') ∧
  match r with
  | .nx env' => ∀ O' σ' H', FSt ω K g O' σ' H' env' x' → Dn.nx σ' H'
  | .bk env' => ∀ O' σ' H', FSt ω K g O' σ' H' env' x' → Dn.bk σ' H'
  | .ct env' => ∀ O' σ' H', FSt ω K g O' σ' H' env' x' → Dn.ct σ' H'
  | .rt d => ∀ O' σ' H' v env', FSt ω K g O' σ' H' env' x' → Rp K O' H' v d → Dn.rt v H'
structure SE (X : Cx) (e : Expr) (f : FE) : Prop where
  out : PE X e (tE X.w X.K f)
structure SB (X : Cx) (e : Expr) (f : FE) : Prop where
  out : PE X e (tB X.w X.K f)
structure ST (X : Cx) (e : Expr) (f : FT) : Prop where
  out : PT X e (tT X.w X.K f)
structure SA (X : Cx) (e : List Expr) (f : FA) : Prop where
  out : PA X e (tA X.w X.K f)
structure SS (X : Cx) (e : Stmt) (f : FS) : Prop where
  out : PS X e (tS X.w X.K f)
structure SSs (X : Cx) (e : List Stmt) (f : FS) : Prop where
  out : PSs X e (tS X.w X.K f)
section
variable {X : Cx} {e : Expr} {t t' : TE}
theorem PEw (h : PE X e t) (q : ∀ σ H Q, t' σ H Q → t σ H Q) : PE X e t' := ⟨fun pins s σ H Q I z => h.run pins s σ H Q I (q _ _ _ z)⟩
theorem PTw {t t' : TT} (h : PT X e t) (q : ∀ σ H Q, t' σ H Q → t σ H Q) : PT X e t' := ⟨fun pins s σ H Q I z => h.run pins s σ H Q I (q _ _ _ z)⟩
theorem PAw {e : List Expr} {t t' : TA} (h : PA X e t) (q : ∀ σ H Q, t' σ H Q → t σ H Q) : PA X e t' := ⟨fun p pins s σ H Q I z => h.run p pins s σ H Q I (q _ _ _ z)⟩
theorem PSw {e : Stmt} {t t' : TS} (h : PS X e t) (q : ∀ σ H Q, t' σ H Q → t σ H Q) : PS X e t' := ⟨fun pins s σ H Q I z => h.run pins s σ H Q I (q _ _ _ z)⟩
theorem PSsw {e : List Stmt} {t t' : TS} (h : PSs X e t) (q : ∀ σ H Q, t' σ H Q → t σ H Q) : PSs X e t' := ⟨fun pins s σ H Q I z => h.run pins s σ H Q I (q _ _ _ z)⟩
end

/-! ### names, constants -/
section
variable {X : Cx}
def fVar (i : Nat) : FE := fun env x => match env[i]? with
  | some (.va d) => some (d, x)
  | _ => none
def fBor (i : Nat) : FE := fun env x => match env[i]? with
  | some (.va d) => some (d, x)
  | some (.ow d) => some (d.d, x)
  | _ => none
def fC (d : D) : FE := fun _ x => some (d, x)
theorem FSt.at {ω : World} {K : PySem.W.Frag} {g : FG} {O : Addr → Prop} {σ : L2.St} {H : Hp} {env : FEn} {x : FRow} (S : FSt ω K g O σ H env x) {i : Nat} {e : FSl} (h : env[i]? = some e) : ∃ s, σ[i]? = some s ∧ SlOk K g O H s e := by
  have hi : i < σ.length := by rw [S.len]; exact (List.getElem?_eq_some_iff.mp h).1
  exact ⟨_, List.getElem?_eq_getElem hi, S.sl i _ e (List.getElem?_eq_getElem hi) h⟩
theorem se_var (i : Nat) {n : Str} {pos : Pos} (hN : X.N[i]? = some n := by rfl) (hv : Vis X.env.scope n := by first | exact Or.inl rfl | exact Or.inr (Or.inl rfl) | exact Or.inr (Or.inr rfl)) (hd : (n == ("__debug__" : Str)) = false := by decide)
    (hcd : (n == ("__classdict__" : Str)) = false := by decide) : SE X (.Name n pos) (fVar i) := by
  refine ⟨PEw (pe_var hN hv hd hcd) fun σ H Q h => ?_⟩
  obtain ⟨g, O, env, x, d, x', S, e, k⟩ := h
  unfold fVar at e
  split at e
  · rename_i q
    cases e
    obtain ⟨s, e1, q1⟩ := S.at q
    cases q1 with
    | va r => exact ⟨_, e1, k _ _ S (Le.refl _ _) r⟩
  · cases e
theorem sb_var (i : Nat) {n : Str} {pos : Pos} (hN : X.N[i]? = some n := by rfl) (hv : Vis X.env.scope n := by first | exact Or.inl rfl | exact Or.inr (Or.inl rfl) | exact Or.inr (Or.inr rfl)) (hd : (n == ("__debug__" : Str)) = false := by decide)
    (hcd : (n == ("__classdict__" : Str)) = false := by decide) : SB X (.Name n pos) (fBor i) := by
  refine ⟨PEw (pe_var hN hv hd hcd) fun σ H Q h => ?_⟩
  obtain ⟨g, O, env, x, d, x', S, e, k⟩ := h
  unfold fBor at e
  split at e
  · rename_i q
    cases e
    obtain ⟨s, e1, q1⟩ := S.at q
    cases q1 with
    | va r => exact ⟨_, e1, k _ _ S (Le.refl _ _) (.inl r)⟩
  · rename_i q
    cases e
    obtain ⟨s, e1, q1⟩ := S.at q
    cases q1 with
    | ow a b c r => exact ⟨_, e1, k _ _ S (Le.refl _ _) (.inr ⟨_, _, rfl, rfl, a, c, r⟩)⟩
  · cases e
theorem sb_of {e : Expr} {f : FE} (h : SE X e f) : SB X e f := by
  refine ⟨PEw h.out fun σ H Q h => ?_⟩
  obtain ⟨g, O, env, x, d, x', S, e, k⟩ := h
  exact ⟨g, O, env, x, d, x', S, e, fun v H' S' l r => k v H' S' l (.inl r)⟩
theorem se_c {e : Expr} {v : V} {d : D} (h : PE X e (tC v)) (r : ∀ K O H, Rp K O H v d) : SE X e (fC d) := by
  refine ⟨PEw h fun σ H Q h => ?_⟩
  obtain ⟨g, O, env, x, d, x', S, e, k⟩ := h
  cases e
  exact k _ _ S (Le.refl _ _) (r _ _ _)
theorem se_int {i j pos} : SE X (.Constant (.int i) j pos) (fC (.int i)) := se_c pe_int fun _ _ _ => .int i
theorem se_bl {i j pos} : SE X (.Constant (.bool i) j pos) (fC (.bool i)) := se_c pe_bl fun _ _ _ => .bl i
theorem se_str {i j pos} : SE X (.Constant (.str i) j pos) (fC (.str i)) := se_c pe_str fun _ _ _ => .str i
theorem se_non {j pos} : SE X (.Constant .none j pos) (fC .none) := se_c pe_non fun _ _ _ => .non
/-- a constant of the module -/
theorem se_glob {n : Str} {v : V} {d : D} {u : Value} {pos : Pos} (hg : Gl X n) (hm : X.mg n = some u) (r : RelV v u) (q : ∀ K O H, Rp K O H v d) (hd : (n == ("__debug__" : Str)) = false := by decide) : SE X (.Name n pos) (fC d) := se_c (pe_glob hg hm r hd) q

/-! ### argument lists, displays -/
def aNil : FA := fun _ x => some ([], x)
def aCons (f : FE) (t : FA) : FA := fun env x => match f env x with
  | some (d, x1) => match t env x1 with
    | some (ds, x2) => some (d :: ds, x2)
    | none => none
  | none => none
theorem sa_nil : SA X [] aNil := by
  refine ⟨PAw pa_nil fun σ H Q h => ?_⟩
  obtain ⟨g, O, env, x, d, x', S, e, k⟩ := h
  cases e
  exact k _ _ S (Le.refl _ _) .nil
theorem sa_cons {e : Expr} {es : List Expr} {f : FE} {t : FA} (h : SE X e f) (ht : SA X es t) (hs : starEach (e :: es) X.env = (false, eval e X.env) :: starEach es X.env := by rfl) : SA X (e :: es) (aCons f t) := by
  refine ⟨PAw (pa_cons h.out ht.out hs) fun σ H Q h => ?_⟩
  obtain ⟨g, O, env, x, d, x', S, e, k⟩ := h
  unfold aCons at e
  split at e
  · rename_i d1 x1 e1
    split at e
    · rename_i ds x2 e2
      cases e
      refine ⟨g, O, env, x, d1, x1, S, e1, fun v H1 S1 l1 r1 => ?_⟩
      refine ⟨g, O, env, x1, ds, x', S1, e2, fun vs H2 S2 l2 r2 => ?_⟩
      exact k _ _ S2 (l1.trans l2) (.cons (r1.move (S1.keep l2) .refl) r2)
    · cases e
  · cases e
def maxLen : Nat := 1000000
theorem maxLen_ok {n : Nat} (h : n ≤ maxLen) : n ≤ sizeLine := Nat.le_trans h (by rw [sizeLine_eq]; decide)
def fTup (t : FA) : FE := fun env x => match t env x with
  | some (ds, x1) => if ds.length ≤ maxLen then some (.tuple ds, x1) else none
  | none => none
def fLst (t : FA) : FE := fun env x => match t env x with
  | some (ds, x1) => if ds.length ≤ maxLen then some (.list ds, x1) else none
  | none => none
theorem se_tup {es : List Expr} {f : FA} {k : Nat} {pos : Pos} (h : SA X es f) : SE X (.Tuple es k pos) (fTup f) := by
  refine ⟨PEw (pe_tup h.out) fun σ H Q h => ?_⟩
  obtain ⟨g, O, env, x, d, x', S, e, k⟩ := h
  unfold fTup at e
  split at e
  · rename_i ds x1 e1
    split at e
    · rename_i hl
      cases e
      refine ⟨g, O, env, x, ds, x', S, e1, fun v H1 S1 l1 r1 => ⟨by rw [r1.length]; exact maxLen_ok hl, fun p hp => ?_⟩⟩
      have sm := same_upd (o := .tup v) hp
      exact k _ _ (S1.same sm) (l1.trans (.of sm)) (.tup (S1.notO hp) upd_same (r1.move (.of sm) .refl))
    · cases e
  · cases e
theorem se_lst {es : List Expr} {f : FA} {pos : Pos} (h : SA X es f) : SE X (.List es pos) (fLst f) := by
  refine ⟨PEw (pe_lst h.out) fun σ H Q h => ?_⟩
  obtain ⟨g, O, env, x, d, x', S, e, k⟩ := h
  unfold fLst at e
  split at e
  · rename_i ds x1 e1
    split at e
    · rename_i hl
      cases e
      refine ⟨g, O, env, x, ds, x', S, e1, fun v H1 S1 l1 r1 => ⟨by rw [r1.length]; exact maxLen_ok hl, fun p hp => ?_⟩⟩
      have sm := same_upd (o := .lst v) hp
      exact k _ _ (S1.same sm) (l1.trans (.of sm)) (.lst (S1.notO hp) upd_same (r1.move (.of sm) .refl))
    · cases e
  · cases e
end
end RT


namespace RT
open PySem PySem.Spec PyProof.Rows L2
section
variable {ω : World} {K : PySem.W.Frag} {g : FG} {O O' : Addr → Prop} {σ : L2.St} {H H' : Hp} {env : FEn} {x x' : FRow}
theorem RpB.step {v : V} {d : D} (S : FSt ω K g O σ H env x) (h : Le g H H') (r : RpB K g O H v d) : RpB K g O H' v d := by
  rcases r with r | ⟨a, w, rfl, rfl, ha, hr, z⟩
  · exact .inl (r.move (S.keep h) .refl)
  · exact .inr ⟨a, w, rfl, rfl, ha, hr, z.move (fun o q t => h a o hr q t) (S.keep h) .refl⟩
theorem Rp.step {v : V} {d : D} (S : FSt ω K g O σ H env x) (h : Le g H H') (r : Rp K O H v d) : Rp K O H' v d := r.move (S.keep h) .refl
theorem RpA.step {v : List V} {d : List D} (S : FSt ω K g O σ H env x) (h : Le g H H') (r : RpA K O H v d) : RpA K O H' v d := r.move (S.keep h) .refl
/-- what is borrowed and no list, no dict is plain -/
theorem RpB.tup {v : V} {ds : List D} (r : RpB K g O H v (.tuple ds)) : Rp K O H v (.tuple ds) := by
  rcases r with r | ⟨a, w, rfl, e, ha, hr, z⟩
  · exact r
  · cases w <;> cases e
theorem RpB.int {v : V} {i : Int} (r : RpB K g O H v (.int i)) : v = .int i := by
  rcases r with r | ⟨a, w, rfl, e, ha, hr, z⟩
  · cases r; rfl
  · cases w <;> cases e
theorem RpB.bl {v : V} {i : Bool} (r : RpB K g O H v (.bool i)) : v = .bl i := by
  rcases r with r | ⟨a, w, rfl, e, ha, hr, z⟩
  · cases r; rfl
  · cases w <;> cases e
theorem RpB.str {v : V} {i : Str} (r : RpB K g O H v (.str i)) : v = .str i := by
  rcases r with r | ⟨a, w, rfl, e, ha, hr, z⟩
  · cases r; rfl
  · cases w <;> cases e
theorem RpB.non {v : V} (r : RpB K g O H v .none) : v = .non := by
  rcases r with r | ⟨a, w, rfl, e, ha, hr, z⟩
  · cases r; rfl
  · cases w <;> cases e
theorem RpB.lst {v : V} {ds : List D} (r : RpB K g O H v (.list ds)) : ∃ a xs, v = .ref a ∧ H a = some (.lst xs) ∧ RpA K O H xs ds := by
  rcases r with r | ⟨a, w, rfl, e, ha, hr, z⟩
  · cases r with
    | lst n e r => exact ⟨_, _, rfl, e, r⟩
  · cases w with
    | lst ds' =>
      cases e
      obtain ⟨xs, e, r⟩ := z
      exact ⟨_, _, rfl, e, r⟩
    | _ => cases e
theorem RpB.seq {v : V} {ds : List D} {d : D} (h : d = .list ds ∨ d = .tuple ds) (r : RpB K g O H v d) : ∃ a xs, v = .ref a ∧ (SqL K H a xs ∨ SqT K H a xs) ∧ RpA K O H xs ds := by
  rcases h with rfl | rfl
  · obtain ⟨a, xs, e, q, r⟩ := r.lst
    exact ⟨a, xs, e, .inl (.of q), r⟩
  · have r := r.tup
    obtain ⟨a, rfl⟩ := r.isRef
    obtain ⟨xs, q, r⟩ := r.seqT
    exact ⟨a, xs, rfl, .inr q, r⟩
theorem RpB.dct {v : V} {ds : List (D × D)} (r : RpB K g O H v (.dict ds)) : ∃ a kvs, v = .ref a ∧ L2.Rd H a (.dK kvs) ∧ RpK K O H kvs ds := by
  rcases r with r | ⟨a, w, rfl, e, ha, hr, z⟩
  · cases r with
    | dK n e r => exact ⟨_, _, rfl, e, r⟩
  · cases w with
    | dk ds' =>
      cases e
      obtain ⟨kvs, e, r⟩ := z
      exact ⟨_, _, rfl, .inl e, r⟩
    | _ => cases e
theorem RpB.dcT {v : V} {ds : List (D × D)} (r : RpB K g O H v (.dictT ds)) : ∃ a kvs, v = .ref a ∧ H a = some (.dT kvs) ∧ RpT K O H kvs ds := by
  rcases r with r | ⟨a, w, rfl, e, ha, hr, z⟩
  · cases r with
    | dT n e r => exact ⟨_, _, rfl, e, r⟩
  · cases w with
    | dt ds' =>
      cases e
      obtain ⟨kvs, e, r⟩ := z
      exact ⟨_, _, rfl, e, r⟩
    | _ => cases e
theorem RpB.dp {v : V} {d : D} (r : RpB K g O H v d) (s : shapedD d = true) : Dp K H v d.py := by
  have s := SeqAt.canLay_of_shaped s
  rcases r with r | ⟨a, w, rfl, e, ha, hr, z⟩
  · exact r.dp s
  · cases w with
    | lst ds' =>
      subst e
      obtain ⟨xs, e, r⟩ := z
      simp only [OwD.d, D.py] at s ⊢
      exact .lst (.of e) (r.dp (by simpa [PyData.canLay0] using s))
    | _ => subst e; simp [OwD.d, D.py, PyData.canLay0] at s
/-- two expressions in a row -/
theorem two {fa fb : FE} {R : V → V → Hp → Prop} {d e : D} {x1 x2 : FRow} (S : FSt ω K g O σ H env x) (h1 : fa env x = some (d, x1)) (h2 : fb env x1 = some (e, x2))
    (k : ∀ v w H', FSt ω K g O σ H' env x2 → Le g H H' → RpB K g O H' v d → RpB K g O H' w e → R v w H') : tB ω K fa σ H fun v H1 => tB ω K fb σ H1 fun w H2 => R v w H2 :=
  ⟨g, O, env, x, d, x1, S, h1, fun v H1 S1 l1 r1 => ⟨g, O, env, x1, e, x2, S1, h2, fun w H2 S2 l2 r2 => k v w H2 S2 (l1.trans l2) (r1.step S1 l2) r2⟩⟩
end

/-! ### operators -/
def OpD (X : Cx) (fop : Value → Value → Sem Value) (gd : D → D → Option D) : Prop :=
  OpR X fop fun v w H Q => ∃ g O σ env x d e r, FSt X.w X.K g O σ H env x ∧ RpB X.K g O H v d ∧ RpB X.K g O H w e ∧ gd d e = some r ∧ ∀ u H', Same H H' → Rp X.K O H' u r → Q u H'
def fBin (gd : D → D → Option D) (fa fb : FE) : FE := fun env x => match fa env x with
  | some (d, x1) => match fb env x1 with
    | some (e, x2) => match gd d e with
      | some r => some (r, x2)
      | none => none
    | none => none
  | none => none
theorem fBin_some {gd : D → D → Option D} {fa fb : FE} {env : FEn} {x : FRow} {p : D × FRow} (h : fBin gd fa fb env x = some p) : ∃ d x1 e r, fa env x = some (d, x1) ∧ fb env x1 = some (e, p.2) ∧ gd d e = some r ∧ r = p.1 := by
  unfold fBin at h
  split at h
  · split at h
    · split at h
      · cases h
        exact ⟨_, _, _, _, by assumption, by assumption, by assumption, rfl⟩
      · cases h
    · cases h
  · cases h
section
variable {X : Cx} {a b : Expr} {fa fb : FE} {pos : Pos}
theorem se_op {op : Operator} {gd : D → D → Option D} (ho : OpD X (binaryOp op) gd) (ha : SB X a fa) (hb : SB X b fb) : SE X (.BinOp a op b pos) (fBin gd fa fb) := by
  refine ⟨PEw (pe_op ho ha.out hb.out) fun σ H Q h => ?_⟩
  obtain ⟨g, O, env, x, d, x', S, e, k⟩ := h
  obtain ⟨da, x1, db, r, e1, e2, e3, rfl⟩ := fBin_some e
  exact two S e1 e2 fun v w H' S' l rv rw => ⟨g, O, σ, env, x', da, db, _, S', rv, rw, e3, fun u H2 sm q => k u H2 (S'.same sm) (l.trans (.of sm)) q⟩
theorem se_cmp {op : CmpOp} {gd : D → D → Option D} (ho : OpD X (compareOp op) gd) (ha : SB X a fa) (hb : SB X b fb) (hm : behindInMarks op b = false) : SE X (.Compare a [op] [b] pos) (fBin gd fa fb) := by
  refine ⟨PEw (pe_cmpR ho ha.out hb.out hm) fun σ H Q h => ?_⟩
  obtain ⟨g, O, env, x, d, x', S, e, k⟩ := h
  obtain ⟨da, x1, db, r, e1, e2, e3, rfl⟩ := fBin_some e
  exact two S e1 e2 fun v w H' S' l rv rw => ⟨g, O, σ, env, x', da, db, _, S', rv, rw, e3, fun u H2 sm q => k u H2 (S'.same sm) (l.trans (.of sm)) q⟩
/-- a test whose value is a bool -/
def fTst (f : FE) : FT := fun env x => match f env x with
  | some (.bool b, x1) => some (b, x1)
  | _ => none
theorem fTst_some {f : FE} {env : FEn} {x : FRow} {p : Bool × FRow} (h : fTst f env x = some p) : f env x = some (.bool p.1, p.2) := by
  unfold fTst at h
  split at h
  · cases h; assumption
  · cases h
theorem st_cmp {op : CmpOp} {gd : D → D → Option D} (ho : OpD X (compareOp op) gd) (ha : SB X a fa) (hb : SB X b fb) (hm : behindInMarks op b = false) : ST X (.Compare a [op] [b] pos) (fTst (fBin gd fa fb)) := by
  refine ⟨PTw (pt_cmpR ho ha.out hb.out hm) fun σ H Q h => ?_⟩
  obtain ⟨g, O, env, x, d, x', S, e, k⟩ := h
  obtain ⟨da, x1, db, r, e1, e2, e3, e4⟩ := fBin_some (fTst_some e)
  refine two S e1 e2 fun v w H' S' l rv rw => ⟨g, O, σ, env, x', da, db, _, S', rv, rw, e3, fun u H2 sm q => ?_⟩
  simp only at e4
  rw [e4] at q
  cases q
  exact ⟨_, rfl, k H2 (S'.same sm) (l.trans (.of sm))⟩
def gOr (g1 g2 : D → D → Option D) : D → D → Option D := fun d e => match g1 d e with
  | some r => some r
  | none => g2 d e
theorem OpD.or {f : Value → Value → Sem Value} {g1 g2 : D → D → Option D} (h1 : OpD X f g1) (h2 : OpD X f g2) : OpD X f (gOr g1 g2) := by
  intro pins s σ H x y v u Q I rx ry h
  obtain ⟨g, O, σ', env, x, d, e, r, S, rv, rw, q, k⟩ := h
  unfold gOr at q
  split at q
  · rename_i r' q'
    cases q
    exact h1 pins s σ H _ _ v u Q I rx ry ⟨g, O, σ', env, x, d, e, r, S, rv, rw, q', k⟩
  · exact h2 pins s σ H _ _ v u Q I rx ry ⟨g, O, σ', env, x, d, e, r, S, rv, rw, q, k⟩
/-- from a rule of the layer -/
theorem OpD.by {f : Value → Value → Sem Value} {r : R2} {gd : D → D → Option D} (h : OpR X f r)
    (q : ∀ g O σ env x d e z H v w Q, FSt X.w X.K g O σ H env x → RpB X.K g O H v d → RpB X.K g O H w e → gd d e = some z → (∀ u H', Same H H' → Rp X.K O H' u z → Q u H') → r v w H Q) : OpD X f gd := by
  intro pins s σ H x y v u Q I rx ry h2
  obtain ⟨g, O, σ', env, x, d, e, r, S, rv, rw, q', k⟩ := h2
  exact h pins s σ H _ _ v u Q I rx ry (q _ _ _ _ _ _ _ _ _ _ _ _ S rv rw q' k)
def gI (p : Int → Int → Bool) (c : Int → Int → D) : D → D → Option D
  | .int i, .int j => if p i j then some (c i j) else none
  | _, _ => none
theorem gI_some {p : Int → Int → Bool} {c : Int → Int → D} {d e z : D} (h : gI p c d e = some z) : ∃ i j, d = .int i ∧ e = .int j ∧ p i j = true ∧ z = c i j := by
  unfold gI at h
  split at h
  · split at h
    · cases h; exact ⟨_, _, rfl, rfl, by assumption, rfl⟩
    · cases h
  · cases h
abbrev yes2 : Int → Int → Bool := fun _ _ => true
theorem od_int0 {f : Value → Value → Sem Value} {c : Int → Int → Int} (h : OpR X f (rI0 fun i j => .int (c i j))) : OpD X f (gI yes2 fun i j => .int (c i j)) := by
  refine OpD.by h fun g O σ env x d e z H v w Q S rv rw q k => ?_
  obtain ⟨i, j, rfl, rfl, _, rfl⟩ := gI_some q
  exact ⟨i, j, rv.int, rw.int, k _ _ (Same.refl _) (.int _)⟩
theorem od_bool0 {f : Value → Value → Sem Value} {c : Int → Int → Bool} (h : OpR X f (rI0 fun i j => .bl (c i j))) : OpD X f (gI yes2 fun i j => .bool (c i j)) := by
  refine OpD.by h fun g O σ env x d e z H v w Q S rv rw q k => ?_
  obtain ⟨i, j, rfl, rfl, _, rfl⟩ := gI_some q
  exact ⟨i, j, rv.int, rw.int, k _ _ (Same.refl _) (.bl _)⟩
theorem od_intC {f : Value → Value → Sem Value} {C : Int → Int → Prop} {p : Int → Int → Bool} {c : Int → Int → Int} (h : OpR X f (rI C fun i j => .int (c i j))) (hp : ∀ i j, p i j = true → C i j) : OpD X f (gI p fun i j => .int (c i j)) := by
  refine OpD.by h fun g O σ env x d e z H v w Q S rv rw q k => ?_
  obtain ⟨i, j, rfl, rfl, hq, rfl⟩ := gI_some q
  exact ⟨i, j, rv.int, rw.int, hp _ _ hq, k _ _ (Same.refl _) (.int _)⟩
abbrev gAddI := gI yes2 fun i j => .int (i + j)
abbrev gSubI := gI yes2 fun i j => .int (i - j)
def pMul (i j : Int) : Bool := decide (-(2 ^ 64) < i ∧ i < 2 ^ 64) || decide (-(2 ^ 64) < j ∧ j < 2 ^ 64)
def pDiv (_ j : Int) : Bool := decide (0 < j ∧ j < 1073741824)
def pMod (_ j : Int) : Bool := decide (0 < j)
def pPow (i j : Int) : Bool := decide (0 ≤ j ∧ j ≤ 1000000 ∧ i.natAbs < 2 ^ 64)
abbrev gMulI := gI pMul fun i j => .int (i * j)
abbrev gDivI := gI pDiv fun i j => .int (i / j)
abbrev gModI := gI pMod fun i j => .int (i % j)
abbrev gPowI := gI pPow fun i j => .int (i ^ j.toNat)
theorem od_add : OpD X (binaryOp .Add) gAddI := od_int0 op_add
theorem od_sub : OpD X (binaryOp .Sub) gSubI := od_int0 op_sub
theorem od_mul : OpD X (binaryOp .Mult) gMulI := od_intC op_mul fun i j h => by
  rcases Bool.or_eq_true_iff.mp h with h | h
  · exact .inl (of_decide_eq_true h)
  · exact .inr (of_decide_eq_true h)
theorem od_div : OpD X (binaryOp .FloorDiv) gDivI := od_intC op_fdiv fun i j h => (show 0 < j ∧ j < 1073741824 from of_decide_eq_true h)
theorem od_mod : OpD X (binaryOp .Mod) gModI := od_intC op_mod fun i j h => of_decide_eq_true h
theorem od_pow : OpD X (binaryOp .Pow) gPowI := od_intC op_pow fun i j h => (show 0 ≤ j ∧ j ≤ 1000000 ∧ i.natAbs < 2 ^ 64 from of_decide_eq_true h)
theorem od_lt : OpD X (compareOp .Lt) (gI yes2 fun i j => .bool (decide (i < j))) := od_bool0 op_lt
theorem od_le : OpD X (compareOp .LtE) (gI yes2 fun i j => .bool (decide (i ≤ j))) := od_bool0 op_le
theorem od_gt : OpD X (compareOp .Gt) (gI yes2 fun i j => .bool (decide (j < i))) := od_bool0 op_gt
theorem od_ge : OpD X (compareOp .GtE) (gI yes2 fun i j => .bool (decide (j ≤ i))) := od_bool0 op_ge
/-- tuple + tuple, list + list -/
def gCatT : D → D → Option D
  | .tuple xs, .tuple ys => if xs.length + ys.length ≤ maxLen then some (.tuple (xs ++ ys)) else none
  | _, _ => none
def gCatL : D → D → Option D
  | .list xs, .list ys => if xs.length + ys.length ≤ maxLen then some (.list (xs ++ ys)) else none
  | _, _ => none
theorem od_catT : OpD X (binaryOp .Add) gCatT := by
  refine OpD.by op_catA fun g O σ env x d e z H v w Q S rv rw q k => ?_
  unfold gCatT at q
  split at q
  · rename_i ds es
    split at q
    · rename_i hl
      cases q
      have rv := rv.tup
      have rw := rw.tup
      obtain ⟨p1, rfl⟩ := rv.isRef
      obtain ⟨p2, rfl⟩ := rw.isRef
      obtain ⟨xs, q1, r1⟩ := rv.seqT
      obtain ⟨ys, q2, r2⟩ := rw.seqT
      refine ⟨p1, p2, xs, ys, rfl, rfl, q1, q2, by rw [r1.length, r2.length]; exact maxLen_ok hl, fun e => ?_, fun _ e => ?_, fun _ _ p hp => ?_⟩
      · subst e
        cases r1
        exact k _ _ (Same.refl _) rw
      · subst e
        cases r2
        rw [List.append_nil] at k
        exact k _ _ (Same.refl _) rv
      · have sm := same_upd (o := .tup (xs ++ ys)) hp
        exact k _ _ sm (.tup (S.notO hp) upd_same ((r1.app r2).move (.of sm) .refl))
    · cases q
  · cases q
theorem od_catL : OpD X (binaryOp .Add) gCatL := by
  refine OpD.by op_cat fun g O σ env x d e z H v w Q S rv rw q k => ?_
  unfold gCatL at q
  split at q
  · rename_i ds es
    split at q
    · rename_i hl
      cases q
      obtain ⟨p1, xs, rfl, q1, r1⟩ := rv.lst
      obtain ⟨p2, ys, rfl, q2, r2⟩ := rw.lst
      refine ⟨p1, p2, xs, ys, rfl, rfl, q1, q2, by rw [r1.length, r2.length]; exact maxLen_ok hl, fun p hp => ?_⟩
      have sm := same_upd (o := .lst (xs ++ ys)) hp
      exact k _ _ sm (.lst (S.notO hp) upd_same ((r1.app r2).move (.of sm) .refl))
    · cases q
  · cases q
theorem RpA.rep {K : PySem.W.Frag} {O : Addr → Prop} {H : Hp} {xs : List V} {ds : List D} (r : RpA K O H xs ds) : ∀ k : Nat, RpA K O H (List.replicate k xs).flatten (List.replicate k ds).flatten
  | 0 => .nil
  | k + 1 => by
    rw [List.replicate_succ, List.replicate_succ, List.flatten_cons, List.flatten_cons]
    exact r.app (RpA.rep r k)
/-- list * int -/
def gRepL : D → D → Option D
  | .list xs, .int k => if 0 ≤ k ∧ k ≤ 1000 ∧ xs.length ≤ 1000 then some (.list (List.replicate k.toNat xs).flatten) else none
  | _, _ => none
theorem od_repL : OpD X (binaryOp .Mult) gRepL := by
  refine OpD.by op_rep fun g O σ env x d e z H v w Q S rv rw q k => ?_
  unfold gRepL at q
  split at q
  · rename_i ds j
    split at q
    · rename_i hl
      cases q
      obtain ⟨p1, xs, rfl, q1, r1⟩ := rv.lst
      have lx : xs.length * j.toNat ≤ 1000000 := by
        rw [r1.length]
        exact Nat.le_trans (Nat.mul_le_mul hl.2.2 (show j.toNat ≤ 1000 by omega)) (by decide)
      refine ⟨p1, j, xs, rfl, rw.int, q1, by omega, by omega, maxLen_ok lx, fun p hp => ?_⟩
      have sm := same_upd (o := .lst (List.replicate j.toNat xs).flatten) hp
      exact k _ _ sm (.lst (S.notO hp) upd_same ((r1.rep _).move (.of sm) .refl))
    · cases q
  · cases q
/-- ==, != of data -/
def gEq : D → D → Option D := fun d e => if shapedD d && shapedD e then some (.bool (eqD d e)) else none
def gNe : D → D → Option D := fun d e => if shapedD d && shapedD e then some (.bool (!eqD d e)) else none
theorem od_eq (hu : X.A.units + 64 < cLine) : OpD X (compareOp .Eq) gEq := by
  refine OpD.by (op_eqD hu) fun g O σ env x d e z H v w Q S rv rw q k => ?_
  unfold gEq at q
  split at q
  · rename_i h
    cases q
    obtain ⟨h1, h2⟩ := Bool.and_eq_true_iff.mp h
    exact ⟨d.py, e.py, rv.dp h1, rw.dp h2, h1, h2, k _ _ (Same.refl _) (.bl _)⟩
  · cases q
theorem od_ne (hu : X.A.units + 64 < cLine) : OpD X (compareOp .NotEq) gNe := by
  refine OpD.by (op_neD hu) fun g O σ env x d e z H v w Q S rv rw q k => ?_
  unfold gNe at q
  split at q
  · rename_i h
    cases q
    obtain ⟨h1, h2⟩ := Bool.and_eq_true_iff.mp h
    exact ⟨d.py, e.py, rv.dp h1, rw.dp h2, h1, h2, k _ _ (Same.refl _) (.bl _)⟩
  · cases q
/-- is None -/
def isNoneD : D → Bool
  | .none => true
  | _ => false
def gIsN : D → D → Option D := fun d e => match e with
  | .none => some (.bool (isNoneD d))
  | _ => none
def gNotN : D → D → Option D := fun d e => match e with
  | .none => some (.bool (!isNoneD d))
  | _ => none
theorem isNone_ok {K : PySem.W.Frag} {g : FG} {O : Addr → Prop} {H : Hp} {v : V} {d : D} (r : RpB K g O H v d) : decide (v = .non) = isNoneD d := by
  rcases r with r | ⟨a, w, rfl, rfl, ha, hr, z⟩
  · cases r <;> first | rfl | simp [isNoneD]
  · cases w <;> simp [isNoneD, OwD.d]
theorem od_isN : OpD X (compareOp .Is) gIsN := by
  refine OpD.by op_isN fun g O σ env x d e z H v w Q S rv rw q k => ?_
  unfold gIsN at q
  split at q
  · cases q
    refine ⟨rw.non, ?_⟩
    rw [isNone_ok rv]
    exact k _ _ (Same.refl _) (.bl _)
  · cases q
theorem od_notN : OpD X (compareOp .IsNot) gNotN := by
  refine OpD.by op_notN fun g O σ env x d e z H v w Q S rv rw q k => ?_
  unfold gNotN at q
  split at q
  · cases q
    refine ⟨rw.non, ?_⟩
    rw [isNone_ok rv]
    exact k _ _ (Same.refl _) (.bl _)
  · cases q
theorem any_py (d : D) : ∀ ds : List D, ((pyAll ds).any fun z => PyData.eqv z d.py) = ds.any fun z => eqD z d
  | [] => by simp only [pyAll, List.any_nil]
  | x :: xs => by simp only [pyAll, List.any_cons, any_py d xs, eqD]
/-- x in list -/
def gIn : D → D → Option D := fun d e => match e with
  | .list ds => if shapedD d && shapedD (.list ds) then some (.bool (ds.any fun z => eqD z d)) else none
  | _ => none
def gNotIn : D → D → Option D := fun d e => match e with
  | .list ds => if shapedD d && shapedD (.list ds) then some (.bool (!ds.any fun z => eqD z d)) else none
  | _ => none
theorem od_in (hu : X.A.units + 65 < cLine) : OpD X (compareOp .In) gIn := by
  refine OpD.by (op_inD hu) fun g O σ env x d e z H v w Q S rv rw q k => ?_
  unfold gIn at q
  split at q
  · rename_i ds
    split at q
    · rename_i h
      cases q
      obtain ⟨h1, h2⟩ := Bool.and_eq_true_iff.mp h
      have h3 := rw.dp h2
      simp only [shapedD, D.py] at h1 h2 h3
      refine ⟨d.py, pyAll ds, rv.dp h1, h3, h1, h2, ?_⟩
      rw [any_py]
      exact k _ _ (Same.refl _) (.bl _)
    · cases q
  · cases q
theorem od_notIn (hu : X.A.units + 65 < cLine) : OpD X (compareOp .NotIn) gNotIn := by
  refine OpD.by (op_notInD hu) fun g O σ env x d e z H v w Q S rv rw q k => ?_
  unfold gNotIn at q
  split at q
  · rename_i ds
    split at q
    · rename_i h
      cases q
      obtain ⟨h1, h2⟩ := Bool.and_eq_true_iff.mp h
      have h3 := rw.dp h2
      simp only [shapedD, D.py] at h1 h2 h3
      refine ⟨d.py, pyAll ds, rv.dp h1, h3, h1, h2, ?_⟩
      rw [any_py]
      exact k _ _ (Same.refl _) (.bl _)
    · cases q
  · cases q
end
end RT

namespace RT
open PySem PySem.Spec PyProof.Rows L2
section
variable {X : Cx} {a b c e : Expr} {es : List Expr} {fa fb fc f : FE} {pos : Pos}

/-! ### chains, and, or, not, if -/
def fChain (g1 g2 : D → D → Option D) (fa fb fc : FE) : FE := fun env x => match fa env x with
  | some (d, x1) => match fb env x1 with
    | some (e, x2) => match g1 d e with
      | some (.bool true) => match fc env x2 with
        | some (h, x3) => match g2 e h with
          | some (.bool r) => some (.bool r, x3)
          | _ => none
        | none => none
      | some (.bool false) => some (.bool false, x2)
      | _ => none
    | none => none
  | none => none
theorem se_chain {op op' : CmpOp} {g1 g2 : D → D → Option D} (ho : OpD X (compareOp op) g1) (ho' : OpD X (compareOp op') g2) (ha : SB X a fa) (hb : SB X b fb) (hc : SB X c fc)
    (hm : lastMarks [op, op'] [b, c] = false := by with_unfolding_all rfl) : SE X (.Compare a [op, op'] [b, c] pos) (fChain g1 g2 fa fb fc) := by
  refine ⟨PEw (pe_chain ho ho' ha.out hb.out hc.out hm) fun σ H Q h => ?_⟩
  obtain ⟨g, O, env, x, d, x', S, e, k⟩ := h
  unfold fChain at e
  split at e
  · rename_i da x1 e1
    split at e
    · rename_i db x2 e2
      split at e
      · rename_i e3
        split at e
        · rename_i dc x3 e4
          split at e
          · rename_i r e5
            cases e
            refine two S e1 e2 fun v w H' S' l rv rw => ⟨g, O, σ, env, x2, da, db, _, S', rv, rw, e3, fun u H2 sm q => ?_⟩
            cases q
            refine ⟨true, rfl, ?_⟩
            refine iteT ?_
            refine ⟨g, O, env, x2, dc, x', S'.same sm, e4, fun y H3 S3 l3 r3 => ⟨g, O, σ, env, x', db, dc, _, S3, RpB.step (S'.same sm) l3 (RpB.step S' (.of sm) rw), r3, e5, fun u H4 sm4 q => k u H4 (S3.same sm4) (((l.trans (.of sm)).trans l3).trans (.of sm4)) q⟩⟩
          · cases e
        · cases e
      · rename_i e3
        cases e
        refine two S e1 e2 fun v w H' S' l rv rw => ⟨g, O, σ, env, x', da, db, _, S', rv, rw, e3, fun u H2 sm q => ?_⟩
        cases q
        refine ⟨false, rfl, ?_⟩
        refine iteF ?_
        exact k _ _ (S'.same sm) (l.trans (.of sm)) (.bl false)
      · cases e
    · cases e
  · cases e
theorem st_chain {op op' : CmpOp} {g1 g2 : D → D → Option D} (ho : OpD X (compareOp op) g1) (ho' : OpD X (compareOp op') g2) (ha : SB X a fa) (hb : SB X b fb) (hc : SB X c fc)
    (hm : lastMarks [op, op'] [b, c] = false := by with_unfolding_all rfl) : ST X (.Compare a [op, op'] [b, c] pos) (fTst (fChain g1 g2 fa fb fc)) := by
  refine ⟨PTw (pt_chain ho ho' ha.out hb.out hc.out hm) fun σ H Q h => ?_⟩
  obtain ⟨g, O, env, x, d, x', S, e, k⟩ := h
  have e := fTst_some e
  unfold fChain at e
  split at e
  · rename_i da x1 e1
    split at e
    · rename_i db x2 e2
      split at e
      · rename_i e3
        split at e
        · rename_i dc x3 e4
          split at e
          · rename_i r e5
            cases e
            refine two S e1 e2 fun v w H' S' l rv rw => ⟨g, O, σ, env, x2, da, db, _, S', rv, rw, e3, fun u H2 sm q => ?_⟩
            cases q
            refine ⟨true, rfl, ?_⟩
            refine iteT ?_
            refine ⟨g, O, env, x2, dc, x', S'.same sm, e4, fun y H3 S3 l3 r3 => ⟨g, O, σ, env, x', db, dc, _, S3, RpB.step (S'.same sm) l3 (RpB.step S' (.of sm) rw), r3, e5, fun u H4 sm4 q => ?_⟩⟩
            cases q
            exact ⟨_, rfl, k H4 (S3.same sm4) (((l.trans (.of sm)).trans l3).trans (.of sm4))⟩
          · cases e
        · cases e
      · rename_i e3
        cases e
        refine two S e1 e2 fun v w H' S' l rv rw => ⟨g, O, σ, env, x', da, db, _, S', rv, rw, e3, fun u H2 sm q => ?_⟩
        cases q
        refine ⟨false, rfl, ?_⟩
        refine iteF ?_
        exact ⟨_, rfl, k _ (S'.same sm) (l.trans (.of sm))⟩
      · cases e
    · cases e
  · cases e
def fAnd (fa fb : FE) : FE := fun env x => match fa env x with
  | some (.bool true, x1) => fb env x1
  | some (.bool false, x1) => some (.bool false, x1)
  | _ => none
def fOr (fa fb : FE) : FE := fun env x => match fa env x with
  | some (.bool true, x1) => some (.bool true, x1)
  | some (.bool false, x1) => fb env x1
  | _ => none
theorem se_one {op : BoolOp} (h : SE X a fa) : SE X (.BoolOp op [a] pos) fa := ⟨pe_one h.out⟩
theorem se_and {rest : List Expr} (ha : SE X a fa) (hb : SE X (.BoolOp .And (b :: rest) pos) fb) : SE X (.BoolOp .And (a :: b :: rest) pos) (fAnd fa fb) := by
  refine ⟨PEw (pe_and ha.out hb.out) fun σ H Q h => ?_⟩
  obtain ⟨g, O, env, x, d, x', S, e, k⟩ := h
  unfold fAnd at e
  split at e
  · rename_i x1 e1
    refine ⟨g, O, env, x, _, x1, S, e1, fun v H1 S1 l1 r1 => ?_⟩
    cases r1
    refine ⟨true, rfl, ?_⟩
    refine iteT ?_
    exact ⟨g, O, env, x1, d, x', S1, e, fun v H2 S2 l2 r2 => k v H2 S2 (l1.trans l2) r2⟩
  · rename_i x1 e1
    cases e
    refine ⟨g, O, env, x, _, x', S, e1, fun v H1 S1 l1 r1 => ?_⟩
    cases r1
    refine ⟨false, rfl, ?_⟩
    refine iteF ?_
    exact k _ _ S1 l1 (.bl false)
  · cases e
theorem se_or {rest : List Expr} (ha : SE X a fa) (hb : SE X (.BoolOp .Or (b :: rest) pos) fb) : SE X (.BoolOp .Or (a :: b :: rest) pos) (fOr fa fb) := by
  refine ⟨PEw (pe_or ha.out hb.out) fun σ H Q h => ?_⟩
  obtain ⟨g, O, env, x, d, x', S, e, k⟩ := h
  unfold fOr at e
  split at e
  · rename_i x1 e1
    cases e
    refine ⟨g, O, env, x, _, x', S, e1, fun v H1 S1 l1 r1 => ?_⟩
    cases r1
    refine ⟨true, rfl, ?_⟩
    refine iteT ?_
    exact k _ _ S1 l1 (.bl true)
  · rename_i x1 e1
    refine ⟨g, O, env, x, _, x1, S, e1, fun v H1 S1 l1 r1 => ?_⟩
    cases r1
    refine ⟨false, rfl, ?_⟩
    refine iteF ?_
    exact ⟨g, O, env, x1, d, x', S1, e, fun v H2 S2 l2 r2 => k v H2 S2 (l1.trans l2) r2⟩
  · cases e
def fNot (fa : FE) : FE := fun env x => match fa env x with
  | some (.bool b, x1) => some (.bool (!b), x1)
  | _ => none
theorem se_not (ha : SE X a fa) : SE X (.UnaryOp .Not a pos) (fNot fa) := by
  refine ⟨PEw (pe_not ha.out) fun σ H Q h => ?_⟩
  obtain ⟨g, O, env, x, d, x', S, e, k⟩ := h
  unfold fNot at e
  split at e
  · rename_i bb x1 e1
    cases e
    refine ⟨g, O, env, x, _, x', S, e1, fun v H1 S1 l1 r1 => ?_⟩
    cases r1
    exact ⟨bb, rfl, k _ _ S1 l1 (.bl _)⟩
  · cases e
def fNeg (fa : FE) : FE := fun env x => match fa env x with
  | some (.int i, x1) => some (.int (-i), x1)
  | _ => none
theorem se_neg (ha : SE X a fa) : SE X (.UnaryOp .USub a pos) (fNeg fa) := by
  refine ⟨PEw (pe_un un_neg ha.out) fun σ H Q h => ?_⟩
  obtain ⟨g, O, env, x, d, x', S, e, k⟩ := h
  unfold fNeg at e
  split at e
  · rename_i i x1 e1
    cases e
    refine ⟨g, O, env, x, _, x', S, e1, fun v H1 S1 l1 r1 => ?_⟩
    cases r1
    exact ⟨i, rfl, k _ _ S1 l1 (.int _)⟩
  · cases e

/-! ### tests -/
structure SW (X : Cx) (e : Expr) (f : FT) : Prop where
  out : PW X e (tT X.w X.K f)
theorem PWw {t t' : TT} (h : PW X e t) (q : ∀ σ H Q, t' σ H Q → t σ H Q) : PW X e t' := ⟨fun wh pins s σ H Q I z => h.run wh pins s σ H Q I (q _ _ _ z)⟩
theorem st_w {f : FT} (h : SW X e f) : ST X e f := ⟨h.out.pt⟩
variable {ta tb tc : FT}
def tAndF (fa fb : FT) : FT := fun env x => match fa env x with
  | some (true, x1) => fb env x1
  | some (false, x1) => some (false, x1)
  | none => none
def tOrF (fa fb : FT) : FT := fun env x => match fa env x with
  | some (true, x1) => some (true, x1)
  | some (false, x1) => fb env x1
  | none => none
theorem sw_and1 (h : ST X a ta) : SW X (.BoolOp .And [a] pos) ta := ⟨pw_and1 h.out⟩
theorem sw_or1 (h : ST X a ta) : SW X (.BoolOp .Or [a] pos) ta := ⟨pw_or1 h.out⟩
theorem sw_and {rest : List Expr} (ha : ST X a ta) (hb : SW X (.BoolOp .And (b :: rest) pos) tb) : SW X (.BoolOp .And (a :: b :: rest) pos) (tAndF ta tb) := by
  refine ⟨PWw (pw_and ha.out hb.out) fun σ H Q h => ?_⟩
  obtain ⟨g, O, env, x, d, x', S, e, k⟩ := h
  unfold tAndF at e
  split at e
  · rename_i x1 e1
    refine ⟨g, O, env, x, _, x1, S, e1, fun H1 S1 l1 => ?_⟩
    refine iteT ?_
    exact ⟨g, O, env, x1, d, x', S1, e, fun H2 S2 l2 => k H2 S2 (l1.trans l2)⟩
  · rename_i x1 e1
    cases e
    refine ⟨g, O, env, x, _, x', S, e1, fun H1 S1 l1 => ?_⟩
    refine iteF ?_
    exact k _ S1 l1
  · cases e
theorem sw_or {rest : List Expr} (ha : ST X a ta) (hb : SW X (.BoolOp .Or (b :: rest) pos) tb) : SW X (.BoolOp .Or (a :: b :: rest) pos) (tOrF ta tb) := by
  refine ⟨PWw (pw_or ha.out hb.out) fun σ H Q h => ?_⟩
  obtain ⟨g, O, env, x, d, x', S, e, k⟩ := h
  unfold tOrF at e
  split at e
  · rename_i x1 e1
    cases e
    refine ⟨g, O, env, x, _, x', S, e1, fun H1 S1 l1 => ?_⟩
    refine iteT ?_
    exact k _ S1 l1
  · rename_i x1 e1
    refine ⟨g, O, env, x, _, x1, S, e1, fun H1 S1 l1 => ?_⟩
    refine iteF ?_
    exact ⟨g, O, env, x1, d, x', S1, e, fun H2 S2 l2 => k H2 S2 (l1.trans l2)⟩
  · cases e
def tNotF (fa : FT) : FT := fun env x => match fa env x with
  | some (b, x1) => some (!b, x1)
  | none => none
theorem st_not (ha : ST X a ta) : ST X (.UnaryOp .Not a pos) (tNotF ta) := by
  refine ⟨PTw (pt_not ha.out) fun σ H Q h => ?_⟩
  obtain ⟨g, O, env, x, d, x', S, e, k⟩ := h
  unfold tNotF at e
  split at e
  · rename_i bb x1 e1
    cases e
    exact ⟨g, O, env, x, _, x', S, e1, fun H1 S1 l1 => k H1 S1 l1⟩
  · cases e
/-- truth of a value -/
def truD : D → Option Bool
  | .none => some false
  | .bool b => some b
  | .int i => some (i != 0)
  | .list ds => some (!ds.isEmpty)
  | .tuple ds => some (!ds.isEmpty)
  | _ => none
def fTru (f : FE) : FT := fun env x => match f env x with
  | some (d, x1) => match truD d with
    | some b => some (b, x1)
    | none => none
  | none => none
theorem RpA.emp {K : PySem.W.Frag} {O : Addr → Prop} {H : Hp} {xs : List V} {ds : List D} (r : RpA K O H xs ds) : xs.isEmpty = ds.isEmpty := by cases r <;> rfl
theorem st_tru (ha : SB X a fa) (he : ∀ whole, isTrue a X.env whole = (do let v ← whole; standAt a.pos; holding [v] (truthy v)) := by intro _; rfl) : ST X a (fTru fa) := by
  refine ⟨PTw (pt_truth ha.out he) fun σ H Q h => ?_⟩
  obtain ⟨g, O, env, x, d, x', S, e, k⟩ := h
  unfold fTru at e
  split at e
  · rename_i dd x1 e1
    split at e
    · rename_i bb e2
      cases e
      refine ⟨g, O, env, x, _, x', S, e1, fun v H1 S1 l1 r1 => ⟨d, ?_, k H1 S1 l1⟩⟩
      unfold truD at e2
      split at e2
      · cases e2; rw [r1.non]; exact rfl
      · cases e2; rw [r1.bl]; exact rfl
      · cases e2; rw [r1.int]; exact rfl
      · cases e2
        obtain ⟨p, xs, rfl, q, r⟩ := r1.lst
        exact .inl ⟨xs, .of q, by rw [r.emp]⟩
      · cases e2
        have r := r1.tup
        obtain ⟨p, rfl⟩ := r.isRef
        obtain ⟨xs, q, r⟩ := r.seqT
        exact .inr (.inl ⟨xs, q, by rw [r.emp]⟩)
      · cases e2
    · cases e
  · cases e
def fIf (t : FT) (fa fb : FE) : FE := fun env x => match t env x with
  | some (true, x1) => fa env x1
  | some (false, x1) => fb env x1
  | none => none
theorem se_if {t : FT} (hc : ST X c t) (ha : SE X a fa) (hb : SE X b fb) : SE X (.IfExp c a b pos) (fIf t fa fb) := by
  refine ⟨PEw (pe_ifExp hc.out ha.out hb.out) fun σ H Q h => ?_⟩
  obtain ⟨g, O, env, x, d, x', S, e, k⟩ := h
  unfold fIf at e
  split at e
  · rename_i x1 e1
    refine ⟨g, O, env, x, _, x1, S, e1, fun H1 S1 l1 => ?_⟩
    refine iteT ?_
    exact ⟨g, O, env, x1, d, x', S1, e, fun v H2 S2 l2 r2 => k v H2 S2 (l1.trans l2) r2⟩
  · rename_i x1 e1
    refine ⟨g, O, env, x, _, x1, S, e1, fun H1 S1 l1 => ?_⟩
    refine iteF ?_
    exact ⟨g, O, env, x1, d, x', S1, e, fun v H2 S2 l2 r2 => k v H2 S2 (l1.trans l2) r2⟩
  · cases e

/-! ### subscripts, slices -/
def gIx : D → D → Option D
  | .list ds, .int i => atI ds i
  | .tuple ds, .int i => atI ds i
  | _, _ => none
theorem atI_rp {K : PySem.W.Frag} {O : Addr → Prop} {H : Hp} {xs : List V} {ds : List D} {i : Int} {d : D} (r : RpA K O H xs ds) (h : atI ds i = some d) : ∃ v, atI xs i = some v ∧ Rp K O H v d := by
  unfold atI at h ⊢
  rw [r.length]
  cases q : ixN ds.length i with
  | none => rw [q] at h; cases h
  | some j =>
    rw [q] at h
    exact r.get h
def rIxLT (K : PySem.W.Frag) : R2 := fun x y H Q => rIxL K x y H Q ∨ rIxT K x y H Q
theorem se_ix (ha : SB X a fa) (hb : SB X b fb) (hs : PlainIx b := by exact fun _ _ => rfl) : SE X (.Subscript a b pos) (fBin gIx fa fb) := by
  refine ⟨PEw (pe_ix (ix_list.or ix_tup) ha.out hb.out hs) fun σ H Q h => ?_⟩
  obtain ⟨g, O, env, x, d, x', S, e, k⟩ := h
  obtain ⟨da, x1, db, r, e1, e2, e3, rfl⟩ := fBin_some e
  refine two S e1 e2 fun v w H' S' l rv rw => ?_
  unfold gIx at e3
  split at e3
  · obtain ⟨p, xs, rfl, q, r⟩ := rv.lst
    obtain ⟨u, e4, r4⟩ := atI_rp r e3
    exact .inl ⟨p, xs, _, u, rfl, rw.int, .of q, e4, k _ _ S' l r4⟩
  · have r := rv.tup
    obtain ⟨p, rfl⟩ := r.isRef
    obtain ⟨xs, q, r⟩ := r.seqT
    obtain ⟨u, e4, r4⟩ := atI_rp r e3
    exact .inr ⟨p, xs, _, u, rfl, rw.int, q, e4, k _ _ S' l r4⟩
  · cases e3
abbrev FO := FEn → FRow → Option (Option Int × FRow)
def tO (ω : World) (K : PySem.W.Frag) (f : FO) : TO := fun σ H Q => ∃ g O env x d x', FSt ω K g O σ H env x ∧ f env x = some (d, x') ∧ ∀ H', FSt ω K g O σ H' env x' → Le g H H' → Q d H'
structure SO (X : Cx) (o : Option Expr) (f : FO) : Prop where
  out : PO X o (tO X.w X.K f)
theorem POw {o : Option Expr} {t t' : TO} (h : PO X o t) (q : ∀ σ H Q, t' σ H Q → t σ H Q) : PO X o t' := ⟨fun pins s σ H Q I z => h.run pins s σ H Q I (q _ _ _ z)⟩
def oNone : FO := fun _ x => some (none, x)
def oSome (f : FE) : FO := fun env x => match f env x with
  | some (.int i, x1) => some (some i, x1)
  | _ => none
theorem so_none : SO X none oNone := by
  refine ⟨POw po_none fun σ H Q h => ?_⟩
  obtain ⟨g, O, env, x, d, x', S, e, k⟩ := h
  cases e
  exact k _ S (Le.refl _ _)
theorem so_some (ha : SE X a fa) : SO X (some a) (oSome fa) := by
  refine ⟨POw (po_some ha.out) fun σ H Q h => ?_⟩
  obtain ⟨g, O, env, x, d, x', S, e, k⟩ := h
  unfold oSome at e
  split at e
  · rename_i i x1 e1
    cases e
    refine ⟨g, O, env, x, _, x', S, e1, fun v H1 S1 l1 r1 => ?_⟩
    cases r1
    exact ⟨i, rfl, k _ S1 l1⟩
  · cases e
def cutL {α : Type} (xs : List α) (lo hi : Option Int) : List α := (xs.drop (HT.sIx xs.length 0 lo)).take (HT.sIx xs.length xs.length hi - HT.sIx xs.length 0 lo)
def gSl : D → Option Int → Option Int → Option D
  | .list ds, lo, hi => some (.list (cutL ds lo hi))
  | .tuple ds, lo, hi => some (.tuple (cutL ds lo hi))
  | _, _, _ => none
theorem cut_rp {K : PySem.W.Frag} {O : Addr → Prop} {H : Hp} {xs : List V} {ds : List D} {lo hi : Option Int} (r : RpA K O H xs ds) : RpA K O H (cutV xs lo hi) (cutL ds lo hi) := by
  unfold cutV cutL
  rw [r.length]
  exact (r.drop _).take _
def fSl (f : FE) (o p : FO) : FE := fun env x => match f env x with
  | some (d, x1) => match o env x1 with
    | some (lo, x2) => match p env x2 with
      | some (hi, x3) => match gSl d lo hi with
        | some r => some (r, x3)
        | none => none
      | none => none
    | none => none
  | none => none
theorem cut_all {α : Type} {xs : List α} {lo hi : Option Int} (h : HT.sIx xs.length 0 lo = 0 ∧ HT.sIx xs.length xs.length hi = xs.length) : cutL xs lo hi = xs := by
  unfold cutL
  rw [h.1, h.2]
  simp
theorem se_sl {lo hi : Option Expr} {fl fh : FO} {p2 : Pos} (ha : SB X a fa) (hl : SO X lo fl) (hh : SO X hi fh) : SE X (.Subscript a (.Slice lo hi none p2) pos) (fSl fa fl fh) := by
  refine ⟨PEw (pe_slice (sl_list.or sl_tupA) ha.out hl.out hh.out) fun σ H Q h => ?_⟩
  obtain ⟨g, O, env, x, d, x', S, e, k⟩ := h
  unfold fSl at e
  split at e
  · rename_i da x1 e1
    split at e
    · rename_i lo x2 e2
      split at e
      · rename_i hi x3 e3
        split at e
        · rename_i r e4
          cases e
          refine ⟨g, O, env, x, da, x1, S, e1, fun v H1 S1 l1 r1 => ⟨g, O, env, x1, lo, x2, S1, e2, fun H2 S2 l2 => ⟨g, O, env, x2, hi, x', S2, e3, fun H3 S3 l3 => ?_⟩⟩⟩
          have rv := RpB.step S2 l3 (RpB.step S1 l2 r1)
          unfold gSl at e4
          split at e4
          · rename_i ds
            cases e4
            obtain ⟨p, xs, rfl, q, r⟩ := rv.lst
            refine .inl ⟨p, xs, rfl, .of q, fun p hp => ?_⟩
            have sm := same_upd (o := .lst (cutV xs lo hi)) hp
            exact k _ _ (S3.same sm) (((l1.trans l2).trans l3).trans (.of sm)) (.lst (S3.notO hp) upd_same ((cut_rp r).move (.of sm) .refl))
          · rename_i ds
            cases e4
            have r := rv.tup
            obtain ⟨p, rfl⟩ := r.isRef
            obtain ⟨xs, q, r2⟩ := r.seqT
            refine .inr ⟨p, xs, rfl, q, fun hh => ?_, fun _ p hp => ?_⟩
            · rw [r2.length] at hh
              rw [cut_all hh] at k
              exact k _ _ S3 ((l1.trans l2).trans l3) r
            · have sm := same_upd (o := .tup (cutV xs lo hi)) hp
              exact k _ _ (S3.same sm) (((l1.trans l2).trans l3).trans (.of sm)) (.tup (S3.notO hp) upd_same ((cut_rp r2).move (.of sm) .refl))
          · cases e4
        · cases e
      · cases e
    · cases e
  · cases e
end
end RT

namespace RT
open PySem PySem.Spec PyProof.Rows L2
/-! ### stores -/
section
variable {ω : World} {K : PySem.W.Frag} {g : FG} {O O' : Addr → Prop} {σ : L2.St} {H H' : Hp} {env : FEn} {x x' : FRow}
theorem set_at {α : Type} {l : List α} {i j : Nat} {a b : α} (h : (l.set i a)[j]? = some b) : (i = j ∧ b = a) ∨ (i ≠ j ∧ l[j]? = some b) := by
  by_cases e : i = j
  · subst e
    by_cases hl : i < l.length
    · rw [List.getElem?_set_self hl] at h
      exact .inl ⟨rfl, (Option.some.inj h).symm⟩
    · rw [List.getElem?_eq_none (by simpa using hl)] at h
      cases h
  · rw [List.getElem?_set_ne e] at h
    exact .inr ⟨e, h⟩
theorem OwAt.mut {a : Addr} {d : OwD} (h : OwAt K O H a d) : MutC (H a) := by
  cases d <;> (obtain ⟨xs, e, _⟩ := h; rw [e]; exact True.intro)
theorem OwAt.some {a : Addr} {d : OwD} (h : OwAt K O H a d) : ∃ o, H a = some o := by
  have z := h.mut
  cases q : H a with
  | none => rw [q] at z; exact z.elim
  | some o => exact ⟨o, rfl⟩
theorem OwAt.live {a p : Addr} {d : OwD} (h : OwAt K O H a d) (n : Gone H p) : a ≠ p := fun z => by
  obtain ⟨u, q⟩ := h.some
  have m := h.mut
  rw [q] at m
  rw [z] at q
  exact n.no q (mut_nt m)
/-- a slot gets a value -/
theorem FSt.setv (S : FSt ω K g O σ H env x) {v : V} {e : FSl} (i : Nat) (r : SlOk K g O H (some v) e) (n : ∀ d, e = .ow d → ∃ p, v = .ref p ∧ ∀ (j : Nat) d' b, env[j]? = some (.ow d') → σ[j]? = some (some (.ref b)) → b ≠ p) : FSt ω K g O (σ.set i (some v)) H (env.set i e) x where
  sub := S.sub
  new := S.new
  dom := S.dom
  le := S.le
  row := S.row
  len := by rw [List.length_set, List.length_set]; exact S.len
  sl := fun j s e' h1 h2 => by
    rcases set_at h1 with ⟨e1, e2⟩ | ⟨e1, e2⟩
    · rcases set_at h2 with ⟨e3, e4⟩ | ⟨e3, e4⟩
      · subst e2; subst e4; exact r
      · exact absurd e1 e3
    · rcases set_at h2 with ⟨e3, e4⟩ | ⟨e3, e4⟩
      · exact absurd e3 e1
      · exact S.sl j s e' e2 e4
  dis := fun j k d d' a b ne h1 h2 h3 h4 => by
    rcases set_at h1 with ⟨e1, e2⟩ | ⟨e1, e2⟩
    · rcases set_at h3 with ⟨e3, e4⟩ | ⟨e3, e4⟩
      · rcases set_at h2 with ⟨e5, e6⟩ | ⟨e5, e6⟩
        · exact absurd (e1.symm.trans e5) ne
        · rcases set_at h4 with ⟨e7, e8⟩ | ⟨e7, e8⟩
          · exact absurd e7 e5
          · obtain ⟨p, e9, q⟩ := n d e2.symm
            have e4' : V.ref a = v := Option.some.inj e4
            rw [e9] at e4'
            cases e4'
            exact fun z => q k d' b e6 e8 z.symm
      · exact absurd e1 e3
    · rcases set_at h3 with ⟨e3, e4⟩ | ⟨e3, e4⟩
      · exact absurd e3 e1
      · rcases set_at h2 with ⟨e5, e6⟩ | ⟨e5, e6⟩
        · rcases set_at h4 with ⟨e7, e8⟩ | ⟨e7, e8⟩
          · obtain ⟨p, e9, q⟩ := n d' e6.symm
            have e8' : V.ref b = v := Option.some.inj e8
            rw [e9] at e8'
            cases e8'
            exact q j d a e2 e4
          · exact absurd e5 e7
        · rcases set_at h4 with ⟨e7, e8⟩ | ⟨e7, e8⟩
          · exact absurd e7 e5
          · exact S.dis j k d d' a b ne e2 e6 e4 e8
  gh := S.gh
  tb := S.tb
  tk := S.tk
  nt0 := S.nt0
  ww := S.ww
/-- an owned thing changes -/
theorem FSt.put (S : FSt ω K g O σ H env x) {i : Nat} {a : Addr} {d d' : OwD} {o : HO} (h1 : env[i]? = some (.ow d)) (h2 : σ[i]? = some (some (.ref a))) (mu : MutC (some o)) (w : OwAt K O (upd H a o) a d') :
    FSt ω K g O σ (upd H a o) (env.set i (.ow d')) x := by
  have q := S.sl i _ _ h2 h1
  obtain ⟨oa, noa, nr⟩ : O a ∧ ¬ g.O0 a ∧ g.R ≠ some a := by
    cases q with
    | ow p q r s => exact ⟨p, q, r⟩
  have n0 : g.H0 a = none := by
    rcases S.new a oa with z | z
    · exact absurd z noa
    · exact z
  have kp : Keep O H (upd H a o) := fun b u n e _ => by
    rw [upd_ne (show b ≠ a from fun z => n (z ▸ oa))]
    exact e
  have ma := S.dom a oa
  have owa : OwAt K O H a d := by
    cases q with
    | ow p q r s => exact s
  obtain ⟨oo, hoo⟩ := owa.some
  refine ⟨S.sub, S.new, fun b hb => ?_, fun b u hR e tn => ?_, fun r e => ?_, by rw [List.length_set]; exact S.len, fun j s e' e1 e2 => ?_, fun j k e e' b c ne e1 e2 e3 e4 => ?_, fun p hp => (S.gh p hp).move kp .refl, tabs_upd S.tb hoo (mut_nt (by rw [← hoo]; exact ma)) (notC_ow owa hoo), S.tk, S.nt0, S.ww⟩
  · by_cases z : b = a
    · subst z; rw [upd_same]; exact mu
    · rw [upd_ne z]; exact S.dom b hb
  · have z : b ≠ a := fun z => by rw [z, n0] at e; cases e
    rw [upd_ne z]
    exact S.le b u hR e tn
  · obtain ⟨q1, q2, a0, q3, q4⟩ := S.row r e
    refine ⟨q1, q2, a0, ?_, ?_⟩
    · rw [upd_ne (show r ≠ a from fun z => nr (z ▸ e))]; exact q3
    · exact q4.updO oa
  · rcases set_at e2 with ⟨z1, z2⟩ | ⟨z1, z2⟩
    · subst z1
      subst z2
      rw [h2] at e1
      cases e1
      exact .ow oa noa nr w
    · cases S.sl j s e' e1 z2 with
      | no => exact .no _
      | va r => exact .va (r.move kp .refl)
      | @ow b d2 p q r t => exact .ow p q r (t.move (fun u eu _ => by rw [upd_ne (S.dis j i _ _ _ _ (Ne.symm z1) z2 h1 e1 h2)]; exact eu) kp .refl)
      | rw e => exact .rw e
      | @da b ds p q r t =>
        have nb : b ≠ a := fun z => by
          subst z
          obtain ⟨_, e, _⟩ := t
          have t0 := S.sl i _ _ h2 h1
          cases t0 with
          | ow _ _ _ t0 => cases d <;> (obtain ⟨_, e0, _⟩ := t0; rw [e] at e0; cases e0)
        exact .da p q r (t.mv (fun u eu _ => by rw [upd_ne nb]; exact eu) fun _ _ r => r.move kp .refl)
      | fn n e r => exact .fn n (kp _ _ n e rfl) fun p hp => (r p hp).move kp .refl
  · have at1 : ∀ {j : Nat} {d2 : OwD}, (env.set i (.ow d'))[j]? = some (.ow d2) → ∃ d3, env[j]? = some (.ow d3) := fun {j d2} z => by
      rcases set_at z with ⟨z1, z2⟩ | ⟨z1, z2⟩
      · subst z1; exact ⟨_, h1⟩
      · exact ⟨_, z2⟩
    obtain ⟨d3, e1⟩ := at1 e1
    obtain ⟨d4, e2⟩ := at1 e2
    exact S.dis j k _ _ b c ne e1 e2 e3 e4
/-- an owned thing is given up: it does not change any more -/
theorem FSt.freeze (S : FSt ω K g O σ H env x) {i : Nat} {a : Addr} {d : OwD} (h1 : env[i]? = some (.ow d)) (h2 : σ[i]? = some (some (.ref a))) :
    FSt ω K g (fun b => O b ∧ b ≠ a) σ H (env.set i (.va d.d)) x := by
  have q := S.sl i _ _ h2 h1
  obtain ⟨oa, noa, nr, w⟩ : O a ∧ ¬ g.O0 a ∧ g.R ≠ some a ∧ OwAt K O H a d := by
    cases q with
    | ow p q r s => exact ⟨p, q, r, s⟩
  have wd : Wid O (fun b => O b ∧ b ≠ a) H := fun b z => .inl z.1
  have kp : Keep O H H := fun _ _ _ e _ => e
  refine ⟨fun b z => ⟨S.sub b z, fun e => noa (e ▸ z)⟩, fun b z => S.new b z.1, fun b z => S.dom b z.1, S.le, (fun r e => ⟨(S.row r e).1, (S.row r e).2.1, (S.row r e).2.2.sub fun _ h => h.1⟩), by rw [List.length_set]; exact S.len, fun j s e' e1 e2 => ?_, fun j k e e' b c ne e1 e2 e3 e4 => ?_, fun p hp => (S.gh p hp).move kp wd, S.tb, S.tk, S.nt0, S.ww⟩
  · rcases set_at e2 with ⟨z1, z2⟩ | ⟨z1, z2⟩
    · subst z1
      subst z2
      rw [h2] at e1
      cases e1
      refine .va ?_
      cases d with
      | lst ds => obtain ⟨xs, e, r⟩ := w; exact .lst (fun z => z.2 rfl) e (r.move kp wd)
      | dk ds => obtain ⟨xs, e, r⟩ := w; exact .dK (fun z => z.2 rfl) (.inl e) (r.move kp wd)
      | dt ds => obtain ⟨xs, e, r⟩ := w; exact .dT (fun z => z.2 rfl) e (r.move kp wd)
    · cases S.sl j s e' e1 z2 with
      | no => exact .no _
      | va r => exact .va (r.move kp wd)
      | @ow b d2 p q r t => exact .ow ⟨p, S.dis j i _ _ _ _ (Ne.symm z1) z2 h1 e1 h2⟩ q r (t.move (fun u eu _ => eu) kp wd)
      | rw e => exact .rw e
      | @da b ds p q r t =>
        have nb : b ≠ a := fun z => by
          subst z
          obtain ⟨_, e, _⟩ := t
          cases d <;> (obtain ⟨_, e0, _⟩ := w; rw [e] at e0; cases e0)
        exact .da ⟨p, nb⟩ q r (t.mv (fun _ e _ => e) fun _ _ r => r.move kp wd)
      | fn n e r => exact .fn (fun z => n z.1) e fun p hp => (r p hp).move kp wd
  · rcases set_at e1 with ⟨z1, z2⟩ | ⟨z1, z2⟩
    · cases z2
    · rcases set_at e2 with ⟨z3, z4⟩ | ⟨z3, z4⟩
      · cases z4
      · exact S.dis j k _ _ b c ne z2 z4 e3 e4
/-- a new thing, owned -/
def oAdd (O : Addr → Prop) (p : Addr) : Addr → Prop := fun a => O a ∨ a = p
theorem wid_add {p : Addr} (h : H p = none) : Wid O (oAdd O p) H := fun a z => z.elim .inl fun e => .inr (e ▸ .of h)
theorem RowAt.own {r p : Addr} {o : HO} (q : RowAt K O H r x) (hp : H p = none) : RowAt K (oAdd O p) (upd H p o) r x := by
  obtain ⟨a0, e, q⟩ := q
  refine ⟨a0, by rw [upd_ne (ne_of_none e hp)]; exact e, ?_⟩
  rcases q with ⟨n, q⟩ | q
  · have z : a0 ≠ p := by
      rcases q with q | ⟨_, q⟩
      · exact ne_of_none q hp
      · exact ne_of_none q hp
    exact .inl ⟨fun h => h.elim n z, q.elim (fun q => .inl (by rw [upd_ne z]; exact q)) fun ⟨u, q⟩ => .inr ⟨u, by rw [upd_ne z]; exact q⟩⟩
  · exact .inr q
theorem FSt.own (S : FSt ω K g O σ H env x) {p : Addr} {o : HO} (hp : H p = none) (mu : MutC (some o)) : FSt ω K g (oAdd O p) σ (upd H p o) env x := by
  have sm := same_upd (o := o) hp
  have S1 := S.same sm
  have h0 : g.H0 p = none := by
    cases q : g.H0 p with
    | none => rfl
    | some u =>
      by_cases hR : g.R = some p
      · have z := S.dom p (S.sub p (S.row p hR).1)
        rw [hp] at z
        exact z.elim
      · rw [S.le p u hR q (S.nt0 _ _ q)] at hp; cases hp
  have wd : Wid O (oAdd O p) H := wid_add hp
  refine ⟨fun a h => .inl (S.sub a h), fun a h => ?_, fun a h => ?_, S1.le, (fun r e => ⟨(S.row r e).1, (S.row r e).2.1, (S.row r e).2.2.own hp⟩), S.len, fun j s e' e1 e2 => ?_, S.dis, fun q hq => (S.gh q hq).move (.of sm) wd, S1.tb, S1.tk, S1.nt0, S1.ww⟩
  · rcases h with h | rfl
    · exact S.new a h
    · exact .inr h0
  · rcases h with h | rfl
    · exact S1.dom a h
    · rw [upd_same]; exact mu
  · cases S.sl j s e' e1 e2 with
    | no => exact .no _
    | va r => exact .va (r.move (.of sm) wd)
    | ow p q r t => exact .ow (.inl p) q r (t.move (fun u eu _ => sm _ _ eu) (.of sm) wd)
    | rw e => exact .rw e
    | da p q r t => exact .da (.inl p) q r (t.mv (fun u eu _ => sm _ _ eu) fun _ _ r => r.move (.of sm) wd)
    | fn n e r => exact .fn (wd.no n e) (sm _ _ e) fun p hp => (r p hp).move (.of sm) wd
theorem FSt.newp (S : FSt ω K g O σ H env x) {p : Addr} (hp : H p = none) : ¬ g.O0 p ∧ g.R ≠ some p := by
  refine ⟨fun z => S.notO hp (S.sub p z), fun z => S.notO hp (S.sub p (S.row p z).1)⟩
end

/-! ### what is stored in a name: a value, or a new owned thing -/
abbrev FX := FEn → FRow → Option (FSl × FRow)
def tX (ω : World) (K : PySem.W.Frag) (f : FX) : TE := fun σ H Q => ∃ g O env x sl x', FSt ω K g O σ H env x ∧ f env x = some (sl, x') ∧
  ∀ O' v H', FSt ω K g O' σ H' env x' → Le g H H' → Wid O O' H → (∀ a, O a → O' a) → SlOk K g O' H' (some v) sl → (∀ d, sl = .ow d → ∃ p, v = .ref p ∧ Gone H p) → Q v H'
structure SX (X : Cx) (e : Expr) (f : FX) : Prop where
  out : PE X e (tX X.w X.K f)
section
variable {X : Cx} {a b c e : Expr} {es : List Expr} {fa fb fc f : FE} {pos : Pos}
def xVal (f : FE) : FX := fun env x => match f env x with
  | some (d, x1) => some (.va d, x1)
  | none => none
theorem sx_of (h : SE X e f) : SX X e (xVal f) := by
  refine ⟨PEw h.out fun σ H Q h => ?_⟩
  obtain ⟨g, O, env, x, sl, x', S, e, k⟩ := h
  unfold xVal at e
  split at e
  · rename_i d x1 e1
    cases e
    exact ⟨g, O, env, x, d, x', S, e1, fun v H1 S1 l1 r1 => k O v H1 S1 l1 .refl (fun _ h => h) (.va r1) fun d z => by cases z⟩
  · cases e
def xLst (t : FA) : FX := fun env x => match t env x with
  | some (ds, x1) => if ds.length ≤ maxLen then some (.ow (.lst ds), x1) else none
  | none => none
theorem Le.gone {g : FG} {H H' : Hp} {p : Addr} {ω : World} {K : PySem.W.Frag} {O' : Addr → Prop} {σ' : L2.St} {env' : FEn} {x' : FRow} (l : Le g H H') (h : Gone H' p) (S' : FSt ω K g O' σ' H' env' x') : Gone H p := fun u q => by
  cases t : isNT u with
  | false => rfl
  | true =>
    by_cases hR : g.R = some p
    · exact absurd (S'.sub p (S'.row p hR).1) fun z => by
        have d := S'.dom p z
        cases q' : H' p with
        | none => rw [q'] at d; exact d
        | some o => exact h.no q' (mut_nt (by rw [← q']; exact d))
    · exact (h.no (l p u hR q t) t).elim
theorem sx_lst {t : FA} (h : SA X es t) : SX X (.List es pos) (xLst t) := by
  refine ⟨PEw (pe_lst h.out) fun σ H Q h => ?_⟩
  obtain ⟨g, O, env, x, d, x', S, e, k⟩ := h
  unfold xLst at e
  split at e
  · rename_i ds x1 e1
    split at e
    · rename_i hl
      cases e
      refine ⟨g, O, env, x, ds, x', S, e1, fun v H1 S1 l1 r1 => ⟨by rw [r1.length]; exact maxLen_ok hl, fun p hp => ?_⟩⟩
      have sm := same_upd (o := .lst v) hp
      have n1 := S1.newp hp
      have S2 := S1.own (o := .lst v) hp True.intro
      have hp0 := Le.gone l1 (.of hp) S1
      refine k _ _ _ S2 (l1.trans (.of sm)) (fun a z => z.elim .inl fun e => .inr (e ▸ hp0)) (fun a z => .inl z) (.ow (.inr rfl) n1.1 n1.2 ⟨v, upd_same, r1.move (.of sm) (wid_add hp)⟩) fun d z => ⟨p, rfl, hp0⟩
    · cases e
  · cases e
def xNew (d : OwD) : FX := fun _ x => some (.ow d, x)
theorem sx_dK : SX X (.Dict [] [] pos) (xNew (.dk [])) := by
  refine ⟨PEw pe_dnewK fun σ H Q h => ?_⟩
  obtain ⟨g, O, env, x, d, x', S, e, k⟩ := h
  cases e
  intro p hp
  have n1 := S.newp hp
  exact k _ _ _ (S.own (o := .dK []) hp True.intro) (.of (same_upd hp)) (wid_add hp) (fun a z => .inl z) (.ow (.inr rfl) n1.1 n1.2 ⟨[], upd_same, .nil⟩) fun d z => ⟨p, rfl, .of hp⟩
theorem sx_dT : SX X (.Dict [] [] pos) (xNew (.dt [])) := by
  refine ⟨PEw pe_dnewT fun σ H Q h => ?_⟩
  obtain ⟨g, O, env, x, d, x', S, e, k⟩ := h
  cases e
  intro p hp
  have n1 := S.newp hp
  exact k _ _ _ (S.own (o := .dT []) hp True.intro) (.of (same_upd hp)) (wid_add hp) (fun a z => .inl z) (.ow (.inr rfl) n1.1 n1.2 ⟨[], upd_same, .nil⟩) fun d z => ⟨p, rfl, .of hp⟩
/-- {k: v} -/
def dKey : D → Option L2.Key
  | .int i => some (.inl i)
  | .str s => some (.inr s)
  | _ => none
theorem dKey_ok {d : D} {k : L2.Key} (h : dKey d = some k) : d = keyD k := by
  cases d <;> simp [dKey] at h <;> subst h <;> rfl
theorem dKey_rp {K : PySem.W.Frag} {O : Addr → Prop} {H : Hp} {v : V} {d : D} {k : L2.Key} (h : dKey d = some k) (r : Rp K O H v d) : v = kV k := by
  cases d <;> simp [dKey] at h <;> subst h <;> cases r <;> rfl
def xDict1 (fk fv : FE) : FX := fun env x => match fk env x with
  | some (k, x1) => match dKey k with
    | some _ => match fv env x1 with
      | some (v, x2) => some (.ow (.dk [(k, v)]), x2)
      | none => none
    | none => none
  | none => none
theorem sx_d1 {fk fv : FE} (hk : SE X a fk) (hv : SE X b fv) : SX X (.Dict [some a] [b] pos) (xDict1 fk fv) := by
  refine ⟨PEw (pe_disp (pps_cons hk.out hv.out pps_nil) (by rfl) (by rfl) (fun z => by cases z) (by show 1 ≤ 15; decide)) fun σ H Q h => ?_⟩
  obtain ⟨g, O, env, x, d, x', S, e, k⟩ := h
  unfold xDict1 at e
  split at e
  · rename_i dk x1 e1
    split at e
    · rename_i kk e2
      split at e
      · rename_i dv x2 e3
        cases e
        intro p hp
        have n1 := S.newp hp
        have S0 := S.own (o := .dK []) hp True.intro
        refine ⟨g, oAdd O p, env, x, dk, x1, S0, e1, fun v1 H1 S1 l1 r1 => ⟨g, oAdd O p, env, x1, dv, x', S1, e3, fun v2 H2 S2 l2 r2 => ?_⟩⟩
        have hb : (upd H p (.dK [])) p = some (.dK []) := upd_same
        have h2 : H2 p = some (.dK []) := l2 p _ n1.2 (l1 p _ n1.2 hb rfl) rfl
        refine ⟨h2, [(kk, v2)], by rw [dKey_rp e2 r1]; rfl, by simp, ?_⟩
        have S3 : FSt X.w X.K g (oAdd O p) σ (upd H2 p (.dK (mergeK [] [(kk, v2)]))) env x' := by
          refine ⟨S2.sub, S2.new, fun a ha => ?_, fun c u hR e tn => ?_, fun r e => ?_, S2.len, fun j s e' e1 e2 => ?_, S2.dis, fun q hq => (S2.gh q hq).move ?_ .refl, tabs_upd S2.tb h2 rfl notC_dK, S2.tk, S2.nt0, S2.ww⟩
          · by_cases z : a = p
            · subst z; rw [upd_same]; exact True.intro
            · rw [upd_ne z]; exact S2.dom a ha
          · have z : c ≠ p := fun z => by
              have := S.le c u hR e tn
              rw [z, hp] at this; cases this
            rw [upd_ne z]; exact S2.le c u hR e tn
          · obtain ⟨q1, q2, a0, q3, q4⟩ := S2.row r e
            refine ⟨q1, q2, a0, ?_, ?_⟩
            · rw [upd_ne (show r ≠ p from fun z => n1.2 (z ▸ e))]; exact q3
            · exact q4.updO (.inr rfl)
          · have kp : Keep (oAdd O p) H2 (upd H2 p (.dK (mergeK [] [(kk, v2)]))) := fun b u n e _ => by
              rw [upd_ne (show b ≠ p from fun z => n (z ▸ .inr rfl))]; exact e
            cases S2.sl j s e' e1 e2 with
            | no => exact .no _
            | va r => exact .va (r.move kp .refl)
            | @ow b d2 q1 q2 q3 t =>
              have nb : b ≠ p := fun z => by
                subst z
                have t0 := S.sl j _ _ e1 e2
                cases t0 with
                | ow _ _ _ t0 =>
                  obtain ⟨u, q⟩ := t0.some
                  rw [hp] at q; cases q
              exact .ow q1 q2 q3 (t.move (fun u eu _ => by rw [upd_ne nb]; exact eu) kp .refl)
            | rw e => exact .rw e
            | @da b ds q1 q2 q3 t =>
              have nb : b ≠ p := fun z => by
                subst z
                have t0 := S.sl j _ _ e1 e2
                cases t0 with
                | da _ _ _ t0 =>
                  obtain ⟨u, q, _⟩ := t0
                  rw [hp] at q; cases q
              exact .da q1 q2 q3 (t.mv (fun u eu _ => by rw [upd_ne nb]; exact eu) fun _ _ r => r.move kp .refl)
            | fn n e r => exact .fn n (kp _ _ n e rfl) fun p hp => (r p hp).move kp .refl
          · exact fun b u n e _ => by
              rw [upd_ne (show b ≠ p from fun z => n (z ▸ .inr rfl))]; exact e
        refine k _ _ _ S3 ?_ (fun a z => z.elim .inl fun e => .inr (e ▸ .of hp)) (fun a z => .inl z) (.ow (.inr rfl) n1.1 n1.2 ⟨_, upd_same, ?_⟩) fun d z => ⟨p, rfl, .of hp⟩
        · intro c u hR e tn
          have z : c ≠ p := fun z => by rw [z, hp] at e; cases e
          rw [upd_ne z]
          exact l2 c u hR (l1 c u hR (by rw [upd_ne z]; exact e) tn) tn
        · show RpK X.K (oAdd O p) _ [(kk, v2)] _
          have e4 := dKey_ok e2
          subst e4
          refine .cons (r2.move ?_ .refl) .nil
          exact fun b u n e _ => by
              rw [upd_ne (show b ≠ p from fun z => n (z ▸ .inr rfl))]; exact e
      · cases e
    · cases e
  · cases e

/-! ### statements -/
def sSet (i : Nat) (f : FX) : FS := fun env x => match f env x with
  | some (sl, x1) => some (.nx (env.set i sl), x1)
  | none => none
theorem own_ne {ω : World} {K : PySem.W.Frag} {g : FG} {O : Addr → Prop} {σ : L2.St} {H : Hp} {env : FEn} {x : FRow} (S : FSt ω K g O σ H env x) {p : Addr} (hp : Gone H p) {j : Nat} {d : OwD} {b : Addr} (h1 : env[j]? = some (.ow d)) (h2 : σ[j]? = some (some (.ref b))) : b ≠ p := fun z => by
  have q := S.sl j _ _ h2 h1
  cases q with
  | ow _ _ _ t =>
    exact t.live hp z
def isOwn : FSl → Bool
  | .ow _ => true
  | .da _ => true
  | _ => false
theorem own_ne2 {ω : World} {K : PySem.W.Frag} {g : FG} {O : Addr → Prop} {σ : L2.St} {H : Hp} {env : FEn} {x : FRow} (S : FSt ω K g O σ H env x) {p : Addr} (hp : Gone H p) {j : Nat} {e : FSl} {b : Addr} (h1 : env[j]? = some e) (h0 : isOwn e = true) (h2 : σ[j]? = some (some (.ref b))) : b ≠ p := fun z => by
  have q := S.sl j _ _ h2 h1
  cases q with
  | ow _ _ _ t =>
    exact t.live hp z
  | da _ _ _ t =>
    obtain ⟨u, q, _⟩ := t
    rw [z] at q; exact hp.no q rfl
  | _ => cases h0
theorem ss_set {i : Nat} {n : Str} {f : FX} {pos' : Pos} (hN : X.N.Nodup) (hi : X.N[i]? = some n) (hx : Loc X.env.scope n) (he : SX X e f) (hs : swapsWith e (some (.Name n pos')) pos.line X.env = pure false := by rfl)
    (hf : X.fn n = true ∨ X.env.scope.names.lookup n = some .local := by first | exact .inl rfl | exact .inr rfl | assumption) : SS X (.Assign [.Name n pos'] e pos) (sSet i f) := by
  refine ⟨PSw (ps_set hN hi hx he.out hs hf) fun Dn σ H h => ?_⟩
  obtain ⟨g, O, env, x, r, x', S, e, k⟩ := h
  unfold sSet at e
  split at e
  · rename_i sl x1 e1
    cases e
    exact ⟨g, O, env, x, sl, x', S, e1, fun O' v H' S' l w sub r nw => k O' _ H' (S'.setv i r fun d z => by
      obtain ⟨p, e2, hp⟩ := nw d z
      exact ⟨p, e2, fun j d' b h1 h2 => own_ne S hp h1 h2⟩)⟩
  · cases e
theorem sl_move {ω : World} {K : PySem.W.Frag} {g : FG} {O O' : Addr → Prop} {σ : L2.St} {H H' : Hp} {env : FEn} {x : FRow} {v : V} {sl : FSl} (S : FSt ω K g O σ H env x) (l : Le g H H') (w : Wid O O' H) (sub : ∀ a, O a → O' a) (r : SlOk K g O H (some v) sl) : SlOk K g O' H' (some v) sl := by
  cases r with
  | no => exact .no _
  | va r => exact .va (r.move (S.keep l) w)
  | ow p q r t => exact .ow (sub _ p) q r (t.move (fun o e t => l _ o r e t) (S.keep l) w)
  | rw e => exact .rw e
  | da p q r t => exact .da (sub _ p) q r (t.mv (fun o e t => l _ o r e t) fun _ _ r => r.move (S.keep l) w)
  | fn n e r => exact .fn (w.no n e) (S.keep l _ _ n e rfl) fun p hp => (r p hp).move (S.keep l) w
def sPar (i j : Nat) (f h : FX) : FS := fun env x => match f env x with
  | some (s1, x1) => match h env x1 with
    | some (s2, x2) => some (.nx ((env.set i s1).set j s2), x2)
    | none => none
  | none => none
theorem ss_par {i j : Nat} {n m : Str} {f h : FX} {px py pt : Pos} {kt k2 pt2} (hc : X.calm = true) (hN : X.N.Nodup) (hi : X.N[i]? = some n) (hj : X.N[j]? = some m) (hij : i ≠ j)
    (hx : X.env.scope.names.lookup n = some .local) (hy : X.env.scope.names.lookup m = some .local) (ha : SX X a f) (hb : SX X b h)
    (hw : swappedStores [.Tuple [.Name n px, .Name m py] kt pt] (.Tuple [a, b] k2 pt2) X.env = pure (some [n, m]))
    (hs : swapsWithSole [.Tuple [.Name n px, .Name m py] kt pt] (.Tuple [a, b] k2 pt2) pos.line X.env = pure false := by rfl)
    (hs1 : starEach [a, b] X.env = (false, eval a X.env) :: starEach [b] X.env := by rfl) (hs2 : starEach [b] X.env = (false, eval b X.env) :: starEach [] X.env := by rfl) :
    SS X (.Assign [.Tuple [.Name n px, .Name m py] kt pt] (.Tuple [a, b] k2 pt2) pos) (sPar i j f h) := by
  refine ⟨PSw (ps_par hc hN hi hj hij hx hy (pa_cons ha.out (pa_cons hb.out pa_nil hs2) hs1) hw hs) fun Dn σ H h => ?_⟩
  obtain ⟨g, O, env, x, r, x', S, e, k⟩ := h
  unfold sPar at e
  split at e
  · rename_i s1 x1 e1
    split at e
    · rename_i s2 x2 e2
      cases e
      refine ⟨g, O, env, x, s1, x1, S, e1, fun O1 v1 H1 S1 l1 w1 sub1 r1 n1 => ⟨g, O1, env, x1, s2, x', S1, e2, fun O2 v2 H2 S2 l2 w2 sub2 r2 n2 => ⟨v1, v2, rfl, ?_⟩⟩⟩
      have S3 := S2.setv i (sl_move S1 l2 w2 sub2 r1) fun d z => by
        obtain ⟨p, e3, hp⟩ := n1 d z
        exact ⟨p, e3, fun j d' b h1 h2 => own_ne S hp h1 h2⟩
      refine k O2 _ H2 (S3.setv j r2 fun d z => ?_)
      obtain ⟨p, e3, hp⟩ := n2 d z
      refine ⟨p, e3, fun j' d' b h1 h2 => ?_⟩
      rcases set_at h1 with ⟨z1, z2⟩ | ⟨z1, z2⟩
      · rcases set_at h2 with ⟨z3, z4⟩ | ⟨z3, z4⟩
        · have z4 : V.ref b = v1 := Option.some.inj z4
          subst z4
          subst z2
          cases r1 with
          | ow _ _ _ t =>
            exact t.live hp
        · exact absurd z1 z3
      · rcases set_at h2 with ⟨z3, z4⟩ | ⟨z3, z4⟩
        · exact absurd z3 z1
        · exact own_ne S1 hp z2 z4
    · cases e
  · cases e
def sRet (f : FE) : FS := fun env x => match f env x with
  | some (d, x1) => some (.rt d, x1)
  | none => none
theorem ss_ret (h : SE X e f) : SS X (.Return (some e) pos) (sRet f) := by
  refine ⟨PSw (ps_ret h.out) fun Dn σ H h => ?_⟩
  obtain ⟨g, O, env, x, r, x', S, e, k⟩ := h
  unfold sRet at e
  split at e
  · rename_i d x1 e1
    cases e
    exact ⟨g, O, env, x, d, x', S, e1, fun v H' S' l r => k O σ H' v env S' r⟩
  · cases e
def sNo : FS := fun _ _ => none
theorem ss_no {st : Stmt} : SS X st sNo := ⟨PSw ps_never fun Dn σ H h => by
  obtain ⟨g, O, env, x, r, x', S, e, k⟩ := h
  cases e⟩
def sNil : FS := fun env x => some (.nx env, x)
def sSeq (f h : FS) : FS := fun env x => match f env x with
  | some (.nx e1, x1) => h e1 x1
  | some (.rt d, x1) => some (.rt d, x1)
  | some (.bk e1, x1) => some (.bk e1, x1)
  | some (.ct e1, x1) => some (.ct e1, x1)
  | none => none
theorem sss_nil : SSs X [] sNil := ⟨PSsw pss_nil fun Dn σ H h => by
  obtain ⟨g, O, env, x, r, x', S, e, k⟩ := h
  cases e
  exact k O σ H S⟩
theorem sss_cons {st : Stmt} {rest : List Stmt} {f h : FS} (h1 : SS X st f) (h2 : SSs X rest h) : SSs X (st :: rest) (sSeq f h) := by
  refine ⟨PSsw (pss_cons h1.out h2.out) fun Dn σ H h => ?_⟩
  obtain ⟨g, O, env, x, r, x', S, e, k⟩ := h
  unfold sSeq at e
  split at e
  · rename_i e1 x1 q
    exact ⟨g, O, env, x, _, x1, S, q, fun O' σ' H' S' => ⟨g, O', e1, x1, r, x', S', e, k⟩⟩
  · rename_i d x1 q
    cases e
    exact ⟨g, O, env, x, _, x', S, q, k⟩
  · rename_i d x1 q
    cases e
    exact ⟨g, O, env, x, _, x', S, q, k⟩
  · rename_i d x1 q
    cases e
    exact ⟨g, O, env, x, _, x', S, q, k⟩
  · cases e
theorem sss_one {st : Stmt} {f : FS} (h1 : SS X st f) : SSs X [st] f := ⟨pss_one h1.out⟩
def sIf (t : FT) (f h : FS) : FS := fun env x => match t env x with
  | some (true, x1) => f env x1
  | some (false, x1) => h env x1
  | none => none
theorem ss_if {t : FT} {p q : List Stmt} {f h : FS} (ht : ST X c t) (h1 : SSs X p f) (h2 : SSs X q h) : SS X (.If c p q pos) (sIf t f h) := by
  refine ⟨PSw (ps_if ht.out h1.out h2.out) fun Dn σ H h => ?_⟩
  obtain ⟨g, O, env, x, r, x', S, e, k⟩ := h
  unfold sIf at e
  split at e
  · rename_i x1 e1
    refine ⟨g, O, env, x, _, x1, S, e1, fun H' S' l => ?_⟩
    refine iteT ?_
    exact ⟨g, O, env, x1, r, x', S', e, k⟩
  · rename_i x1 e1
    refine ⟨g, O, env, x, _, x1, S, e1, fun H' S' l => ?_⟩
    refine iteF ?_
    exact ⟨g, O, env, x1, r, x', S', e, k⟩
  · cases e
/-- an owned name is given up ahead of a statement -/
def eFrz (i : Nat) (env : FEn) : FEn := match env[i]? with
  | some (.ow d) => env.set i (.va d.d)
  | _ => env
def sFrz (i : Nat) (f : FS) : FS := fun env x => f (eFrz i env) x
theorem FSt.frz {ω : World} {K : PySem.W.Frag} {g : FG} {O : Addr → Prop} {σ : L2.St} {H : Hp} {env : FEn} {x : FRow} (S : FSt ω K g O σ H env x) (i : Nat) : ∃ O', FSt ω K g O' σ H (eFrz i env) x := by
  unfold eFrz
  split
  · rename_i d q
    obtain ⟨s, e1, q1⟩ := S.at q
    cases q1 with
    | ow p q1 q2 q3 => exact ⟨_, S.freeze q e1⟩
  · exact ⟨O, S⟩
theorem ss_frz {st : Stmt} {f : FS} (i : Nat) (h : SS X st f) : SS X st (sFrz i f) := by
  refine ⟨PSw h.out fun Dn σ H h => ?_⟩
  obtain ⟨g, O, env, x, r, x', S, e, k⟩ := h
  obtain ⟨O', S'⟩ := S.frz i
  exact ⟨g, O', eFrz i env, x, r, x', S', e, k⟩
end
end RT

namespace RT
open PySem PySem.Spec PyProof.Rows L2
/-! ### dicts -/
def dKeys : List D → Option (List L2.Key)
  | [] => some []
  | d :: ds => match dKey d, dKeys ds with
    | some k, some ks => some (k :: ks)
    | _, _ => none
theorem dKeys_ok : ∀ {ds : List D} {ks : List L2.Key}, dKeys ds = some ks → ds = ks.map keyD
  | [], ks, h => by simp [dKeys] at h; subst h; rfl
  | d :: ds, ks, h => by
    unfold dKeys at h
    split at h
    · rename_i k ks' h1 h2
      cases h
      rw [dKey_ok h1, dKeys_ok h2]
      rfl
    · cases h
theorem dKeys_map : ∀ ks : List L2.Key, dKeys (ks.map keyD) = some ks
  | [] => rfl
  | k :: ks => by
    have h : dKey (keyD k) = some k := by cases k <;> rfl
    simp only [List.map_cons, dKeys, h, dKeys_map ks]
theorem dKey_key (k : L2.Key) : dKey (keyD k) = some k := by cases k <;> rfl
theorem rp_keys {K : PySem.W.Frag} {O : Addr → Prop} {H : Hp} : ∀ {xs : List V} {ks : List L2.Key}, RpA K O H xs (ks.map keyD) → xs = ks.map kV
  | _, [], h => by cases h; rfl
  | _, k :: ks, h => by
    cases h with
    | cons a b => rw [dKey_rp (dKey_key k) a, rp_keys b]; rfl
def dKeyT : D → Option (List L2.Key)
  | .tuple ds => dKeys ds
  | _ => none
theorem dKeyT_ok {d : D} {ks : List L2.Key} (h : dKeyT d = some ks) : d = .tuple (ks.map keyD) := by
  cases d <;> simp [dKeyT] at h
  rw [dKeys_ok h]
theorem dKeyT_key (ks : List L2.Key) : dKeyT (.tuple (ks.map keyD)) = some ks := dKeys_map ks
section
variable {κ : Type} [DecidableEq κ]
/-- look up, put: by a reading of keys -/
def valD (kf : D → Option κ) (kvs : List (D × D)) (k : κ) : Option D := (kvs.find? fun p => decide (kf p.1 = some k)).map (·.2)
def putD (kf : D → Option κ) (kvs : List (D × D)) (kd : D) (k : κ) (v : D) : List (D × D) :=
  if (kvs.any fun p => decide (kf p.1 = some k)) then kvs.map fun p => if kf p.1 = some k then (p.1, v) else p else kvs ++ [(kd, v)]
end
section
variable {ω : World} {K : PySem.W.Frag} {O : Addr → Prop} {H : Hp}
theorem RpK.val {k : L2.Key} : ∀ {kvs : List (L2.Key × V)} {ds : List (D × D)}, RpK K O H kvs ds → (valV kvs k = none ∧ valD dKey ds k = none) ∨ ∃ v d, valV kvs k = some v ∧ valD dKey ds k = some d ∧ Rp K O H v d
  | _, _, .nil => .inl ⟨rfl, rfl⟩
  | _, _, .cons (k := k') (v := v) (d := d) (vs := vs) (ds := ds) a b => by
    by_cases e : k' = k
    · refine .inr ⟨v, d, valV_pos e, ?_, a⟩
      simp [valD, dKey_key, e]
    · rw [valV_neg (p := (k', v)) e]
      have h : valD dKey ((keyD k', d) :: ds) k = valD dKey ds k := by simp [valD, dKey_key, e]
      rw [h]
      exact RpK.val b
theorem RpK.any {k : L2.Key} : ∀ {kvs : List (L2.Key × V)} {ds : List (D × D)}, RpK K O H kvs ds → (kvs.any fun kv => decide (kv.1 = k)) = ds.any fun p => decide (dKey p.1 = some k)
  | _, _, .nil => rfl
  | _, _, .cons (k := k') a b => by
    rw [List.any_cons, List.any_cons, RpK.any b, dKey_key]
    simp
theorem RpK.repl {k : L2.Key} {v : V} {d : D} (r : Rp K O H v d) : ∀ {kvs : List (L2.Key × V)} {ds : List (D × D)}, RpK K O H kvs ds → RpK K O H (kvs.map fun kv => if kv.1 = k then (kv.1, v) else kv) (ds.map fun p => if dKey p.1 = some k then (p.1, d) else p)
  | _, _, .nil => .nil
  | _, _, .cons (k := k') a b => by
    rw [List.map_cons, List.map_cons]
    by_cases e : k' = k
    · subst e
      rw [if_pos rfl, if_pos (dKey_key k')]
      exact .cons r (RpK.repl r b)
    · rw [if_neg e, if_neg (by rw [dKey_key]; exact fun z => e (Option.some.inj z))]
      exact .cons a (RpK.repl r b)
theorem RpK.app : ∀ {a c : List (L2.Key × V)} {b d : List (D × D)}, RpK K O H a b → RpK K O H c d → RpK K O H (a ++ c) (b ++ d)
  | _, _, _, _, .nil, h => h
  | _, _, _, _, .cons p q, h => .cons p (RpK.app q h)
theorem RpK.length : ∀ {a : List (L2.Key × V)} {b : List (D × D)}, RpK K O H a b → a.length = b.length
  | _, _, .nil => rfl
  | _, _, .cons _ q => by rw [List.length_cons, List.length_cons, RpK.length q]
theorem RpK.put {k : L2.Key} {v : V} {d : D} {kvs : List (L2.Key × V)} {ds : List (D × D)} (q : RpK K O H kvs ds) (r : Rp K O H v d) : RpK K O H (putK kvs k v) (putD dKey ds (keyD k) k d) := by
  unfold putK putD
  rw [q.any]
  split
  · exact q.repl r
  · exact q.app (.cons r .nil)
theorem RpT.val {k : List L2.Key} : ∀ {kvs : List (List L2.Key × V)} {ds : List (D × D)}, RpT K O H kvs ds → (valV kvs k = none ∧ valD dKeyT ds k = none) ∨ ∃ v d, valV kvs k = some v ∧ valD dKeyT ds k = some d ∧ Rp K O H v d
  | _, _, .nil => .inl ⟨rfl, rfl⟩
  | _, _, .cons (k := k') (v := v) (d := d) (vs := vs) (ds := ds) a b => by
    by_cases e : k' = k
    · refine .inr ⟨v, d, valV_pos e, ?_, a⟩
      simp [valD, dKeyT_key, e]
    · rw [valV_neg (p := (k', v)) e]
      have h : valD dKeyT ((.tuple (k'.map keyD), d) :: ds) k = valD dKeyT ds k := by simp [valD, dKeyT_key, e]
      rw [h]
      exact RpT.val b
theorem RpT.any {k : List L2.Key} : ∀ {kvs : List (List L2.Key × V)} {ds : List (D × D)}, RpT K O H kvs ds → (kvs.any fun kv => decide (kv.1 = k)) = ds.any fun p => decide (dKeyT p.1 = some k)
  | _, _, .nil => rfl
  | _, _, .cons (k := k') a b => by
    rw [List.any_cons, List.any_cons, RpT.any b, dKeyT_key]
    simp
theorem RpT.repl {k : List L2.Key} {v : V} {d : D} (r : Rp K O H v d) : ∀ {kvs : List (List L2.Key × V)} {ds : List (D × D)}, RpT K O H kvs ds → RpT K O H (kvs.map fun kv => if kv.1 = k then (kv.1, v) else kv) (ds.map fun p => if dKeyT p.1 = some k then (p.1, d) else p)
  | _, _, .nil => .nil
  | _, _, .cons (k := k') a b => by
    rw [List.map_cons, List.map_cons]
    by_cases e : k' = k
    · subst e
      rw [if_pos rfl, if_pos (dKeyT_key k')]
      exact .cons r (RpT.repl r b)
    · rw [if_neg e, if_neg (by rw [dKeyT_key]; exact fun z => e (Option.some.inj z))]
      exact .cons a (RpT.repl r b)
theorem RpT.app : ∀ {a c : List (List L2.Key × V)} {b d : List (D × D)}, RpT K O H a b → RpT K O H c d → RpT K O H (a ++ c) (b ++ d)
  | _, _, _, _, .nil, h => h
  | _, _, _, _, .cons p q, h => .cons p (RpT.app q h)
theorem RpT.length : ∀ {a : List (List L2.Key × V)} {b : List (D × D)}, RpT K O H a b → a.length = b.length
  | _, _, .nil => rfl
  | _, _, .cons _ q => by rw [List.length_cons, List.length_cons, RpT.length q]
theorem RpT.put {k : List L2.Key} {v : V} {d : D} {kvs : List (List L2.Key × V)} {ds : List (D × D)} (q : RpT K O H kvs ds) (r : Rp K O H v d) : RpT K O H (putK kvs k v) (putD dKeyT ds (.tuple (k.map keyD)) k d) := by
  unfold putK putD
  rw [q.any]
  split
  · exact q.repl r
  · exact q.app (.cons r .nil)
end
/-- d[k] as data -/
def gDGet : D → D → Option (Option D)
  | .dict kvs, k => match dKey k with
    | some q => some (valD dKey kvs q)
    | none => none
  | .dictT kvs, k => match dKeyT k with
    | some q => some (valD dKeyT kvs q)
    | none => none
  | _, _ => none
theorem dget_ok {K : PySem.W.Frag} {g : FG} {O : Addr → Prop} {H : Hp} {v w : V} {d k : D} {r : Option D} (h : gDGet d k = some r) (rv : RpB K g O H v d) (rk : RpB K g O H w k) :
    ∃ a o, v = .ref a ∧ DGet H a w o ∧ ((o = none ∧ r = none) ∨ ∃ y z, o = some y ∧ r = some z ∧ Rp K O H y z) := by
  unfold gDGet at h
  split at h
  · split at h
    · rename_i kvs q e
      cases h
      obtain ⟨a, vs, rfl, hH, hr⟩ := rv.dct
      have ew : w = kV q := by
        rw [dKey_ok e] at rk
        cases q with
        | inl i => exact rk.int
        | inr s => exact rk.str
      subst ew
      refine ⟨a, _, rfl, .inl ⟨_, _, hH, rfl, rfl⟩, ?_⟩
      rcases hr.val (k := q) with ⟨h1, h2⟩ | ⟨y, z, h1, h2, h3⟩
      · exact .inl ⟨h1, h2⟩
      · exact .inr ⟨y, z, h1, h2, h3⟩
    · cases h
  · split at h
    · rename_i kvs q e
      cases h
      obtain ⟨a, vs, rfl, hH, hr⟩ := rv.dcT
      rw [dKeyT_ok e] at rk
      obtain ⟨b, xs, rfl, hb, hx⟩ := rk.tup.tupAt
      rw [rp_keys hx] at hb
      refine ⟨a, _, rfl, DGet.t hH hb, ?_⟩
      rcases hr.val (k := q) with ⟨h1, h2⟩ | ⟨y, z, h1, h2, h3⟩
      · exact .inl ⟨h1, h2⟩
      · exact .inr ⟨y, z, h1, h2, h3⟩
    · cases h
  · cases h
section
variable {X : Cx} {a b c e : Expr} {es : List Expr} {fa fb fc f : FE} {pos : Pos}
def gDAt : D → D → Option D := fun d k => match gDGet d k with
  | some (some r) => some r
  | _ => none
theorem se_dget (hu : X.A.units + 1 < cLine) (ha : SB X a fa) (hb : SB X b fb) (hs : NoSl b := by exact fun _ _ => rfl) : SE X (.Subscript a b pos) (fBin gDAt fa fb) := by
  refine ⟨PEw (pe_dget hu ha.out hb.out hs) fun σ H Q h => ?_⟩
  obtain ⟨g, O, env, x, d, x', S, e, k⟩ := h
  obtain ⟨da, x1, db, r, e1, e2, e3, rfl⟩ := fBin_some e
  refine two S e1 e2 fun v w H' S' l rv rw => ?_
  unfold gDAt at e3
  split at e3
  · rename_i z q
    cases e3
    obtain ⟨p, o, rfl, hd, h | ⟨y, z', rfl, h2, h3⟩⟩ := dget_ok q rv rw
    · cases h.2
    · cases h2
      exact ⟨p, y, rfl, hd, k _ _ S' l h3⟩
  · cases e3
def gDIn : D → D → Option D := fun k d => match gDGet d k with
  | some o => some (.bool o.isSome)
  | _ => none
def gDNotIn : D → D → Option D := fun k d => match gDGet d k with
  | some o => some (.bool (!o.isSome))
  | _ => none
theorem isSome_of {o : Option V} {r : Option D} {K : PySem.W.Frag} {O : Addr → Prop} {H : Hp} (h : (o = none ∧ r = none) ∨ ∃ y z, o = some y ∧ r = some z ∧ Rp K O H y z) : o.isSome = r.isSome := by
  rcases h with ⟨rfl, rfl⟩ | ⟨y, z, rfl, rfl, _⟩ <;> rfl
theorem pc_dinB (hu : X.A.units + 1 < cLine) (ha : SB X a fa) (hb : SB X b fb) : PC X .In a b (tE X.w X.K (fBin gDIn fa fb)) := by
  refine ⟨fun pins s σ H Q I h => (pc_din hu ha.out hb.out).run pins s σ H Q I ?_⟩
  obtain ⟨g, O, env, x, d, x', S, e, k⟩ := h
  obtain ⟨da, x1, db, r, e1, e2, e3, rfl⟩ := fBin_some e
  refine two S e1 e2 fun v w H' S' l rv rw => ?_
  unfold gDIn at e3
  split at e3
  · rename_i z q
    cases e3
    obtain ⟨p, o, rfl, hd, h⟩ := dget_ok q rw rv
    refine ⟨p, o, rfl, hd, ?_⟩
    rw [isSome_of h]
    exact k _ _ S' l (.bl _)
  · cases e3
theorem pc_dnotB (hu : X.A.units + 1 < cLine) (ha : SB X a fa) (hb : SB X b fb) : PC X .NotIn a b (tE X.w X.K (fBin gDNotIn fa fb)) := by
  refine ⟨fun pins s σ H Q I h => (pc_dnotin hu ha.out hb.out).run pins s σ H Q I ?_⟩
  obtain ⟨g, O, env, x, d, x', S, e, k⟩ := h
  obtain ⟨da, x1, db, r, e1, e2, e3, rfl⟩ := fBin_some e
  refine two S e1 e2 fun v w H' S' l rv rw => ?_
  unfold gDNotIn at e3
  split at e3
  · rename_i z q
    cases e3
    obtain ⟨p, o, rfl, hd, h⟩ := dget_ok q rw rv
    refine ⟨p, o, rfl, hd, ?_⟩
    rw [isSome_of h]
    exact k _ _ S' l (.bl _)
  · cases e3
theorem se_din (hu : X.A.units + 1 < cLine) (ha : SB X a fa) (hb : SB X b fb) (hm : behindInMarks .In b = false := by rfl) : SE X (.Compare a [.In] [b] pos) (fBin gDIn fa fb) := ⟨pe_cmp (pc_dinB hu ha hb) hm⟩
theorem se_dnot (hu : X.A.units + 1 < cLine) (ha : SB X a fa) (hb : SB X b fb) (hm : behindInMarks .NotIn b = false := by rfl) : SE X (.Compare a [.NotIn] [b] pos) (fBin gDNotIn fa fb) := ⟨pe_cmp (pc_dnotB hu ha hb) hm⟩
theorem tB_of {f : FE} {σ : L2.St} {H : Hp} {Q : Bool → Hp → Prop} (h : tT X.w X.K (fTst f) σ H Q) : L2.tB (tE X.w X.K f) σ H Q := by
  obtain ⟨g, O, env, x, d, x', S, e, k⟩ := h
  refine ⟨g, O, env, x, _, x', S, fTst_some e, fun v H' S' l r => ?_⟩
  cases r
  exact ⟨d, rfl, k H' S' l⟩
theorem st_din (hu : X.A.units + 1 < cLine) (ha : SB X a fa) (hb : SB X b fb) (hm : behindInMarks .In b = false := by rfl) : ST X (.Compare a [.In] [b] pos) (fTst (fBin gDIn fa fb)) := ⟨PTw (pt_cmp (pc_dinB hu ha hb) hm) fun _ _ _ h => tB_of h⟩
theorem st_dnot (hu : X.A.units + 1 < cLine) (ha : SB X a fa) (hb : SB X b fb) (hm : behindInMarks .NotIn b = false := by rfl) : ST X (.Compare a [.NotIn] [b] pos) (fTst (fBin gDNotIn fa fb)) := ⟨PTw (pt_cmp (pc_dnotB hu ha hb) hm) fun _ _ _ h => tB_of h⟩

/-! ### owned things change -/
/-- d[k] = v: value first, then the dict's name, then the key -/
def sDPut (i : Nat) (fk fv : FE) : FS := fun env x => match fv env x with
  | some (v, x1) => match fk env x1 with
    | some (k, x2) => match env[i]? with
      | some (.ow (.dk kvs)) => match dKey k with
        | some q => if kvs.length < maxLen then some (.nx (env.set i (.ow (.dk (putD dKey kvs k q v)))), x2) else none
        | none => none
      | some (.ow (.dt kvs)) => match dKeyT k with
        | some q => if kvs.length < maxLen then some (.nx (env.set i (.ow (.dt (putD dKeyT kvs k q v)))), x2) else none
        | none => none
      | _ => none
    | none => none
  | none => none
theorem maxLen_lt {n : Nat} (h : n < maxLen) : n < sizeLine := Nat.lt_of_lt_of_le h (maxLen_ok (Nat.le_refl _))
theorem keep_own {ω : World} {K : PySem.W.Frag} {g : FG} {O : Addr → Prop} {σ : L2.St} {H : Hp} {env : FEn} {x : FRow} (S : FSt ω K g O σ H env x) {p : Addr} {o : HO} (hp : O p) : Keep O H (upd H p o) := fun b u n e _ => by
  rw [upd_ne (show b ≠ p from fun z => n (z ▸ hp))]; exact e
theorem ss_dput {i : Nat} {n : Str} {fk fv : FE} {p0 pos' : Pos} (hu : X.A.units + 1 < cLine) (hv : SE X c fv) (hk : SE X b fk) (hs : swapsWith c (some (.Subscript (.Name n p0) b pos')) pos.line X.env = pure false := by rfl)
    (hN : X.N[i]? = some n := by rfl) (hvis : Vis X.env.scope n := by first | exact Or.inl rfl | exact Or.inr (Or.inl rfl) | exact Or.inr (Or.inr rfl)) (hd : (n == ("__debug__" : Str)) = false := by decide)
    (hcd : (n == ("__classdict__" : Str)) = false := by decide) : SS X (.Assign [.Subscript (.Name n p0) b pos'] c pos) (sDPut i fk fv) := by
  refine ⟨PSw (ps_dput hu (pe_var hN hvis hd hcd) hk.out hv.out hs) fun Dn σ H h => ?_⟩
  obtain ⟨g, O, env, x, r, x', S, e, kk⟩ := h
  unfold sDPut at e
  split at e
  · rename_i v x1 e1
    split at e
    · rename_i k x2 e2
      split at e
      · rename_i kvs e3
        split at e
        · rename_i q e4
          split at e
          · rename_i hl
            cases e
            refine ⟨g, O, env, x, v, x1, S, e1, fun y H1 S1 l1 r1 => ?_⟩
            obtain ⟨s, e5, q5⟩ := S1.at e3
            cases q5 with
            | @ow p _ op q6 q7 w =>
              refine ⟨_, e5, ⟨g, O, env, x1, k, x', S1, e2, fun z H2 S2 l2 r2 => ?_⟩⟩
              obtain ⟨s2, e6, q8⟩ := S2.at e3
              rw [e5] at e6
              cases e6
              cases q8 with
              | ow _ _ _ w2 =>
                obtain ⟨vs, hH, hr⟩ := w2
                have ez := dKey_rp e4 r2
                subst ez
                refine ⟨p, _, rfl, DPut.k (k := q) hH (by rw [hr.length]; exact maxLen_lt hl), ?_⟩
                refine kk O _ _ (S2.put e3 e5 True.intro ⟨_, upd_same, ?_⟩)
                have e7 := dKey_ok e4
                subst e7
                exact (hr.put (r1.step S1 l2)).move (keep_own S2 op) .refl
          · cases e
        · cases e
      · rename_i kvs e3
        split at e
        · rename_i q e4
          split at e
          · rename_i hl
            cases e
            refine ⟨g, O, env, x, v, x1, S, e1, fun y H1 S1 l1 r1 => ?_⟩
            obtain ⟨s, e5, q5⟩ := S1.at e3
            cases q5 with
            | @ow p _ op q6 q7 w =>
              refine ⟨_, e5, ⟨g, O, env, x1, k, x', S1, e2, fun z H2 S2 l2 r2 => ?_⟩⟩
              obtain ⟨s2, e6, q8⟩ := S2.at e3
              rw [e5] at e6
              cases e6
              cases q8 with
              | ow _ _ _ w2 =>
                obtain ⟨vs, hH, hr⟩ := w2
                have e7 := dKeyT_ok e4
                subst e7
                obtain ⟨b', xs, rfl, hb, hx⟩ := r2.tupAt
                rw [rp_keys hx] at hb
                refine ⟨p, _, rfl, DPut.t (k := q) hH hb (by rw [hr.length]; exact maxLen_lt hl), ?_⟩
                refine kk O _ _ (S2.put e3 e5 True.intro ⟨_, upd_same, ?_⟩)
                exact (hr.put (r1.step S1 l2)).move (keep_own S2 op) .refl
          · cases e
        · cases e
      · cases e
    · cases e
  · cases e
/-- xs.append(e) -/
def sApp (i : Nat) (f : FE) : FS := fun env x => match f env x with
  | some (d, x1) => match env[i]? with
    | some (.ow (.lst ds)) => if ds.length < maxLen then some (.nx (env.set i (.ow (.lst (ds ++ [d])))), x1) else none
    | _ => none
  | none => none
theorem ss_app {i : Nat} {n : Str} {f : FE} {p0 apos cpos : Pos} (he : SE X e f)
    (hs : swapsWith (.Call (.Attribute (.Name n p0) "append" apos) [e] [] cpos) none pos.line X.env = pure false := by rfl)
    (hbase : attributeBase (.Name n p0) "append" X.env (eval (.Name n p0) X.env) = eval (.Name n p0) X.env := by rfl)
    (hfew : ((backTo cpos (starEach (e :: []) X.env)).all (fun x => !x.1) && (backToKw cpos (keywordEach [] X.env)).all (fun x => x.1.isSome)
      && decide ((e :: []).length + ([] : List Keyword).length + (if ([] : List Keyword).isEmpty then 0 else 1) < 30)) = true := by rfl)
    (hline : (apos.endLine == cpos.line) = true := by rfl) (hss : starEach (e :: []) X.env = (false, eval e X.env) :: starEach [] X.env := by rfl) (hplain : (backTo cpos (starEach [] X.env)).any (·.1) = false := by rfl)
    (hN : X.N[i]? = some n := by rfl) (hvis : Vis X.env.scope n := by first | exact Or.inl rfl | exact Or.inr (Or.inl rfl) | exact Or.inr (Or.inr rfl)) (hd : (n == ("__debug__" : Str)) = false := by decide)
    (hcd : (n == ("__classdict__" : Str)) = false := by decide) : SS X (.Expr (.Call (.Attribute (.Name n p0) "append" apos) [e] [] cpos) pos) (sApp i f) := by
  refine ⟨PSw (ps_expr (pe_bm PySem.F.plainAttrs_list PySem.F.slot_list_append PySem.F.type_list_append mt_append (pe_var hN hvis hd hcd) (pa_cons he.out pa_nil hss) hbase hfew hline hss hplain) hs) fun Dn σ H h => ?_⟩
  obtain ⟨g, O, env, x, r, x', S, e, kk⟩ := h
  unfold sApp at e
  split at e
  · rename_i v x1 e1
    split at e
    · rename_i ds e3
      split at e
      · rename_i hl
        cases e
        obtain ⟨s, e5, q5⟩ := S.at e3
        cases q5 with
        | @ow p _ op q6 q7 w =>
          obtain ⟨vs, hH, hr⟩ := w
          refine ⟨_, e5, .inl ⟨rfl, _, .of hH⟩, ⟨g, O, env, x, v, x', S, e1, fun z H2 S2 l2 r2 => ?_⟩⟩
          have hH2 := l2 p _ q7 hH rfl
          refine ⟨p, vs, z, rfl, rfl, hH2, by rw [hr.length]; exact maxLen_lt hl, ?_⟩
          refine kk O _ _ (S2.put e3 e5 True.intro ⟨_, upd_same, ?_⟩)
          exact ((hr.step S l2).app (.cons r2 .nil)).move (keep_own S2 op) .refl
      · cases e
    · cases e
  · cases e
/-- xs.extend(e), e a list -/
def sExt (i : Nat) (f : FE) : FS := fun env x => match f env x with
  | some (.list es, x1) => match env[i]? with
    | some (.ow (.lst ds)) => if ds.length + es.length ≤ maxLen then some (.nx (env.set i (.ow (.lst (ds ++ es)))), x1) else none
    | _ => none
  | _ => none
theorem ss_ext {i : Nat} {n : Str} {f : FE} {p0 apos cpos : Pos} (he : SE X e f)
    (hs : swapsWith (.Call (.Attribute (.Name n p0) "extend" apos) [e] [] cpos) none pos.line X.env = pure false := by rfl)
    (hbase : attributeBase (.Name n p0) "extend" X.env (eval (.Name n p0) X.env) = eval (.Name n p0) X.env := by rfl)
    (hfew : ((backTo cpos (starEach (e :: []) X.env)).all (fun x => !x.1) && (backToKw cpos (keywordEach [] X.env)).all (fun x => x.1.isSome)
      && decide ((e :: []).length + ([] : List Keyword).length + (if ([] : List Keyword).isEmpty then 0 else 1) < 30)) = true := by rfl)
    (hline : (apos.endLine == cpos.line) = true := by rfl) (hss : starEach (e :: []) X.env = (false, eval e X.env) :: starEach [] X.env := by rfl) (hplain : (backTo cpos (starEach [] X.env)).any (·.1) = false := by rfl)
    (hN : X.N[i]? = some n := by rfl) (hvis : Vis X.env.scope n := by first | exact Or.inl rfl | exact Or.inr (Or.inl rfl) | exact Or.inr (Or.inr rfl)) (hd : (n == ("__debug__" : Str)) = false := by decide)
    (hcd : (n == ("__classdict__" : Str)) = false := by decide) : SS X (.Expr (.Call (.Attribute (.Name n p0) "extend" apos) [e] [] cpos) pos) (sExt i f) := by
  refine ⟨PSw (ps_expr (pe_bm PySem.F.plainAttrs_list PySem.F.slot_list_extend PySem.F.type_list_extend mt_extend (pe_var hN hvis hd hcd) (pa_cons he.out pa_nil hss) hbase hfew hline hss hplain) hs) fun Dn σ H h => ?_⟩
  obtain ⟨g, O, env, x, r, x', S, e, kk⟩ := h
  unfold sExt at e
  split at e
  · rename_i es x1 e1
    split at e
    · rename_i ds e3
      split at e
      · rename_i hl
        cases e
        obtain ⟨s, e5, q5⟩ := S.at e3
        cases q5 with
        | @ow p _ op q6 q7 w =>
          obtain ⟨vs, hH, hr⟩ := w
          refine ⟨_, e5, .inl ⟨rfl, _, .of hH⟩, ⟨g, O, env, x, _, x', S, e1, fun z H2 S2 l2 r2 => ?_⟩⟩
          have hH2 := l2 p _ q7 hH rfl
          cases r2 with
          | @lst b zs _ nb hb rz =>
            refine ⟨p, b, vs, zs, rfl, rfl, hH2, hb, by rw [hr.length, rz.length]; exact maxLen_ok hl, ?_⟩
            refine kk O _ _ (S2.put e3 e5 True.intro ⟨_, upd_same, ?_⟩)
            exact ((hr.step S l2).app rz).move (keep_own S2 op) .refl
      · cases e
    · cases e
  · cases e
end
end RT

namespace RT
open PySem PySem.Spec PyProof.Rows L2
/-! ### ghosts, wiping -/
def FG.add (g : FG) (more : List (V × D)) : FG := { g with gs := more ++ g.gs }
section
variable {ω : World} {K : PySem.W.Frag} {g : FG} {O O' : Addr → Prop} {σ : L2.St} {H H' : Hp} {env : FEn} {x x' : FRow}
theorem FSt.regh {g' : FG} (S : FSt ω K g O σ H env x) (h0 : g'.O0 = g.O0) (h1 : g'.H0 = g.H0) (h2 : g'.R = g.R) (h3 : ∀ p ∈ g'.gs, Rp K O H p.1 p.2) (h4 : g'.T = g.T := by rfl) (h5 : g'.w = g.w := by rfl) : FSt ω K g' O σ H env x where
  tb := by rw [h4]; exact S.tb
  tk := by rw [h4]; exact S.tk
  nt0 := by rw [h1]; exact S.nt0
  ww := by rw [h5]; exact S.ww
  sub := by rw [h0]; exact S.sub
  new := by rw [h0, h1]; exact S.new
  dom := S.dom
  le := by rw [h1]; intro a o; rw [h2]; exact S.le a o
  row := by rw [h0, h1, h2]; exact S.row
  len := S.len
  sl := fun i s e e1 e2 => by
    cases S.sl i s e e1 e2 with
    | no => exact .no _
    | va r => exact .va r
    | ow p q r t => exact .ow p (by rw [h0]; exact q) (by rw [h2]; exact r) t
    | rw e => exact .rw (by rw [h2]; exact e)
    | da p q r t => exact .da p (by rw [h0]; exact q) (by rw [h2]; exact r) (by rw [h5]; exact t)
    | fn n e r => exact .fn n e r
  dis := S.dis
  gh := h3
theorem FSt.addg (S : FSt ω K g O σ H env x) (more : List (V × D)) (h : ∀ p ∈ more, Rp K O H p.1 p.2) : FSt ω K (g.add more) O σ H env x :=
  S.regh rfl rfl rfl fun p hp => (List.mem_append.mp hp).elim (h p) (S.gh p)
theorem FSt.unadd {more : List (V × D)} (S : FSt ω K (g.add more) O σ H env x) : FSt ω K g O σ H env x :=
  S.regh rfl rfl rfl fun p hp => S.gh p (List.mem_append_right _ hp)
def wipeE (env : FEn) : List Nat → FEn
  | [] => env
  | v :: vs => (wipeE env vs).set v .no
theorem wipe_get (σ : L2.St) (j : Nat) : ∀ vs : List Nat, (wipe σ vs)[j]? = if j ∈ vs then (σ[j]?).map (fun _ => none) else σ[j]?
  | [] => by simp [wipe]
  | v :: vs => by
    unfold wipe
    rw [List.getElem?_set]
    have ih := wipe_get σ j vs
    have hl := wipe_length σ vs
    by_cases e : v = j
    · subst e
      have hm : v ∈ v :: vs := List.mem_cons_self
      rw [if_pos rfl, if_pos hm, hl]
      by_cases hv : v < σ.length
      · rw [if_pos hv, List.getElem?_eq_getElem hv]; rfl
      · rw [if_neg hv, List.getElem?_eq_none (by omega)]; rfl
    · rw [if_neg e, ih]
      have : (j ∈ v :: vs) ↔ j ∈ vs := by simp [show ¬ j = v from fun z => e z.symm]
      by_cases q : j ∈ vs
      · rw [if_pos q, if_pos (this.mpr q)]
      · rw [if_neg q, if_neg (fun z => q (this.mp z))]
theorem wipe_set {σ : L2.St} {i : Nat} {s : Option V} {vs : List Nat} (h : i ∈ vs) : wipe (σ.set i s) vs = wipe σ vs := by
  apply List.ext_getElem?
  intro j
  rw [wipe_get, wipe_get]
  by_cases q : j ∈ vs
  · rw [if_pos q, if_pos q, List.getElem?_set]
    by_cases e : i = j
    · subst e
      rw [if_pos rfl]
      by_cases hl : i < σ.length
      · rw [if_pos hl, List.getElem?_eq_getElem hl]; rfl
      · rw [if_neg hl, List.getElem?_eq_none (by omega)]
    · rw [if_neg e]
  · rw [if_neg q, if_neg q, List.getElem?_set_ne (fun e => q (by rw [← e]; exact h))]
theorem wipe_wipe (σ : L2.St) (vs : List Nat) : wipe (wipe σ vs) vs = wipe σ vs := by
  apply List.ext_getElem?
  intro j
  rw [wipe_get, wipe_get]
  by_cases q : j ∈ vs
  · rw [if_pos q, if_pos q]; cases σ[j]? <;> rfl
  · rw [if_neg q, if_neg q]
theorem wipeE_len (env : FEn) : ∀ vs : List Nat, (wipeE env vs).length = env.length
  | [] => rfl
  | v :: vs => by unfold wipeE; rw [List.length_set, wipeE_len env vs]
theorem wipeE_get {j : Nat} {e : FSl} : ∀ {vs : List Nat}, (wipeE env vs)[j]? = some e → e = .no ∨ (j ∉ vs ∧ env[j]? = some e)
  | [], h => .inr ⟨by simp, h⟩
  | v :: vs, h => by
    unfold wipeE at h
    rcases set_at h with ⟨e1, e2⟩ | ⟨e1, e2⟩
    · exact .inl e2
    · rcases wipeE_get e2 with q | ⟨q1, q2⟩
      · exact .inl q
      · exact .inr ⟨by simp [q1, show ¬ j = v from fun z => e1 z.symm], q2⟩
theorem FSt.wiped (S : FSt ω K g O σ H env x) (vs : List Nat) : FSt ω K g O (wipe σ vs) H (wipeE env vs) x where
  tb := S.tb
  tk := S.tk
  nt0 := S.nt0
  ww := S.ww
  sub := S.sub
  new := S.new
  dom := S.dom
  le := S.le
  row := S.row
  len := by rw [wipe_length, wipeE_len]; exact S.len
  sl := fun j s e h1 h2 => by
    rcases wipeE_get h2 with rfl | ⟨q1, q2⟩
    · exact .no _
    · rw [wipe_get, if_neg q1] at h1
      exact S.sl j s e h1 q2
  dis := fun i j d d' a b ne h1 h2 h3 h4 => by
    rcases wipeE_get h1 with z | ⟨q1, q2⟩
    · cases z
    · rcases wipeE_get h2 with z | ⟨q3, q4⟩
      · cases z
      · rw [wipe_get, if_neg q1] at h3
        rw [wipe_get, if_neg q3] at h4
        exact S.dis i j d d' a b ne q2 q4 h3 h4
  gh := S.gh
/-- an owned thing that no name holds changes -/
theorem FSt.upd1 (S : FSt ω K g O σ H env x) {p : Addr} {o oo : HO} (ho : H p = some oo) (nc : ¬ IsC oo) (op : O p) (n0 : ¬ g.O0 p) (nr : g.R ≠ some p) (mu : MutC (some o)) (ne : ∀ (j : Nat) d b, env[j]? = some d → isOwn d = true → σ[j]? = some (some (.ref b)) → b ≠ p) : FSt ω K g O σ (upd H p o) env x := by
  have h0 : g.H0 p = none := by
    rcases S.new p op with z | z
    · exact absurd z n0
    · exact z
  have kp := keep_own (o := o) S op
  have mp := S.dom p op
  refine ⟨S.sub, S.new, fun a ha => ?_, fun c u hR e tn => ?_, fun r e => ?_, S.len, fun j s e' e1 e2 => ?_, S.dis, fun q hq => (S.gh q hq).move kp .refl, tabs_upd S.tb ho (mut_nt (by rw [← ho]; exact mp)) nc, S.tk, S.nt0, S.ww⟩
  · by_cases z : a = p
    · subst z; rw [upd_same]; exact mu
    · rw [upd_ne z]; exact S.dom a ha
  · have z : c ≠ p := fun z => by rw [z, h0] at e; cases e
    rw [upd_ne z]; exact S.le c u hR e tn
  · obtain ⟨q1, q2, a0, q3, q4⟩ := S.row r e
    refine ⟨q1, q2, a0, ?_, ?_⟩
    · rw [upd_ne (show r ≠ p from fun z => nr (z ▸ e))]; exact q3
    · exact q4.updO op
  · cases S.sl j s e' e1 e2 with
    | no => exact .no _
    | va r => exact .va (r.move kp .refl)
    | ow q1 q2 q3 t => exact .ow q1 q2 q3 (t.move (fun u eu _ => by rw [upd_ne (ne j _ _ e2 rfl e1)]; exact eu) kp .refl)
    | rw e => exact .rw e
    | da q1 q2 q3 t => exact .da q1 q2 q3 (t.mv (fun u eu _ => by rw [upd_ne (ne j _ _ e2 rfl e1)]; exact eu) fun _ _ r => r.move kp .refl)
    | fn n e r => exact .fn n (kp _ _ n e rfl) fun p hp => (r p hp).move kp .refl
/-- the wider O of a new thing is forgotten -/
theorem FSt.shrink {H0 : Hp} {x0 : FRow} (S0 : FSt ω K g O σ H0 env x0) (S : FSt ω K g O' σ H env x) (h : ∀ a, O a → O' a) : FSt ω K g O σ H env x where
  tb := S.tb
  tk := S.tk
  nt0 := S.nt0
  ww := S.ww
  sub := S0.sub
  new := S0.new
  dom := fun a ha => S.dom a (h a ha)
  le := S.le
  row := fun r e => ⟨(S.row r e).1, (S.row r e).2.1, (S.row r e).2.2.sub h⟩
  len := S.len
  sl := fun i s e e1 e2 => by
    have w : Wid O' O H := fun a z => .inl (h a z)
    cases S.sl i s e e1 e2 with
    | no => exact .no _
    | va r => exact .va (r.move (fun _ _ _ e _ => e) w)
    | ow p q r t =>
      cases S0.sl i _ _ e1 e2 with
      | ow p0 _ _ _ => exact .ow p0 q r (t.move (fun _ e _ => e) (fun _ _ _ e _ => e) w)
    | rw e => exact .rw e
    | da p q r t =>
      cases S0.sl i _ _ e1 e2 with
      | da p0 _ _ _ => exact .da p0 q r (t.mv (fun _ e _ => e) fun _ _ r => r.move (fun _ _ _ e _ => e) w)
    | fn n e r => exact .fn (fun z => n (h _ z)) e fun p hp => (r p hp).move (fun _ _ _ e _ => e) w
  dis := S.dis
  gh := fun p hp => (S.gh p hp).move (fun _ _ _ e _ => e) (fun a z => .inl (h a z))
theorem FSt.notG (S : FSt ω K g O σ H env x) {p : Addr} (h : Gone H p) : ¬ O p := fun z => by
  have d := S.dom p z
  cases q : H p with
  | none => rw [q] at d; exact d
  | some o => exact h.no q (mut_nt (by rw [← q]; exact d))
end
section
variable {X : Cx} {a b c e : Expr} {es : List Expr} {fa fb fc f : FE} {pos : Pos}
def fOfX (f : FX) : FE := fun env x => match f env x with
  | some (.va d, x1) => some (d, x1)
  | some (.ow w, x1) => some (w.d, x1)
  | _ => none
theorem se_ofX {f : FX} (h : SX X e f) : SE X e (fOfX f) := by
  refine ⟨PEw h.out fun σ H Q h => ?_⟩
  obtain ⟨g, O, env, x, d, x', S, e, k⟩ := h
  unfold fOfX at e
  split at e
  · rename_i dd x1 e1
    cases e
    refine ⟨g, O, env, x, _, x', S, e1, fun O' v H' S' l w sub r nw => ?_⟩
    cases r with
    | va r => exact k v H' (S.shrink S' sub) l (r.move (fun _ _ _ e _ => e) fun a z => .inl (sub a z))
  · rename_i dd x1 e1
    cases e
    refine ⟨g, O, env, x, _, x', S, e1, fun O' v H' S' l w sub r nw => ?_⟩
    obtain ⟨p, rfl, hp⟩ := nw _ rfl
    have np := S.notG hp
    have wd : Wid O' O H' := fun a z => .inl (sub a z)
    cases r with
    | ow p1 q r t =>
      refine k _ H' (S.shrink S' sub) l ?_
      cases dd with
      | lst ds => obtain ⟨xs, e, r⟩ := t; exact .lst np e (r.move (fun _ _ _ e _ => e) wd)
      | dk ds => obtain ⟨xs, e, r⟩ := t; exact .dK np (.inl e) (r.move (fun _ _ _ e _ => e) wd)
      | dt ds => obtain ⟨xs, e, r⟩ := t; exact .dT np e (r.move (fun _ _ _ e _ => e) wd)
  · cases e

/-! ### targets -/
abbrev FGt := D → FEn → Option FEn
abbrev FGs := List D → FEn → Option FEn
def tG (ω : World) (K : PySem.W.Frag) (vs : List Nat) (f : FGt) : TG := fun v σ H Q => ∃ g O env x d env', FSt ω K g O σ H env x ∧ Rp K O H v d ∧ f d env = some env' ∧ ∀ σ', wipe σ' vs = wipe σ vs → FSt ω K g O σ' H env' x → Q σ' H
def tGs (ω : World) (K : PySem.W.Frag) (vs : List Nat) (f : FGs) : TGs := fun v σ H Q => ∃ g O env x d env', FSt ω K g O σ H env x ∧ RpA K O H v d ∧ f d env = some env' ∧ ∀ σ', wipe σ' vs = wipe σ vs → FSt ω K g O σ' H env' x → Q σ' H
structure SG (X : Cx) (e : Expr) (vs : List Nat) (f : FGt) : Prop where
  out : PG X e (tG X.w X.K vs f)
structure SGs (X : Cx) (e : List Expr) (vs : List Nat) (f : FGs) : Prop where
  out : PGs X e (tGs X.w X.K vs f)
theorem PGw {t t' : TG} (h : PG X e t) (q : ∀ v σ H Q, t' v σ H Q → t v σ H Q) : PG X e t' := ⟨fun pins s σ H v u Q I r z => h.run pins s σ H v u Q I r (q _ _ _ _ z)⟩
theorem PGsw {t t' : TGs} (h : PGs X es t) (q : ∀ v σ H Q, t' v σ H Q → t v σ H Q) : PGs X es t' := ⟨fun pins s σ H v u Q I r z => h.run pins s σ H v u Q I r (q _ _ _ _ z)⟩
def gtName (i : Nat) : FGt := fun d env => some (env.set i (.va d))
theorem sg_name (i : Nat) {n : Str} {vs : List Nat} (hN : X.N.Nodup) (hi : X.N[i]? = some n) (hx : Loc X.env.scope n) (hv : i ∈ vs) (hf : X.fn n = true ∨ X.env.scope.names.lookup n = some .local := by first | exact .inl rfl | exact .inr rfl | assumption) : SG X (.Name n pos) vs (gtName i) := by
  refine ⟨PGw (pg_name hN hi hx hf) fun v σ H Q h => ?_⟩
  obtain ⟨g, O, env, x, d, env', S, r, e, k⟩ := h
  cases e
  exact k _ (wipe_set hv) (S.setv i (.va r) fun d z => by cases z)
def gtNil : FGs := fun ds env => match ds with
  | [] => some env
  | _ => none
def gtCons (f : FGt) (h : FGs) : FGs := fun ds env => match ds with
  | d :: ds => match f d env with
    | some e1 => h ds e1
    | none => none
  | [] => none
theorem sgs_nil {vs : List Nat} : SGs X [] vs gtNil := by
  refine ⟨PGsw pgs_nil fun v σ H Q h => ?_⟩
  obtain ⟨g, O, env, x, d, env', S, r, e, k⟩ := h
  unfold gtNil at e
  split at e
  · cases e
    cases r
    exact ⟨rfl, k _ rfl S⟩
  · cases e
theorem sgs_cons {vs : List Nat} {f : FGt} {h : FGs} (h1 : SG X e vs f) (h2 : SGs X es vs h) (hs : (assignEach (e :: es) X.env).map (·.2) = assign e X.env :: (assignEach es X.env).map (·.2) := by rfl) : SGs X (e :: es) vs (gtCons f h) := by
  refine ⟨PGsw (pgs_cons h1.out h2.out hs) fun v σ H Q h => ?_⟩
  obtain ⟨g, O, env, x, d, env', S, r, e, k⟩ := h
  unfold gtCons at e
  split at e
  · split at e
    · rename_i d ds _ e1 q
      cases r with
      | cons r1 r2 => exact ⟨_, _, rfl, g, O, env, x, d, e1, S, r1, q, fun σ1 w1 S1 => ⟨g, O, e1, x, ds, env', S1, r2, e, fun σ2 w2 S2 => k σ2 (w2.trans w1) S2⟩⟩
    · cases e
  · cases e
def gtTup (n : Nat) (h : FGs) : FGt := fun d env => match d with
  | .tuple ds => if ds.length = n then h ds env else none
  | _ => none
theorem sg_tup {vs : List Nat} {k n : Nat} {h : FGs} (hc : X.calm = true) (h1 : SGs X es vs h) (hn : (assignEach es X.env).length = n := by rfl) (hst : (assignEach es X.env).findIdx? (·.1) = none := by rfl) : SG X (.Tuple es k pos) vs (gtTup n h) := by
  refine ⟨PGw (pg_tup hc h1.out hn hst) fun v σ H Q h => ?_⟩
  obtain ⟨g, O, env, x, d, env', S, r, e, k⟩ := h
  unfold gtTup at e
  split at e
  · rename_i ds
    split at e
    · rename_i hl
      obtain ⟨p, xs, rfl, hp, rx⟩ := r.tupAt
      exact ⟨p, xs, rfl, .of hp, by rw [rx.length]; exact hl, g, O, env, x, ds, env', S, rx, e, k⟩
    · cases e
  · cases e
/-- a, b = e -/
def sUnp (f : FE) (h : FGt) : FS := fun env x => match f env x with
  | some (d, x1) => match h d env with
    | some e1 => some (.nx e1, x1)
    | none => none
  | none => none
theorem ss_unp {tg : Expr} {vs : List Nat} {f : FE} {h : FGt} (he : SE X e f) (hg : SG X tg vs h) (hs : swapsWithSole [tg] e pos.line X.env = pure false := by rfl) (hw : swappedStores [tg] e X.env = pure none := by rfl)
    (h1 : (assignEach [tg] X.env).map (·.2) = [assign tg X.env] := by rfl) : SS X (.Assign [tg] e pos) (sUnp f h) := by
  refine ⟨PSw (ps_asg he.out hg.out hs hw h1) fun Dn σ H h => ?_⟩
  obtain ⟨g, O, env, x, r, x', S, e, k⟩ := h
  unfold sUnp at e
  split at e
  · rename_i d x1 e1
    split at e
    · rename_i env1 e2
      cases e
      exact ⟨g, O, env, x, d, x', S, e1, fun v H1 S1 l1 r1 => ⟨g, O, env, x', d, env1, S1, r1, e2, fun σ' _ S2 => k O σ' H1 S2⟩⟩
    · cases e
  · cases e

/-! ### what is walked -/
def WalksD (ω : World) (K : PySem.W.Frag) (J : It) (g : FG) (ds : List D) : Prop := ∀ O σ H env x i, FSt ω K g O σ H env x →
  (∀ d, ds[i]? = some d → J.go i H ∧ ∀ v H', J.yld i H v H' → Same H H' ∧ Rp K O H' v d) ∧ (i = ds.length → J.stop i H)
def tI (ω : World) (K : PySem.W.Frag) (f : FA) : TI := fun σ H R => ∃ g O env x ds x', FSt ω K g O σ H env x ∧ f env x = some (ds, x') ∧
  ∀ J more H', FSt ω K (g.add more) O σ H' env x' → Le g H H' → WalksD ω K J (g.add more) ds → R J H'
structure SI (X : Cx) (tg e : Expr) (f : FA) : Prop where
  out : PI X tg e (tI X.w X.K f)
def fSeq (f : FE) : FA := fun env x => match f env x with
  | some (.list ds, x1) => some (ds, x1)
  | some (.tuple ds, x1) => some (ds, x1)
  | _ => none
theorem si_seq {tg : Expr} (h : SE X e f) : SI X tg e (fSeq f) := by
  refine ⟨⟨fun pins s σ H R I h2 => ?_⟩⟩
  obtain ⟨g, O, env, x, ds, x', S, e, k⟩ := h2
  unfold fSeq at e
  split at e
  · rename_i ds' x1 e1
    cases e
    refine (pi_list h.out).run pins s σ H R I ⟨g, O, env, x, _, x', S, e1, fun v H1 S1 l1 r1 => ?_⟩
    cases r1 with
    | @lst p xs _ np hp rx =>
      refine ⟨p, rfl, ⟨xs, .of hp⟩, k _ [(.ref p, .list ds)] H1 (S1.addg _ fun q hq => ?_) l1 fun O2 σ2 H2 env2 x2 i S2 => ?_⟩
      · rw [List.mem_singleton] at hq
        subst hq
        exact .lst np hp rx
      · have q := S2.gh (.ref p, .list ds) (by simp [FG.add])
        cases q with
        | @lst _ ys _ np2 hp2 ry =>
          refine ⟨fun d hd => ?_, fun hi => ⟨ys, .of hp2, by rw [ry.length, hi]; exact Nat.le_refl _⟩⟩
          obtain ⟨y, e2, r2⟩ := ry.get hd
          refine ⟨⟨ys, y, .of hp2, e2⟩, fun v H' hy => ?_⟩
          obtain ⟨rfl, hy⟩ := hy
          have e3 := hy ys (.of hp2)
          rw [e2] at e3
          cases e3
          exact ⟨Same.refl _, r2⟩
  · rename_i ds' x1 e1
    cases e
    refine (pi_tup h.out).run pins s σ H R I ⟨g, O, env, x, _, x', S, e1, fun v H1 S1 l1 r1 => ?_⟩
    cases r1 with
    | @tup p xs _ np hp rx =>
      refine ⟨p, rfl, ⟨xs, .of hp⟩, k _ [(.ref p, .tuple ds)] H1 (S1.addg _ fun q hq => ?_) l1 fun O2 σ2 H2 env2 x2 i S2 => ?_⟩
      · rw [List.mem_singleton] at hq
        subst hq
        exact .tup np hp rx
      · have q := S2.gh (.ref p, .tuple ds) (by simp [FG.add])
        cases q with
        | @tup _ ys _ np2 hp2 ry =>
          refine ⟨fun d hd => ?_, fun hi => ⟨ys, .of hp2, by rw [ry.length, hi]; exact Nat.le_refl _⟩⟩
          obtain ⟨y, e2, r2⟩ := ry.get hd
          refine ⟨⟨ys, y, .of hp2, e2⟩, fun v H' hy => ?_⟩
          obtain ⟨rfl, hy⟩ := hy
          have e3 := hy ys (.of hp2)
          rw [e2] at e3
          cases e3
          exact ⟨Same.refl _, r2⟩
  · cases e
def rgD (lo : Int) (n : Nat) : List D := (List.range n).map fun (i : Nat) => D.int (lo + (i : Int))
theorem rgD_len (lo : Int) (n : Nat) : (rgD lo n).length = n := by simp [rgD]
theorem rgD_get {lo : Int} {n i : Nat} {d : D} (h : (rgD lo n)[i]? = some d) : i < n ∧ d = .int (lo + (i : Int)) := by
  unfold rgD at h
  rw [List.getElem?_map] at h
  by_cases hi : i < n
  · rw [List.getElem?_range hi] at h
    exact ⟨hi, (Option.some.inj h).symm⟩
  · rw [List.getElem?_eq_none (by simpa using hi)] at h
    cases h
theorem walks_rg {ω : World} {K : PySem.W.Frag} {g : FG} (lo : Int) (n : Nat) : WalksD ω K (Itr lo n) g (rgD lo n) := fun O σ H env x i S => by
  refine ⟨fun d hd => ?_, fun hi => by rw [rgD_len] at hi; exact Nat.le_of_eq hi.symm⟩
  obtain ⟨hi, rfl⟩ := rgD_get hd
  refine ⟨hi, fun v H' hy => ?_⟩
  obtain ⟨rfl, rfl⟩ := hy
  exact ⟨Same.refl _, .int _⟩
def okRg (i : Int) : Bool := decide (-(2 ^ 62) ≤ i ∧ i < 2 ^ 62)
def fRg1 (f : FE) : FA := fun env x => match f env x with
  | some (.int n, x1) => if okRg n then some (rgD 0 n.toNat, x1) else none
  | _ => none
theorem add_nil {g : FG} : g.add [] = g := rfl
theorem si_rg1 {tg : Expr} {p : Pos} (hg : Gl X "range") (hm : X.mg "range" = none) (ha : SE X a fa) (hs : starEach [a] X.env = [(false, eval a X.env)] := by rfl) : SI X tg (.Call (.Name "range" p) [a] [] pos) (fRg1 fa) := by
  refine ⟨⟨fun pins s σ H R I h2 => ?_⟩⟩
  obtain ⟨g, O, env, x, ds, x', S, e, k⟩ := h2
  unfold fRg1 at e
  split at e
  · rename_i n x1 e1
    split at e
    · rename_i ok
      cases e
      have ok := of_decide_eq_true ok
      refine (pi_range1 hg hm (pa_cons ha.out pa_nil hs) hs).run pins s σ H R I ⟨g, O, env, x, _, x', S, e1, fun v H1 S1 l1 r1 => ?_⟩
      cases r1
      exact ⟨n, rfl, ok.1, ok.2, k _ [] H1 S1 l1 (walks_rg 0 _)⟩
    · cases e
  · cases e
def fRg2 (f h : FE) : FA := fun env x => match f env x with
  | some (.int m, x1) => match h env x1 with
    | some (.int n, x2) => if okRg m && okRg n then some (rgD m (n - m).toNat, x2) else none
    | _ => none
  | _ => none
theorem si_rg2 {tg : Expr} {p : Pos} (hg : Gl X "range") (hm : X.mg "range" = none) (ha : SE X a fa) (hb : SE X b fb) (hs : starEach [a, b] X.env = [(false, eval a X.env), (false, eval b X.env)] := by rfl) (hs2 : starEach [b] X.env = [(false, eval b X.env)] := by rfl) (hs1 : starEach [a, b] X.env = (false, eval a X.env) :: starEach [b] X.env := by rfl) : SI X tg (.Call (.Name "range" p) [a, b] [] pos) (fRg2 fa fb) := by
  refine ⟨⟨fun pins s σ H R I h2 => ?_⟩⟩
  obtain ⟨g, O, env, x, ds, x', S, e, k⟩ := h2
  unfold fRg2 at e
  split at e
  · rename_i m x1 e1
    split at e
    · rename_i n x2 e2
      split at e
      · rename_i ok
        cases e
        obtain ⟨o1, o2⟩ := Bool.and_eq_true_iff.mp ok
        have o1 := of_decide_eq_true o1
        have o2 := of_decide_eq_true o2
        refine (pi_range2 hg hm (pa_cons ha.out (pa_cons hb.out pa_nil hs2) hs1) hs hs2).run pins s σ H R I ⟨g, O, env, x, _, x1, S, e1, fun v H1 S1 l1 r1 => ⟨g, O, env, x1, _, x', S1, e2, fun w H2 S2 l2 r2 => ?_⟩⟩
        cases r1
        cases r2
        exact ⟨m, n, rfl, ⟨o1.1, o1.2, o2.1, o2.2⟩, k _ [] H2 S2 (l1.trans l2) (walks_rg m _)⟩
      · cases e
    · cases e
  · cases e
/-! ### for -/
def forL (gt : FGt) (b : FS) : List D → FS
  | [], env, x => some (.nx env, x)
  | d :: ds, env, x => match gt d env with
    | none => none
    | some e1 => match b e1 x with
      | some (.nx e2, x2) => forL gt b ds e2 x2
      | some (.ct e2, x2) => forL gt b ds e2 x2
      | some (.bk e2, x2) => some (.nx e2, x2)
      | some (.rt d, x2) => some (.rt d, x2)
      | none => none
def sFor (f : FA) (gt : FGt) (b : FS) : FS := fun env x => match f env x with
  | some (ds, x1) => forL gt b ds env x1
  | none => none
theorem drop_get {α : Type} {l : List α} {i : Nat} {d : α} (h : l[i]? = some d) : l.drop i = d :: l.drop (i + 1) := by
  obtain ⟨hl, e⟩ := List.getElem?_eq_some_iff.mp h
  rw [List.drop_eq_getElem_cons hl, e]
theorem ss_for {tg : Expr} {body : List Stmt} {vs : List Nat} {f : FA} {gt : FGt} {fb : FS} (hp : PassesOwn (model X.prog X.w) X.A X.env X.xe) (hc : X.calm = true) (hi : SI X tg e f) (hg : SG X tg vs gt) (hb : SSs X body fb)
    (hs : ∀ x, foldedSetIterable e X.env x = pure x := by intro _; rfl) : SS X (.For tg e body [] pos) (sFor f gt fb) := by
  refine ⟨PSw (ps_for hp hc hi.out hg.out hb.out hs) fun Dn σ H h => ?_⟩
  obtain ⟨g, O, env, x, r, x', S, e, k⟩ := h
  unfold sFor at e
  split at e
  · rename_i ds x1 e1
    refine ⟨g, O, env, x, ds, x1, S, e1, fun J more H1 S1 l1 wk => ?_⟩
    refine ⟨fun i m σ H => m = ds.length - i ∧ i ≤ ds.length ∧ ∃ O env x, FSt X.w X.K (g.add more) O σ H env x ∧ forL gt fb (ds.drop i) env x = some (r, x'), ⟨_, rfl, Nat.zero_le _, O, env, x1, S1, e⟩, fun i m σ H hW => ?_⟩
    obtain ⟨rfl, hil, O, env, x, S, e⟩ := hW
    obtain ⟨wgo, wst⟩ := wk O σ H env x i S
    by_cases hlt : i < ds.length
    · have hd : ds[i]? = some ds[i] := List.getElem?_eq_getElem hlt
      obtain ⟨go, yl⟩ := wgo _ hd
      rw [drop_get hd] at e
      refine .inr ⟨go, fun σ' H' => i + 1 ≤ ds.length ∧ ∃ O env x, FSt X.w X.K (g.add more) O σ' H' env x ∧ forL gt fb (ds.drop (i + 1)) env x = some (r, x'), fun σ' H' hN => ⟨ds.length - (i + 1), by omega, rfl, hN.1, hN.2⟩, fun v H' hy => ?_⟩
      obtain ⟨sm, rv⟩ := yl v H' hy
      unfold forL at e
      split at e
      · cases e
      · rename_i env1 e2
        refine ⟨g.add more, O, env, x, ds[i], env1, S.same sm, rv, e2, fun σ1 _ S2 => ?_⟩
        split at e
        · rename_i env2 x2 e3
          exact ⟨g.add more, O, env1, x, _, x2, S2, e3, fun O' σ' H' S' => ⟨hlt, O', env2, x2, S', e⟩⟩
        · rename_i env2 x2 e3
          exact ⟨g.add more, O, env1, x, _, x2, S2, e3, fun O' σ' H' S' => ⟨hlt, O', env2, x2, S', e⟩⟩
        · rename_i env2 x2 e3
          cases e
          exact ⟨g.add more, O, env1, x, _, x', S2, e3, fun O' σ' H' S' => k O' σ' H' S'.unadd⟩
        · rename_i d x2 e3
          cases e
          exact ⟨g.add more, O, env1, x, _, x', S2, e3, fun O' σ' H' v env' S' r' => k O' σ' H' v env' S'.unadd r'⟩
        · cases e
    · have hi : i = ds.length := by omega
      rw [hi, List.drop_length] at e
      unfold forL at e
      cases e
      exact .inl ⟨wst hi, k O σ H S.unadd⟩
  · cases e
/-! ### while -/
def whL (t : FT) (b : FS) : Nat → FS
  | 0, _, _ => none
  | n + 1, env, x => match t env x with
    | some (true, x1) => match b env x1 with
      | some (.nx e2, x2) => whL t b n e2 x2
      | some (.ct e2, x2) => whL t b n e2 x2
      | some (.bk e2, x2) => some (.nx e2, x2)
      | some (.rt d, x2) => some (.rt d, x2)
      | none => none
    | some (false, x1) => some (.nx env, x1)
    | none => none
theorem ss_while {body : List Stmt} {t : FT} {fb : FS} (n : Nat) (hp : PassesOwn (model X.prog X.w) X.A X.env X.xe) (ht : ST X c t) (hb : SSs X body fb) : SS X (.While c body [] pos) (whL t fb n) := by
  refine ⟨PSw (ps_while hp ht.out hb.out) fun Dn σ H h => ?_⟩
  obtain ⟨g, O, env, x, r, x', S, e, k⟩ := h
  refine ⟨fun m σ H => ∃ O env x, FSt X.w X.K g O σ H env x ∧ whL t fb m env x = some (r, x'), ⟨n, O, env, x, S, e⟩, fun m σ H hW => ?_⟩
  obtain ⟨O, env, x, S, e⟩ := hW
  cases m with
  | zero => unfold whL at e; cases e
  | succ m =>
    unfold whL at e
    split at e
    · rename_i x1 e1
      refine ⟨g, O, env, x, _, x1, S, e1, fun H1 S1 l1 => ?_⟩
      refine iteT ?_
      refine ⟨fun σ' H' => ∃ O env x, FSt X.w X.K g O σ' H' env x ∧ whL t fb m env x = some (r, x'), fun σ' H' hN => ⟨m, Nat.lt_succ_self m, hN⟩, ?_⟩
      split at e
      · rename_i env2 x2 e3
        exact ⟨g, O, env, x1, _, x2, S1, e3, fun O' σ' H' S' => ⟨O', env2, x2, S', e⟩⟩
      · rename_i env2 x2 e3
        exact ⟨g, O, env, x1, _, x2, S1, e3, fun O' σ' H' S' => ⟨O', env2, x2, S', e⟩⟩
      · rename_i env2 x2 e3
        cases e
        exact ⟨g, O, env, x1, _, x', S1, e3, fun O' σ' H' S' => k O' σ' H' S'⟩
      · rename_i d x2 e3
        cases e
        exact ⟨g, O, env, x1, _, x', S1, e3, fun O' σ' H' v env' S' r' => k O' σ' H' v env' S' r'⟩
      · cases e
    · rename_i x1 e1
      cases e
      refine ⟨g, O, env, x, _, x', S, e1, fun H1 S1 l1 => ?_⟩
      refine iteF ?_
      exact k O σ H1 S1
    · cases e
/-! ### comprehensions -/
def compL (gt : FGt) (t : FT) (fe : FE) (env : FEn) : List D → FRow → Option (List D × FRow)
  | [], x => some ([], x)
  | d :: ds, x => match gt d env with
    | none => none
    | some e1 => match t e1 x with
      | some (true, x1) => match fe e1 x1 with
        | some (r, x2) => match compL gt t fe env ds x2 with
          | some (rs, x3) => some (r :: rs, x3)
          | none => none
        | none => none
      | some (false, x1) => compL gt t fe env ds x1
      | none => none
def xLc (f : FA) (gt : FGt) (t : FT) (fe : FE) (vs : List Nat) : FX := fun env x => match f env x with
  | some (ds, x1) => match compL gt t fe (wipeE env vs) ds x1 with
    | some (rs, x2) => if rs.length < maxLen then some (.ow (.lst rs), x2) else none
    | none => none
  | none => none
theorem lc_read {ω : World} {K : PySem.W.Frag} {f : FA} {gt : FGt} {t : FT} {fe : FE} {vs : List Nat} {σ : L2.St} {H : Hp} {Q : VK} (h : tX ω K (xLc f gt t fe vs) σ H Q) : tLc (tI ω K f) (tG ω K vs gt) (tT ω K t) (tE ω K fe) vs σ H Q := by
  obtain ⟨g, O, env, x, sl, x', S, e, k⟩ := h
  unfold xLc at e
  split at e
  · rename_i ds x1 e1
    split at e
    · rename_i rs x2 e2
      split at e
      · rename_i hl
        cases e
        refine ⟨g, O, env, x, ds, x1, S, e1, fun J more H1 S1 l1 wk p hp => ?_⟩
        have n1 := S1.newp hp
        have hp0 : Gone H p := Le.gone l1 (.of hp) S1.unadd
        have hne : ∀ (j : Nat) d b, env[j]? = some d → isOwn d = true → σ[j]? = some (some (.ref b)) → b ≠ p := fun j d b h1 h0 h2 => own_ne2 S1 (.of hp) h1 h0 h2
        refine ⟨fun i m H2 => m = ds.length - i ∧ i ≤ ds.length ∧ Le g H H2 ∧ ∃ x acc dn rest, FSt ω K (g.add more) (oAdd O p) σ H2 env x ∧ H2 p = some (.lst acc) ∧ RpA K (oAdd O p) H2 acc dn ∧ compL gt t fe (wipeE env vs) (ds.drop i) x = some (rest, x') ∧ dn ++ rest = rs,
          ⟨_, rfl, Nat.zero_le _, l1.trans (.of (same_upd hp)), x1, [], [], rs, S1.own hp True.intro, upd_same, .nil, e2, rfl⟩, fun i m H2 hW => ?_⟩
        obtain ⟨rfl, hil, lH, x, acc, dn, rest, S2, hacc, racc, e, er⟩ := hW
        obtain ⟨wgo, wst⟩ := wk _ σ H2 env x i S2
        by_cases hlt : i < ds.length
        · have hd : ds[i]? = some ds[i] := List.getElem?_eq_getElem hlt
          obtain ⟨go, yl⟩ := wgo _ hd
          rw [drop_get hd] at e
          refine .inr ⟨go, fun H2 => i + 1 ≤ ds.length ∧ Le g H H2 ∧ ∃ x acc dn rest, FSt ω K (g.add more) (oAdd O p) σ H2 env x ∧ H2 p = some (.lst acc) ∧ RpA K (oAdd O p) H2 acc dn ∧ compL gt t fe (wipeE env vs) (ds.drop (i + 1)) x = some (rest, x') ∧ dn ++ rest = rs,
            fun H' hN => ⟨ds.length - (i + 1), by omega, rfl, hN.1, hN.2⟩, fun v H3 hy => ?_⟩
          obtain ⟨sm, rv⟩ := yl v H3 hy
          unfold compL at e
          split at e
          · cases e
          · rename_i env1 e3
            have S3 := S2.same sm
            refine ⟨g.add more, oAdd O p, wipeE env vs, x, ds[i], env1, S3.wiped vs, rv, e3, fun σ1 w1 S4 => ⟨w1.trans (wipe_wipe σ vs), ?_⟩⟩
            split at e
            · rename_i xb e4
              split at e
              · rename_i r x3 e5
                split at e
                · rename_i rs' x4 e6
                  cases e
                  refine ⟨g.add more, oAdd O p, env1, x, _, xb, S4, e4, fun H5 S5 l5 => ?_⟩
                  refine iteT ?_
                  refine ⟨g.add more, oAdd O p, env1, xb, r, x3, S5, e5, fun y H6 S6 l6 r6 => ?_⟩
                  have l7 : Le (g.add more) H2 H6 := (Le.of sm).trans (l5.trans l6)
                  have S7 := S2.step l7 S6.tb fun r hr => (S6.row r hr).2.2
                  have hacc' := l7 p _ n1.2 hacc rfl
                  have ll : acc.length < maxLen := by
                    have := racc.length
                    have h2 : (dn ++ r :: rs').length = rs.length := by rw [er]
                    rw [List.length_append, List.length_cons] at h2
                    omega
                  refine ⟨acc, hacc', maxLen_lt ll, hlt, ?_, x3, acc ++ [y], dn ++ [r], rs', S7.upd1 hacc' notC_lst (.inr rfl) n1.1 n1.2 True.intro hne, upd_same, ?_, e6, by rw [List.append_assoc]; exact er⟩
                  · intro c u hR e tn
                    have z : c ≠ p := fun z => by rw [z] at e; exact hp0.no e tn
                    rw [upd_ne z]
                    exact l7 c u hR (lH c u hR e tn) tn
                  · exact ((racc.step S2 l7).app (.cons r6 .nil)).move (keep_own S7 (.inr rfl)) .refl
                · cases e
              · cases e
            · rename_i xb e4
              refine ⟨g.add more, oAdd O p, env1, x, _, xb, S4, e4, fun H5 S5 l5 => ?_⟩
              refine iteF ?_
              have l7 : Le (g.add more) H2 H5 := (Le.of sm).trans l5
              have S7 := S2.step l7 S5.tb fun r hr => (S5.row r hr).2.2
              exact ⟨hlt, fun c u hR e tn => l7 c u hR (lH c u hR e tn) tn, xb, acc, dn, rest, S7, l7 p _ n1.2 hacc rfl, racc.step S2 l7, e, er⟩
            · cases e
        · have hi : i = ds.length := by omega
          rw [hi, List.drop_length] at e
          unfold compL at e
          cases e
          rw [List.append_nil] at er
          subst er
          refine .inl ⟨wst hi, k (oAdd O p) _ H2 S2.unadd lH (fun a z => z.elim .inl fun e => .inr (e ▸ hp0)) (fun a z => .inl z) (.ow (.inr rfl) n1.1 n1.2 ⟨acc, hacc, racc⟩) fun d z => ⟨p, rfl, hp0⟩⟩
      · cases e
    · cases e
  · cases e
structure STs (X : Cx) (es : List Expr) (f : FT) : Prop where
  out : PTs X es (tT X.w X.K f)
theorem PTsw {es : List Expr} {t t' : TT} (h : PTs X es t) (q : ∀ σ H Q, t' σ H Q → t σ H Q) : PTs X es t' := ⟨fun pins s σ H Q I z => h.run pins s σ H Q I (q _ _ _ z)⟩
def tYesF : FT := fun _ x => some (true, x)
theorem sts_nil : STs X [] tYesF := ⟨PTsw pts_nil fun σ H Q h => by
  obtain ⟨g, O, env, x, d, x', S, e, k⟩ := h
  cases e
  exact k H S (Le.refl _ _)⟩
theorem sts_one {t : FT} (h : ST X c t) : STs X [c] t := ⟨pts_one h.out⟩
theorem sx_lc {elt tg iter : Expr} {ifs : List Expr} {scope : Scope} {own : List (Str × Nat)} {f : FA} {gt : FGt} {t : FT} {fe : FE} (hc : X.calm = true) (hN : X.N.Nodup) (hi : SI X tg iter f) (ok : BlkOk X.N X.env.scope scope own)
    (hg : ∀ (s : Shared) (H : Hp) (C : Addr) (cl : List (Str × Addr)) (fp : List Addr), SG (X.blk s H scope (compEnvC scope cl C X.env) fp) tg (own.map (·.2)) gt)
    (ht : ∀ (s : Shared) (H : Hp) (C : Addr) (cl : List (Str × Addr)) (fp : List Addr), STs (X.blk s H scope (compEnvC scope cl C X.env) fp) ifs t)
    (he : ∀ (s : Shared) (H : Hp) (C : Addr) (cl : List (Str × Addr)) (fp : List Addr), SE (X.blk s H scope (compEnvC scope cl C X.env) fp) elt fe) (hs : ∀ x, foldedSetIterable iter X.env x = pure x := by intro _; rfl) :
    SX X (.ListComp elt [⟨tg, iter, ifs, 0⟩] scope pos) (xLc f gt t fe (own.map (·.2))) :=
  ⟨PEw (pe_lc hc hN hi.out ok (fun s H C cl fp => (show PG _ tg (tG X.w X.K (own.map (·.2)) gt) from (hg s H C cl fp).out)) (fun s H C cl fp => (show PTs _ ifs (tT X.w X.K t) from (ht s H C cl fp).out)) (fun s H C cl fp => (show PE _ elt (tE X.w X.K fe) from (he s H C cl fp).out)) hs) fun σ H Q h => lc_read h⟩
theorem ss_setLc {i : Nat} {y : Str} {py : Pos} {elt tg iter : Expr} {ifs : List Expr} {scope : Scope} {own : List (Str × Nat)} {cpos : Pos} {f : FA} {gt : FGt} {t : FT} {fe : FE} (hc : X.calm = true) (hN : X.N.Nodup) (hy : X.N[i]? = some y) (hyl : X.env.scope.names.lookup y = some .local)
    (hsw : swapsWith (.ListComp elt [⟨tg, iter, ifs, 0⟩] scope cpos) (some (.Name y py)) pos.line X.env = pure true) (hi : SI X tg iter f) (ok : BlkOk X.N X.env.scope scope own)
    (hg : ∀ (s : Shared) (H : Hp) (C : Addr) (cl : List (Str × Addr)) (fp : List Addr), SG (X.blk s H scope (compEnvC scope cl C X.env) fp) tg (own.map (·.2)) gt)
    (ht : ∀ (s : Shared) (H : Hp) (C : Addr) (cl : List (Str × Addr)) (fp : List Addr), STs (X.blk s H scope (compEnvC scope cl C X.env) fp) ifs t)
    (he : ∀ (s : Shared) (H : Hp) (C : Addr) (cl : List (Str × Addr)) (fp : List Addr), SE (X.blk s H scope (compEnvC scope cl C X.env) fp) elt fe) (hs : ∀ x, foldedSetIterable iter X.env x = pure x := by intro _; rfl)
    (tr : FX → FX) (htr : tr = id ∨ tr = fun f => xVal (fOfX f)) : SS X (.Assign [.Name y py] (.ListComp elt [⟨tg, iter, ifs, 0⟩] scope cpos) pos) (sSet i (tr (xLc f gt t fe (own.map (·.2))))) := by
  have main : ∀ fx : FX, (∀ σ H Q, tX X.w X.K fx σ H Q → tLc (tI X.w X.K f) (tG X.w X.K (own.map (·.2)) gt) (tT X.w X.K t) (tE X.w X.K fe) (own.map (·.2)) σ H Q) → SS X (.Assign [.Name y py] (.ListComp elt [⟨tg, iter, ifs, 0⟩] scope cpos) pos) (sSet i fx) := fun fx hfx => by
    refine ⟨PSw (ps_setLc hc hN hy hyl hsw hi.out ok (fun s H C cl fp => (show PG _ tg (tG X.w X.K (own.map (·.2)) gt) from (hg s H C cl fp).out)) (fun s H C cl fp => (show PTs _ ifs (tT X.w X.K t) from (ht s H C cl fp).out)) (fun s H C cl fp => (show PE _ elt (tE X.w X.K fe) from (he s H C cl fp).out)) hs) fun Dn σ H h => ?_⟩
    obtain ⟨g, O, env, x, r, x', S, e, k⟩ := h
    unfold sSet at e
    split at e
    · rename_i sl x1 e1
      cases e
      exact hfx σ H _ ⟨g, O, env, x, sl, x', S, e1, fun O' v H' S' l w sub r nw => k O' _ H' (S'.setv i r fun d z => by
        obtain ⟨p, e2, hp⟩ := nw d z
        exact ⟨p, e2, fun j d' b h1 h2 => own_ne S hp h1 h2⟩)⟩
    · cases e
  rcases htr with rfl | rfl
  · exact main _ fun σ H Q h => lc_read h
  · refine main _ fun σ H Q h => ?_
    obtain ⟨g, O, env, x, sl, x', S, e, k⟩ := h
    change (match fOfX (xLc f gt t fe (own.map (·.2))) env x with
      | some (d, x1) => some (FSl.va d, x1)
      | none => none) = some (sl, x') at e
    split at e
    · rename_i d x1 e1
      cases e
      unfold fOfX at e1
      split at e1
      · rename_i dd x1 e2
        unfold xLc at e2
        split at e2
        · split at e2
          · split at e2
            · cases e2
            · cases e2
          · cases e2
        · cases e2
      · rename_i dd x1 e2
        cases e1
        refine lc_read ⟨g, O, env, x, _, x', S, e2, fun O' v H' S' l w sub r nw => ?_⟩
        obtain ⟨p, rfl, hp⟩ := nw _ rfl
        have np := S.notG hp
        have wd : Wid O' O H' := fun a z => .inl (sub a z)
        cases r with
        | ow p1 q r t =>
          refine k O _ H' (S.shrink S' sub) l .refl (fun _ h => h) (.va ?_) fun d z => by cases z
          cases dd with
          | lst ds => obtain ⟨xs, e, r⟩ := t; exact .lst np e (r.move (fun _ _ _ e _ => e) wd)
          | dk ds => obtain ⟨xs, e, r⟩ := t; exact .dK np (.inl e) (r.move (fun _ _ _ e _ => e) wd)
          | dt ds => obtain ⟨xs, e, r⟩ := t; exact .dT np e (r.move (fun _ _ _ e _ => e) wd)
      · cases e1
    · cases e
end
end RT

namespace RT
open PySem PySem.Spec PyProof.Rows L2
/-! ### what defs promise -/
def spF (K : PySem.W.Frag) (m : List D → Option D) : Sp := fun vs H Q _ => ∃ T O ds d, TOK K T ∧ LamX.Tabs T H ∧ (∀ a, O a → MutC (H a)) ∧ RpA K O H vs ds ∧ m ds = some d ∧ ∀ v H', SameT T H H' → Rp K O H' v d → Q v H'
def spR (K : PySem.W.Frag) (m : List D → FRow → Option (D × FRow)) : Sp := fun vs H Q _ => ∃ T O r vs' ds x d x', TOK K T ∧ LamX.Tabs T H ∧ (∀ a, O a → MutC (H a)) ∧ O r ∧ vs = .ref r :: vs' ∧ RowAt K O H r x ∧ RpA K O H vs' ds ∧ m ds x = some (d, x') ∧
  ∀ v H', (∀ a o, a ≠ r → H a = some o → isNT o = true → H' a = some o) → LamX.Tabs T H' → RowAt K O H' r x' → Rp K O H' v d → Q v H'
def startE (n : Nat) (ds : List D) : FEn := ds.map FSl.va ++ List.replicate (n - ds.length) FSl.no
def row0 : FRow := ⟨[], 0, 0, 0⟩
def mkF (n k : Nat) (body : FS) : List D → Option D := fun ds => if ds.length = k then match body (startE n ds) row0 with
  | some (.rt d, _) => some d
  | some (.nx _, _) => some .none
  | _ => none
  else none
def mkR (n k : Nat) (body : FS) : List D → FRow → Option (D × FRow) := fun ds x => if ds.length = k then match body (.rw :: startE n ds) x with
  | some (.rt d, x') => some (d, x')
  | some (.nx _, x') => some (.none, x')
  | _ => none
  else none
section
variable {P : Program} {ω : World} {K : PySem.W.Frag} {mg : Str → Option Value} {base : Heap}
theorem vas_at {K : PySem.W.Frag} {g : FG} {O : Addr → Prop} {H : Hp} {m : Nat} : ∀ {vs : List V} {ds : List D}, RpA K O H vs ds → ∀ (i : Nat) s e, (vs.map some ++ List.replicate m none)[i]? = some s → (ds.map FSl.va ++ List.replicate m FSl.no)[i]? = some e → SlOk K g O H s e
  | _, _, .nil, i, s, e, h1, h2 => by
    rw [List.map_nil, List.nil_append] at h1 h2
    have := (List.mem_replicate.mp (List.mem_of_getElem? h2)).2
    subst this
    exact .no _
  | _, _, .cons a b, 0, s, e, h1, h2 => by
    have e1 := Option.some.inj h1
    have e2 := Option.some.inj h2
    subst e1
    subst e2
    exact .va a
  | _, _, .cons a b, i + 1, s, e, h1, h2 => vas_at b i s e (by simpa using h1) (by simpa using h2)
theorem no_ow {m i : Nat} {w : OwD} : ∀ {ds : List D}, (ds.map FSl.va ++ List.replicate m FSl.no)[i]? ≠ some (.ow w) := fun {ds} h => by
  have h := List.mem_of_getElem? h
  rcases List.mem_append.mp h with h | h
  · obtain ⟨d, _, e⟩ := List.mem_map.mp h
    cases e
  · have := (List.mem_replicate.mp h).2
    cases this
theorem ok_fn {x qual : Str} {st : Stmt} {f : Addr} {fd : FuncData} {N ps : List Str} {k : Nat} {body : FS} (F : Fun K x qual st f fd) (S : FnScope N ps (defScope st))
    (h : ∀ (cdv : Value) (A : Around) (outer : List Env) (s : Shared) (H : Hp) (E : XK), Room k (A.deeper (envOfC qual (defScope st) s.heap.objs.size f cdv)) → SSs (cxOf CX0 P ω K mg base N qual (defScope st) f cdv A outer s H E).nox (defBody st) body) :
    FnOk P ω K mg base CX0 (k + 1) f fd ps (spF K (mkF N.length ps.length body)) := by
  refine F.ok S (fun vs H Q E h => ?_) (fun cdv A outer s H vs Q E hr hsp => ⟨tS ω K body, (h cdv A outer s H E hr).out, ?_⟩)
  · obtain ⟨T, O, ds, d, _, _, _, r, e, _⟩ := h
    unfold mkF at e
    split at e
    · rename_i hl
      rw [r.length, hl]
    · cases e
  · obtain ⟨T, O, ds, d, tk, tb, dom, r, e, q⟩ := hsp
    unfold mkF at e
    split at e
    · rename_i hl
      have S0 : FSt ω K ⟨O, noT H, none, [], T, ω⟩ O (L2.start N vs) H (startE N.length ds) row0 := by
        refine ⟨fun _ h => h, fun _ h => .inl h, dom, (fun a o _ e _ => (noT_some e).1), fun r e => (by cases e), ?_, fun i s e h1 h2 => ?_, fun i j d d' a b ne h1 h2 => absurd h1 no_ow, fun p hp => (by cases hp), tb, tk, fun a o e => (noT_some e).2, rfl⟩
        · unfold L2.start startE
          rw [List.length_append, List.length_append, List.length_map, List.length_map, List.length_replicate, List.length_replicate, r.length]
        · unfold L2.start at h1
          unfold startE at h2
          rw [r.length] at h1
          exact vas_at r i s e h1 h2
      have same : ∀ {O' : Addr → Prop} {σ' : L2.St} {H' : Hp} {env' : FEn} {x' : FRow}, FSt ω K ⟨O, noT H, none, [], T, ω⟩ O' σ' H' env' x' → SameT T H H' := fun S' => ⟨fun a o e t => S'.le a o (fun z => by cases z) (noT_of e t) t, S'.tb⟩
      split at e
      · rename_i d' x' e1
        cases e
        exact ⟨_, O, _, row0, _, _, S0, e1, fun O' σ' H' v env' S' rp => q v H' (same S') (rp.move (fun _ _ _ e _ => e) fun a z => .inl (S'.sub a z))⟩
      · rename_i d' x' e1
        cases e
        exact ⟨_, O, _, row0, _, _, S0, e1, fun O' σ' H' S' => q _ H' (same S') .non⟩
      · cases e
    · cases e
theorem ok_fnR {x qual : Str} {st : Stmt} {f : Addr} {fd : FuncData} {N ps : List Str} {k : Nat} {body : FS} (F : Fun K x qual st f fd) (S : FnScope N ps (defScope st)) (h0 : 0 < N.length) (h1 : 0 < ps.length)
    (h : ∀ (cdv : Value) (A : Around) (outer : List Env) (s : Shared) (H : Hp) (E : XK), Room k (A.deeper (envOfC qual (defScope st) s.heap.objs.size f cdv)) → SSs (cxOf CX0 P ω K mg base N qual (defScope st) f cdv A outer s H E).nox (defBody st) body) :
    FnOk P ω K mg base CX0 (k + 1) f fd ps (spR K (mkR (N.length - 1) (ps.length - 1) body)) := by
  refine F.ok S (fun vs H Q E h => ?_) (fun cdv A outer s H vs Q E hr hsp => ⟨tS ω K body, (h cdv A outer s H E hr).out, ?_⟩)
  · obtain ⟨T, O, r, vs', ds, x, d, x', _, _, _, _, rfl, _, r, e, _⟩ := h
    unfold mkR at e
    split at e
    · rename_i hl
      rw [List.length_cons, r.length, hl]
      omega
    · cases e
  · obtain ⟨T, O, ra, vs', ds, x, d, x', tk, tb, dom, ro, rfl, rat, r, e, q⟩ := hsp
    unfold mkR at e
    split at e
    · rename_i hl
      have hne : noT H ra ≠ none := by
        obtain ⟨a0, e, _⟩ := rat
        rw [noT_of e rfl]
        exact fun z => by cases z
      have S0 : FSt ω K ⟨O, noT H, some ra, [], T, ω⟩ O (L2.start N (.ref ra :: vs')) H (.rw :: startE (N.length - 1) ds) x := by
        refine ⟨fun _ h => h, fun _ h => .inl h, dom, (fun a o _ e _ => (noT_some e).1), fun r e => (by cases e; exact ⟨ro, hne, rat⟩), ?_, fun i s e h1 h2 => ?_, fun i j d d' a b ne h1 h2 => ?_, fun p hp => (by cases hp), tb, tk, fun a o e => (noT_some e).2, rfl⟩
        · unfold L2.start startE
          simp only [List.length_append, List.length_cons, List.length_map, List.length_replicate, r.length]
          omega
        · unfold L2.start at h1
          unfold startE at h2
          cases i with
          | zero =>
            have e1 := Option.some.inj h1
            have e2 := Option.some.inj h2
            subst e1
            subst e2
            exact .rw rfl
          | succ i =>
            have e3 : N.length - (V.ref ra :: vs').length = N.length - 1 - ds.length := by
              rw [List.length_cons, r.length]
              omega
            rw [e3] at h1
            exact vas_at r i s e (by simpa using h1) (by simpa using h2)
        · unfold startE at h1
          cases i with
          | zero => have e1 := Option.some.inj h1; cases e1
          | succ i => exact absurd (show (ds.map FSl.va ++ List.replicate (N.length - 1 - ds.length) FSl.no)[i]? = _ by simpa using h1) no_ow
      have same : ∀ {O' : Addr → Prop} {σ' : L2.St} {H' : Hp} {env' : FEn} {x' : FRow}, FSt ω K ⟨O, noT H, some ra, [], T, ω⟩ O' σ' H' env' x' → (∀ a o, a ≠ ra → H a = some o → isNT o = true → H' a = some o) := fun S' a o n e t => S'.le a o (fun z => n (Option.some.inj z).symm) (noT_of e t) t
      split at e
      · rename_i d' x' e1
        cases e
        exact ⟨_, O, _, x, _, _, S0, e1, fun O' σ' H' v env' S' rp => q v H' (same S') S'.tb ((S'.row ra rfl).2.2.sub S'.sub) (rp.move (fun _ _ _ e _ => e) fun a z => .inl (S'.sub a z))⟩
      · rename_i d' x' e1
        cases e
        exact ⟨_, O, _, x, _, _, S0, e1, fun O' σ' H' S' => q _ H' (same S') S'.tb ((S'.row ra rfl).2.2.sub S'.sub) .non⟩
      · cases e
    · cases e
/-- a def that may be called -/
structure Callee (P : Program) (ω : World) (K : PySem.W.Frag) (mg : Str → Option Value) (base : Heap) (k : Nat) (n : Str) (sp : Sp) : Prop where
  ex : ∃ (f : Addr) (fd : FuncData) (ps : List Str), FnOk P ω K mg base CX0 k f fd ps sp ∧ mg n = some (.ref f) ∧ PySem.W.keepIn K (.ref f) = true ∧ Binds K fd ps []
theorem Callee.mono {k j : Nat} {n : Str} {sp : Sp} (c : Callee P ω K mg base k n sp) (h : k ≤ j) : Callee P ω K mg base j n sp := by
  obtain ⟨f, fd, ps, a, b, c, d⟩ := c.ex
  exact ⟨f, fd, ps, a.mono h, b, c, d⟩
end
section
variable {X : Cx} {a b c e : Expr} {es : List Expr} {fa fb fc f : FE} {pos : Pos}
def fCall (m : List D → Option D) (fa : FA) : FE := fun env x => match fa env x with
  | some (ds, x1) => match m ds with
    | some d => some (d, x1)
    | none => none
  | none => none
theorem se_call {k : Nat} {n : Str} {p : Pos} {m : List D → Option D} {fa : FA} (c : Callee X.prog X.w X.K X.mg X.base k n (spF X.K m)) (hr : Room k X.A) (hg : Gl X n) (ha : SA X (e :: es) fa) (hdb : (n == ("__debug__" : Str)) = false := by decide)
    (he : starEach (e :: es) X.env = (false, eval e X.env) :: starEach es X.env := by rfl) (hpl : (backTo pos (starEach es X.env)).any (·.1) = false := by rfl) : SE X (.Call (.Name n p) (e :: es) [] pos) (fCall m fa) := by
  obtain ⟨f, fd, ps, F, hm, hk, hb⟩ := c.ex
  refine ⟨PEw (pe_call F hr hg hm hk hb .nil pass0 ha.out hdb he hpl) fun σ H Q h => ?_⟩
  obtain ⟨g, O, env, x, d, x', S, e, k⟩ := h
  unfold fCall at e
  split at e
  · rename_i ds x1 e1
    split at e
    · rename_i d1 e2
      cases e
      refine ⟨g, O, env, x, ds, x', S, e1, fun vs H1 S1 l1 r1 => ?_⟩
      show spF X.K m (vs ++ []) H1 Q E0
      rw [List.append_nil]
      exact ⟨g.T, O, ds, d, S1.tk, S1.tb, S1.dom, r1, e2, fun v H2 sm r2 => k v H2 (S1.sameT sm) (l1.trans (.ofT sm)) r2⟩
    · cases e
  · cases e
def fCallR (i : Nat) (m : List D → FRow → Option (D × FRow)) (fa : FA) : FE := fun env x => match env[i]? with
  | some .rw => match fa env x with
    | some (ds, x1) => m ds x1
    | none => none
  | _ => none
theorem se_callR {k i : Nat} {n r : Str} {p p1 : Pos} {m : List D → FRow → Option (D × FRow)} {fa : FA} (c : Callee X.prog X.w X.K X.mg X.base k n (spR X.K m)) (hr : Room k X.A) (hg : Gl X n) (ha : SA X es fa) (hdb : (n == ("__debug__" : Str)) = false := by decide)
    (he : starEach (.Name r p1 :: es) X.env = (false, eval (.Name r p1) X.env) :: starEach es X.env := by rfl) (hpl : (backTo pos (starEach es X.env)).any (·.1) = false := by rfl)
    (hN : X.N[i]? = some r := by rfl) (hvis : Vis X.env.scope r := by first | exact Or.inl rfl | exact Or.inr (Or.inl rfl) | exact Or.inr (Or.inr rfl)) (hd : (r == ("__debug__" : Str)) = false := by decide)
    (hcd : (r == ("__classdict__" : Str)) = false := by decide) : SE X (.Call (.Name n p) (.Name r p1 :: es) [] pos) (fCallR i m fa) := by
  obtain ⟨f, fd, ps, F, hm, hk, hb⟩ := c.ex
  refine ⟨PEw (pe_call F hr hg hm hk hb .nil pass0 (pa_cons (pe_var hN hvis hd hcd) ha.out he) hdb he hpl) fun σ H Q h => ?_⟩
  obtain ⟨g, O, env, x, d, x', S, e, k⟩ := h
  unfold fCallR at e
  split at e
  · rename_i e0
    split at e
    · rename_i ds x1 e1
      obtain ⟨s, e5, q5⟩ := S.at e0
      cases q5 with
      | @rw ra hR =>
        refine ⟨_, e5, g, O, env, x, ds, x1, S, e1, fun vs H1 S1 l1 r1 => ?_⟩
        show spR X.K m ((.ref ra :: vs) ++ []) H1 Q E0
        rw [List.append_nil]
        obtain ⟨q1, q2, q3⟩ := S1.row ra hR
        refine ⟨g.T, O, ra, vs, ds, x1, d, x', S1.tk, S1.tb, S1.dom, S1.sub _ q1, rfl, q3, r1, e, fun v H2 kp tb2 rt r2 => ?_⟩
        have l2 : Le g H1 H2 := fun a o n e t => kp a o (fun z => n (by rw [z]; exact hR)) e t
        exact k v H2 (S1.step l2 tb2 fun r hr => by rw [hR] at hr; cases hr; exact rt) (l1.trans l2) r2
    · cases e
  · cases e
/-! ### the row -/
def fRow (i : Nat) (k : Int) : FE := fun env x => match env[i]? with
  | some .rw => if k = 1 then some (.int x.a, x) else if k = 2 then some (.int x.b, x) else if k = 3 then some (.int x.c, x) else none
  | _ => none
theorem se_row {i j : Nat} {k : Int} {n : Str} {p p1 : Pos} (hN : X.N[i]? = some n := by rfl) (hvis : Vis X.env.scope n := by first | exact Or.inl rfl | exact Or.inr (Or.inl rfl) | exact Or.inr (Or.inr rfl)) (hd : (n == ("__debug__" : Str)) = false := by decide)
    (hcd : (n == ("__classdict__" : Str)) = false := by decide) : SE X (.Subscript (.Name n p) (.Constant (.int k) j p1) pos) (fRow i k) := by
  refine ⟨PEw (pe_ix ix_list (pe_var hN hvis hd hcd) pe_int (fun _ _ => rfl)) fun σ H Q h => ?_⟩
  obtain ⟨g, O, env, x, d, x', S, e, kk⟩ := h
  unfold fRow at e
  split at e
  · rename_i e0
    obtain ⟨s, e5, q5⟩ := S.at e0
    cases q5 with
    | @rw ra hR =>
      obtain ⟨q1, q2, a0, q3, q4⟩ := S.row ra hR
      split at e
      · rename_i hk
        cases e
        subst hk
        exact ⟨_, e5, ra, _, 1, _, rfl, rfl, .of q3, rfl, kk _ _ S (Le.refl _ _) (.int _)⟩
      · split at e
        · rename_i hk
          cases e
          subst hk
          exact ⟨_, e5, ra, _, 2, _, rfl, rfl, .of q3, rfl, kk _ _ S (Le.refl _ _) (.int _)⟩
        · split at e
          · rename_i hk
            cases e
            subst hk
            exact ⟨_, e5, ra, _, 3, _, rfl, rfl, .of q3, rfl, kk _ _ S (Le.refl _ _) (.int _)⟩
          · cases e
  · cases e
theorem RowAt.seq {K : PySem.W.Frag} {O : Addr → Prop} {H : Hp} {r : Addr} {x : FRow} (h : RowAt K O H r x) : ∃ a0, H r = some (.lst [.ref a0, .int x.a, .int x.b, .int x.c]) ∧ SqL K H a0 (x.ns.map V.int) := by
  obtain ⟨a0, e, q⟩ := h
  exact ⟨a0, e, q.seq⟩
/-- len(row[0]) -/
def fRowLen (i : Nat) : FE := fun env x => match env[i]? with
  | some .rw => some (.int x.ns.length, x)
  | _ => none
theorem se_rowlen {i j : Nat} {n : Str} {p p0 p1 p2 : Pos} (hg : Gl X "len") (hm : X.mg "len" = none) (hN : X.N[i]? = some n := by rfl) (hvis : Vis X.env.scope n := by first | exact Or.inl rfl | exact Or.inr (Or.inl rfl) | exact Or.inr (Or.inr rfl)) (hd : (n == ("__debug__" : Str)) = false := by decide)
    (hcd : (n == ("__classdict__" : Str)) = false := by decide)
    (hs : starEach [.Subscript (.Name n p) (.Constant (.int 0) j p1) p2] X.env = (false, eval (.Subscript (.Name n p) (.Constant (.int 0) j p1) p2) X.env) :: starEach [] X.env := by rfl) : SE X (.Call (.Name "len" p0) [.Subscript (.Name n p) (.Constant (.int 0) j p1) p2] [] pos) (fRowLen i) := by
  refine ⟨PEw (pe_callB call_len_seq hg hm PySem.boot_len (pa_cons (pe_ix ix_list (pe_var hN hvis hd hcd) pe_int (fun _ _ => rfl)) pa_nil hs) (by decide) (by decide) hs) fun σ H Q h => ?_⟩
  obtain ⟨g, O, env, x, d, x', S, e, kk⟩ := h
  unfold fRowLen at e
  split at e
  · rename_i e0
    cases e
    obtain ⟨s, e5, q5⟩ := S.at e0
    cases q5 with
    | @rw ra hR =>
      obtain ⟨a0, q3, q4⟩ := (S.row ra hR).2.2.seq
      refine ⟨_, e5, ra, _, 0, _, rfl, rfl, .of q3, rfl, a0, _, rfl, .inl q4, ?_⟩
      rw [List.length_map]
      exact kk _ _ S (Le.refl _ _) (.int _)
  · cases e
/-- row[0][e] -/
def fRowAt (i : Nat) (f : FE) : FE := fun env x => match env[i]? with
  | some .rw => match f env x with
    | some (.int k, x1) => match atI x.ns k with
      | some z => some (.int z, x1)
      | none => none
    | _ => none
  | _ => none
theorem atI_map {α β : Type} {f : α → β} {l : List α} {i : Int} {z : α} (h : atI l i = some z) : atI (l.map f) i = some (f z) := by
  unfold atI at h ⊢
  rw [List.length_map]
  cases q : ixN l.length i with
  | none => rw [q] at h; cases h
  | some j =>
    rw [q] at h
    show (l.map f)[j]? = some (f z)
    have h : l[j]? = some z := h
    rw [List.getElem?_map, h]
    rfl
theorem se_rowat {i j : Nat} {n : Str} {f : FE} {p p1 p2 : Pos} (hb : SE X b f) (hs : PlainIx b := by exact fun _ _ => rfl) (hN : X.N[i]? = some n := by rfl) (hvis : Vis X.env.scope n := by first | exact Or.inl rfl | exact Or.inr (Or.inl rfl) | exact Or.inr (Or.inr rfl)) (hd : (n == ("__debug__" : Str)) = false := by decide)
    (hcd : (n == ("__classdict__" : Str)) = false := by decide) : SE X (.Subscript (.Subscript (.Name n p) (.Constant (.int 0) j p1) p2) b pos) (fRowAt i f) := by
  refine ⟨PEw (pe_ix ix_list (pe_ix ix_list (pe_var hN hvis hd hcd) pe_int (fun _ _ => rfl)) hb.out hs) fun σ H Q h => ?_⟩
  obtain ⟨g, O, env, x, d, x', S, e, kk⟩ := h
  unfold fRowAt at e
  split at e
  · rename_i e0
    split at e
    · rename_i k x1 e1
      split at e
      · rename_i z e2
        cases e
        obtain ⟨s, e5, q5⟩ := S.at e0
        cases q5 with
        | @rw ra hR =>
          obtain ⟨a0, q3, q4⟩ := (S.row ra hR).2.2
          refine ⟨_, e5, ra, _, 0, _, rfl, rfl, .of q3, rfl, g, O, env, x, _, x', S, e1, fun v H1 S1 l1 r1 => ?_⟩
          cases r1
          refine ⟨a0, x.ns.map V.int, k, _, rfl, rfl, ?_, atI_map e2, kk _ _ S1 l1 (.int _)⟩
          exact (q4.to fun n => ⟨n, fun o e t => l1 a0 o (fun z => n (by rw [hR] at z; cases z; exact S.sub _ (S.row ra hR).1)) e t⟩).seq
      · cases e
    · cases e
  · cases e
end
end RT

namespace RT
open PySem PySem.Spec PyProof.Rows L2
/-! ### built-ins, by borrowed arguments -/
def tBs (ω : World) (K : PySem.W.Frag) (f : FA) : TA := fun σ H Q => ∃ g O env x d x', FSt ω K g O σ H env x ∧ f env x = some (d, x') ∧
  ∀ v H', FSt ω K g O σ H' env x' → Le g H H' → Paired (RpB K g O H') v d → Q v H'
structure SBs (X : Cx) (e : List Expr) (f : FA) : Prop where
  out : PA X e (tBs X.w X.K f)
theorem call_lenDR {X : Cx} : CallR X (.builtin "len") (fun xs H Q => ∃ a kvs, xs = [V.ref a] ∧ L2.Rd H a (.dK kvs) ∧ Q (.int kvs.length) H) := by
  intro pins s σ H xs us Q I r h
  obtain ⟨a, kvs, rfl, ha, q⟩ := h
  obtain ⟨u, rfl, ru⟩ := vals1 r
  cases ru
  exact d_len I ha fun t s' I' => ⟨.int kvs.length, H, I', ⟨t, rfl⟩, q⟩
theorem call_listDR {X : Cx} (hc : X.calm = true) : CallR X (.type "list") (fun xs H Q => ∃ p kvs, xs = [V.ref p] ∧ L2.Rd H p (.dK kvs) ∧ ∀ q, H q = none → Q (.ref q) (upd H q (.lst (kvs.map fun kv => kV kv.1)))) := by
  intro pins s σ H xs us Q I r h
  obtain ⟨p, kvs, e, hk, q⟩ := h
  subst e
  obtain ⟨u, eu, rx⟩ := vals1 r
  subst eu
  obtain rfl : u = Value.ref p := rx
  have ok : ObjOk X.prog X.w H s.heap p (.dK kvs) := hk.elim (fun hk => I.hok p _ hk) fun ⟨_, hk⟩ => (I.hok p _ hk).2
  obtain ⟨z, lo, vs, rk, hd⟩ := ok
  obtain ⟨ep, hat⟩ := hd.dictAt
  have hl : kvs.length = vs.length := Paired.length rk
  refine PySem.W.kdl_call (PySem.W.kdl_dict (knd := mixKind X.prog X.w) (kvs := vs) (ep := ep) lo) (I.ok.hd hc) hat (by rw [← hl]; exact z) fun h' tk acc' c' hkeep hS hacc => ?_
  refine ⟨.ref s.heap.objs.size, upd H s.heap.objs.size (.lst (kvs.map fun kv => kV kv.1)), I.laid hkeep (Nat.le_refl _) (show ObjOk X.prog X.w _ _ _ (.lst (kvs.map fun kv => kV kv.1)) from ⟨?_, acc'.toList, c', ?_, ?_⟩), rfl, q _ (I.hok.fresh (Nat.le_refl _))⟩
  · rw [List.length_map]; exact z
  · have el : acc'.toList.length = acc'.size := by simp
    refine vals_of_at (by rw [List.length_map, el, hacc.1, hl]) fun j x w h1 h2 => ?_
    obtain ⟨k, y, hky, hi⟩ := hacc.2 j w (by rw [← Array.getElem?_toList]; exact h2)
    have e1 : (kvs.map (·.1))[j]? = some k := by
      rw [KV.keys rk, List.getElem?_map, hky] <;> rfl
    have e2 : (kvs.map fun kv => kV kv.1)[j]? = some (kV k) := by
      have e3 : (kvs.map fun kv => kV kv.1) = (kvs.map (·.1)).map kV := by rw [List.map_map] <;> rfl
      rw [e3, List.getElem?_map, e1] <;> rfl
    rw [e2] at h1
    cases h1
    exact keyIs_rel hi
  · rw [Array.toArray_toList]; exact hS
section
variable {X : Cx} {a b c e : Expr} {es : List Expr} {fa fb fc f : FE} {pos : Pos}
theorem sbs_nil : SBs X [] aNil := by
  refine ⟨PAw pa_nil fun σ H Q h => ?_⟩
  obtain ⟨g, O, env, x, d, x', S, e, k⟩ := h
  cases e
  exact k _ _ S (Le.refl _ _) .nil
theorem sbs_cons {f : FE} {t : FA} (h : SB X e f) (ht : SBs X es t) (hs : starEach (e :: es) X.env = (false, eval e X.env) :: starEach es X.env := by rfl) : SBs X (e :: es) (aCons f t) := by
  refine ⟨PAw (pa_cons h.out ht.out hs) fun σ H Q h => ?_⟩
  obtain ⟨g, O, env, x, d, x', S, e, k⟩ := h
  unfold aCons at e
  split at e
  · rename_i d1 x1 e1
    split at e
    · rename_i ds x2 e2
      cases e
      refine ⟨g, O, env, x, d1, x1, S, e1, fun v H1 S1 l1 r1 => ?_⟩
      refine ⟨g, O, env, x1, ds, x', S1, e2, fun vs H2 S2 l2 r2 => ?_⟩
      exact k _ _ S2 (l1.trans l2) (.cons (RpB.step S1 l2 r1) r2)
    · cases e
  · cases e
def CallD (X : Cx) (f : Value) (gd : List D → Option D) : Prop :=
  CallR X f fun vs H Q => ∃ g O σ env x ds r, FSt X.w X.K g O σ H env x ∧ Paired (RpB X.K g O H) vs ds ∧ gd ds = some r ∧ ∀ u H', Same H H' → Rp X.K O H' u r → Q u H'
theorem CallD.by {f : Value} {r : List V → Hp → VK → Prop} {gd : List D → Option D} (h : CallR X f r)
    (q : ∀ g O σ env x ds z H vs Q, FSt X.w X.K g O σ H env x → Paired (RpB X.K g O H) vs ds → gd ds = some z → (∀ u H', Same H H' → Rp X.K O H' u z → Q u H') → r vs H Q) : CallD X f gd := by
  intro pins s σ H vs us Q I rv h2
  obtain ⟨g, O, σ', env, x, ds, z, S, rr, e, k⟩ := h2
  exact h pins s σ H vs us Q I rv (q _ _ _ _ _ _ _ _ _ _ S rr e k)
theorem se_callB {id : String} {n : Str} {p : Pos} {gd : List D → Option D} {fa : FA} (hc : CallD X (.builtin id) gd) (hg : Gl X n) (hm : X.mg n = none) (hv : bootBuiltins n = some (.builtin id)) (ha : SBs X (e :: es) fa) (hn : n ≠ "__name__" := by decide) (hdb : (n == ("__debug__" : Str)) = false := by decide)
    (he : starEach (e :: es) X.env = (false, eval e X.env) :: starEach es X.env := by rfl) (hpl : (backTo pos (starEach es X.env)).any (·.1) = false := by rfl) : SE X (.Call (.Name n p) (e :: es) [] pos) (fCall gd fa) := by
  refine ⟨PEw (pe_callB hc hg hm hv ha.out hn hdb he hpl) fun σ H Q h => ?_⟩
  obtain ⟨g, O, env, x, d, x', S, e, k⟩ := h
  unfold fCall at e
  split at e
  · rename_i ds x1 e1
    split at e
    · rename_i d1 e2
      cases e
      exact ⟨g, O, env, x, ds, x', S, e1, fun vs H1 S1 l1 r1 => ⟨g, O, σ, env, x', ds, d, S1, r1, e2, fun u H2 sm r2 => k u H2 (S1.same sm) (l1.trans (.of sm)) r2⟩⟩
    · cases e
  · cases e
theorem se_callTy {T : String} {n : Str} {p : Pos} {gd : List D → Option D} {fa : FA} (hc : CallD X (.type T) gd) (hg : Gl X n) (hm : X.mg n = none) (hv : bootBuiltins n = some (.type T)) (ha : SBs X (e :: es) fa) (hn : n ≠ "__name__" := by decide) (hdb : (n == ("__debug__" : Str)) = false := by decide)
    (he : starEach (e :: es) X.env = (false, eval e X.env) :: starEach es X.env := by rfl) (hpl : (backTo pos (starEach es X.env)).any (·.1) = false := by rfl) : SE X (.Call (.Name n p) (e :: es) [] pos) (fCall gd fa) := by
  refine ⟨PEw (pe_callTy hc hg hm hv ha.out hn hdb he hpl) fun σ H Q h => ?_⟩
  obtain ⟨g, O, env, x, d, x', S, e, k⟩ := h
  unfold fCall at e
  split at e
  · rename_i ds x1 e1
    split at e
    · rename_i d1 e2
      cases e
      exact ⟨g, O, env, x, ds, x', S, e1, fun vs H1 S1 l1 r1 => ⟨g, O, σ, env, x', ds, d, S1, r1, e2, fun u H2 sm r2 => k u H2 (S1.same sm) (l1.trans (.of sm)) r2⟩⟩
    · cases e
  · cases e
def gLen : List D → Option D
  | [.list ds] => some (.int ds.length)
  | [.tuple ds] => some (.int ds.length)
  | [.dict ds] => some (.int ds.length)
  | [.dictT ds] => some (.int ds.length)
  | _ => none
theorem cd_len : CallD X (.builtin "len") gLen := by
  refine CallD.by ((call_len_seq.or call_lenDR).or call_len_dT) fun g O σ env x ds z H vs Q S r e k => ?_
  unfold gLen at e
  split at e
  · cases e
    cases r with
    | cons r r' =>
      cases r'
      obtain ⟨p, xs, rfl, q, rx⟩ := r.lst
      refine .inl (.inl ⟨p, xs, rfl, .inl (.of q), ?_⟩)
      rw [rx.length]
      exact k _ _ (Same.refl _) (.int _)
  · cases e
    cases r with
    | cons r r' =>
      cases r'
      obtain ⟨p, xs, rfl, q, rx⟩ := r.tup.tupAt
      refine .inl (.inl ⟨p, xs, rfl, .inr (.of q), ?_⟩)
      rw [rx.length]
      exact k _ _ (Same.refl _) (.int _)
  · cases e
    cases r with
    | cons r r' =>
      cases r'
      obtain ⟨p, xs, rfl, q, rx⟩ := r.dct
      refine .inl (.inr ⟨p, xs, rfl, q, ?_⟩)
      rw [rx.length]
      exact k _ _ (Same.refl _) (.int _)
  · cases e
    cases r with
    | cons r r' =>
      cases r'
      obtain ⟨p, xs, rfl, q, rx⟩ := r.dcT
      refine .inr ⟨p, xs, rfl, q, ?_⟩
      rw [rx.length]
      exact k _ _ (Same.refl _) (.int _)
  · cases e
def gTupOf : List D → Option D
  | [.list ds] => some (.tuple ds)
  | [.tuple ds] => some (.tuple ds)
  | _ => none
theorem cd_tuple : CallD X (.type "tuple") gTupOf := by
  refine CallD.by call_tuple_of fun g O σ env x ds z H vs Q S r e k => ?_
  unfold gTupOf at e
  split at e
  · cases e
    cases r with
    | cons r r' =>
      cases r'
      obtain ⟨p, xs, rfl, q, rx⟩ := r.lst
      refine ⟨p, xs, rfl, .inl ⟨.of q, fun l hl => ?_⟩⟩
      have sm := same_upd (o := .tup xs) hl
      exact k _ _ sm (.tup (S.notO hl) upd_same (rx.move (.of sm) .refl))
  · cases e
    cases r with
    | cons r r' =>
      cases r'
      obtain ⟨p, xs, rfl, q, rx⟩ := r.tup.tupAt
      exact ⟨p, xs, rfl, .inr ⟨.of q, k _ _ (Same.refl _) r.tup⟩⟩
  · cases e
def gListOf : List D → Option D
  | [.list ds] => some (.list ds)
  | [.tuple ds] => some (.list ds)
  | [.dict ds] => some (.list (ds.map (·.1)))
  | [.dictT ds] => some (.list (ds.map (·.1)))
  | _ => none
theorem keys_rp {K : PySem.W.Frag} {O : Addr → Prop} {H : Hp} : ∀ {kvs : List (L2.Key × V)} {ds : List (D × D)}, RpK K O H kvs ds → RpA K O H (kvs.map fun kv => kV kv.1) (ds.map (·.1))
  | _, _, .nil => .nil
  | _, _, .cons (k := k) a b => .cons (by cases k with
    | inl i => exact .int i
    | inr s => exact .str s) (keys_rp b)
theorem kVs_rp {K : PySem.W.Frag} {O : Addr → Prop} {H : Hp} : ∀ ks : List L2.Key, RpA K O H (ks.map kV) (ks.map keyD)
  | [] => .nil
  | k :: ks => .cons (by cases k with
    | inl i => exact .int i
    | inr s => exact .str s) (kVs_rp ks)
theorem keysT_rp {ω : World} {K : PySem.W.Frag} {g : FG} {O : Addr → Prop} {H : Hp} {σ : L2.St} {env : FEn} {x : FRow} (S : FSt ω K g O σ H env x) : ∀ {kvs : List (List L2.Key × V)} {ds : List (D × D)} {bs : List Addr}, RpT K O H kvs ds → IsKeys H kvs bs → RpA K O H (bs.map V.ref) (ds.map (·.1))
  | _, _, _, .nil, .nil => .nil
  | _, _, _, .cons (k := k) a b, .cons q qs => .cons (.tup (fun z => by
      have m := S.dom _ z
      rw [q] at m
      exact m) q (kVs_rp k)) (keysT_rp S b qs)
theorem cd_list (hc : X.calm = true) : CallD X (.type "list") gListOf := by
  refine CallD.by ((call_list_of.or (call_listDR hc)).or (call_list_dT hc)) fun g O σ env x ds z H vs Q S r e k => ?_
  unfold gListOf at e
  split at e
  · cases e
    cases r with
    | cons r r' =>
      cases r'
      obtain ⟨p, xs, rfl, q, rx⟩ := r.lst
      refine .inl (.inl ⟨p, xs, rfl, .inl (.of q), fun l hl => ?_⟩)
      have sm := same_upd (o := .lst xs) hl
      exact k _ _ sm (.lst (S.notO hl) upd_same (rx.move (.of sm) .refl))
  · cases e
    cases r with
    | cons r r' =>
      cases r'
      obtain ⟨p, xs, rfl, q, rx⟩ := r.tup.tupAt
      refine .inl (.inl ⟨p, xs, rfl, .inr (.of q), fun l hl => ?_⟩)
      have sm := same_upd (o := .lst xs) hl
      exact k _ _ sm (.lst (S.notO hl) upd_same (rx.move (.of sm) .refl))
  · cases e
    cases r with
    | cons r r' =>
      cases r'
      obtain ⟨p, xs, rfl, q, rx⟩ := r.dct
      refine .inl (.inr ⟨p, xs, rfl, q, fun l hl => ?_⟩)
      have sm := same_upd (o := .lst (xs.map fun kv => kV kv.1)) hl
      exact k _ _ sm (.lst (S.notO hl) upd_same ((keys_rp rx).move (.of sm) .refl))
  · cases e
    cases r with
    | cons r r' =>
      cases r'
      obtain ⟨p, xs, rfl, q, rx⟩ := r.dcT
      refine .inr ⟨p, xs, rfl, .inl q, fun l bs hl hk => ?_⟩
      have sm := same_upd (o := .lst (bs.map V.ref)) hl
      exact k _ _ sm (.lst (S.notO hl) upd_same ((keysT_rp S rx hk).move (.of sm) .refl))
  · cases e
def bools : List D → Option (List Bool)
  | [] => some []
  | .bool b :: ds => match bools ds with
    | some bs => some (b :: bs)
    | none => none
  | _ => none
theorem bools_ok : ∀ {ds : List D} {bs : List Bool}, bools ds = some bs → ds = bs.map .bool
  | [], _, h => by cases h; rfl
  | d :: ds, bs, h => by
    unfold bools at h
    split at h
    · rename_i e1; cases e1
    · rename_i e1
      cases e1
      split at h
      · rename_i q
        cases h
        rw [bools_ok q]
        rfl
      · cases h
    · cases h
def intsD : List D → Option (List Int)
  | [] => some []
  | .int b :: ds => match intsD ds with
    | some bs => some (b :: bs)
    | none => none
  | _ => none
theorem ints_ok : ∀ {ds : List D} {bs : List Int}, intsD ds = some bs → ds = bs.map .int
  | [], _, h => by cases h; rfl
  | d :: ds, bs, h => by
    unfold intsD at h
    split at h
    · rename_i e1; cases e1
    · rename_i e1
      cases e1
      split at h
      · rename_i q
        cases h
        rw [ints_ok q]
        rfl
      · cases h
    · cases h
theorem ints_map : ∀ ns : List Int, intsD (ns.map .int) = some ns
  | [] => rfl
  | n :: ns => by simp only [List.map_cons, intsD, ints_map ns]
def gAll : List D → Option D
  | [.list ds] => match bools ds with
    | some bs => some (.bool (bs.all id))
    | none => none
  | _ => none
def gAny : List D → Option D
  | [.list ds] => match bools ds with
    | some bs => some (.bool (bs.any id))
    | none => none
  | _ => none
theorem cd_all (hc : X.calm = true) : CallD X (.builtin "all") gAll := by
  refine CallD.by (cr_all hc) fun g O σ env x ds z H vs Q S r e k => ?_
  unfold gAll at e
  split at e
  · split at e
    · rename_i ds bs q
      cases e
      cases r with
      | cons r r' =>
        cases r'
        obtain ⟨p, xs, rfl, hp, rx⟩ := r.lst
        rw [bools_ok q] at rx
        rw [rx.bls] at hp
        exact ⟨p, bs, rfl, .of hp, k _ _ (Same.refl _) (.bl _)⟩
    · cases e
  · cases e
theorem cd_any (hc : X.calm = true) : CallD X (.builtin "any") gAny := by
  refine CallD.by (cr_any hc) fun g O σ env x ds z H vs Q S r e k => ?_
  unfold gAny at e
  split at e
  · split at e
    · rename_i ds bs q
      cases e
      cases r with
      | cons r r' =>
        cases r'
        obtain ⟨p, xs, rfl, hp, rx⟩ := r.lst
        rw [bools_ok q] at rx
        rw [rx.bls] at hp
        exact ⟨p, bs, rfl, .of hp, k _ _ (Same.refl _) (.bl _)⟩
    · cases e
  · cases e
def gInt : List D → Option D
  | [.int i] => some (.int i)
  | [.bool b] => some (.int (if b then 1 else 0))
  | _ => none
theorem cd_int : CallD X (.type "int") gInt := by
  refine CallD.by call_int1 fun g O σ env x ds z H vs Q S r e k => ?_
  unfold gInt at e
  split at e
  · cases e
    cases r with
    | cons r r' =>
      cases r'
      exact .inl ⟨_, by rw [r.int], k _ _ (Same.refl _) (.int _)⟩
  · cases e
    cases r with
    | cons r r' =>
      cases r'
      exact .inr ⟨_, by rw [r.bl], k _ _ (Same.refl _) (.int _)⟩
  · cases e
/-! ### sorted, of intsD -/
def insI (n : Int) : List Int → List Int
  | [] => [n]
  | m :: ms => if n ≤ m then n :: m :: ms else m :: insI n ms
def sortI : List Int → List Int
  | [] => []
  | n :: ns => insI n (sortI ns)
theorem insI_perm (n : Int) : ∀ ms : List Int, (insI n ms).Perm (n :: ms)
  | [] => .refl _
  | m :: ms => by
    unfold insI
    split
    · exact .refl _
    · exact ((insI_perm n ms).cons m).trans (.swap n m ms)
theorem sortI_perm : ∀ ns : List Int, (sortI ns).Perm ns
  | [] => .refl _
  | n :: ns => (insI_perm n _).trans ((sortI_perm ns).cons n)
theorem insI_sorted (n : Int) : ∀ ms : List Int, ms.Pairwise (· ≤ ·) → (insI n ms).Pairwise (· ≤ ·)
  | [], _ => by simp [insI]
  | m :: ms, h => by
    unfold insI
    have h' := List.pairwise_cons.mp h
    split
    · rename_i hn
      refine List.pairwise_cons.mpr ⟨fun a ha => ?_, h⟩
      rcases List.mem_cons.mp ha with rfl | ha
      · exact hn
      · exact Int.le_trans hn (h'.1 a ha)
    · rename_i hn
      refine List.pairwise_cons.mpr ⟨fun a ha => ?_, insI_sorted n ms h'.2⟩
      rcases List.mem_cons.mp ((insI_perm n ms).mem_iff.mp ha) with rfl | ha
      · omega
      · exact h'.1 a ha
theorem sortI_sorted : ∀ ns : List Int, (sortI ns).Pairwise (· ≤ ·)
  | [] => .nil
  | n :: ns => insI_sorted n _ (sortI_sorted ns)
theorem sorted_uniq : ∀ {l m : List Int}, l.Perm m → l.Pairwise (· ≤ ·) → m.Pairwise (· ≤ ·) → l = m
  | [], m, h, _, _ => h.nil_eq
  | x :: l, [], h, _, _ => absurd h.length_eq (by simp)
  | x :: l, y :: m, h, hl, hm => by
    have hl' := List.pairwise_cons.mp hl
    have hm' := List.pairwise_cons.mp hm
    have e : x = y := by
      have h1 : y ≤ x := by
        rcases List.mem_cons.mp (h.mem_iff.mp List.mem_cons_self) with e | e
        · omega
        · exact hm'.1 x e
      have h2 : x ≤ y := by
        rcases List.mem_cons.mp (h.mem_iff.mpr List.mem_cons_self) with e | e
        · omega
        · exact hl'.1 y e
      omega
    subst e
    rw [sorted_uniq h.cons_inv hl'.2 hm'.2]
def gSortI : List D → Option D
  | [.list ds] => match intsD ds with
    | some ns => some (.list ((sortI ns).map .int))
    | none => none
  | _ => none
theorem cd_sorted : CallD X (.builtin "sorted") gSortI := by
  refine CallD.by cr_sortedI fun g O σ env x ds z H vs Q S r e k => ?_
  unfold gSortI at e
  split at e
  · split at e
    · rename_i ds ns q
      cases e
      cases r with
      | cons r r' =>
        cases r'
        obtain ⟨p, xs, rfl, hp, rx⟩ := r.lst
        rw [ints_ok q] at rx
        rw [rx.ints] at hp
        refine ⟨p, ns, rfl, .of hp, fun ns' l h1 h2 hl => ?_⟩
        have e2 : ns' = sortI ns := sorted_uniq (h1.trans (sortI_perm ns).symm) h2 (sortI_sorted ns)
        subst e2
        have sm := same_upd (o := .lst ((sortI ns).map V.int)) hl
        exact k _ _ sm (.lst (S.notO hl) upd_same (RpA.ofInts _))
    · cases e
  · cases e
def gSum : List D → Option D
  | [.list ds] => match intsD ds with
    | some ns => some (.int ns.sum)
    | none => none
  | _ => none
theorem cd_sum (hc : X.calm = true) : CallD X (.builtin "sum") gSum := by
  refine CallD.by (cr_sum hc) fun g O σ env x ds z H vs Q S r e k => ?_
  unfold gSum at e
  split at e
  · split at e
    · rename_i ds ns q
      cases e
      cases r with
      | cons r r' =>
        cases r'
        obtain ⟨p, xs, rfl, hp, rx⟩ := r.lst
        rw [ints_ok q] at rx
        rw [rx.ints] at hp
        exact ⟨p, ns, rfl, .of hp, k _ _ (Same.refl _) (.int _)⟩
    · cases e
  · cases e
def maxI : Int → List Int → Int
  | m, [] => m
  | m, n :: ns => maxI (if m < n then n else m) ns
theorem maxI_le : ∀ (ns : List Int) (m : Int), m ≤ maxI m ns ∧ (∀ n ∈ ns, n ≤ maxI m ns) ∧ (maxI m ns = m ∨ maxI m ns ∈ ns)
  | [], m => ⟨Int.le_refl _, fun n h => (by cases h), .inl rfl⟩
  | n :: ns, m => by
    unfold maxI
    obtain ⟨h1, h2, h3⟩ := maxI_le ns (if m < n then n else m)
    refine ⟨?_, fun k hk => ?_, ?_⟩
    · split at h1 <;> rename_i q
      · rw [if_pos q]; omega
      · rw [if_neg q]; omega
    · rcases List.mem_cons.mp hk with rfl | hk
      · split at h1 <;> rename_i q
        · rw [if_pos q]; omega
        · rw [if_neg q]; omega
      · exact h2 k hk
    · rcases h3 with h3 | h3
      · rw [h3]
        split
        · exact .inr List.mem_cons_self
        · exact .inl rfl
      · exact .inr (List.mem_cons_of_mem _ h3)
def gMax : List D → Option D
  | [.list ds] => match intsD ds with
    | some (n :: ns) => some (.int (maxI n ns))
    | _ => none
  | _ => none
theorem cd_max (hc : X.calm = true) : CallD X (.builtin "max") gMax := by
  refine CallD.by (cr_max hc) fun g O σ env x ds z H vs Q S r e k => ?_
  unfold gMax at e
  split at e
  · split at e
    · rename_i ds n ns q
      cases e
      cases r with
      | cons r r' =>
        cases r'
        obtain ⟨p, xs, rfl, hp, rx⟩ := r.lst
        rw [ints_ok q] at rx
        rw [rx.ints] at hp
        refine ⟨p, n :: ns, rfl, .of hp, by simp, fun m hm hle => ?_⟩
        obtain ⟨h1, h2, h3⟩ := maxI_le ns n
        have e2 : m = maxI n ns := by
          have a1 : maxI n ns ≤ m := by
            rcases h3 with h3 | h3
            · rw [h3]; exact hle n List.mem_cons_self
            · exact hle _ (List.mem_cons_of_mem _ h3)
          have a2 : m ≤ maxI n ns := by
            rcases List.mem_cons.mp hm with rfl | hm
            · exact h1
            · exact h2 m hm
          omega
        rw [e2]
        exact k _ _ (Same.refl _) (.int _)
    · cases e
  · cases e
/-! ### isinstance -/
inductive Ty where
  | int | bool | str | tuple | list | dict
def Ty.nm : Ty → String
  | .int => "int"
  | .bool => "bool"
  | .str => "str"
  | .tuple => "tuple"
  | .list => "list"
  | .dict => "dict"
def isiD : Ty → D → Option Bool
  | _, .sets _ => none
  | .int, .int _ => some true
  | .int, .bool _ => some true
  | .bool, .bool _ => some true
  | .str, .str _ => some true
  | .tuple, .tuple _ => some true
  | .list, .list _ => some true
  | .dict, .dict _ => some true
  | .dict, .dictT _ => some true
  | _, _ => some false
def tyD : D → String
  | .none => "NoneType"
  | .bool _ => "bool"
  | .int _ => "int"
  | .str _ => "str"
  | .list _ => "list"
  | .tuple _ => "tuple"
  | .dict _ => "dict"
  | .dictT _ => "dict"
  | .sets _ => "set"
theorem kit_all : ∀ (T : Ty) (n : String), n ∈ ["NoneType", "bool", "int", "str", "list", "tuple", "dict"] → kitB n T.nm = some (decide (n = T.nm) || decide (n = "bool" ∧ T.nm = "int")) := by
  intro T n h
  simp only [List.mem_cons, List.not_mem_nil, or_false] at h
  rcases h with rfl | rfl | rfl | rfl | rfl | rfl | rfl <;> cases T <;> decide +kernel
theorem kit_isi {T : Ty} {d : D} {b : Bool} (h : isiD T d = some b) : kitB (tyD d) T.nm = some b := by
  cases d with
  | sets ns => cases T <;> simp [isiD] at h
  | _ => (rw [kit_all T _ (by simp [tyD])]; rw [← h]; cases T <;> simp [tyD, Ty.nm, isiD])
theorem ty_of {K : PySem.W.Frag} {g : FG} {O : Addr → Prop} {H : Hp} {v : V} {d : D} (r : RpB K g O H v d) : TyX K H v (.type (tyD d)) := by
  rcases r with r | ⟨a, w, rfl, rfl, ha, hr, z⟩
  · cases r with
    | non => exact .base .non
    | bl b => exact .base (.bl b)
    | int i => exact .base (.int i)
    | str x => exact .base (.str x)
    | lst _ e _ => exact .base (.lst e)
    | tup _ e _ => exact .base (.tup e)
    | dK _ e _ => exact e.elim (fun e => .base (.dK e)) fun ⟨_, e⟩ => .fDict e
    | dT _ e _ => exact .base (.dT e)
  · cases w with
    | lst ds => obtain ⟨xs, e, _⟩ := z; exact .base (.lst e)
    | dk ds => obtain ⟨xs, e, _⟩ := z; exact .base (.dK e)
    | dt ds => obtain ⟨xs, e, _⟩ := z; exact .base (.dT e)
def fIsi (T : Ty) (f : FE) : FE := fun env x => match f env x with
  | some (d, x1) => match isiD T d with
    | some b => some (.bool b, x1)
    | none => none
  | none => none
theorem se_isi {T : Ty} {n : Str} {p p1 : Pos} (hg : Gl X "isinstance") (hm : X.mg "isinstance" = none) (ha : SB X a fa) (hgT : Gl X n) (hmT : X.mg n = none) (hvT : bootBuiltins n = some (.type T.nm)) (hnT : n ≠ "__name__" := by decide) (hdT : (n == ("__debug__" : Str)) = false := by decide)
    (he : starEach [a, .Name n p1] X.env = (false, eval a X.env) :: starEach [.Name n p1] X.env := by rfl) (he2 : starEach [.Name n p1] X.env = (false, eval (.Name n p1) X.env) :: starEach [] X.env := by rfl) (hpl : (backTo pos (starEach [.Name n p1] X.env)).any (·.1) = false := by rfl) :
    SE X (.Call (.Name "isinstance" p) [a, .Name n p1] [] pos) (fIsi T fa) := by
  refine ⟨PEw (pe_callB call_isi hg hm (by decide +kernel) (pa_cons ha.out (pa_cons (pe_bltn (v := .ty T.nm) hgT hmT hvT rfl hnT hdT) pa_nil he2) he) (by decide) (by decide) he hpl) fun σ H Q h => ?_⟩
  obtain ⟨g, O, env, x, d, x', S, e, k⟩ := h
  unfold fIsi at e
  split at e
  · rename_i dd x1 e1
    split at e
    · rename_i b e2
      cases e
      exact ⟨g, O, env, x, dd, x', S, e1, fun v H1 S1 l1 r1 => ⟨v, .ty T.nm, _, _, b, rfl, .ty _, ty_of r1, kit_ty (kit_isi e2), k _ _ S1 l1 (.bl b)⟩⟩
    · cases e
  · cases e
def fIsi2 (T U : Ty) (f : FE) : FE := fun env x => match f env x with
  | some (d, x1) => match isiD T d, isiD U d with
    | some b, some c => some (.bool (b || c), x1)
    | _, _ => none
  | none => none
theorem se_isi2 {T U : Ty} {n m : Str} {p p1 p2 p3 : Pos} {kk : Nat} (hg : Gl X "isinstance") (hm : X.mg "isinstance" = none) (ha : SB X a fa) (hgT : Gl X n) (hmT : X.mg n = none) (hvT : bootBuiltins n = some (.type T.nm)) (hgU : Gl X m) (hmU : X.mg m = none) (hvU : bootBuiltins m = some (.type U.nm))
    (hnT : n ≠ "__name__" := by decide) (hdT : (n == ("__debug__" : Str)) = false := by decide) (hnU : m ≠ "__name__" := by decide) (hdU : (m == ("__debug__" : Str)) = false := by decide)
    (he : starEach [a, .Tuple [.Name n p1, .Name m p2] kk p3] X.env = (false, eval a X.env) :: starEach [.Tuple [.Name n p1, .Name m p2] kk p3] X.env := by rfl) (he2 : starEach [.Tuple [.Name n p1, .Name m p2] kk p3] X.env = (false, eval (.Tuple [.Name n p1, .Name m p2] kk p3) X.env) :: starEach [] X.env := by rfl)
    (he3 : starEach [.Name n p1, .Name m p2] X.env = (false, eval (.Name n p1) X.env) :: starEach [.Name m p2] X.env := by rfl) (he4 : starEach [.Name m p2] X.env = (false, eval (.Name m p2) X.env) :: starEach [] X.env := by rfl)
    (hpl : (backTo pos (starEach [.Tuple [.Name n p1, .Name m p2] kk p3] X.env)).any (·.1) = false := by rfl) :
    SE X (.Call (.Name "isinstance" p) [a, .Tuple [.Name n p1, .Name m p2] kk p3] [] pos) (fIsi2 T U fa) := by
  refine ⟨PEw (pe_callB call_isiT hg hm (by decide +kernel) (pa_cons ha.out (pa_cons (pe_tup (pa_cons (pe_bltn (v := .ty T.nm) hgT hmT hvT rfl hnT hdT) (pa_cons (pe_bltn (v := .ty U.nm) hgU hmU hvU rfl hnU hdU) pa_nil he4) he3)) pa_nil he2) he) (by decide) (by decide) he hpl) fun σ H Q h => ?_⟩
  obtain ⟨g, O, env, x, d, x', S, e, k⟩ := h
  unfold fIsi2 at e
  split at e
  · rename_i dd x1 e1
    split at e
    · rename_i b c e2 e3
      cases e
      refine ⟨g, O, env, x, dd, x', S, e1, fun v H1 S1 l1 r1 => ⟨maxLen_ok (show 2 ≤ maxLen by decide), fun q hq => ?_⟩⟩
      have sm := same_upd (o := .tup [.ty T.nm, .ty U.nm]) hq
      refine ⟨v, q, _, _, [.type T.nm, .type U.nm], b || c, rfl, upd_same, .cons (.ty _) (.cons (.ty _) .nil), ty_of (RpB.step S1 (.of sm) r1), ?_, k _ _ (S1.same sm) (l1.trans (.of sm)) (.bl _)⟩
      refine kitAny_cons (kit_ty (kit_isi e2)) (fun hb => ?_) fun hb => by rw [hb]; rfl
      rw [hb]
      exact kitAny_cons (kit_ty (kit_isi e3)) (fun hb => by rw [hb]; exact kitAny_nil) fun hb => by rw [hb]; rfl
    · cases e
  · cases e
/-! ### a store to the row -/
def sRow (i : Nat) (k : Int) (f : FE) : FS := fun env x => match f env x with
  | some (.int z, x1) => match env[i]? with
    | some .rw => if k = 1 then some (.nx env, { x1 with a := z }) else if k = 2 then some (.nx env, { x1 with b := z }) else if k = 3 then some (.nx env, { x1 with c := z }) else none
    | _ => none
  | _ => none
theorem row_put {ω : World} {K : PySem.W.Frag} {g : FG} {O : Addr → Prop} {σ : L2.St} {H : Hp} {env : FEn} {x x' : FRow} {r : Addr} {xs : List V} (S : FSt ω K g O σ H env x) (hR : g.R = some r) (rt : RowAt K O (upd H r (.lst xs)) r x') : FSt ω K g O σ (upd H r (.lst xs)) env x' :=
  have ⟨_, h1, _⟩ := (S.row r hR).2.2
  S.step (fun a o n e _ => by rw [upd_ne (fun z => n (by rw [z]; exact hR))]; exact e) (tabs_upd S.tb h1 rfl notC_lst) fun q hq => by rw [hR] at hq; cases hq; exact rt
theorem rowAt_upd {K : PySem.W.Frag} {O : Addr → Prop} {H : Hp} {r a0 : Addr} {ns : List Int} {i j l : Int} {ys : List V} (h : H r = some (.lst ys)) (q : RowL K O H a0 ns) (ro : O r) : RowAt K O (upd H r (.lst [.ref a0, .int i, .int j, .int l])) r ⟨ns, i, j, l⟩ := by
  exact ⟨a0, upd_same, q.updO ro⟩
theorem ss_row {i j : Nat} {k : Int} {n : Str} {f : FE} {p p1 pos' : Pos} (he : SE X e f) (hs : swapsWithSole [.Subscript (.Name n p) (.Constant (.int k) j p1) pos'] e pos.line X.env = pure false := by rfl) (hw : swappedStores [.Subscript (.Name n p) (.Constant (.int k) j p1) pos'] e X.env = pure none := by rfl)
    (h1 : (assignEach [.Subscript (.Name n p) (.Constant (.int k) j p1) pos'] X.env).map (·.2) = [assign (.Subscript (.Name n p) (.Constant (.int k) j p1) pos') X.env] := by rfl)
    (hN : X.N[i]? = some n := by rfl) (hvis : Vis X.env.scope n := by first | exact Or.inl rfl | exact Or.inr (Or.inl rfl) | exact Or.inr (Or.inr rfl)) (hd : (n == ("__debug__" : Str)) = false := by decide)
    (hcd : (n == ("__classdict__" : Str)) = false := by decide) : SS X (.Assign [.Subscript (.Name n p) (.Constant (.int k) j p1) pos'] e pos) (sRow i k f) := by
  refine ⟨PSw (ps_asg he.out (pg_sub (pe_var hN hvis hd hcd) pe_int set_list) hs hw h1) fun Dn σ H h => ?_⟩
  obtain ⟨g, O, env, x, r, x', S, e, kk⟩ := h
  unfold sRow at e
  split at e
  · rename_i z x1 e1
    split at e
    · rename_i e0
      refine ⟨g, O, env, x, _, x1, S, e1, fun v H1 S1 l1 r1 => ?_⟩
      cases r1
      obtain ⟨s, e5, q5⟩ := S1.at e0
      cases q5 with
      | @rw ra hR =>
        obtain ⟨q1, q2, a0, q3, q4⟩ := S1.row ra hR
        split at e
        · rename_i hk
          cases e
          subst hk
          exact ⟨_, e5, ra, _, 1, 1, rfl, rfl, q3, rfl, kk O _ _ (row_put S1 hR (rowAt_upd q3 q4 (S1.sub _ q1)))⟩
        · split at e
          · rename_i hk
            cases e
            subst hk
            exact ⟨_, e5, ra, _, 2, 2, rfl, rfl, q3, rfl, kk O _ _ (row_put S1 hR (rowAt_upd q3 q4 (S1.sub _ q1)))⟩
          · split at e
            · rename_i hk
              cases e
              subst hk
              exact ⟨_, e5, ra, _, 3, 3, rfl, rfl, q3, rfl, kk O _ _ (row_put S1 hR (rowAt_upd q3 q4 (S1.sub _ q1)))⟩
            · cases e
    · cases e
  · cases e
end
end RT

namespace RT
open PySem PySem.Spec PyProof.Rows L2
/-! ### enumerate of a list, of a tuple -/
set_option maxHeartbeats 2000000 in
theorem meets_enum1 {v : Value} {o : Obj} {Hh : Heap → Prop} (B : Begins v o Hh) :
    Meets (Builtin.«enumerate.__new__» ⟨[.type "enumerate", v], []⟩) (fun _ R s => Hh s.heap ∧
      R (.ok (.ret (.ref (s.heap.push o).objs.size))) { s with heap := (s.heap.push o).push { cls := .type "enumerate", data := .fields #[.none, .bool false, .ref s.heap.objs.size, rawInt 0, .none, .none] } }) := by
  refine .of_wp fun prog w A R s h => ?_
  obtain ⟨hp, gg, dd, tk, os⟩ := s
  obtain ⟨h1, h⟩ := h
  have hsub := sub_enumerate
  have q1 : ∀ {A' : Around} {E : Value → Shared → Prop} {Q : Value → Shared → Prop}, Q (.ref hp.objs.size) ⟨hp.push o, gg, dd, tk, os⟩ → wpAny (model prog w) A' (pyIter v) Q E ⟨hp, gg, dd, tk, os⟩ := fun q => B.iter prog w _ _ ⟨hp, gg, dd, tk, os⟩ _ h1 q
  wp_walk using q1
  refine wpAny_stack_any fun st => wpAny_pure ?_
  split
  · rename_i c _ _ _ _ _
    cases (c == Value.type "enumerate") <;>
      (wp_walk using q1
       exact ⟨_, rfl, h⟩)
  · wp_walk using q1
    exact ⟨_, rfl, h⟩
theorem call_enum1 {prog : Program} {w : World} {A : Around} {E : Value → Shared → Prop} {s : Shared} {v : Value} {o : Obj} {Hh : Heap → Prop} {Q : Value → Shared → Prop} (B : Begins v o Hh) (h1 : Hh s.heap)
    (h : ∀ h', IsEnum h' (s.heap.objs.size + 1) s.heap.objs.size 0 .none → h'.get? s.heap.objs.size = some o → h'.objs.size = s.heap.objs.size + 2 → (∀ b o, s.heap.get? b = some o → h'.get? b = some o) → Q (.ref (s.heap.objs.size + 1)) { s with heap := h' }) :
    wpAny (model prog w) A (call (.type "enumerate") [v]) Q E s := by
  refine callType_new F.called_enumerate (by decide) (F.typeCall_enumerate_1 _) (F.newCall_enumerate_1 _) (fun obj => F.args_object_init_2 obj _) F.entry_enumerate_new (meets_enum1 B) ⟨h1, ?_⟩
  have hz : (s.heap.push o).objs.size = s.heap.objs.size + 1 := Heap.size_push ..
  show _ ∧ _
  rw [hz]
  have he : IsEnum ((s.heap.push o).push { cls := .type "enumerate", data := .fields #[.none, .bool false, .ref s.heap.objs.size, rawInt 0, .none, .none] }) (s.heap.objs.size + 1) s.heap.objs.size 0 .none := by
    have q := Heap.get?_push_size (s.heap.push o) (o := { cls := .type "enumerate", data := .fields #[.none, .bool false, .ref s.heap.objs.size, rawInt 0, .none, .none] }) rfl
    rw [hz] at q
    exact q
  exact ⟨⟨_, he, rfl⟩, h _ he (Heap.get?_push_of_some _ (Heap.get?_push_size _ B.free)) (by rw [Heap.size_push, hz]) fun b o x => Heap.get?_push_of_some _ (Heap.get?_push_of_some _ x)⟩
/-- the turns: the tuple at a stands, each item in a new pair -/
def ItE (K : PySem.W.Frag) (a : Addr) : It where
  go := fun i H => ∃ (xs : List V) (x : V), SqT K H a xs ∧ xs[i]? = some x
  yld := fun i H v H' => ∃ T x, v = .ref T ∧ H T = none ∧ H' = upd H T (.tup [.int (i : Nat), x]) ∧ ∀ xs, SqT K H a xs → xs[i]? = some x
  stop := fun i H => ∃ xs : List V, SqT K H a xs ∧ xs.length = i
theorem turn_enumT {P : Program} {w : World} {K : PySem.W.Frag} {elts : List Expr} {kk : Nat} {tpos : Pos} (a e it : Addr) :
    Turn P w K (.Tuple elts kk tpos) (ItE K a) [e, it] e (fun i h => (∃ old, IsEnum h e it ((i : Nat) : Int) old) ∧ h.IsTupleIter it a i ∧ e ≠ it ∧ a ≠ it ∧ e ≠ a) := by
  refine ⟨by simp, fun i h st b hb => ?_, fun i h h' st k => ?_, ?_, ?_, fun A i s Q E st h => ?_⟩
  · obtain ⟨⟨old, he⟩, ⟨o, ho, hc, hd⟩, _⟩ := st
    rcases (show b = e ∨ b = it by simpa using hb) with rfl | rfl
    · exact ⟨_, he, fun v q => nomatch q⟩
    · exact ⟨o, ho, fun v q => by rw [hd] at q; cases q⟩
  · obtain ⟨⟨old, he⟩, hi, n1, n2, n3⟩ := st
    exact ⟨⟨old, k e (by simp) _ he⟩, hi.at fun o q => k it (by simp) o q, n1, n2, n3⟩
  · rintro X rfl rfl rfl hc i pins s σ H E I hf ⟨⟨old, he⟩, hit, n1, n2, n3⟩ ⟨xs, x, hq, hx⟩
    obtain ⟨its, rv, p, hz⟩ := I.tuple hq
    obtain ⟨u, hu, ru⟩ := rv.get hx
    have hel : e < s.heap.objs.size := Heap.lt_size he
    have hil : it < s.heap.objs.size := by
      obtain ⟨_, q, _⟩ := hit
      exact Heap.lt_size q
    have hlt : i < its.toArray.size := by
      have := (List.getElem?_eq_some_iff.mp hu).1
      simpa using this
    refine wpAny_pyNext_enum_itemD (Draws.tuple (A := X.A.in1) (I.ok.hd hc) it a n2 its.toArray) he ⟨hit, show s.heap.IsTuple a its.toArray from p⟩ hlt n1 (by simp [n1, n3]) fun y h1 tk hy ho hit1 hT hsz hk => ?_
    have ey : y = u := by
      have hy : its.toArray[i]? = some y := hy
      rw [show its.toArray[i]? = its[i]? by simp, hu] at hy
      exact (Option.some.inj hy).symm
    subst ey
    refine ⟨_, rfl, wpAny_letOwnedTupleGo_enum (s := { s with heap := h1, toks := tk + 1 }) ho fun h2 he2 sb => ?_⟩
    have hT2 : h2.get? s.heap.objs.size = some { cls := .type "tuple", data := .seq #[.int i tk, y] } := (sb.2 _ (Nat.ne_of_gt hel)).trans hT
    have new : ObjOk X.prog X.w (upd H s.heap.objs.size (.tup [.int (i : Nat), x])) h2 s.heap.objs.size (.tup [.int (i : Nat), x]) := ⟨maxLen_ok (show 2 ≤ maxLen by decide), [.int i tk, y], .cons ⟨_, rfl⟩ (.cons ru .nil), ⟨_, hT2, rfl, _, rfl⟩⟩
    have I1 : L2.Inv X pins σ (upd H s.heap.objs.size (.tup [.int (i : Nat), x])) { s with heap := h2, toks := tk + 1 } := I.turnedNew (ch := [e, it]) (fun b ob hb q => (sb.2 b fun z => hb (by simp [z])).trans (hk b ob (fun z => hb (by simp [z])) (fun z => hb (by simp [z])) q)) hf (Nat.le_refl _) new
    refine ⟨.ref s.heap.objs.size, _, I1, rfl, ⟨_, x, rfl, I.hok.fresh (Nat.le_refl _), rfl, fun ys hy => by rw [I.tuple_inj hy hq]; exact hx⟩, ⟨⟨y, ?_⟩, hit1.1.at fun o q => (sb.2 it (Ne.symm n1)).trans q, n1, n2, n3⟩, fun b hb => ?_⟩
    · rw [show ((i + 1 : Nat) : Int) = (i : Int) + 1 by omega]
      exact he2
    · have hb' : b < s.heap.objs.size := by
        rcases (show b = e ∨ b = it by simpa using hb) with rfl | rfl
        · exact hel
        · exact hil
      rw [upd_ne (Nat.ne_of_lt hb')]
      exact (hf b hb).1
  · rintro X rfl rfl rfl hc i pins s σ H E I hf ⟨⟨old, he⟩, hit, n1, n2, n3⟩ ⟨xs, hq, hx⟩
    obtain ⟨its, rv, p, hz⟩ := I.tuple hq
    obtain ⟨f0, f1, f2, f3, f4, f5⟩ := hf it (by simp)
    have hl : its.toArray.size = i := by
      rw [List.size_toArray, ← rv.length]
      exact hx
    refine wpAny_pyNext_enum_endD (Draws.tuple (A := X.A.in1) (I.ok.hd hc) it a n2 its.toArray) he ⟨by rw [hl]; exact hit, show s.heap.IsTuple a its.toArray from p⟩ fun h1 eb => ⟨rfl, I.turned (t' := s.toks) (fun b o hb q => eb b o hb q) f0 f1 f3 f4 f5⟩
  · obtain ⟨⟨_, he⟩, _⟩ := st
    exact wpAny_pyIter_enum he h
def iEnT (K : PySem.W.Frag) (ta : TA) : TI := fun σ H R => ta σ H fun vs H1 => ∃ a xs, vs = [.ref a] ∧ SqT K H1 a xs ∧ R (ItE K a) H1
section
variable {X : Cx} {a b c e : Expr} {es : List Expr} {fa fb fc f : FE} {pos : Pos}
theorem pi_enT {ta : TA} {p tpos : Pos} {elts : List Expr} {kk : Nat} (hg : Gl X "enumerate") (hm : X.mg "enumerate" = none) (ha : PA X [e] ta) (hs : starEach [e] X.env = [(false, eval e X.env)] := by rfl) :
    PI X (.Tuple elts kk tpos) (.Call (.Name "enumerate" p) [e] [] pos) (iEnT X.K ta) := by
  refine ⟨fun pins s σ H R I h => ?_⟩
  refine Call_ (ld_blt I hg hm boot_enumerate (PyProof.Rows.callWith_type1 (thn (ha.run pos pins s σ H _ I h) fun us s1 ⟨vs, H1, I1, r1, q1⟩ => ?_) hs rfl))
  obtain ⟨a, xs, rfl, hq, q⟩ := q1
  rw [Vals.ref1 r1]
  obtain ⟨its, rv, p', hz⟩ := I1.tuple hq
  have hlt : a < s1.heap.objs.size := by
    obtain ⟨o, ho, _⟩ := p'
    exact Heap.lt_size ho
  refine call_enum1 (begins_tuple a its.toArray) (show s1.heap.IsTuple a its.toArray from p') fun h1 he hit hsz hk => wpAny_pyIter_enum he ?_
  refine ⟨s1.heap.objs.size + 1, [s1.heap.objs.size + 1, s1.heap.objs.size], _, _, H1, rfl, I1.kept (h' := h1) (t' := s1.toks) hk, turn_enumT a (s1.heap.objs.size + 1) s1.heap.objs.size, ⟨⟨.none, he⟩, ⟨_, hit, rfl, rfl⟩, Nat.succ_ne_self _, Nat.ne_of_lt hlt, Nat.ne_of_gt (Nat.lt_succ_of_lt hlt)⟩, fun b hb => ?_, q⟩
  have hle : s1.heap.objs.size ≤ b := by
    rcases (show b = s1.heap.objs.size + 1 ∨ b = s1.heap.objs.size by simpa using hb) with z | z
    · rw [z]; exact Nat.le_succ _
    · rw [z]; exact Nat.le_refl _
  exact I1.fpOk hle (I1.hok.fresh hle)
/-- the pairs (i, x) -/
def enD (ds : List D) : List D := (List.range ds.length).zipWith (fun (i : Nat) d => D.tuple [.int (i : Int), d]) ds
theorem enD_len (ds : List D) : (enD ds).length = ds.length := by simp [enD]
theorem enD_get {ds : List D} {i : Nat} {d : D} (h : (enD ds)[i]? = some d) : ∃ e, ds[i]? = some e ∧ d = .tuple [.int (i : Int), e] := by
  have hl : i < ds.length := by
    have := (List.getElem?_eq_some_iff.mp h).1
    rwa [enD_len] at this
  refine ⟨ds[i], List.getElem?_eq_getElem hl, ?_⟩
  have e1 : (enD ds)[i]? = some (.tuple [.int (i : Int), ds[i]]) := by
    unfold enD
    rw [List.getElem?_zipWith]
    simp [hl]
  rw [e1] at h
  exact (Option.some.inj h).symm
def fEn (f : FE) : FA := fun env x => match f env x with
  | some (.list ds, x1) => some (enD ds, x1)
  | some (.tuple ds, x1) => some (enD ds, x1)
  | _ => none
theorem si_en {p tpos : Pos} {elts : List Expr} {kk : Nat} (hg : Gl X "enumerate") (hm : X.mg "enumerate" = none) (ha : SE X a fa) (hs : starEach [a] X.env = [(false, eval a X.env)] := by rfl) : SI X (.Tuple elts kk tpos) (.Call (.Name "enumerate" p) [a] [] pos) (fEn fa) := by
  refine ⟨⟨fun pins s σ H R I h2 => ?_⟩⟩
  obtain ⟨g, O, env, x, ds, x', S, e, k⟩ := h2
  unfold fEn at e
  split at e
  · rename_i ds' x1 e1
    cases e
    refine (pi_enum hg hm (pa_cons ha.out pa_nil hs) hs).run pins s σ H R I ⟨g, O, env, x, _, x', S, e1, fun v H1 S1 l1 r1 => ?_⟩
    cases r1 with
    | @lst p xs _ np hp rx =>
      refine ⟨p, xs, rfl, .of hp, k _ [(.ref p, .list ds')] H1 (S1.addg _ fun q hq => ?_) l1 fun O2 σ2 H2 env2 x2 i S2 => ?_⟩
      · rw [List.mem_singleton] at hq
        subst hq
        exact .lst np hp rx
      · have q := S2.gh (.ref p, .list ds') (by simp [FG.add])
        cases q with
        | @lst _ ys _ np2 hp2 ry =>
          refine ⟨fun d hd => ?_, fun hi => ⟨ys, .of hp2, by rw [ry.length, hi, enD_len]; exact Nat.le_refl _⟩⟩
          obtain ⟨d0, hd0, rfl⟩ := enD_get hd
          obtain ⟨y, e2, r2⟩ := ry.get hd0
          refine ⟨⟨ys, y, .of hp2, e2⟩, fun v H' hy => ?_⟩
          obtain ⟨T, x3, rfl, hT, rfl, hy⟩ := hy
          have e3 := hy ys (.of hp2)
          rw [e2] at e3
          cases e3
          have sm := same_upd (o := .tup [.int (i : Nat), y]) hT
          exact ⟨sm, .tup (S2.notO hT) upd_same (.cons (.int _) (.cons (r2.move (.of sm) .refl) .nil))⟩
  · rename_i ds' x1 e1
    cases e
    refine (pi_enT hg hm (pa_cons ha.out pa_nil hs) hs).run pins s σ H R I ⟨g, O, env, x, _, x', S, e1, fun v H1 S1 l1 r1 => ?_⟩
    cases r1 with
    | @tup p xs _ np hp rx =>
      refine ⟨p, xs, rfl, .of hp, k _ [(.ref p, .tuple ds')] H1 (S1.addg _ fun q hq => ?_) l1 fun O2 σ2 H2 env2 x2 i S2 => ?_⟩
      · rw [List.mem_singleton] at hq
        subst hq
        exact .tup np hp rx
      · have q := S2.gh (.ref p, .tuple ds') (by simp [FG.add])
        cases q with
        | @tup _ ys _ np2 hp2 ry =>
          refine ⟨fun d hd => ?_, fun hi => ⟨ys, .of hp2, by rw [ry.length, hi, enD_len]⟩⟩
          obtain ⟨d0, hd0, rfl⟩ := enD_get hd
          obtain ⟨y, e2, r2⟩ := ry.get hd0
          refine ⟨⟨ys, y, .of hp2, e2⟩, fun v H' hy => ?_⟩
          obtain ⟨T, x3, rfl, hT, rfl, hy⟩ := hy
          have e3 := hy ys (.of hp2)
          rw [e2] at e3
          cases e3
          have sm := same_upd (o := .tup [.int (i : Nat), y]) hT
          exact ⟨sm, .tup (S2.notO hT) upd_same (.cons (.int _) (.cons (r2.move (.of sm) .refl) .nil))⟩
  · cases e
end
end RT

namespace RT
open PySem PySem.Spec PyProof.Rows L2 PpSet
/-! ### dict comprehensions -/
def dcL (gt : FGt) (t : FT) (fk fv : FE) (env : FEn) : List D → List (D × D) → FRow → Option (List (D × D) × FRow)
  | [], acc, x => some (acc, x)
  | d :: ds, acc, x => match gt d env with
    | none => none
    | some e1 => match t e1 x with
      | some (true, x1) => match fk e1 x1 with
        | some (k, x2) => match dKey k with
          | some q => match fv e1 x2 with
            | some (v, x3) => if acc.length < maxLen then dcL gt t fk fv env ds (putD dKey acc k q v) x3 else none
            | none => none
          | none => none
        | none => none
      | some (false, x1) => dcL gt t fk fv env ds acc x1
      | none => none
def xDc (f : FA) (gt : FGt) (t : FT) (fk fv : FE) (vs : List Nat) : FX := fun env x => match f env x with
  | some (ds, x1) => match dcL gt t fk fv (wipeE env vs) ds [] x1 with
    | some (r, x2) => some (.ow (.dk r), x2)
    | none => none
  | none => none
theorem dc_read {ω : World} {K : PySem.W.Frag} {f : FA} {gt : FGt} {t : FT} {fk fv : FE} {vs : List Nat} {σ : L2.St} {H : Hp} {Q : VK} (h : tX ω K (xDc f gt t fk fv vs) σ H Q) : tDc (tI ω K f) (tG ω K vs gt) (tT ω K t) (tE ω K fk) (tE ω K fv) vs σ H Q := by
  obtain ⟨g, O, env, x, sl, x', S, e, k⟩ := h
  unfold xDc at e
  split at e
  · rename_i ds x1 e1
    split at e
    · rename_i rs x2 e2
      cases e
      refine ⟨g, O, env, x, ds, x1, S, e1, fun J more H1 S1 l1 wk p hp => ?_⟩
      have n1 := S1.newp hp
      have hp0 : Gone H p := Le.gone l1 (.of hp) S1.unadd
      have hne : ∀ (j : Nat) d b, env[j]? = some d → isOwn d = true → σ[j]? = some (some (.ref b)) → b ≠ p := fun j d b h1 h0 h2 => own_ne2 S1 (.of hp) h1 h0 h2
      refine ⟨fun i m H2 => m = ds.length - i ∧ i ≤ ds.length ∧ Le g H H2 ∧ ∃ x kvs acc, FSt ω K (g.add more) (oAdd O p) σ H2 env x ∧ H2 p = some (.dK kvs) ∧ RpK K (oAdd O p) H2 kvs acc ∧ dcL gt t fk fv (wipeE env vs) (ds.drop i) acc x = some (rs, x'),
        ⟨_, rfl, Nat.zero_le _, l1.trans (.of (same_upd hp)), x1, [], [], S1.own hp True.intro, upd_same, .nil, e2⟩, fun i m H2 hW => ?_⟩
      obtain ⟨rfl, hil, lH, x, kvs, acc, S2, hacc, racc, e⟩ := hW
      obtain ⟨wgo, wst⟩ := wk _ σ H2 env x i S2
      by_cases hlt : i < ds.length
      · have hd : ds[i]? = some ds[i] := List.getElem?_eq_getElem hlt
        obtain ⟨go, yl⟩ := wgo _ hd
        rw [drop_get hd] at e
        refine .inr ⟨go, fun H2 => i + 1 ≤ ds.length ∧ Le g H H2 ∧ ∃ x kvs acc, FSt ω K (g.add more) (oAdd O p) σ H2 env x ∧ H2 p = some (.dK kvs) ∧ RpK K (oAdd O p) H2 kvs acc ∧ dcL gt t fk fv (wipeE env vs) (ds.drop (i + 1)) acc x = some (rs, x'),
          fun H' hN => ⟨ds.length - (i + 1), by omega, rfl, hN.1, hN.2⟩, fun v H3 hy => ?_⟩
        obtain ⟨sm, rv⟩ := yl v H3 hy
        unfold dcL at e
        split at e
        · cases e
        · rename_i env1 e3
          have S3 := S2.same sm
          refine ⟨g.add more, oAdd O p, wipeE env vs, x, ds[i], env1, S3.wiped vs, rv, e3, fun σ1 w1 S4 => ⟨w1.trans (wipe_wipe σ vs), ?_⟩⟩
          split at e
          · rename_i xb e4
            split at e
            · rename_i kd x3 e5
              split at e
              · rename_i q e6
                split at e
                · rename_i vd x4 e7
                  split at e
                  · rename_i hl
                    refine ⟨g.add more, oAdd O p, env1, x, _, xb, S4, e4, fun H5 S5 l5 => ?_⟩
                    refine iteT ?_
                    refine ⟨g.add more, oAdd O p, env1, xb, kd, x3, S5, e5, fun y H6 S6 l6 r6 => ⟨g.add more, oAdd O p, env1, x3, vd, x4, S6, e7, fun z H7 S7 l7 r7 => ?_⟩⟩
                    have l8 : Le (g.add more) H2 H7 := (Le.of sm).trans (l5.trans (l6.trans l7))
                    have S8 := S2.step l8 S7.tb fun r hr => (S7.row r hr).2.2
                    have hacc' := l8 p _ n1.2 hacc rfl
                    refine ⟨kvs, q, dKey_rp e6 r6, hacc', by rw [racc.length]; exact maxLen_lt hl, hlt, ?_, x4, _, _, S8.upd1 hacc' notC_dK (.inr rfl) n1.1 n1.2 True.intro hne, upd_same, ?_, e⟩
                    · intro c u hR e tn
                      have z : c ≠ p := fun z => by rw [z] at e; exact hp0.no e tn
                      rw [upd_ne z]
                      exact l8 c u hR (lH c u hR e tn) tn
                    · have ek := dKey_ok e6
                      subst ek
                      exact (RpK.put (racc.move (S2.keep l8) .refl) r7).move (keep_own S8 (.inr rfl)) .refl
                  · cases e
                · cases e
              · cases e
            · cases e
          · rename_i xb e4
            refine ⟨g.add more, oAdd O p, env1, x, _, xb, S4, e4, fun H5 S5 l5 => ?_⟩
            refine iteF ?_
            have l7 : Le (g.add more) H2 H5 := (Le.of sm).trans l5
            have S7 := S2.step l7 S5.tb fun r hr => (S5.row r hr).2.2
            exact ⟨hlt, fun c u hR e tn => l7 c u hR (lH c u hR e tn) tn, xb, kvs, acc, S7, l7 p _ n1.2 hacc rfl, racc.move (S2.keep l7) .refl, e⟩
          · cases e
      · have hi : i = ds.length := by omega
        rw [hi, List.drop_length] at e
        unfold dcL at e
        cases e
        refine .inl ⟨wst hi, k (oAdd O p) _ H2 S2.unadd lH (fun a z => z.elim .inl fun e => .inr (e ▸ hp0)) (fun a z => .inl z) (.ow (.inr rfl) n1.1 n1.2 ⟨kvs, hacc, racc⟩) fun d z => ⟨p, rfl, hp0⟩⟩
    · cases e
  · cases e
section
variable {X : Cx} {a b c e : Expr} {es : List Expr} {fa fb fc f : FE} {pos : Pos}
theorem sx_dc {kx vx tg iter : Expr} {ifs : List Expr} {scope : Scope} {own : List (Str × Nat)} {f : FA} {gt : FGt} {t : FT} {fk fv : FE} (hc : X.calm = true) (hN : X.N.Nodup) (hi : SI X tg iter f) (ok : BlkOk X.N X.env.scope scope own)
    (hg : ∀ (s : Shared) (H : Hp) (C : Addr) (cl : List (Str × Addr)) (fp : List Addr), SG (X.blk s H scope (compEnvC scope cl C X.env) fp) tg (own.map (·.2)) gt)
    (ht : ∀ (s : Shared) (H : Hp) (C : Addr) (cl : List (Str × Addr)) (fp : List Addr), STs (X.blk s H scope (compEnvC scope cl C X.env) fp) ifs t)
    (hk : ∀ (s : Shared) (H : Hp) (C : Addr) (cl : List (Str × Addr)) (fp : List Addr), SE (X.blk s H scope (compEnvC scope cl C X.env) fp) kx fk)
    (he : ∀ (s : Shared) (H : Hp) (C : Addr) (cl : List (Str × Addr)) (fp : List Addr), SE (X.blk s H scope (compEnvC scope cl C X.env) fp) vx fv) (hs : ∀ x, foldedSetIterable iter X.env x = pure x := by intro _; rfl) :
    SX X (.DictComp kx vx [⟨tg, iter, ifs, 0⟩] scope pos) (xDc f gt t fk fv (own.map (·.2))) :=
  ⟨PEw (pe_dc hc hN hi.out ok (fun s H C cl fp => (show PG _ tg (tG X.w X.K (own.map (·.2)) gt) from (hg s H C cl fp).out)) (fun s H C cl fp => (show PTs _ ifs (tT X.w X.K t) from (ht s H C cl fp).out)) (fun s H C cl fp => (show PE _ kx (tE X.w X.K fk) from (hk s H C cl fp).out)) (fun s H C cl fp => (show PE _ vx (tE X.w X.K fv) from (he s H C cl fp).out)) hs) fun σ H Q h => dc_read h⟩
end
/-! ### sets of ints -/
def SetIO (w : World) (a : Addr) (M : Int → Bool) (n : Nat) : HO := .ext fun h => SetR w h a M n
theorem setR_move {w : World} {h h' : Heap} {a : Addr} {M : Int → Bool} {n : Nat} (R : SetR w h a M n) (k : ∀ o, h.get? a = some o → h'.get? a = some o) : SetR w h' a M n := by
  obtain ⟨o, es, ep, t, ho, r⟩ := R
  exact ⟨o, es, ep, t, k o ho, r⟩
theorem notC_set {w : World} {a : Addr} {M : Int → Bool} {n : Nat} : ¬ IsC (SetIO w a M n) := not_code fun h R => by
  obtain ⟨o, es, ep, t, ho, _, hd, _⟩ := R
  exact ⟨a, o, ho, fun vs z => by rw [z] at hd; cases hd⟩
theorem setIO_ok {w : World} {P : Program} {H : Hp} {h : Heap} {a : Addr} {M : Int → Bool} {n : Nat} (R : SetR w h a M n) : ObjOk P w H h a (SetIO w a M n) := by
  refine ⟨R, ?_, fun h1 h2 p k => setR_move p k⟩
  obtain ⟨o, _, _, _, ho, _⟩ := R
  exact ⟨o, ho⟩
section
variable {X : Cx} {elt tg iter : Expr} {ifs : List Expr} {scope : Scope} {own : List (Str × Nat)} {pos : Pos} {wi : TI} {g : TG} {tt : TT} {te : TE}
theorem addI_ok {pins : List (Addr × Obj)} {σ : L2.St} {H : Hp} {s : Shared} {E : Value → Shared → Prop} {p : Addr} {M : Int → Bool} {n : Nat} {k : Int} {tk : Tok} {Q : Value → Shared → Prop} (I : L2.Inv X pins σ H s) (hp : H p = some (SetIO X.w p M n)) (room : n + 1 < scanBound)
    (h : ∀ s', L2.Inv X pins σ (upd H p (SetIO X.w p (fun j => M j || decide (j = k)) (if M k = true then n else n + 1))) s' → Q .none s') : wpAny (model X.prog X.w) X.A (call (.builtin "set.add") [.ref p, .int k tk]) Q E s := by
  have R : SetR X.w s.heap p M n := (I.hok p _ hp).1
  refine setR_add R room fun h1 sb new => h _ (I.write (e := p) (t' := s.toks + 1) (by rw [hp]; exact True.intro) (.inl rfl) (fun b u hb hu => (sb.2 b hb).trans hu) ?_ (setIO_ok new))
  obtain ⟨o, _, _, _, ho, _⟩ := new
  exact ⟨o, ho⟩
/-- {elt for .. in .. if ..}, elt an int -/
def tSi (w : World) (wi : TI) (g : TG) (tt : TT) (te : TE) (vs : List Nat) : TE := fun σ H Q => wi σ H fun J H1 => ∀ p, H1 p = none →
  ∃ W : Nat → Nat → Hp → Prop, (∃ m, W 0 m (upd H1 p (SetIO w p (fun _ => false) 0))) ∧ ∀ i m H, W i m H → (J.stop i H ∧ Q (.ref p) H) ∨
    (J.go i H ∧ ∃ Nx : Hp → Prop, (∀ H', Nx H' → ∃ m', m' < m ∧ W (i + 1) m' H') ∧ ∀ x H', J.yld i H x H' → g x (wipe σ vs) H' fun σ2 H2 => wipe σ2 vs = wipe σ vs ∧ tt σ2 H2 fun b H3 =>
      if b = true then te σ2 H3 fun y H4 => ∃ (k : Int) (M : Int → Bool) (n : Nat), y = .int k ∧ H4 p = some (SetIO w p M n) ∧ n + 1 < scanBound ∧ Nx (upd H4 p (SetIO w p (fun j => M j || decide (j = k)) (if M k = true then n else n + 1))) else Nx H3)
theorem pe_si (hc : X.calm = true) (hN : X.N.Nodup) (hi : PI X tg iter wi) (ok : BlkOk X.N X.env.scope scope own)
    (hg : ∀ (s : Shared) (H : Hp) (C : Addr) (cl : List (Str × Addr)) (fp : List Addr), PG (X.blk s H scope (compEnvC scope cl C X.env) fp) tg g)
    (ht : ∀ (s : Shared) (H : Hp) (C : Addr) (cl : List (Str × Addr)) (fp : List Addr), PTs (X.blk s H scope (compEnvC scope cl C X.env) fp) ifs tt)
    (he : ∀ (s : Shared) (H : Hp) (C : Addr) (cl : List (Str × Addr)) (fp : List Addr), PE (X.blk s H scope (compEnvC scope cl C X.env) fp) elt te)
    (hs : ∀ x, foldedSetIterable iter X.env x = pure x := by intro _; rfl) : PE X (.SetComp elt [⟨tg, iter, ifs, 0⟩] scope pos) (tSi X.w wi g tt te (own.map (·.2))) := by
  refine ⟨fun pins s σ H Q I h => ?_⟩
  rw [eval_SetComp]
  have clo : ∀ y ∈ scope.names, y.2 = .free → ∃ c, X.env.cells.lookup y.1 = some c := fun y hy e => (ok.free y hy e).elim (fun k => I.ok.has _ (.inl k)) fun k => I.ok.has _ (.inr k)
  refine wpAny_comprehension_free (use := none) rfl hs (closure_ok clo) ok.kind (fun y hy e => by rw [ok.uniq y hy, e]) (thn (hi.run pins s σ H _ I h) fun xv s1 hx => thn hx fun itv s2 h2 => ?_)
  obtain ⟨it, fp, tn, J, H2, rfl, I2, T, st2, f2, q⟩ := h2
  refine newSet_ok (newEnv_comp ?_)
  -- the empty set, laid and tracked
  let eo : Obj := { cls := .type "set", dict := none, data := .set #[] 0 (.fresh 0 0 (!X.w.params.followText "set-order")) }
  let p : Addr := s2.heap.objs.size
  have hpn : H2 p = none := I2.hok.fresh (Nat.le_refl _)
  obtain ⟨W, ⟨m0, w0⟩, turn⟩ := q p hpn
  let s3 : Shared := { s2 with heap := s2.heap.push eo }
  let H3 : Hp := upd H2 p (SetIO X.w p (fun _ => false) 0)
  have I3 : L2.Inv X pins σ H3 s3 := I2.laid (t' := s2.toks) (fun b o e => Heap.get?_push_of_some _ e) (Nat.le_refl _) (setIO_ok (setR_fresh X.w))
  have low : ∀ b ∈ fp, b < s2.heap.objs.size := fun b hb => let ⟨_, e, _⟩ := T.obj _ _ st2 b hb; Heap.lt_size e
  have f3 : ∀ b ∈ fp, FpOk X pins H3 b ∧ b < s3.heap.objs.size := fun b hb => by
    have hlt := low b hb
    refine ⟨⟨?_, (f2 b hb).2⟩, by show b < (s2.heap.push eo).objs.size; rw [Heap.size_push]; exact Nat.lt_succ_of_lt hlt⟩
    show upd H2 p _ b = none
    rw [upd_ne (show b ≠ p from Nat.ne_of_lt hlt)]
    exact (f2 b hb).1
  have st3 : tn 0 s3.heap := T.keep _ _ _ st2 fun b _ o e => Heap.get?_push_of_some _ e
  have I4 := block_start I3 ok hN f3
  have pg := hg s3 H3 s3.heap.objs.size (cellsFrom (s3.heap.objs.size + 1) scope.names (cloFrom X.env.cells scope.names [])) fp
  have pt := ht s3 H3 s3.heap.objs.size (cellsFrom (s3.heap.objs.size + 1) scope.names (cloFrom X.env.cells scope.names [])) fp
  have pe := he s3 H3 s3.heap.objs.size (cellsFrom (s3.heap.objs.size + 1) scope.names (cloFrom X.env.cells scope.names [])) fp
  have nfp : ∀ b ∈ fp, H3 b = none := fun b hb => (f3 b hb).1.1
  have w0 : W 0 m0 H3 := w0
  clear_value H3
  show codeAny (model X.prog X.w) X.A (.compStart (.SetComp elt [⟨tg, iter, ifs, 0⟩] scope pos) 0 (.ref it) (.ref p) (compEnvC scope (cellsFrom (s3.heap.objs.size + 1) scope.names (cloFrom X.env.cells scope.names [])) s3.heap.objs.size X.env)) (compPost (model X.prog X.w) X.A X.xe none (EP X pins σ Q) (.ref p) s3.heap.objs.size) { s3 with heap := pushCells (s3.heap.push { cls := .type "dict", data := .dict #[] }) scope.names }
  generalize hce : compEnvC scope (cellsFrom (s3.heap.objs.size + 1) scope.names (cloFrom X.env.cells scope.names [])) s3.heap.objs.size X.env = ce at I4 pg pt pe ⊢
  have cL : ce.locals = s3.heap.objs.size := by rw [← hce] <;> rfl
  generalize hs4 : ({ s3 with heap := pushCells (s3.heap.push { cls := .type "dict", data := .dict #[] }) scope.names } : Shared) = s4 at I4 ⊢
  have st4 : tn 0 s4.heap := T.keep _ _ _ st3 fun b _ o e => by rw [← hs4]; exact pushCells_keeps _ _ _ _ (Heap.get?_push_of_some _ e)
  have stat : ∀ {σ' : L2.St} {H' : Hp} {s' : Shared}, L2.Inv (X.blk s3 H3 scope ce fp) [] σ' H' s' → (∀ b ∈ fp, H' b = none) → ∀ b ∈ fp, FpOk (X.blk s3 H3 scope ce fp) [] H' b := fun {σ' H' s'} I' hn b hb =>
    ⟨hn b hb, (I'.ok.exf b hb).1, I'.ok.exfs b hb, .inl hb, fun x c e => (I'.ok.exf b hb).2 x c e, fun r hr => absurd (show r ∈ ([] : List (Addr × Obj)) ++ [] from hr) (by simp)⟩
  refine codeAny_compStart_set ?loop (T.self X.A 0 _ _ _ st4 ?loop)
  refine compLoopS_any (fun n s' => ∃ i H', L2.Inv (X.blk s3 H3 scope ce fp) [] (wipe σ (own.map (·.2))) H' s' ∧ tn i s'.heap ∧ (∀ b ∈ fp, H' b = none) ∧ W i n H') ?_ m0 ⟨0, H3, I4, st4, nfp, w0⟩
  rintro n s5 ⟨i, H5, I5, st5, n5, w5⟩
  rcases turn i n H5 w5 with ⟨stop, qq⟩ | ⟨go, Nx, hNx, step⟩
  · refine thnF (T.done (X.blk s3 H3 scope ce fp) rfl rfl rfl hc i [] s5 _ H5 (fun _ _ => False) I5 (stat I5 n5) st5 stop) fun r s6 ⟨hr, I6⟩ => ?_
    subst hr
    have I7 : L2.Inv X pins σ H5 s6 := I3.call' (ch := fp) I6.os I6.base I6.hok I6.bare fun b hb =>
      let ⟨_, a1, _, a3, a4, a5⟩ := (f3 b hb).1
      ⟨a3, a1, a4, a5⟩
    have nC : H5 s3.heap.objs.size = none := cL ▸ I6.free
    obtain ⟨m, hn, _⟩ := I6.loc
    have hn : s6.heap.Ns s3.heap.objs.size m := cL ▸ hn
    obtain ⟨a0, a1, a2, a3, a4, a5⟩ := I3.fpOk (H' := H5) (Nat.le_refl _) nC
    exact ⟨m, hn, fun h9 sb => ⟨.ref p, H5, I7.turned (t' := s6.toks) (fun b o hb e => (sb.2 b hb).trans e) a0 a1 a3 a4 a5, rfl, qq⟩⟩
  · refine thnF (T.item (X.blk s3 H3 scope ce fp) rfl rfl rfl hc i [] s5 _ H5 (fun _ _ => False) I5 (stat I5 n5) st5 go) fun r s6 ⟨u, hr, h6⟩ => ?_
    subst hr
    refine thnF h6 fun _ s7 ⟨x, H7, I7, r7, y7, st7, n7⟩ => ?_
    refine thnF (pg.run _ s7 _ H7 x u _ (I7.pinned (stat I7 n7) (T.obj _ _ st7)) r7 (step x H7 y7)) fun _ s8 ⟨σ8, H8, I8, hw8, q8⟩ => ?_
    refine thnF (pt.run _ s8 σ8 H8 _ I8 q8) fun b s9 ⟨H9, I9, q9⟩ => ?_
    have fin : ∀ {s' : Shared} {H' : Hp}, L2.Inv (X.blk s3 H3 scope ce fp) ([] ++ pinsAt fp s7.heap) σ8 H' s' → Nx H' → ∃ m, m < n ∧ ∃ i H', L2.Inv (X.blk s3 H3 scope ce fp) [] (wipe σ (own.map (·.2))) H' s' ∧ tn i s'.heap ∧ (∀ b ∈ fp, H' b = none) ∧ W i m H' := fun {s' H'} I' nx => by
      obtain ⟨m', hm, w'⟩ := hNx H' nx
      have stays : ∀ b ∈ fp, ∀ o, s7.heap.get? b = some o → s'.heap.get? b = some o ∧ H' b = none := fun b hb o e => by
        obtain ⟨z1, z2, _⟩ := I'.pin (b, o) (List.mem_append_right _ (List.mem_append_right _ (mem_pinsAt hb e)))
        exact ⟨z1, z2⟩
      refine ⟨m', hm, i + 1, H', (I'.unpinned (pins := [])).weak (by rw [← hw8, wipe_length]) fun j v e => ?_, T.keep _ _ _ st7 fun b hb o e => (stays b hb o e).1, fun b hb => ?_, w'⟩
      · rw [← hw8] at e
        exact (wipe_some e).1
      · obtain ⟨o, e, _⟩ := T.obj _ _ st7 b hb
        exact (stays b hb o e).2
    cases b with
    | false =>
      rw [if_neg Bool.false_ne_true] at q9 ⊢
      exact fin I9 q9
    | true =>
      rw [if_pos rfl] at q9 ⊢
      refine thnF (pe.run _ s9 σ8 H9 _ I9 q9) fun z s10 ⟨yv, H10, I10, r10, k, M, n0, ey, h11, hz, nx⟩ => ?_
      subst ey
      obtain ⟨tk, rfl⟩ := (show ∃ t, z = Value.int k t from r10)
      exact addI_ok (X := X.blk s3 H3 scope ce fp) I10 h11 hz fun s11 I11 => fin I11 nx
end
/-- without doubles, in the order of their coming -/
def nubI (ns : List Int) : List Int := ns.foldl (fun acc k => if k ∈ acc then acc else acc ++ [k]) []
theorem nubI_snoc (ns : List Int) (k : Int) : nubI (ns ++ [k]) = if k ∈ nubI ns then nubI ns else nubI ns ++ [k] := by
  unfold nubI
  rw [List.foldl_append]
  rfl
theorem nub_fold : ∀ (ns acc : List Int), acc.Nodup → (ns.foldl (fun acc k => if k ∈ acc then acc else acc ++ [k]) acc).Nodup ∧ ∀ k, k ∈ ns.foldl (fun acc k => if k ∈ acc then acc else acc ++ [k]) acc ↔ k ∈ acc ∨ k ∈ ns
  | [], acc, h => ⟨h, fun k => by simp⟩
  | n :: ns, acc, h => by
    rw [List.foldl_cons]
    by_cases q : n ∈ acc
    · rw [if_pos q]
      obtain ⟨h1, h2⟩ := nub_fold ns acc h
      refine ⟨h1, fun k => ?_⟩
      rw [h2 k, List.mem_cons]
      constructor
      · rintro (z | z)
        · exact .inl z
        · exact .inr (.inr z)
      · rintro (z | z | z)
        · exact .inl z
        · exact .inl (z ▸ q)
        · exact .inr z
    · rw [if_neg q]
      have hn : (acc ++ [n]).Nodup := by
        rw [List.nodup_append]
        refine ⟨h, by simp, fun a ha b hb => ?_⟩
        rw [List.mem_singleton] at hb
        subst hb
        exact fun z => q (z ▸ ha)
      obtain ⟨h1, h2⟩ := nub_fold ns (acc ++ [n]) hn
      refine ⟨h1, fun k => ?_⟩
      rw [h2 k, List.mem_cons, List.mem_append, List.mem_singleton]
      constructor
      · rintro ((z | z) | z)
        · exact .inl z
        · exact .inr (.inl z)
        · exact .inr (.inr z)
      · rintro (z | z | z)
        · exact .inl (.inl z)
        · exact .inl (.inr z)
        · exact .inr z
theorem nubI_nd (ns : List Int) : (nubI ns).Nodup := (nub_fold ns [] .nil).1
theorem nubI_mem (ns : List Int) (k : Int) : k ∈ nubI ns ↔ k ∈ ns := by
  have h := (nub_fold ns [] .nil).2 k
  unfold nubI
  rw [h]
  simp
theorem nub_len : ∀ (ns acc : List Int), (ns.foldl (fun acc k => if k ∈ acc then acc else acc ++ [k]) acc).length ≤ acc.length + ns.length
  | [], acc => Nat.le_refl _
  | n :: ns, acc => by
    rw [List.foldl_cons, List.length_cons]
    have h := nub_len ns (if n ∈ acc then acc else acc ++ [n])
    split at h <;> rename_i q
    · rw [if_pos q]; omega
    · rw [if_neg q]
      rw [List.length_append, List.length_singleton] at h
      omega
theorem le_nd_lt : ∀ {l : List Int}, l.Pairwise (· ≤ ·) → l.Nodup → l.Pairwise (· < ·)
  | [], _, _ => .nil
  | x :: l, h, nd => by
    have h' := List.pairwise_cons.mp h
    have n' := List.nodup_cons.mp nd
    exact List.pairwise_cons.mpr ⟨fun y hy => by
      have a := h'.1 y hy
      have b : x ≠ y := fun z => n'.1 (z ▸ hy)
      omega, le_nd_lt h'.2 n'.2⟩
/-- the set's list -/
def setI (ns : List Int) : List Int := sortI (nubI ns)
theorem setI_lt (ns : List Int) : (setI ns).Pairwise (· < ·) := le_nd_lt (sortI_sorted _) ((sortI_perm _).nodup_iff.mpr (nubI_nd ns))
theorem setI_mem (ns : List Int) (k : Int) : k ∈ setI ns ↔ k ∈ ns := by
  unfold setI
  rw [(sortI_perm _).mem_iff, nubI_mem]
theorem lt_uniq : ∀ {l m : List Int}, l.Pairwise (· < ·) → m.Pairwise (· < ·) → (∀ k, k ∈ l ↔ k ∈ m) → l = m
  | [], [], _, _, _ => rfl
  | [], y :: m, _, _, h => absurd ((h y).mpr List.mem_cons_self) (by simp)
  | x :: l, [], _, _, h => absurd ((h x).mp List.mem_cons_self) (by simp)
  | x :: l, y :: m, hl, hm, h => by
    have hl' := List.pairwise_cons.mp hl
    have hm' := List.pairwise_cons.mp hm
    have e : x = y := by
      have h1 := (h x).mp List.mem_cons_self
      have h2 := (h y).mpr List.mem_cons_self
      rcases List.mem_cons.mp h1 with e | e
      · exact e
      · rcases List.mem_cons.mp h2 with e2 | e2
        · exact e2.symm
        · have a := hm'.1 x e
          have b := hl'.1 y e2
          omega
    subst e
    rw [lt_uniq hl'.2 hm'.2 fun k => ?_]
    have hk := h k
    rw [List.mem_cons, List.mem_cons] at hk
    constructor
    · intro z
      rcases hk.mp (.inr z) with e | e
      · subst e
        have := hl'.1 k z
        omega
      · exact e
    · intro z
      rcases hk.mpr (.inr z) with e | e
      · subst e
        have := hm'.1 k z
        omega
      · exact e
abbrev FN := FEn → FRow → Option (List Int × FRow)
def tSet (K : PySem.W.Frag) (w : World) (fn : FN) : TE := fun σ H Q => ∃ g O env x ns x', FSt w K g O σ H env x ∧ fn env x = some (ns, x') ∧
  ∀ p H' M, FSt w K g (oAdd O p) σ H' env x' → Le g H H' → Gone H p → H' p = some (SetIO w p M (nubI ns).length) → (∀ k, M k = true ↔ k ∈ ns) → ns.length < 64 → Q (.ref p) H'
def nSet (f : FA) (gt : FGt) (t : FT) (fe : FE) (vs : List Nat) : FN := fun env x => match f env x with
  | some (ds, x1) => match compL gt t fe (wipeE env vs) ds x1 with
    | some (rs, x2) => match intsD rs with
      | some ns => if ns.length < 64 then some (ns, x2) else none
      | none => none
    | none => none
  | none => none
theorem set_read {K : PySem.W.Frag} {w : World} {f : FA} {gt : FGt} {t : FT} {fe : FE} {vs : List Nat} {σ : L2.St} {H : Hp} {Q : VK} (h : tSet K w (nSet f gt t fe vs) σ H Q) : tSi w (tI w K f) (tG w K vs gt) (tT w K t) (tE w K fe) vs σ H Q := by
  obtain ⟨g, O, env, x, ns, x', S, e, k⟩ := h
  unfold nSet at e
  split at e
  · rename_i ds x1 e1
    split at e
    · rename_i rs x2 e2
      split at e
      · rename_i ns' e0
        split at e
        · rename_i hl
          cases e
          refine ⟨g, O, env, x, ds, x1, S, e1, fun J more H1 S1 l1 wk p hp => ?_⟩
          have n1 := S1.newp hp
          have hp0 : Gone H p := Le.gone l1 (.of hp) S1.unadd
          have hne : ∀ (j : Nat) d b, env[j]? = some d → isOwn d = true → σ[j]? = some (some (.ref b)) → b ≠ p := fun j d b h1 h0 h2 => own_ne2 S1 (.of hp) h1 h0 h2
          refine ⟨fun i m H2 => m = ds.length - i ∧ i ≤ ds.length ∧ Le g H H2 ∧ ∃ x M dn rest rd, FSt w K (g.add more) (oAdd O p) σ H2 env x ∧ H2 p = some (SetIO w p M (nubI dn).length) ∧ (∀ k, M k = true ↔ k ∈ dn) ∧ compL gt t fe (wipeE env vs) (ds.drop i) x = some (rd, x') ∧ intsD rd = some rest ∧ dn ++ rest = ns,
            ⟨_, rfl, Nat.zero_le _, l1.trans (.of (same_upd hp)), x1, _, [], ns, rs, S1.own hp notC_set, upd_same, (fun k => by simp), e2, e0, rfl⟩, fun i m H2 hW => ?_⟩
          obtain ⟨rfl, hil, lH, x, M, dn, rest, rd, S2, hacc, hM, e, ei, er⟩ := hW
          obtain ⟨wgo, wst⟩ := wk _ σ H2 env x i S2
          by_cases hlt : i < ds.length
          · have hd : ds[i]? = some ds[i] := List.getElem?_eq_getElem hlt
            obtain ⟨go, yl⟩ := wgo _ hd
            rw [drop_get hd] at e
            refine .inr ⟨go, fun H2 => i + 1 ≤ ds.length ∧ Le g H H2 ∧ ∃ x M dn rest rd, FSt w K (g.add more) (oAdd O p) σ H2 env x ∧ H2 p = some (SetIO w p M (nubI dn).length) ∧ (∀ k, M k = true ↔ k ∈ dn) ∧ compL gt t fe (wipeE env vs) (ds.drop (i + 1)) x = some (rd, x') ∧ intsD rd = some rest ∧ dn ++ rest = ns,
              fun H' hN => ⟨ds.length - (i + 1), by omega, rfl, hN.1, hN.2⟩, fun v H3 hy => ?_⟩
            obtain ⟨sm, rv⟩ := yl v H3 hy
            unfold compL at e
            split at e
            · cases e
            · rename_i env1 e3
              have S3 := S2.same sm
              refine ⟨g.add more, oAdd O p, wipeE env vs, x, ds[i], env1, S3.wiped vs, rv, e3, fun σ1 w1 S4 => ⟨w1.trans (wipe_wipe σ vs), ?_⟩⟩
              split at e
              · rename_i xb e4
                split at e
                · rename_i r x3 e5
                  split at e
                  · rename_i rs' x4 e6
                    cases e
                    unfold intsD at ei
                    split at ei
                    · rename_i z; cases z
                    · rename_i kk rr z
                      cases z
                      split at ei
                      · rename_i rest' ei'
                        cases ei
                        refine ⟨g.add more, oAdd O p, env1, x, _, xb, S4, e4, fun H5 S5 l5 => ?_⟩
                        refine iteT ?_
                        refine ⟨g.add more, oAdd O p, env1, xb, _, x3, S5, e5, fun y H6 S6 l6 r6 => ?_⟩
                        cases r6
                        have l7 : Le (g.add more) H2 H6 := (Le.of sm).trans (l5.trans l6)
                        have S7 := S2.step l7 S6.tb fun r hr => (S6.row r hr).2.2
                        have hacc' := l7 p _ n1.2 hacc rfl
                        have hlen : (nubI dn).length ≤ dn.length := by
                          have z := nub_len dn []
                          rw [List.length_nil, Nat.zero_add] at z
                          exact z
                        have ll : dn.length < 64 := by
                          have h2 : (dn ++ kk :: rest').length = ns.length := by rw [er]
                          rw [List.length_append, List.length_cons] at h2
                          omega
                        have hnub : (if M kk = true then (nubI dn).length else (nubI dn).length + 1) = (nubI (dn ++ [kk])).length := by
                          rw [nubI_snoc]
                          by_cases q : kk ∈ dn
                          · rw [if_pos ((hM kk).mpr q), if_pos ((nubI_mem dn kk).mpr q)]
                          · rw [if_neg (fun z => q ((hM kk).mp z)), if_neg (fun z => q ((nubI_mem dn kk).mp z)), List.length_append, List.length_singleton]
                        refine ⟨kk, M, _, rfl, hacc', Nat.lt_of_le_of_lt (show (nubI dn).length + 1 ≤ 64 by omega) (by decide), hlt, ?_, x3, _, dn ++ [kk], rest', rs', S7.upd1 hacc' notC_set (.inr rfl) n1.1 n1.2 notC_set hne, by rw [upd_same, hnub], fun k => ?_, e6, ei', by rw [List.append_assoc]; exact er⟩
                        · intro c u hR e tn
                          have z : c ≠ p := fun z => by rw [z] at e; exact hp0.no e tn
                          rw [upd_ne z]
                          exact l7 c u hR (lH c u hR e tn) tn
                        · rw [Bool.or_eq_true, hM k, List.mem_append, List.mem_singleton, decide_eq_true_iff]
                      · cases ei
                    · cases ei
                  · cases e
                · cases e
              · rename_i xb e4
                refine ⟨g.add more, oAdd O p, env1, x, _, xb, S4, e4, fun H5 S5 l5 => ?_⟩
                refine iteF ?_
                have l7 : Le (g.add more) H2 H5 := (Le.of sm).trans l5
                have S7 := S2.step l7 S5.tb fun r hr => (S5.row r hr).2.2
                exact ⟨hlt, fun c u hR e tn => l7 c u hR (lH c u hR e tn) tn, xb, M, dn, rest, rd, S7, l7 p _ n1.2 hacc rfl, hM, e, ei, er⟩
              · cases e
          · have hi : i = ds.length := by omega
            rw [hi, List.drop_length] at e
            unfold compL at e
            cases e
            cases ei
            rw [List.append_nil] at er
            subst er
            exact .inl ⟨wst hi, k p H2 M S2.unadd lH hp0 hacc hM hl⟩
        · cases e
      · cases e
    · cases e
  · cases e
structure SN (X : Cx) (e : Expr) (f : FN) : Prop where
  out : PE X e (tSet X.K X.w f)
section
variable {X : Cx} {a b c e : Expr} {es : List Expr} {fa fb fc f : FE} {pos : Pos}
theorem sn_comp {elt tg iter : Expr} {ifs : List Expr} {scope : Scope} {own : List (Str × Nat)} {f : FA} {gt : FGt} {t : FT} {fe : FE} (hc : X.calm = true) (hN : X.N.Nodup) (hi : SI X tg iter f) (ok : BlkOk X.N X.env.scope scope own)
    (hg : ∀ (s : Shared) (H : Hp) (C : Addr) (cl : List (Str × Addr)) (fp : List Addr), SG (X.blk s H scope (compEnvC scope cl C X.env) fp) tg (own.map (·.2)) gt)
    (ht : ∀ (s : Shared) (H : Hp) (C : Addr) (cl : List (Str × Addr)) (fp : List Addr), STs (X.blk s H scope (compEnvC scope cl C X.env) fp) ifs t)
    (he : ∀ (s : Shared) (H : Hp) (C : Addr) (cl : List (Str × Addr)) (fp : List Addr), SE (X.blk s H scope (compEnvC scope cl C X.env) fp) elt fe) (hs : ∀ x, foldedSetIterable iter X.env x = pure x := by intro _; rfl) :
    SN X (.SetComp elt [⟨tg, iter, ifs, 0⟩] scope pos) (nSet f gt t fe (own.map (·.2))) :=
  ⟨PEw (pe_si hc hN hi.out ok (fun s H C cl fp => (show PG _ tg (tG X.w X.K (own.map (·.2)) gt) from (hg s H C cl fp).out)) (fun s H C cl fp => (show PTs _ ifs (tT X.w X.K t) from (ht s H C cl fp).out)) (fun s H C cl fp => (show PE _ elt (tE X.w X.K fe) from (he s H C cl fp).out)) hs) fun σ H Q h => set_read h⟩
def rSrtS (w : World) : List V → Hp → VK → Prop := fun vs H Q => ∃ (p : Addr) (M : Int → Bool) (n : Nat), vs = [.ref p] ∧ H p = some (SetIO w p M n) ∧ n < 64 ∧ ∀ (ns : List Int) (q : Addr), ns.Pairwise (· < ·) → (∀ k, k ∈ ns ↔ M k = true) → H q = none → Q (.ref q) (upd H q (.lst (ns.map V.int)))
theorem cr_srtS (hc : X.calm = true) : CallR X (.builtin "sorted") (rSrtS X.w) := by
  intro pins s σ H vs us Q I r h
  obtain ⟨p, M, n, rfl, hp, h64, q⟩ := h
  rw [Vals.ref1 r]
  have R : SetR X.w s.heap p M n := (I.hok p _ hp).1
  refine sorted_set R (I.ok.hd hc) h64 fun s' l out c ns keep hg ho hl hget hI hlt hmem hn => ?_
  have hlen : (ns.map V.int).length ≤ sizeLine := by
    rw [List.length_map, hn]
    exact maxLen_ok (Nat.le_trans (Nat.le_of_lt h64) (by decide))
  have new : ObjOk X.prog X.w (upd H l (.lst (ns.map V.int))) s'.heap l (.lst (ns.map V.int)) := ⟨hlen, out.toList, c, vals_of_ints hI, by rw [hget]⟩
  have I1 : L2.Inv X pins σ (upd H l (.lst (ns.map V.int))) s' := by
    exact I.call' (ch := []) ho (Un.laid keep hl (I.hok.fresh hl)) (I.hok.laid keep hl new) (by rw [hg]; exact I.bare) fun b hb => nomatch hb
  exact ⟨.ref l, _, I1, rfl, q ns l hlt hmem (I.hok.fresh hl)⟩
/-- sorted({..}) -/
def fSrtS (f : FN) : FE := fun env x => match f env x with
  | some (ns, x1) => some (.list ((setI ns).map .int), x1)
  | none => none
theorem se_srtS {n : FN} {p : Pos} (hc : X.calm = true) (hg : Gl X "sorted") (hm : X.mg "sorted" = none) (ha : SN X a n) (hs : starEach [a] X.env = (false, eval a X.env) :: starEach [] X.env := by rfl) : SE X (.Call (.Name "sorted" p) [a] [] pos) (fSrtS n) := by
  refine ⟨PEw (pe_callB (cr_srtS hc) hg hm (by decide +kernel) (pa_cons ha.out pa_nil hs) (by decide) (by decide) hs) fun σ H Q h => ?_⟩
  obtain ⟨g, O, env, x, d, x', S, e, k⟩ := h
  unfold fSrtS at e
  split at e
  · rename_i ns x1 e1
    cases e
    refine ⟨g, O, env, x, ns, x', S, e1, fun p H1 M S1 l1 hp0 hp hM h64 => ⟨p, M, _, rfl, hp, ?_, fun ns' q h1 h2 hq => ?_⟩⟩
    · have z := nub_len ns []
      rw [List.length_nil, Nat.zero_add] at z
      exact Nat.lt_of_le_of_lt z h64
    · have e2 : ns' = setI ns := lt_uniq h1 (setI_lt ns) fun k => by rw [h2 k, hM k, setI_mem]
      subst e2
      have S2 := S.shrink S1 fun a ha => .inl ha
      have sm := same_upd (o := .lst ((setI ns).map V.int)) hq
      exact k _ _ (S2.same sm) (l1.trans (.of sm)) (.lst (S2.notO hq) upd_same (RpA.ofInts _))
  · cases e
end
end RT

namespace RT
open PySem PySem.Spec PyProof.Rows L2
/-! ### sorted, of tuples of ints in 0 .. 63 of one length -/
def okTup (n : Nat) (ns : List Int) : Bool := decide (ns.length = n) && ns.all fun i => decide (0 ≤ i ∧ i < 64)
def tupsD (n : Nat) : List D → Option (List (List Int))
  | [] => some []
  | .tuple ds :: r => match intsD ds, tupsD n r with
    | some ns, some rs => if okTup n ns then some (ns :: rs) else none
    | _, _ => none
  | _ => none
def tupD (ns : List Int) : D := .tuple (ns.map .int)
theorem tupsD_ok {n : Nat} : ∀ {ds : List D} {rs : List (List Int)}, tupsD n ds = some rs → ds = rs.map tupD ∧ ∀ r ∈ rs, okTup n r = true
  | [], _, h => by cases h; exact ⟨rfl, fun r h => nomatch h⟩
  | d :: ds, rs, h => by
    unfold tupsD at h
    split at h
    · rename_i e; cases e
    · rename_i e
      cases e
      split at h
      · rename_i ns' rs' h1 h2
        split at h
        · rename_i h3
          cases h
          obtain ⟨a, b⟩ := tupsD_ok h2
          refine ⟨by rw [a, ints_ok h1]; rfl, fun r hr => ?_⟩
          rcases List.mem_cons.mp hr with rfl | hr
          · exact h3
          · exact b r hr
        · cases h
      · cases h
    · cases h
abbrev cdT (ns : List Int) : Int := TS.code 64 ns
def insT (n : List Int) : List (List Int) → List (List Int)
  | [] => [n]
  | m :: ms => if cdT n ≤ cdT m then n :: m :: ms else m :: insT n ms
def sortT : List (List Int) → List (List Int)
  | [] => []
  | n :: ns => insT n (sortT ns)
theorem insT_perm (n : List Int) : ∀ ms : List (List Int), (insT n ms).Perm (n :: ms)
  | [] => .refl _
  | m :: ms => by
    unfold insT
    split
    · exact .refl _
    · exact ((insT_perm n ms).cons m).trans (.swap n m ms)
theorem sortT_perm : ∀ ns : List (List Int), (sortT ns).Perm ns
  | [] => .refl _
  | n :: ns => (insT_perm n _).trans ((sortT_perm ns).cons n)
theorem insT_sorted (n : List Int) : ∀ ms : List (List Int), ms.Pairwise (fun a b => cdT a ≤ cdT b) → (insT n ms).Pairwise (fun a b => cdT a ≤ cdT b)
  | [], _ => by simp [insT]
  | m :: ms, h => by
    unfold insT
    have h' := List.pairwise_cons.mp h
    split
    · rename_i hn
      refine List.pairwise_cons.mpr ⟨fun a ha => ?_, h⟩
      rcases List.mem_cons.mp ha with rfl | ha
      · exact hn
      · exact Int.le_trans hn (h'.1 a ha)
    · rename_i hn
      refine List.pairwise_cons.mpr ⟨fun a ha => ?_, insT_sorted n ms h'.2⟩
      rcases List.mem_cons.mp ((insT_perm n ms).mem_iff.mp ha) with rfl | ha
      · omega
      · exact h'.1 a ha
theorem sortT_sorted : ∀ ns : List (List Int), (sortT ns).Pairwise (fun a b => cdT a ≤ cdT b)
  | [] => .nil
  | n :: ns => insT_sorted n _ (sortT_sorted ns)
theorem okTup_bd {n : Nat} {ns : List Int} (h : okTup n ns = true) : ns.length = n ∧ TS.Bd 64 ns := by
  unfold okTup at h
  rw [Bool.and_eq_true] at h
  exact ⟨of_decide_eq_true h.1, fun m hm => of_decide_eq_true (List.all_eq_true.mp h.2 m hm)⟩
theorem code_inj : ∀ {a b : List Int}, a.length = b.length → TS.Bd 64 a → TS.Bd 64 b → cdT a = cdT b → a = b
  | [], [], _, _, _, _ => rfl
  | [], _ :: _, h, _, _, _ => by simp at h
  | _ :: _, [], h, _, _, _ => by simp at h
  | x :: a, y :: b, h, ha, hb, e => by
    have hl : a.length = b.length := by simpa using h
    have exy : x = y := by
      by_cases h1 : x < y
      · have q := TS.code_lt hl ha.tail hb.tail h1
        have e : TS.code 64 (x :: a) = TS.code 64 (y :: b) := e
        omega
      · by_cases h2 : y < x
        · have q := TS.code_lt hl.symm hb.tail ha.tail h2
          have e : TS.code 64 (x :: a) = TS.code 64 (y :: b) := e
          omega
        · omega
    subst exy
    have e2 : cdT a = cdT b := by
      have e : x * 64 ^ a.length + TS.code 64 a = x * 64 ^ b.length + TS.code 64 b := e
      rw [hl] at e
      show TS.code 64 a = TS.code 64 b
      omega
    rw [code_inj hl ha.tail hb.tail e2]
theorem codes_uniq {n : Nat} : ∀ {l m : List (List Int)}, (∀ r ∈ l, okTup n r = true) → l.Perm m → l.Pairwise (fun a b => cdT a ≤ cdT b) → m.Pairwise (fun a b => cdT a ≤ cdT b) → l = m
  | [], m, _, h, _, _ => h.nil_eq
  | x :: l, [], _, h, _, _ => absurd h.length_eq (by simp)
  | x :: l, y :: m, ok, h, hl, hm => by
    have hl' := List.pairwise_cons.mp hl
    have hm' := List.pairwise_cons.mp hm
    have okm : ∀ r ∈ y :: m, okTup n r = true := fun r hr => ok r (h.mem_iff.mpr hr)
    have e : cdT x = cdT y := by
      have h1 : cdT y ≤ cdT x := by
        rcases List.mem_cons.mp (h.mem_iff.mp List.mem_cons_self) with e | e
        · rw [e]; exact Int.le_refl _
        · exact hm'.1 x e
      have h2 : cdT x ≤ cdT y := by
        rcases List.mem_cons.mp (h.mem_iff.mpr List.mem_cons_self) with e | e
        · rw [e]; exact Int.le_refl _
        · exact hl'.1 y e
      omega
    have exy : x = y := by
      obtain ⟨a1, a2⟩ := okTup_bd (ok x List.mem_cons_self)
      obtain ⟨b1, b2⟩ := okTup_bd (okm y List.mem_cons_self)
      exact code_inj (a1.trans b1.symm) a2 b2 e
    subst exy
    rw [codes_uniq (fun r hr => ok r (List.mem_cons_of_mem _ hr)) h.cons_inv hl'.2 hm'.2]
theorem RpA.perm {K : PySem.W.Frag} {O : Addr → Prop} {H : Hp} {xs ys : List V} (p : ys.Perm xs) : ∀ {ds : List D}, RpA K O H xs ds → ∃ es, es.Perm ds ∧ RpA K O H ys es := by
  induction p with
  | nil => exact fun r => ⟨_, .refl _, r⟩
  | cons x _ ih =>
    intro ds r
    cases r with
    | cons a b =>
      obtain ⟨es, p, q⟩ := ih b
      exact ⟨_, p.cons _, .cons a q⟩
  | swap x y l =>
    intro ds r
    cases r with
    | cons a r =>
      cases r with
      | cons b r => exact ⟨_, .swap _ _ _, .cons b (.cons a r)⟩
  | trans _ _ ih1 ih2 =>
    intro ds r
    obtain ⟨es, p, q⟩ := ih2 r
    obtain ⟨fs, p2, q2⟩ := ih1 q
    exact ⟨fs, p2.trans p, q2⟩
theorem tupD_inj {a b : List Int} (h : tupD a = tupD b) : a = b := by
  have h : a.map D.int = b.map D.int := by unfold tupD at h; injection h
  exact (List.map_inj_right (fun x y e => by injection e)).mp h
def gSortT : List D → Option D
  | [.list ds] => match ds with
    | .tuple xs :: _ => match tupsD xs.length ds with
      | some rs => if 1 ≤ xs.length ∧ rs.length < 64 then some (.list ((sortT rs).map tupD)) else none
      | none => none
    | [] => some (.list [])
    | _ => none
  | _ => none
section
variable {X : Cx} {a b c e : Expr} {es : List Expr} {fa fb fc f : FE} {pos : Pos}
theorem cr_sortTT : CallR X (.builtin "sorted") fun vs H Q => ∃ d, 1 ≤ d ∧ rSortU X.K d 64 vs H Q := by
  intro pins s σ H vs us Q I r h
  obtain ⟨d, hd, h⟩ := h
  exact cr_sortT hd pins s σ H vs us Q I r h
theorem cd_sortT : CallD X (.builtin "sorted") gSortT := by
  refine CallD.by (cr_sortedI.or cr_sortTT) fun g O σ env x ds z H vs Q S r e k => ?_
  unfold gSortT at e
  split at e
  · split at e
    · split at e
      · split at e
        · rename_i xs tl rest rs q hh
          cases e
          cases r with
          | cons r r' =>
            cases r'
            obtain ⟨p, ys, rfl, hp, rx⟩ := r.lst
            obtain ⟨e1, ok⟩ := tupsD_ok q
            have hlen : ys.length = rs.length := by rw [rx.length, e1, List.length_map]
            have itm : ∀ y d, Rp X.K O H y d → ∀ ns, d = tupD ns → TupI X.K H y ns := fun y d ry ns ed => by
              subst ed
              obtain ⟨t, us, rfl, ht, rt⟩ := ry.tupAt
              rw [rt.ints] at ht
              exact ⟨t, rfl, .of ht⟩
            refine .inr ⟨xs.length, hh.1, p, ys, rfl, .of hp, by rw [hlen]; exact hh.2, fun y hy => ?_, fun zs l hperm hsort hl => ?_⟩
            · obtain ⟨i, hi⟩ := List.getElem?_of_mem hy
              obtain ⟨d, hd, rd⟩ := rx.get' hi
              rw [e1] at hd
              obtain ⟨ns, hns, rfl⟩ := List.mem_map.mp (List.mem_of_getElem? hd)
              obtain ⟨b1, b2⟩ := okTup_bd (ok ns hns)
              exact ⟨ns, itm y _ rd ns rfl, b1, b2⟩
            · obtain ⟨es, pe, re⟩ := rx.perm hperm
              rw [e1] at pe
              obtain ⟨ms, rfl, pm⟩ : ∃ ms : List (List Int), es = ms.map tupD ∧ ms.Perm rs := by
                have hm : ∀ e ∈ es, ∃ ns, e = tupD ns := fun e he => by
                  obtain ⟨ns, _, q⟩ := List.mem_map.mp (pe.mem_iff.mp he)
                  exact ⟨ns, q.symm⟩
                have : ∀ es : List D, (∀ e ∈ es, ∃ ns, e = tupD ns) → ∃ ms : List (List Int), es = ms.map tupD := fun es => by
                  induction es with
                  | nil => exact fun _ => ⟨[], rfl⟩
                  | cons e es ih =>
                    intro h
                    obtain ⟨n, rfl⟩ := h e List.mem_cons_self
                    obtain ⟨m, rfl⟩ := ih fun e he => h e (List.mem_cons_of_mem _ he)
                    exact ⟨n :: m, rfl⟩
                obtain ⟨ms, rfl⟩ := this es hm
                refine ⟨ms, rfl, ?_⟩
                have key : ∀ l : List (List Int), (l.map tupD).map (fun d => match d with | .tuple ds => (intsD ds).getD [] | _ => []) = l := fun l => by
                  rw [List.map_map]
                  conv => rhs; rw [← List.map_id l]
                  refine List.map_congr_left fun a _ => ?_
                  show (intsD (a.map D.int)).getD [] = a
                  rw [ints_map]
                  rfl
                have := pe.map (fun d => match d with | D.tuple ds => (intsD ds).getD [] | _ => [])
                rw [key, key] at this
                exact this
              have srt : ms.Pairwise (fun a b => cdT a ≤ cdT b) := by
                have go : ∀ {zs : List V} {ms : List (List Int)}, RpA X.K O H zs (ms.map tupD) → zs.Pairwise (fun x y => ∀ n m, TupI X.K H x n → TupI X.K H y m → TS.code 64 n ≤ TS.code 64 m) → ms.Pairwise (fun a b => cdT a ≤ cdT b) := by
                  intro zs ms
                  induction ms generalizing zs with
                  | nil => exact fun _ _ => .nil
                  | cons m ms ih =>
                    intro rz hz
                    cases rz with
                    | cons a b =>
                      have hz' := List.pairwise_cons.mp hz
                      refine List.pairwise_cons.mpr ⟨fun m2 hm2 => ?_, ih b hz'.2⟩
                      obtain ⟨i, hi⟩ := List.getElem?_of_mem (List.mem_map.mpr ⟨m2, hm2, rfl⟩ : tupD m2 ∈ ms.map tupD)
                      obtain ⟨y, hy, ry⟩ := b.get hi
                      exact hz'.1 y (List.mem_of_getElem? hy) m m2 (itm _ _ a m rfl) (itm _ _ ry m2 rfl)
                exact go re hsort
              have e2 : ms = sortT rs := codes_uniq (fun r hr => ok r (pm.mem_iff.mp hr)) (pm.trans (sortT_perm rs).symm) srt (sortT_sorted rs)
              subst e2
              have sm := same_upd (o := .lst zs) hl
              exact k _ _ sm (.lst (S.notO hl) upd_same (re.move (.of sm) .refl))
        · cases e
      · cases e
    · cases e
      cases r with
      | cons r r' =>
        cases r'
        obtain ⟨p, ys, rfl, hp, rx⟩ := r.lst
        cases rx
        refine .inl ⟨p, [], rfl, .of hp, fun ns' l h1 h2 hl => ?_⟩
        have e2 : ns' = [] := h1.eq_nil
        subst e2
        have sm := same_upd (o := .lst []) hl
        exact k _ _ sm (.lst (S.notO hl) upd_same .nil)
    · cases e
  · cases e
/-! ### xs.index(d) -/
def idxD (d : D) : List D → Option Nat
  | [] => none
  | z :: zs => if eqD z d then some 0 else (idxD d zs).map (· + 1)
theorem idxD_ok {d : D} : ∀ {ds : List D} {j : Nat}, idxD d ds = some j → ∃ z, (pyAll ds)[j]? = some z ∧ PyData.eqv z d.py = true ∧ ∀ (m : Nat) z', m < j → (pyAll ds)[m]? = some z' → PyData.eqv z' d.py = false
  | [], _, h => nomatch h
  | x :: ds, j, h => by
    unfold idxD at h
    split at h
    · rename_i q
      cases h
      refine ⟨x.py, by simp [pyAll], q, fun m z' hm => absurd hm (Nat.not_lt_zero m)⟩
    · rename_i q
      cases h2 : idxD d ds with
      | none => rw [h2] at h; cases h
      | some i =>
        rw [h2] at h
        cases h
        obtain ⟨z, a, b, c⟩ := idxD_ok h2
        refine ⟨z, by simpa [pyAll] using a, b, fun m z' hm hz => ?_⟩
        cases m with
        | zero =>
          have e : x.py = z' := by simpa [pyAll] using hz
          rw [← e]
          exact Bool.eq_false_iff.mpr q
        | succ m =>
          have hm : m + 1 < i + 1 := hm
          exact c m z' (by omega) (by simpa [pyAll] using hz)
def fIndex (fa fb : FE) : FE := fBin (fun l d => match l with
  | .list ds => if shapedD (.list ds) && shapedD d then match idxD d ds with
    | some j => some (.int (j : Nat))
    | none => none
    else none
  | _ => none) fa fb
theorem se_index {apos cpos : Pos} (hu : X.A.units + 65 < cLine) (ha : SB X a fa) (hb : SB X b fb)
    (hbase : attributeBase a "index" X.env (eval a X.env) = eval a X.env := by rfl)
    (hfew : ((backTo cpos (starEach (b :: []) X.env)).all (fun x => !x.1) && (backToKw cpos (keywordEach [] X.env)).all (fun x => x.1.isSome)
      && decide ((b :: []).length + ([] : List Keyword).length + (if ([] : List Keyword).isEmpty then 0 else 1) < 30)) = true := by rfl)
    (hline : (apos.endLine == cpos.line) = true := by rfl) (hss : starEach (b :: []) X.env = (false, eval b X.env) :: starEach [] X.env := by rfl) (hplain : (backTo cpos (starEach [] X.env)).any (·.1) = false := by rfl) :
    SE X (.Call (.Attribute a "index" apos) [b] [] cpos) (fIndex fa fb) := by
  refine ⟨PEw (pe_bm PySem.F.plainAttrs_list PySem.F.slot_list_index PySem.F.type_list_index (mt_indexD hu) ha.out (pa_cons hb.out pa_nil hss) hbase hfew hline hss hplain) fun σ H Q h => ?_⟩
  obtain ⟨g, O, env, x, d, x', S, e, k⟩ := h
  obtain ⟨da, x1, db, r, e1, e2, e3, rfl⟩ := fBin_some e
  split at e3
  · rename_i ds
    split at e3
    · rename_i sh
      split at e3
      · rename_i j ej
        cases e3
        obtain ⟨s1, s2⟩ := Bool.and_eq_true_iff.mp sh
        refine ⟨g, O, env, x, _, x1, S, e1, fun v H1 S1 l1 r1 => ?_⟩
        obtain ⟨p, xs, rfl, hp, rx⟩ := r1.lst
        refine ⟨.inl ⟨rfl, _, .of hp⟩, g, O, env, x1, _, x', S1, e2, fun w H2 S2 l2 r2 => ?_⟩
        obtain ⟨z, a1, a2, a3⟩ := idxD_ok ej
        have h3 := (RpB.step S1 l2 r1).dp s1
        simp only [shapedD, D.py] at s1 s2 h3
        exact ⟨p, w, db.py, pyAll ds, j, z, rfl, rfl, h3, r2.dp s2, s1, s2, a1, a2, a3, k _ _ S2 (l1.trans l2) (.int _)⟩
      · cases e3
    · cases e3
  · cases e3
end
/-! ### the law -/
def spLaw (K : PySem.W.Frag) (b : FS) (n : Nat) (seed : Int) : Sp := fun vs H Q _ => ∃ (T : List (Addr × Str)) (a : Addr) (ns : List Int) (x' : FRow), TOK K T ∧ LamX.Tabs T H ∧ vs = [.ref a] ∧ SqL K H a (ns.map V.int) ∧
  b (.no :: .rw :: List.replicate n .no) ⟨ns, 0, seed, 0⟩ = some (.rt (.bool true), x') ∧ ∀ H', Q (.bl true) H'
theorem ok_law {P : Program} {w : World} {K : PySem.W.Frag} {mg : Str → Option Value} {base : Heap} {x qual n0 n1 : Str} {st : Stmt} {rest : List Stmt} {f : Addr} {fd : FuncData} {more : List Str} {k : Nat} {b : FS} {seed : Int} {i1 i2 i3 : Nat} {p1 p2 p3 p4 p5 p6 pos : Pos}
    (F : Fun K x qual st f fd) (S : FnScope (n0 :: n1 :: more) [n0] (defScope st)) (hb : defBody st = .Assign [.Name n1 p1] (.List [.Name n0 p2, .Constant (.int 0) i1 p3, .Constant (.int seed) i2 p4, .Constant (.int 0) i3 p5] p6) pos :: rest)
    (hs : ∀ (cdv : Value) (A : Around) (outer : List Env) (s : Shared) (H : Hp) (E : XK),
      PS (cxOf CX0 P w K mg base (n0 :: n1 :: more) qual (defScope st) f cdv A outer s H E).nox (.Assign [.Name n1 p1] (.List [.Name n0 p2, .Constant (.int 0) i1 p3, .Constant (.int seed) i2 p4, .Constant (.int 0) i3 p5] p6) pos)
        (tAsg (tLst (tCons (tVar 0) (tCons (tC (.int 0)) (tCons (tC (.int seed)) (tCons (tC (.int 0)) tNil))))) (gName 1)))
    (h : ∀ (cdv : Value) (A : Around) (outer : List Env) (s : Shared) (H : Hp) (E : XK), Room k (A.deeper (envOfC qual (defScope st) s.heap.objs.size f cdv)) → SSs (cxOf CX0 P w K mg base (n0 :: n1 :: more) qual (defScope st) f cdv A outer s H E).nox rest b) :
    FnOk P w K mg base CX0 (k + 1) f fd [n0] (spLaw K b more.length seed) := by
  refine F.ok S (fun vs H Q E h => ?_) (fun cdv A outer s H vs Q E hr hsp => ?_)
  · obtain ⟨T, a, ns, x', _, _, rfl, _⟩ := h
    rfl
  · obtain ⟨T, a, ns, x', tk, tb, rfl, ha, e, q⟩ := hsp
    rw [hb]
    refine ⟨_, pss_cons (hs cdv A outer s H E) (h cdv A outer s H E hr).out, ?_⟩
    refine ⟨_, rfl, maxLen_ok (show 4 ≤ maxLen by decide), fun p hp => ?_⟩
    refine ⟨⟨fun z => z = p, noT (upd H p (.lst [.ref a, .int 0, .int seed, .int 0])), some p, [], T, w⟩, fun z => z = p, .no :: .rw :: List.replicate more.length .no, ⟨ns, 0, seed, 0⟩, .rt (.bool true), x', ?_, e, fun O' σ' H' v env' S' r => ?_⟩
    · refine ⟨fun _ h => h, fun _ h => .inl h, fun z hz => by rw [hz, upd_same]; exact True.intro, (fun a o _ e _ => (noT_some e).1), fun r hr => ?_, ?_, fun i s e h1 h2 => ?_, fun i j d d' a b ne h1 h2 h3 h4 => ?_, (fun r hr => nomatch hr), tb.ext (same_upd hp), tk, fun a o e => (noT_some e).2, rfl⟩
      · have e : p = r := Option.some.inj hr
        subst e
        refine ⟨rfl, (by show noT (upd H p (.lst [V.ref a, V.int 0, V.int seed, V.int 0])) p ≠ none; rw [noT_of upd_same rfl]; exact fun z => nomatch z), a, upd_same, ?_⟩
        rcases ha with (ha | ⟨o, ha⟩) | ha
        · exact .inl ⟨ne_of_none ha hp, .inl (by rw [upd_ne (ne_of_none ha hp)]; exact ha)⟩
        · exact .inl ⟨ne_of_none ha hp, .inr ⟨o, by rw [upd_ne (ne_of_none ha hp)]; exact ha⟩⟩
        · exact .inr (.inr ha)
      · simp [gName, L2.start]
      · cases i with
        | zero =>
          have e2 := Option.some.inj h2
          subst e2
          exact .no _
        | succ i =>
          cases i with
          | zero =>
            have e2 := Option.some.inj h2
            subst e2
            have e1 := Option.some.inj h1
            subst e1
            exact .rw rfl
          | succ i =>
            have h2 : (List.replicate more.length FSl.no)[i]? = some e := by simpa using h2
            have := (List.mem_replicate.mp (List.mem_of_getElem? h2)).2
            subst this
            exact .no _
      · have at1 : ∀ {i : Nat} {d : OwD}, (FSl.no :: FSl.rw :: List.replicate more.length FSl.no)[i]? ≠ some (.ow d) := fun {i d} z => by
          have z := List.mem_of_getElem? z
          simp at z
        exact absurd h1 at1
    · cases r
      exact q H'
end RT

namespace RT
open PySem PySem.Spec PyProof.Rows L2
/-! ### several stores at once -/
inductive VsOk (K : PySem.W.Frag) (g : FG) (O' : Addr → Prop) (H H' : Hp) : List V → List FSl → Prop
  | nil : VsOk K g O' H H' [] []
  | cons {v : V} {sl : FSl} {vs : List V} {sls : List FSl} : SlOk K g O' H' (some v) sl → (∀ d, sl = .ow d → ∃ p, v = .ref p ∧ Gone H p ∧ ∀ (i : Nat) d', sls[i]? = some (.ow d') → vs[i]? ≠ some (.ref p)) → VsOk K g O' H H' vs sls → VsOk K g O' H H' (v :: vs) (sl :: sls)
abbrev FXs := FEn → FRow → Option (List FSl × FRow)
def tXs (ω : World) (K : PySem.W.Frag) (f : FXs) : TA := fun σ H Q => ∃ g O env x sls x', FSt ω K g O σ H env x ∧ f env x = some (sls, x') ∧
  ∀ O' vs H', FSt ω K g O' σ H' env x' → Le g H H' → Wid O O' H → (∀ a, O a → O' a) → VsOk K g O' H H' vs sls → Q vs H'
structure SXs (X : Cx) (es : List Expr) (f : FXs) : Prop where
  out : PA X es (tXs X.w X.K f)
def xsNil : FXs := fun _ x => some ([], x)
def xsCons (f : FX) (h : FXs) : FXs := fun env x => match f env x with
  | some (sl, x1) => match h env x1 with
    | some (sls, x2) => some (sl :: sls, x2)
    | none => none
  | none => none
section
variable {ω : World} {K : PySem.W.Frag} {g : FG} {O O' : Addr → Prop} {σ : L2.St} {H H' H1 : Hp} {env : FEn} {x x' : FRow}
theorem VsOk.at {vs : List V} {sls : List FSl} (h : VsOk K g O' H H' vs sls) : ∀ (i : Nat) d, sls[i]? = some (.ow d) → ∃ p, vs[i]? = some (.ref p) ∧ Gone H p := by
  induction h with
  | nil => intro i d e; simp at e
  | cons r n _ ih =>
    intro i d e
    cases i with
    | zero =>
      obtain ⟨p, e1, e2, _⟩ := n d (Option.some.inj e)
      subst e1
      exact ⟨p, rfl, e2⟩
    | succ i => exact ih i d (by simpa using e)
theorem VsOk.base {vs : List V} {sls : List FSl} (h : VsOk K g O' H1 H' vs sls) (k : ∀ p, Gone H1 p → Gone H p) : VsOk K g O' H H' vs sls := by
  induction h with
  | nil => exact .nil
  | cons r n _ ih => exact .cons r (fun d e => let ⟨p, a, b, c⟩ := n d e; ⟨p, a, k p b, c⟩) ih
theorem VsOk.length {vs : List V} {sls : List FSl} (h : VsOk K g O' H H' vs sls) : vs.length = sls.length := by
  induction h with
  | nil => rfl
  | cons _ _ _ ih => rw [List.length_cons, List.length_cons, ih]
def setsV (σ : L2.St) : List Nat → List V → L2.St
  | i :: is, v :: vs => setsV (σ.set i (some v)) is vs
  | _, _ => σ
def setsE (env : FEn) : List Nat → List FSl → FEn
  | i :: is, s :: ss => setsE (env.set i s) is ss
  | _, _ => env
theorem FSt.sets {vs : List V} {sls : List FSl} (v : VsOk K g O' H H' vs sls) : ∀ {σ : L2.St} {env : FEn} (is : List Nat), FSt ω K g O' σ H' env x' → (∀ (i : Nat) d p, sls[i]? = some (.ow d) → vs[i]? = some (.ref p) → ∀ (j : Nat) d' b, env[j]? = some (.ow d') → σ[j]? = some (some (.ref b)) → b ≠ p) → FSt ω K g O' (setsV σ is vs) H' (setsE env is sls) x' := by
  induction v with
  | nil => intro σ env is S _; cases is <;> exact S
  | @cons v sl vs sls r n hv ih =>
    intro σ env is S hn
    cases is with
    | nil => exact S
    | cons i is =>
      refine ih is (S.setv i r fun d e => ?_) fun j d p e1 e2 k d' b e3 e4 => ?_
      · obtain ⟨p, e1, e2, _⟩ := n d e
        subst e1
        exact ⟨p, rfl, fun j d' b h1 h2 => hn 0 d p (by rw [e]; rfl) rfl j d' b h1 h2⟩
      · rcases set_at e3 with ⟨z1, z2⟩ | ⟨z1, z2⟩
        · rcases set_at e4 with ⟨z3, z4⟩ | ⟨z3, z4⟩
          · obtain ⟨q, e5, e6, e7⟩ := n d' z2.symm
            have z4 : V.ref b = v := Option.some.inj z4
            rw [e5] at z4
            cases z4
            exact fun z => e7 j d e1 (by rw [z]; exact e2)
          · exact absurd z1 z3
        · rcases set_at e4 with ⟨z3, z4⟩ | ⟨z3, z4⟩
          · exact absurd z3 z1
          · exact hn (j + 1) d p (by simpa using e1) (by simpa using e2) k d' b z2 z4
end
section
variable {X : Cx} {a b c e : Expr} {es : List Expr} {fa fb fc f : FE} {pos : Pos}
theorem sxs_nil : SXs X [] xsNil := by
  refine ⟨PAw pa_nil fun σ H Q h => ?_⟩
  obtain ⟨g, O, env, x, d, x', S, e, k⟩ := h
  cases e
  exact k O _ _ S (Le.refl _ _) .refl (fun _ h => h) .nil
theorem sxs_cons {f : FX} {t : FXs} (h : SX X e f) (ht : SXs X es t) (hs : starEach (e :: es) X.env = (false, eval e X.env) :: starEach es X.env := by rfl) : SXs X (e :: es) (xsCons f t) := by
  refine ⟨PAw (pa_cons h.out ht.out hs) fun σ H Q h => ?_⟩
  obtain ⟨g, O, env, x, sl, x', S, e, k⟩ := h
  unfold xsCons at e
  split at e
  · rename_i s1 x1 e1
    split at e
    · rename_i ss x2 e2
      cases e
      refine ⟨g, O, env, x, s1, x1, S, e1, fun O1 v H1 S1 l1 w1 sub1 r1 n1 => ⟨g, O1, env, x1, ss, x', S1, e2, fun O2 vs H2 S2 l2 w2 sub2 r2 => ?_⟩⟩
      refine k O2 _ H2 S2 (l1.trans l2) (fun a ha => ?_) (fun a ha => sub2 a (sub1 a ha)) (.cons (sl_move S1 l2 w2 sub2 r1) (fun d z => ?_) (r2.base fun p hp => Le.gone l1 hp S1))
      · rcases w2 a ha with z | z
        · exact w1 a z
        · exact .inr (Le.gone l1 z S1)
      · obtain ⟨p, e3, hp⟩ := n1 d z
        subst e3
        refine ⟨p, rfl, hp, fun i d' e4 e5 => ?_⟩
        obtain ⟨q, e6, hq⟩ := r2.at i d' e4
        rw [e5] at e6
        cases e6
        subst z
        cases r1 with
        | ow _ _ _ t => exact t.live hq rfl
    · cases e
  · cases e
def sPars (is : List Nat) (f : FXs) : FS := fun env x => match f env x with
  | some (sls, x1) => if sls.length = is.length then some (.nx (setsE env is sls), x1) else none
  | none => none
theorem pars_read {ω : World} {K : PySem.W.Frag} {is : List Nat} {f : FXs} {Dn : Ends} {σ : L2.St} {H : Hp} (h : tS ω K (sPars is f) Dn σ H) : tXs ω K f σ H fun vs H' => vs.length = is.length ∧ (∃ g O env x, FSt ω K g O σ H' env x ∧ ∀ H2, Same H' H2 → Dn.nx (setsV σ is vs) H2) := by
  obtain ⟨g, O, env, x, r, x', S, e, k⟩ := h
  unfold sPars at e
  split at e
  · rename_i sls x1 e1
    split at e
    · rename_i hl
      cases e
      refine ⟨g, O, env, x, sls, x', S, e1, fun O' vs H' S' l w sub v => ⟨by rw [v.length, hl], g, O', env, x', S', fun H2 sm => ?_⟩⟩
      have hn : ∀ (i : Nat) d p, sls[i]? = some (.ow d) → vs[i]? = some (.ref p) → ∀ (j : Nat) d' b, env[j]? = some (.ow d') → σ[j]? = some (some (.ref b)) → b ≠ p := fun i d p h1 h2 j d' b h3 h4 => by
        obtain ⟨q, e2, hq⟩ := v.at i d h1
        rw [h2] at e2
        cases e2
        exact own_ne S hq h3 h4
      exact k O' _ H2 ((FSt.sets v is S' hn).same sm)
    · cases e
  · cases e
theorem ss_par2 {i j : Nat} {n m : Str} {f : FXs} {px py pt : Pos} {kt k2 pt2} (hc : X.calm = true) (hN : X.N.Nodup) (hi : X.N[i]? = some n) (hj : X.N[j]? = some m) (hij : i ≠ j)
    (hx : X.env.scope.names.lookup n = some .local) (hy : X.env.scope.names.lookup m = some .local) (ha : SXs X [a, b] f)
    (hw : swappedStores [.Tuple [.Name n px, .Name m py] kt pt] (.Tuple [a, b] k2 pt2) X.env = pure (some [n, m]))
    (hs : swapsWithSole [.Tuple [.Name n px, .Name m py] kt pt] (.Tuple [a, b] k2 pt2) pos.line X.env = pure false := by rfl) :
    SS X (.Assign [.Tuple [.Name n px, .Name m py] kt pt] (.Tuple [a, b] k2 pt2) pos) (sPars [i, j] f) := by
  refine ⟨PSw (ps_par hc hN hi hj hij hx hy ha.out hw hs) fun Dn σ H h => ?_⟩
  obtain ⟨g, O, env, x, sls, x', S, e, k⟩ := pars_read h
  refine ⟨g, O, env, x, sls, x', S, e, fun O' vs H' S' l w sub v => ?_⟩
  obtain ⟨hl, _, _, _, _, _, q⟩ := k O' vs H' S' l w sub v
  match vs, hl with
  | [v1, v2], _ => exact ⟨v1, v2, rfl, q H' (Same.refl _)⟩
theorem ss_par3 {i j l : Nat} {n m o : Str} {f : FXs} {px py pz pt : Pos} {kt k2 pt2} (hc : X.calm = true) (hN : X.N.Nodup) (hi : X.N[i]? = some n) (hj : X.N[j]? = some m) (hl : X.N[l]? = some o) (hij : i ≠ j) (hil : i ≠ l) (hjl : j ≠ l)
    (hx : X.env.scope.names.lookup n = some .local) (hy : X.env.scope.names.lookup m = some .local) (hz : X.env.scope.names.lookup o = some .local) (ha : SXs X [a, b, c] f)
    (hw : swappedStores [.Tuple [.Name n px, .Name m py, .Name o pz] kt pt] (.Tuple [a, b, c] k2 pt2) X.env = pure (some [n, m, o]))
    (hs : swapsWithSole [.Tuple [.Name n px, .Name m py, .Name o pz] kt pt] (.Tuple [a, b, c] k2 pt2) pos.line X.env = pure false := by rfl) :
    SS X (.Assign [.Tuple [.Name n px, .Name m py, .Name o pz] kt pt] (.Tuple [a, b, c] k2 pt2) pos) (sPars [i, j, l] f) := by
  refine ⟨PSw (ps_par3 hc hN hi hj hl hij hil hjl hx hy hz ha.out hw hs) fun Dn σ H h => ?_⟩
  obtain ⟨g, O, env, x, sls, x', S, e, k⟩ := pars_read h
  refine ⟨g, O, env, x, sls, x', S, e, fun O' vs H' S' l w sub v => ?_⟩
  obtain ⟨hl, _, _, _, _, _, q⟩ := k O' vs H' S' l w sub v
  match vs, hl with
  | [v1, v2, v3], _ => exact ⟨v1, v2, v3, rfl, q H' (Same.refl _)⟩
/-- by way of a tuple -/
inductive PNs (X : Cx) : List Nat → List Expr → Prop
  | nil : PNs X [] []
  | cons {i : Nat} {n : Str} {p : Pos} {is : List Nat} {es : List Expr} : X.N[i]? = some n → Loc X.env.scope n → (X.fn n = true ∨ X.env.scope.names.lookup n = some .local) → (assignEach (.Name n p :: es) X.env).map (·.2) = assign (.Name n p) X.env :: (assignEach es X.env).map (·.2) → PNs X is es → PNs X (i :: is) (.Name n p :: es)
def tNs : List Nat → TGs
  | [] => gNil
  | i :: is => gCons (gName i) (tNs is)
theorem pgs_ns {is : List Nat} {ts : List Expr} (hN : X.N.Nodup) (h : PNs X is ts) : PGs X ts (tNs is) := by
  induction h with
  | nil => exact pgs_nil
  | cons h1 h2 h3 h4 _ ih => exact pgs_cons (pg_name hN h1 h2 h3) ih h4
theorem ns_read : ∀ {is : List Nat} {vs : List V} {σ : L2.St} {H : Hp} {Q : L2.St → Hp → Prop}, vs.length = is.length → Q (setsV σ is vs) H → tNs is vs σ H Q
  | [], [], _, _, _, _, q => ⟨rfl, q⟩
  | [], _ :: _, _, _, _, h, _ => by simp at h
  | _ :: _, [], _, _, _, h, _ => by simp at h
  | i :: is, v :: vs, σ, H, Q, h, q => ⟨v, vs, rfl, ns_read (is := is) (by simpa using h) q⟩
theorem ss_parT {is : List Nat} {ts vs : List Expr} {f : FXs} {kt k2 : Nat} {pt pt2 : Pos} (hc : X.calm = true) (hN : X.N.Nodup) (hn : PNs X is ts) (ha : SXs X vs f) (hlen : is.length ≤ 100)
    (hn1 : (assignEach ts X.env).length = is.length) (hst : (assignEach ts X.env).findIdx? (·.1) = none)
    (hs : swapsWithSole [.Tuple ts kt pt] (.Tuple vs k2 pt2) pos.line X.env = pure false) (hw : swappedStores [.Tuple ts kt pt] (.Tuple vs k2 pt2) X.env = pure none)
    (h1 : (assignEach [.Tuple ts kt pt] X.env).map (·.2) = [assign (.Tuple ts kt pt) X.env]) : SS X (.Assign [.Tuple ts kt pt] (.Tuple vs k2 pt2) pos) (sPars is f) := by
  refine ⟨PSw (ps_asg (pe_tup ha.out) (pg_tup hc (pgs_ns hN hn) hn1 hst) hs hw h1) fun Dn σ H h => ?_⟩
  obtain ⟨g, O, env, x, sls, x', S, e, k⟩ := pars_read h
  refine ⟨g, O, env, x, sls, x', S, e, fun O' vs H' S' l w sub v => ?_⟩
  obtain ⟨hl, _, _, _, _, _, q⟩ := k O' vs H' S' l w sub v
  refine ⟨maxLen_ok (Nat.le_trans (show vs.length ≤ 100 by rw [hl]; exact hlen) (by decide)), fun p hp => ?_⟩
  exact ⟨p, vs, rfl, .of upd_same, hl, ns_read hl (q _ (same_upd hp))⟩
/-! ### subscripts and in, whatever the thing is -/
def gAt : D → D → Option D
  | .list ds, .int i => atI ds i
  | .tuple ds, .int i => atI ds i
  | .dict kvs, k => gDAt (.dict kvs) k
  | .dictT kvs, k => gDAt (.dictT kvs) k
  | _, _ => none
theorem fBin_of {gd : D → D → Option D} {fa fb : FE} {env : FEn} {x x1 : FRow} {d e r : D} {x2 : FRow} (h1 : fa env x = some (d, x1)) (h2 : fb env x1 = some (e, x2)) (h3 : gd d e = some r) : fBin gd fa fb env x = some (r, x2) := by
  unfold fBin
  rw [h1]
  dsimp only
  rw [h2]
  dsimp only
  rw [h3]
theorem se_at (hu : X.A.units + 1 < cLine) (ha : SB X a fa) (hb : SB X b fb) (hs : PlainIx b := by exact fun _ _ => rfl) (hs2 : NoSl b := by exact fun _ _ => rfl) : SE X (.Subscript a b pos) (fBin gAt fa fb) := by
  refine ⟨⟨fun pins s σ H Q I h => ?_⟩⟩
  obtain ⟨g, O, env, x, d, x', S, e, k⟩ := h
  obtain ⟨da, x1, db, r, e1, e2, e3, rfl⟩ := fBin_some e
  have ix : ∀ r, gIx da db = some r → r = r := fun _ _ => rfl
  unfold gAt at e3
  split at e3
  · exact (se_ix ha hb hs).out.run pins s σ H Q I ⟨g, O, env, x, _, x', S, fBin_of e1 e2 (show gIx (.list _) (.int _) = some _ from e3), k⟩
  · exact (se_ix ha hb hs).out.run pins s σ H Q I ⟨g, O, env, x, _, x', S, fBin_of e1 e2 (show gIx (.tuple _) (.int _) = some _ from e3), k⟩
  · exact (se_dget hu ha hb hs2).out.run pins s σ H Q I ⟨g, O, env, x, _, x', S, fBin_of e1 e2 e3, k⟩
  · exact (se_dget hu ha hb hs2).out.run pins s σ H Q I ⟨g, O, env, x, _, x', S, fBin_of e1 e2 e3, k⟩
  · cases e3
/-! x in a tuple -/
def rInDT (K : PySem.W.Frag) : R2 := fun x y H Q => ∃ d ds, Dp K H x d ∧ Dp K H y (.tuple ds) ∧ SeqAt.shaped d = true ∧ SeqAt.shaped (.tuple ds) = true ∧ Q (.bl (ds.any fun z => PyData.eqv z d)) H
def rNotInDT (K : PySem.W.Frag) : R2 := fun x y H Q => ∃ d ds, Dp K H x d ∧ Dp K H y (.tuple ds) ∧ SeqAt.shaped d = true ∧ SeqAt.shaped (.tuple ds) = true ∧ Q (.bl (!ds.any fun z => PyData.eqv z d)) H
theorem op_inDT (hu : X.A.units + 65 < cLine) : OpR X (compareOp .In) (rInDT X.K) := fun pins s σ H x y v u Q I rx ry ⟨d, ds, hd, he, sd, se, q⟩ =>
  have ⟨_, r1⟩ := Dp.reads I d x v hd rx
  have ⟨_, r2⟩ := Dp.reads I (.tuple ds) y u he ry
  SeqAt.in_tuple_reads r2 r1 (SeqAt.canLay_of_shaped se) (SeqAt.canLay_of_shaped sd) (room_in_shaped sd hu) ⟨.bl _, H, I, rfl, q⟩
theorem op_notInDT (hu : X.A.units + 65 < cLine) : OpR X (compareOp .NotIn) (rNotInDT X.K) := fun pins s σ H x y v u Q I rx ry ⟨d, ds, hd, he, sd, se, q⟩ =>
  have ⟨_, r1⟩ := Dp.reads I d x v hd rx
  have ⟨_, r2⟩ := Dp.reads I (.tuple ds) y u he ry
  SeqAt.notIn_tuple_reads r2 r1 (SeqAt.canLay_of_shaped se) (SeqAt.canLay_of_shaped sd) (room_in_shaped sd hu) ⟨.bl _, H, I, rfl, q⟩
def gInT : D → D → Option D := fun d e => match e with
  | .tuple ds => if shapedD d && shapedD (.tuple ds) then some (.bool (ds.any fun z => eqD z d)) else none
  | _ => none
def gNotInT : D → D → Option D := fun d e => match e with
  | .tuple ds => if shapedD d && shapedD (.tuple ds) then some (.bool (!ds.any fun z => eqD z d)) else none
  | _ => none
theorem od_inT (hu : X.A.units + 65 < cLine) : OpD X (compareOp .In) gInT := by
  refine OpD.by (op_inDT hu) fun g O σ env x d e z H v w Q S rv rw q k => ?_
  unfold gInT at q
  split at q
  · rename_i ds
    split at q
    · rename_i h
      cases q
      obtain ⟨h1, h2⟩ := Bool.and_eq_true_iff.mp h
      have h3 := rw.dp h2
      simp only [shapedD, D.py] at h1 h2 h3
      refine ⟨d.py, pyAll ds, rv.dp h1, h3, h1, h2, ?_⟩
      rw [any_py]
      exact k _ _ (Same.refl _) (.bl _)
    · cases q
  · cases q
theorem od_notInT (hu : X.A.units + 65 < cLine) : OpD X (compareOp .NotIn) gNotInT := by
  refine OpD.by (op_notInDT hu) fun g O σ env x d e z H v w Q S rv rw q k => ?_
  unfold gNotInT at q
  split at q
  · rename_i ds
    split at q
    · rename_i h
      cases q
      obtain ⟨h1, h2⟩ := Bool.and_eq_true_iff.mp h
      have h3 := rw.dp h2
      simp only [shapedD, D.py] at h1 h2 h3
      refine ⟨d.py, pyAll ds, rv.dp h1, h3, h1, h2, ?_⟩
      rw [any_py]
      exact k _ _ (Same.refl _) (.bl _)
    · cases q
  · cases q
def gInA : D → D → Option D := fun d e => match e with
  | .list ds => gIn d (.list ds)
  | .tuple ds => gInT d (.tuple ds)
  | .dict kvs => gDIn d (.dict kvs)
  | .dictT kvs => gDIn d (.dictT kvs)
  | _ => none
def gNotInA : D → D → Option D := fun d e => match e with
  | .list ds => gNotIn d (.list ds)
  | .tuple ds => gNotInT d (.tuple ds)
  | .dict kvs => gDNotIn d (.dict kvs)
  | .dictT kvs => gDNotIn d (.dictT kvs)
  | _ => none
theorem se_inA (hu : X.A.units + 65 < cLine) (ha : SB X a fa) (hb : SB X b fb) (hm : behindInMarks .In b = false := by rfl) : SE X (.Compare a [.In] [b] pos) (fBin gInA fa fb) := by
  refine ⟨⟨fun pins s σ H Q I h => ?_⟩⟩
  obtain ⟨g, O, env, x, d, x', S, e, k⟩ := h
  obtain ⟨da, x1, db, r, e1, e2, e3, rfl⟩ := fBin_some e
  unfold gInA at e3
  split at e3
  · exact (se_cmp (od_in hu) ha hb hm).out.run pins s σ H Q I ⟨g, O, env, x, _, x', S, fBin_of e1 e2 e3, k⟩
  · exact (se_cmp (od_inT hu) ha hb hm).out.run pins s σ H Q I ⟨g, O, env, x, _, x', S, fBin_of e1 e2 e3, k⟩
  · exact (se_din (by omega) ha hb hm).out.run pins s σ H Q I ⟨g, O, env, x, _, x', S, fBin_of e1 e2 e3, k⟩
  · exact (se_din (by omega) ha hb hm).out.run pins s σ H Q I ⟨g, O, env, x, _, x', S, fBin_of e1 e2 e3, k⟩
  · cases e3
theorem se_notInA (hu : X.A.units + 65 < cLine) (ha : SB X a fa) (hb : SB X b fb) (hm : behindInMarks .NotIn b = false := by rfl) : SE X (.Compare a [.NotIn] [b] pos) (fBin gNotInA fa fb) := by
  refine ⟨⟨fun pins s σ H Q I h => ?_⟩⟩
  obtain ⟨g, O, env, x, d, x', S, e, k⟩ := h
  obtain ⟨da, x1, db, r, e1, e2, e3, rfl⟩ := fBin_some e
  unfold gNotInA at e3
  split at e3
  · exact (se_cmp (od_notIn hu) ha hb hm).out.run pins s σ H Q I ⟨g, O, env, x, _, x', S, fBin_of e1 e2 e3, k⟩
  · exact (se_cmp (od_notInT hu) ha hb hm).out.run pins s σ H Q I ⟨g, O, env, x, _, x', S, fBin_of e1 e2 e3, k⟩
  · exact (se_dnot (by omega) ha hb hm).out.run pins s σ H Q I ⟨g, O, env, x, _, x', S, fBin_of e1 e2 e3, k⟩
  · exact (se_dnot (by omega) ha hb hm).out.run pins s σ H Q I ⟨g, O, env, x, _, x', S, fBin_of e1 e2 e3, k⟩
  · cases e3
theorem fTst_of {f : FE} {env : FEn} {x x' : FRow} {b : Bool} (h : f env x = some (.bool b, x')) : fTst f env x = some (b, x') := by
  unfold fTst
  rw [h]
theorem st_inA (hu : X.A.units + 65 < cLine) (ha : SB X a fa) (hb : SB X b fb) (hm : behindInMarks .In b = false := by rfl) : ST X (.Compare a [.In] [b] pos) (fTst (fBin gInA fa fb)) := by
  refine ⟨⟨fun pins s σ H Q I h => ?_⟩⟩
  obtain ⟨g, O, env, x, d, x', S, e, k⟩ := h
  obtain ⟨da, x1, db, r, e1, e2, e3, e4⟩ := fBin_some (fTst_some e)
  have e4 : r = .bool d := e4
  subst e4
  have e2 : fb env x1 = some (db, x') := e2
  unfold gInA at e3
  split at e3
  · exact (st_cmp (od_in hu) ha hb hm).out.run pins s σ H Q I ⟨g, O, env, x, _, x', S, fTst_of (fBin_of e1 e2 e3), k⟩
  · exact (st_cmp (od_inT hu) ha hb hm).out.run pins s σ H Q I ⟨g, O, env, x, _, x', S, fTst_of (fBin_of e1 e2 e3), k⟩
  · exact (st_din (by omega) ha hb hm).out.run pins s σ H Q I ⟨g, O, env, x, _, x', S, fTst_of (fBin_of e1 e2 e3), k⟩
  · exact (st_din (by omega) ha hb hm).out.run pins s σ H Q I ⟨g, O, env, x, _, x', S, fTst_of (fBin_of e1 e2 e3), k⟩
  · cases e3
theorem st_notInA (hu : X.A.units + 65 < cLine) (ha : SB X a fa) (hb : SB X b fb) (hm : behindInMarks .NotIn b = false := by rfl) : ST X (.Compare a [.NotIn] [b] pos) (fTst (fBin gNotInA fa fb)) := by
  refine ⟨⟨fun pins s σ H Q I h => ?_⟩⟩
  obtain ⟨g, O, env, x, d, x', S, e, k⟩ := h
  obtain ⟨da, x1, db, r, e1, e2, e3, e4⟩ := fBin_some (fTst_some e)
  have e4 : r = .bool d := e4
  subst e4
  have e2 : fb env x1 = some (db, x') := e2
  unfold gNotInA at e3
  split at e3
  · exact (st_cmp (od_notIn hu) ha hb hm).out.run pins s σ H Q I ⟨g, O, env, x, _, x', S, fTst_of (fBin_of e1 e2 e3), k⟩
  · exact (st_cmp (od_notInT hu) ha hb hm).out.run pins s σ H Q I ⟨g, O, env, x, _, x', S, fTst_of (fBin_of e1 e2 e3), k⟩
  · exact (st_dnot (by omega) ha hb hm).out.run pins s σ H Q I ⟨g, O, env, x, _, x', S, fTst_of (fBin_of e1 e2 e3), k⟩
  · exact (st_dnot (by omega) ha hb hm).out.run pins s σ H Q I ⟨g, O, env, x, _, x', S, fTst_of (fBin_of e1 e2 e3), k⟩
  · cases e3
/-- < of tuples of ints -/
def gLtT : D → D → Option D
  | .tuple xs, .tuple ys => match intsD xs, intsD ys with
    | some ns, some ms => some (.bool (HT.lexLt ns ms))
    | _, _ => none
  | _, _ => none
theorem od_ltT (hu : X.A.units < cLine) : OpD X (compareOp .Lt) gLtT := by
  refine OpD.by (op_ltT hu) fun g O σ env x d e z H v w Q S rv rw q k => ?_
  unfold gLtT at q
  split at q
  · split at q
    · rename_i xs ys ns ms h1 h2
      cases q
      obtain ⟨p, us, rfl, hp, r1⟩ := rv.tup.tupAt
      obtain ⟨p2, us2, rfl, hp2, r2⟩ := rw.tup.tupAt
      rw [ints_ok h1] at r1
      rw [ints_ok h2] at r2
      rw [r1.ints] at hp
      rw [r2.ints] at hp2
      exact ⟨p, p2, ns, ms, rfl, rfl, .of hp, .of hp2, k _ _ (Same.refl _) (.bl _)⟩
    · cases q
  · cases q
def gLt : D → D → Option D := gOr (gI yes2 fun i j => .bool (decide (i < j))) gLtT
theorem od_ltA (hu : X.A.units < cLine) : OpD X (compareOp .Lt) gLt := od_lt.or (od_ltT hu)
def gAdd : D → D → Option D := gOr gAddI (gOr gCatT gCatL)
theorem od_addA : OpD X (binaryOp .Add) gAdd := od_add.or (od_catT.or od_catL)
def gMul : D → D → Option D := gOr gMulI gRepL
theorem od_mulA : OpD X (binaryOp .Mult) gMul := od_mul.or od_repL
def cOr (g1 g2 : List D → Option D) : List D → Option D := fun ds => match g1 ds with
  | some r => some r
  | none => g2 ds
theorem CallD.or {f : Value} {g1 g2 : List D → Option D} (h1 : CallD X f g1) (h2 : CallD X f g2) : CallD X f (cOr g1 g2) := by
  intro pins s σ H vs us Q I rv h
  obtain ⟨g, O, σ', env, x, ds, z, S, rr, e, k⟩ := h
  unfold cOr at e
  split at e
  · rename_i r' q'
    cases e
    exact h1 pins s σ H vs us Q I rv ⟨g, O, σ', env, x, ds, z, S, rr, q', k⟩
  · exact h2 pins s σ H vs us Q I rv ⟨g, O, σ', env, x, ds, z, S, rr, e, k⟩
def gSort : List D → Option D := cOr gSortI gSortT
theorem cd_sortA : CallD X (.builtin "sorted") gSort := cd_sorted.or cd_sortT
/-- x += e, ints -/
def sAug (i : Nat) (f : FE) : FS := fun env x => match env[i]? with
  | some (.va (.int m)) => match f env x with
    | some (.int n, x1) => some (.nx (env.set i (.va (.int (m + n)))), x1)
    | _ => none
  | _ => none
theorem ss_aug {i : Nat} {n : Str} {f : FE} {pos' : Pos} (hN : X.N.Nodup) (hi : X.N[i]? = some n) (hx : Loc X.env.scope n) (he : SE X e f)
    (hf : X.fn n = true ∨ X.env.scope.names.lookup n = some .local := by first | exact .inl rfl | exact .inr rfl | assumption) : SS X (.AugAssign (.Name n pos') .Add e pos) (sAug i f) := by
  refine ⟨PSw (ps_aug hN hi hx he.out ip_add hf) fun Dn σ H h => ?_⟩
  obtain ⟨g, O, env, x, r, x', S, e, k⟩ := h
  unfold sAug at e
  split at e
  · rename_i m e0
    split at e
    · rename_i n x1 e1
      cases e
      obtain ⟨s, e5, q5⟩ := S.at e0
      cases q5 with
      | va r0 =>
        cases r0
        refine ⟨_, e5, g, O, env, x, _, x', S, e1, fun v H1 S1 l1 r1 => ?_⟩
        cases r1
        exact ⟨m, n, rfl, rfl, k O _ _ (S1.setv i (.va (.int _)) fun d z => nomatch z)⟩
    · cases e
  · cases e
def sBk : FS := fun env x => some (.bk env, x)
def sCt : FS := fun env x => some (.ct env, x)
theorem ss_bk : SS X (.Break pos) sBk := ⟨PSw ps_break fun Dn σ H h => by
  obtain ⟨g, O, env, x, r, x', S, e, k⟩ := h
  cases e
  exact k O σ H S⟩
theorem ss_ct : SS X (.Continue pos) sCt := ⟨PSw ps_continue fun Dn σ H h => by
  obtain ⟨g, O, env, x, r, x', S, e, k⟩ := h
  cases e
  exact k O σ H S⟩
def sDrop (f : FE) : FS := fun env x => match f env x with
  | some (_, x1) => some (.nx env, x1)
  | none => none
theorem ss_drop (h : SE X e f) (hs : swapsWith e none pos.line X.env = pure false := by rfl) : SS X (.Expr e pos) (sDrop f) := by
  refine ⟨PSw (ps_expr h.out hs) fun Dn σ H h => ?_⟩
  obtain ⟨g, O, env, x, r, x', S, e, k⟩ := h
  unfold sDrop at e
  split at e
  · rename_i d x1 e1
    cases e
    exact ⟨g, O, env, x, d, x', S, e1, fun v H1 S1 l1 r1 => k O σ H1 S1⟩
  · cases e
/-- a def that is never asked -/
theorem ok_none {P : Program} {w : World} {K : PySem.W.Frag} {mg : Str → Option Value} {base : Heap} {k : Nat} {f : Addr} {fd : FuncData} {ps : List Str} : FnOk P w K mg base CX0 k f fd ps (spF K fun _ => none) :=
  ⟨fun vs H Q E h => (let ⟨_, _, _, _, _, _, _, _, e, _⟩ := h; nomatch e), fun A outer s H args us vs Q E hr he hb hv h => (let ⟨_, _, _, _, _, _, _, _, e, _⟩ := h; nomatch e)⟩
theorem room65 {k : Nat} {A : Around} (r : Room k A) : A.units + 65 < cLine := by
  have := r.un
  omega
end
end RT

namespace RT
open PySem PySem.Spec PyProof.Rows L2
/-! ### comprehensions with two fors -/
/-- a target that makes no slot owned -/
def TgOk (gt : FGt) : Prop := ∀ d env env', gt d env = some env' → ∀ (j : Nat) (w : FSl), env'[j]? = some w → isOwn w = true → env[j]? = some w
def TgsOk (h : FGs) : Prop := ∀ ds env env', h ds env = some env' → ∀ (j : Nat) (w : FSl), env'[j]? = some w → isOwn w = true → env[j]? = some w
theorem tg_name (i : Nat) : TgOk (gtName i) := fun d env env' e j w h h0 => by
  cases e
  rw [List.getElem?_set] at h
  split at h
  · split at h
    · cases h; cases h0
    · cases h
  · exact h
theorem tgs_nil : TgsOk gtNil := fun ds env env' e j w h h0 => by
  cases ds with
  | nil => cases e; exact h
  | cons a l => cases e
theorem tgs_cons {f : FGt} {h : FGs} (a : TgOk f) (b : TgsOk h) : TgsOk (gtCons f h) := fun ds env env' e j w hh h0 => by
  cases ds with
  | nil => cases e
  | cons d l =>
    unfold gtCons at e
    simp only at e
    split at e
    · rename_i e1 q
      exact a d env e1 q j w (b l e1 env' e j w hh h0) h0
    · cases e
theorem tg_tup {n : Nat} {h : FGs} (b : TgsOk h) : TgOk (gtTup n h) := fun d env env' e j w hh h0 => by
  unfold gtTup at e
  split at e
  · split at e
    · exact b _ env env' e j w hh h0
    · cases e
  · cases e
def compL2 (gt : FGt) (t : FT) (f1 : FA) (gt1 : FGt) (t1 : FT) (fe : FE) (vs1 : List Nat) (env : FEn) : List D → FRow → Option (List D × FRow)
  | [], x => some ([], x)
  | d :: ds, x => match gt d env with
    | none => none
    | some e1 => match t e1 x with
      | some (true, x1) => match f1 e1 x1 with
        | some (ds1, x2) => match compL gt1 t1 fe (wipeE e1 vs1) ds1 x2 with
          | some (rs, x3) => match compL2 gt t f1 gt1 t1 fe vs1 env ds x3 with
            | some (rs', x4) => some (rs ++ rs', x4)
            | none => none
          | none => none
        | none => none
      | some (false, x1) => compL2 gt t f1 gt1 t1 fe vs1 env ds x1
      | none => none
def xLc2 (f : FA) (gt : FGt) (t : FT) (f1 : FA) (gt1 : FGt) (t1 : FT) (fe : FE) (vs vs1 : List Nat) : FX := fun env x => match f env x with
  | some (ds, x1) => match compL2 gt t f1 gt1 t1 fe vs1 (wipeE env vs) ds x1 with
    | some (rs, x2) => if rs.length < maxLen then some (.ow (.lst rs), x2) else none
    | none => none
  | none => none
theorem lc2_read {ω : World} {K : PySem.W.Frag} {f f1 : FA} {gt gt1 : FGt} {t t1 : FT} {fe : FE} {vs vs1 : List Nat} {σ : L2.St} {H : Hp} {Q : VK} (gk : TgOk gt) (h : tX ω K (xLc2 f gt t f1 gt1 t1 fe vs vs1) σ H Q) : tLc2 (tI ω K f) (tG ω K vs gt) (tT ω K t) (tI ω K f1) (tG ω K vs1 gt1) (tT ω K t1) (tE ω K fe) vs vs1 σ H Q := by
  obtain ⟨g, O, env, x, sl, x', S, e, k⟩ := h
  unfold xLc2 at e
  split at e
  · rename_i ds x1 e1
    split at e
    · rename_i rs x2 e2
      split at e
      · rename_i hl
        cases e
        refine ⟨g, O, env, x, ds, x1, S, e1, fun J more H1 S1 l1 wk p hp => ?_⟩
        have n1 := S1.newp hp
        have hp0 : Gone H p := Le.gone l1 (.of hp) S1.unadd
        have hne : ∀ (j : Nat) d b, env[j]? = some d → isOwn d = true → σ[j]? = some (some (.ref b)) → b ≠ p := fun j d b h1 h0 h2 => own_ne2 S1 (.of hp) h1 h0 h2
        refine ⟨fun i m H2 => m = ds.length - i ∧ i ≤ ds.length ∧ Le g H H2 ∧ ∃ x acc dn rest, FSt ω K (g.add more) (oAdd O p) σ H2 env x ∧ H2 p = some (.lst acc) ∧ RpA K (oAdd O p) H2 acc dn ∧ compL2 gt t f1 gt1 t1 fe vs1 (wipeE env vs) (ds.drop i) x = some (rest, x') ∧ dn ++ rest = rs,
          ⟨_, rfl, Nat.zero_le _, l1.trans (.of (same_upd hp)), x1, [], [], rs, S1.own hp True.intro, upd_same, .nil, e2, rfl⟩, fun i m H2 hW => ?_⟩
        obtain ⟨rfl, hil, lH, x, acc, dn, rest, S2, hacc, racc, e, er⟩ := hW
        obtain ⟨wgo, wst⟩ := wk _ σ H2 env x i S2
        by_cases hlt : i < ds.length
        · have hd : ds[i]? = some ds[i] := List.getElem?_eq_getElem hlt
          obtain ⟨go, yl⟩ := wgo _ hd
          rw [drop_get hd] at e
          refine .inr ⟨go, fun H2 => i + 1 ≤ ds.length ∧ Le g H H2 ∧ ∃ x acc dn rest, FSt ω K (g.add more) (oAdd O p) σ H2 env x ∧ H2 p = some (.lst acc) ∧ RpA K (oAdd O p) H2 acc dn ∧ compL2 gt t f1 gt1 t1 fe vs1 (wipeE env vs) (ds.drop (i + 1)) x = some (rest, x') ∧ dn ++ rest = rs,
            fun H' hN => ⟨ds.length - (i + 1), by omega, rfl, hN.1, hN.2⟩, fun v H3 hy => ?_⟩
          obtain ⟨sm, rv⟩ := yl v H3 hy
          unfold compL2 at e
          split at e
          · cases e
          · rename_i env1 e3
            have S3 := S2.same sm
            refine ⟨g.add more, oAdd O p, wipeE env vs, x, ds[i], env1, S3.wiped vs, rv, e3, fun σ1 w1 S4 => ⟨w1.trans (wipe_wipe σ vs), ?_⟩⟩
            have hne1 : ∀ (j : Nat) d b, env1[j]? = some d → isOwn d = true → σ1[j]? = some (some (.ref b)) → b ≠ p := fun j d b h1 h0 h2 => by
              have q := gk _ _ _ e3 j d h1 h0
              rcases wipeE_get q with z | ⟨z, z2⟩
              · rw [z] at h0; cases h0
              · refine hne j d b z2 h0 ?_
                have a1 : (wipe σ1 vs)[j]? = σ1[j]? := by rw [wipe_get, if_neg z]
                have a2 : (wipe (wipe σ vs) vs)[j]? = σ[j]? := by rw [wipe_wipe, wipe_get, if_neg z]
                rw [← a2, ← w1, a1]; exact h2
            split at e
            · rename_i xb e4
              split at e
              · rename_i ds1 xc e5
                split at e
                · rename_i rsA xd e6
                  split at e
                  · rename_i rs' xe e7
                    cases e
                    refine ⟨g.add more, oAdd O p, env1, x, _, xb, S4, e4, fun H5 S5 l5 => ?_⟩
                    refine iteT ?_
                    refine ⟨g.add more, oAdd O p, env1, xb, ds1, xc, S5, e5, fun J1 more1 H6 S6 l6 wk1 => ?_⟩
                    have l7 : Le (g.add more) H2 H6 := (Le.of sm).trans (l5.trans l6)
                    have S7 := S2.step l7 S6.tb fun r hr => (S6.row r hr).2.2
                    refine ⟨fun j m H7 => m = ds1.length - j ∧ j ≤ ds1.length ∧ Le g H H7 ∧ ∃ y acc dn1 rest1, FSt ω K (g.add more) (oAdd O p) σ H7 env y ∧ FSt ω K ((g.add more).add more1) (oAdd O p) σ1 H7 env1 y ∧ H7 p = some (.lst acc) ∧ RpA K (oAdd O p) H7 acc dn1 ∧ compL gt1 t1 fe (wipeE env1 vs1) (ds1.drop j) y = some (rest1, xd) ∧ dn1 ++ rest1 = dn ++ rsA,
                      ⟨_, rfl, Nat.zero_le _, fun c u hR e tn => l7 c u hR (lH c u hR e tn) tn, xc, acc, dn, rsA, S7, S6, l7 p _ n1.2 hacc rfl, racc.step S2 l7, e6, rfl⟩, fun j m H7 hW => ?_⟩
                    obtain ⟨rfl, hjl, lH7, y, acc1, dn1, rest1, So, Si, hacc1, racc1, ec, er1⟩ := hW
                    obtain ⟨wgo1, wst1⟩ := wk1 _ σ1 H7 env1 y j Si
                    by_cases hlt1 : j < ds1.length
                    · have hd1 : ds1[j]? = some ds1[j] := List.getElem?_eq_getElem hlt1
                      obtain ⟨go1, yl1⟩ := wgo1 _ hd1
                      rw [drop_get hd1] at ec
                      refine .inr ⟨go1, fun H7 => j + 1 ≤ ds1.length ∧ Le g H H7 ∧ ∃ y acc dn1 rest1, FSt ω K (g.add more) (oAdd O p) σ H7 env y ∧ FSt ω K ((g.add more).add more1) (oAdd O p) σ1 H7 env1 y ∧ H7 p = some (.lst acc) ∧ RpA K (oAdd O p) H7 acc dn1 ∧ compL gt1 t1 fe (wipeE env1 vs1) (ds1.drop (j + 1)) y = some (rest1, xd) ∧ dn1 ++ rest1 = dn ++ rsA,
                        fun H' hN => ⟨ds1.length - (j + 1), by omega, rfl, hN.1, hN.2⟩, fun v1 H8 hy1 => ?_⟩
                      obtain ⟨sm1, rv1⟩ := yl1 v1 H8 hy1
                      unfold compL at ec
                      split at ec
                      · cases ec
                      · rename_i env2 c3
                        have T3 := Si.same sm1
                        refine ⟨(g.add more).add more1, oAdd O p, wipeE env1 vs1, y, ds1[j], env2, T3.wiped vs1, rv1, c3, fun σ2 w2 T4 => ⟨w2.trans (wipe_wipe σ1 vs1), ?_⟩⟩
                        split at ec
                        · rename_i ya c4
                          split at ec
                          · rename_i r yc c5
                            split at ec
                            · rename_i rs2 yd c6
                              cases ec
                              refine ⟨(g.add more).add more1, oAdd O p, env2, y, _, ya, T4, c4, fun H9 T5 k5 => ?_⟩
                              refine iteT ?_
                              refine ⟨(g.add more).add more1, oAdd O p, env2, ya, r, yc, T5, c5, fun z H10 T6 k6 r6 => ?_⟩
                              have k7 : Le ((g.add more).add more1) H7 H10 := (Le.of sm1).trans (k5.trans k6)
                              have So7 := So.step (H' := H10) (x' := yc) k7 T6.tb fun r hr => (T6.row r hr).2.2
                              have Si7 := Si.step k7 T6.tb fun r hr => (T6.row r hr).2.2
                              have hacc' := k7 p _ n1.2 hacc1 rfl
                              have ll : acc1.length < maxLen := by
                                have a1 := racc1.length
                                have a2 := congrArg List.length er1
                                have a3 := congrArg List.length er
                                simp only [List.length_append, List.length_cons] at a2 a3
                                omega
                              have lE : Le g H (upd H10 p (.lst (acc1 ++ [z]))) := by
                                intro c u hR e tn
                                have zz : c ≠ p := fun zz => by rw [zz] at e; exact hp0.no e tn
                                rw [upd_ne zz]
                                exact k7 c u hR (lH7 c u hR e tn) tn
                              refine ⟨acc1, hacc', maxLen_lt ll, hlt1, lE, yc, acc1 ++ [z], dn1 ++ [r], rs2, So7.upd1 hacc' notC_lst (.inr rfl) n1.1 n1.2 True.intro hne, Si7.upd1 hacc' notC_lst (.inr rfl) n1.1 n1.2 True.intro hne1, upd_same, ?_, c6, by rw [List.append_assoc]; exact er1⟩
                              exact ((racc1.step Si k7).app (.cons r6 .nil)).move (keep_own So7 (.inr rfl)) .refl
                            · cases ec
                          · cases ec
                        · rename_i ya c4
                          refine ⟨(g.add more).add more1, oAdd O p, env2, y, _, ya, T4, c4, fun H9 T5 k5 => ?_⟩
                          refine iteF ?_
                          have k7 : Le ((g.add more).add more1) H7 H9 := (Le.of sm1).trans k5
                          have So7 := So.step (H' := H9) (x' := ya) k7 T5.tb fun r hr => (T5.row r hr).2.2
                          have Si7 := Si.step k7 T5.tb fun r hr => (T5.row r hr).2.2
                          exact ⟨hlt1, fun c u hR e tn => k7 c u hR (lH7 c u hR e tn) tn, ya, acc1, dn1, rest1, So7, Si7, k7 p _ n1.2 hacc1 rfl, racc1.step Si k7, ec, er1⟩
                        · cases ec
                    · have hj : j = ds1.length := by omega
                      rw [hj, List.drop_length] at ec
                      unfold compL at ec
                      cases ec
                      rw [List.append_nil] at er1
                      subst er1
                      refine .inl ⟨wst1 hj, hlt, lH7, _, acc1, _, rs', So, hacc1, racc1, e7, by rw [List.append_assoc]; exact er⟩
                  · cases e
                · cases e
              · cases e
            · rename_i xb e4
              refine ⟨g.add more, oAdd O p, env1, x, _, xb, S4, e4, fun H5 S5 l5 => ?_⟩
              refine iteF ?_
              have l7 : Le (g.add more) H2 H5 := (Le.of sm).trans l5
              have S7 := S2.step l7 S5.tb fun r hr => (S5.row r hr).2.2
              exact ⟨hlt, fun c u hR e tn => l7 c u hR (lH c u hR e tn) tn, xb, acc, dn, rest, S7, l7 p _ n1.2 hacc rfl, racc.step S2 l7, e, er⟩
            · cases e
        · have hi : i = ds.length := by omega
          rw [hi, List.drop_length] at e
          unfold compL2 at e
          cases e
          rw [List.append_nil] at er
          subst er
          refine .inl ⟨wst hi, k (oAdd O p) _ H2 S2.unadd lH (fun a z => z.elim .inl fun e => .inr (e ▸ hp0)) (fun a z => .inl z) (.ow (.inr rfl) n1.1 n1.2 ⟨acc, hacc, racc⟩) fun d z => ⟨p, rfl, hp0⟩⟩
      · cases e
    · cases e
  · cases e
section
variable {X : Cx} {pos : Pos}
theorem sx_lc2 {elt tg iter tg1 iter1 : Expr} {ifs ifs1 : List Expr} {scope : Scope} {own : List (Str × Nat)} {vs1 : List Nat} {f f1 : FA} {gt gt1 : FGt} {t t1 : FT} {fe : FE} (hc : X.calm = true) (hN : X.N.Nodup) (hi : SI X tg iter f) (ok : BlkOk X.N X.env.scope scope own) (hv : ∀ i ∈ vs1, i ∈ own.map (·.2)) (gk : TgOk gt)
    (hg : ∀ (s : Shared) (H : Hp) (C : Addr) (cl : List (Str × Addr)) (fp : List Addr), SG (X.blk s H scope (compEnvC scope cl C X.env) fp) tg (own.map (·.2)) gt)
    (ht : ∀ (s : Shared) (H : Hp) (C : Addr) (cl : List (Str × Addr)) (fp : List Addr), STs (X.blk s H scope (compEnvC scope cl C X.env) fp) ifs t)
    (hi1 : ∀ (s : Shared) (H : Hp) (C : Addr) (cl : List (Str × Addr)) (fp : List Addr), SI (X.blk s H scope (compEnvC scope cl C X.env) fp) tg1 iter1 f1)
    (hg1 : ∀ (s : Shared) (H : Hp) (C : Addr) (cl : List (Str × Addr)) (fp : List Addr), SG (X.blk s H scope (compEnvC scope cl C X.env) fp) tg1 vs1 gt1)
    (ht1 : ∀ (s : Shared) (H : Hp) (C : Addr) (cl : List (Str × Addr)) (fp : List Addr), STs (X.blk s H scope (compEnvC scope cl C X.env) fp) ifs1 t1)
    (he : ∀ (s : Shared) (H : Hp) (C : Addr) (cl : List (Str × Addr)) (fp : List Addr), SE (X.blk s H scope (compEnvC scope cl C X.env) fp) elt fe) (hs : ∀ x, foldedSetIterable iter X.env x = pure x := by intro _; rfl) (hs1 : ∀ env x, foldedSetIterable iter1 env x = pure x := by intro _ _; rfl) :
    SX X (.ListComp elt [⟨tg, iter, ifs, 0⟩, ⟨tg1, iter1, ifs1, 0⟩] scope pos) (xLc2 f gt t f1 gt1 t1 fe (own.map (·.2)) vs1) :=
  ⟨PEw (pe_lc2 hc hN hi.out ok hv (fun s H C cl fp => (show PG _ tg (tG X.w X.K (own.map (·.2)) gt) from (hg s H C cl fp).out)) (fun s H C cl fp => (show PTs _ ifs (tT X.w X.K t) from (ht s H C cl fp).out)) (fun s H C cl fp => (show PI _ tg1 iter1 (tI X.w X.K f1) from (hi1 s H C cl fp).out)) (fun s H C cl fp => (show PG _ tg1 (tG X.w X.K vs1 gt1) from (hg1 s H C cl fp).out)) (fun s H C cl fp => (show PTs _ ifs1 (tT X.w X.K t1) from (ht1 s H C cl fp).out)) (fun s H C cl fp => (show PE _ elt (tE X.w X.K fe) from (he s H C cl fp).out)) hs hs1) fun σ H Q h => lc2_read gk h⟩
end
end RT

namespace RT
open PySem PySem.Spec PyProof.Rows L2
section
variable {X : Cx} {a : Expr} {fa : FE} {pos : Pos}
/-! ### reversed(range(n)), list(range(n)) -/
def rvD (n : Nat) : List D := (List.range n).map fun (i : Nat) => D.int ((n : Int) - 1 - (i : Int))
theorem walks_rv {ω : World} {K : PySem.W.Frag} {g : FG} (n : Int) : WalksD ω K (Itc (0 + (((n - 0).toNat : Nat) : Int) - 1) (-1) (n - 0).toNat) g (rvD n.toNat) := fun O σ H env x i S => by
  have hn : (n - 0).toNat = n.toNat := by omega
  have hl : (rvD n.toNat).length = n.toNat := by simp [rvD]
  refine ⟨fun d hd => ?_, fun hi => by rw [hl] at hi; exact Nat.le_of_eq (by omega)⟩
  unfold rvD at hd
  rw [List.getElem?_map] at hd
  by_cases hi : i < n.toNat
  · rw [List.getElem?_range hi] at hd
    cases hd
    refine ⟨by show i < _; omega, fun v H' hy => ?_⟩
    obtain ⟨rfl, rfl⟩ := hy
    refine ⟨Same.refl _, ?_⟩
    have e : (0 + (((n - 0).toNat : Nat) : Int) - 1) + (i : Nat) * (-1) = ((n.toNat : Nat) : Int) - 1 - (i : Int) := by rw [hn]; omega
    rw [e]
    exact .int _
  · rw [List.getElem?_eq_none (by simpa using hi)] at hd
    cases hd
def fRev1 (f : FE) : FA := fun env x => match f env x with
  | some (.int n, x1) => if okRg n then some (rvD n.toNat, x1) else none
  | _ => none
theorem si_rev1 {tg : Expr} {p q ppos : Pos} (hg : Gl X "reversed") (hm : X.mg "reversed" = none) (hg2 : Gl X "range") (hm2 : X.mg "range" = none) (ha : SE X a fa) (na : starEach [a] X.env = (false, eval a X.env) :: starEach [] X.env := by rfl)
    (hs : starEach [.Call (.Name "range" q) [a] [] ppos] X.env = (false, eval (.Call (.Name "range" q) [a] [] ppos) X.env) :: starEach [] X.env := by rfl) : SI X tg (.Call (.Name "reversed" p) [.Call (.Name "range" q) [a] [] ppos] [] pos) (fRev1 fa) := by
  refine ⟨⟨fun pins s σ H R I h2 => ?_⟩⟩
  obtain ⟨g, O, env, x, ds, x', S, e, k⟩ := h2
  unfold fRev1 at e
  split at e
  · rename_i n x1 e1
    split at e
    · rename_i ok
      cases e
      have ok := of_decide_eq_true ok
      refine (pi_revR hg hm (prg_1 hg2 hm2 ha.out na) hs).run pins s σ H R I ⟨g, O, env, x, _, x', S, e1, fun v H1 S1 l1 r1 => ?_⟩
      cases r1
      exact ⟨n, rfl, by omega, by omega, ok.1, ok.2, k _ [] H1 S1 l1 (walks_rv n)⟩
    · cases e
  · cases e
theorem rpa_map {K : PySem.W.Frag} {O : Addr → Prop} {H : Hp} (f : Nat → Int) : ∀ l : List Nat, RpA K O H (l.map fun i => V.int (f i)) (l.map fun i => D.int (f i))
  | [] => .nil
  | _ :: l => .cons (.int _) (rpa_map f l)
def fLrg1 (f : FE) : FE := fun env x => match f env x with
  | some (.int n, x1) => if okRg n && decide (n ≤ 16777216) then some (.list (rgD 0 n.toNat), x1) else none
  | _ => none
theorem se_lrg1 {p q ppos : Pos} (hc : X.calm = true) (hg : Gl X "list") (hm : X.mg "list" = none) (hg2 : Gl X "range") (hm2 : X.mg "range" = none) (ha : SE X a fa) (na : starEach [a] X.env = (false, eval a X.env) :: starEach [] X.env := by rfl)
    (hs : starEach [.Call (.Name "range" q) [a] [] ppos] X.env = (false, eval (.Call (.Name "range" q) [a] [] ppos) X.env) :: starEach [] X.env := by rfl) : SE X (.Call (.Name "list" p) [.Call (.Name "range" q) [a] [] ppos] [] pos) (fLrg1 fa) := by
  refine ⟨PEw (pe_listRg hc hg hm (prg_1 hg2 hm2 ha.out na) hs) fun σ H Q h => ?_⟩
  obtain ⟨g, O, env, x, d, x', S, e, k⟩ := h
  unfold fLrg1 at e
  split at e
  · rename_i n x1 e1
    split at e
    · rename_i ok
      cases e
      obtain ⟨o1, o2⟩ := Bool.and_eq_true_iff.mp ok
      have o1 := of_decide_eq_true o1
      have o2 := of_decide_eq_true o2
      refine ⟨g, O, env, x, _, x', S, e1, fun v H1 S1 l1 r1 => ?_⟩
      cases r1
      refine ⟨n, rfl, ⟨by omega, by omega, o1.1, o1.2, by omega⟩, fun p hp => ?_⟩
      have sm := same_upd (o := .lst (rgV 0 n)) hp
      refine k _ _ (S1.same sm) (l1.trans (.of sm)) (.lst (S1.notO hp) upd_same ?_)
      have e : rgV 0 n = (List.range n.toNat).map fun i => V.int (0 + (i : Nat)) := by unfold rgV; rw [show (n - 0).toNat = n.toNat by omega]
      rw [e]
      exact rpa_map (fun i => 0 + (i : Nat)) _
    · cases e
  · cases e
theorem ss_setLc2 {i : Nat} {y : Str} {py : Pos} {elt tg iter tg1 iter1 : Expr} {ifs ifs1 : List Expr} {scope : Scope} {own : List (Str × Nat)} {vs1 : List Nat} {cpos : Pos} {f f1 : FA} {gt gt1 : FGt} {t t1 : FT} {fe : FE} (hc : X.calm = true) (hN : X.N.Nodup) (hy : X.N[i]? = some y) (hyl : X.env.scope.names.lookup y = some .local)
    (hsw : swapsWith (.ListComp elt [⟨tg, iter, ifs, 0⟩, ⟨tg1, iter1, ifs1, 0⟩] scope cpos) (some (.Name y py)) pos.line X.env = pure true) (hi : SI X tg iter f) (ok : BlkOk X.N X.env.scope scope own) (hv : ∀ i ∈ vs1, i ∈ own.map (·.2)) (gk : TgOk gt)
    (hg : ∀ (s : Shared) (H : Hp) (C : Addr) (cl : List (Str × Addr)) (fp : List Addr), SG (X.blk s H scope (compEnvC scope cl C X.env) fp) tg (own.map (·.2)) gt)
    (ht : ∀ (s : Shared) (H : Hp) (C : Addr) (cl : List (Str × Addr)) (fp : List Addr), STs (X.blk s H scope (compEnvC scope cl C X.env) fp) ifs t)
    (hi1 : ∀ (s : Shared) (H : Hp) (C : Addr) (cl : List (Str × Addr)) (fp : List Addr), SI (X.blk s H scope (compEnvC scope cl C X.env) fp) tg1 iter1 f1)
    (hg1 : ∀ (s : Shared) (H : Hp) (C : Addr) (cl : List (Str × Addr)) (fp : List Addr), SG (X.blk s H scope (compEnvC scope cl C X.env) fp) tg1 vs1 gt1)
    (ht1 : ∀ (s : Shared) (H : Hp) (C : Addr) (cl : List (Str × Addr)) (fp : List Addr), STs (X.blk s H scope (compEnvC scope cl C X.env) fp) ifs1 t1)
    (he : ∀ (s : Shared) (H : Hp) (C : Addr) (cl : List (Str × Addr)) (fp : List Addr), SE (X.blk s H scope (compEnvC scope cl C X.env) fp) elt fe) (hs : ∀ x, foldedSetIterable iter X.env x = pure x := by intro _; rfl) (hs1 : ∀ env x, foldedSetIterable iter1 env x = pure x := by intro _ _; rfl)
    (tr : FX → FX) (htr : tr = id ∨ tr = fun f => xVal (fOfX f)) : SS X (.Assign [.Name y py] (.ListComp elt [⟨tg, iter, ifs, 0⟩, ⟨tg1, iter1, ifs1, 0⟩] scope cpos) pos) (sSet i (tr (xLc2 f gt t f1 gt1 t1 fe (own.map (·.2)) vs1))) := by
  have main : ∀ fx : FX, (∀ σ H Q, tX X.w X.K fx σ H Q → tLc2 (tI X.w X.K f) (tG X.w X.K (own.map (·.2)) gt) (tT X.w X.K t) (tI X.w X.K f1) (tG X.w X.K vs1 gt1) (tT X.w X.K t1) (tE X.w X.K fe) (own.map (·.2)) vs1 σ H Q) → SS X (.Assign [.Name y py] (.ListComp elt [⟨tg, iter, ifs, 0⟩, ⟨tg1, iter1, ifs1, 0⟩] scope cpos) pos) (sSet i fx) := fun fx hfx => by
    refine ⟨PSw (ps_setLc2 hc hN hy hyl hsw hi.out ok hv (fun s H C cl fp => (show PG _ tg (tG X.w X.K (own.map (·.2)) gt) from (hg s H C cl fp).out)) (fun s H C cl fp => (show PTs _ ifs (tT X.w X.K t) from (ht s H C cl fp).out)) (fun s H C cl fp => (show PI _ tg1 iter1 (tI X.w X.K f1) from (hi1 s H C cl fp).out)) (fun s H C cl fp => (show PG _ tg1 (tG X.w X.K vs1 gt1) from (hg1 s H C cl fp).out)) (fun s H C cl fp => (show PTs _ ifs1 (tT X.w X.K t1) from (ht1 s H C cl fp).out)) (fun s H C cl fp => (show PE _ elt (tE X.w X.K fe) from (he s H C cl fp).out)) hs hs1) fun Dn σ H h => ?_⟩
    obtain ⟨g, O, env, x, r, x', S, e, k⟩ := h
    unfold sSet at e
    split at e
    · rename_i sl x1 e1
      cases e
      exact hfx σ H _ ⟨g, O, env, x, sl, x', S, e1, fun O' v H' S' l w sub r nw => k O' _ H' (S'.setv i r fun d z => by
        obtain ⟨p, e2, hp⟩ := nw d z
        exact ⟨p, e2, fun j d' b h1 h2 => own_ne S hp h1 h2⟩)⟩
    · cases e
  rcases htr with rfl | rfl
  · exact main _ fun σ H Q h => lc2_read gk h
  · refine main _ fun σ H Q h => ?_
    obtain ⟨g, O, env, x, sl, x', S, e, k⟩ := h
    change (match fOfX (xLc2 f gt t f1 gt1 t1 fe (own.map (·.2)) vs1) env x with
      | some (d, x1) => some (FSl.va d, x1)
      | none => none) = some (sl, x') at e
    split at e
    · rename_i d x1 e1
      cases e
      unfold fOfX at e1
      split at e1
      · rename_i dd x1 e2
        unfold xLc2 at e2
        split at e2
        · split at e2
          · split at e2
            · cases e2
            · cases e2
          · cases e2
        · cases e2
      · rename_i dd x1 e2
        cases e1
        refine lc2_read gk ⟨g, O, env, x, _, x', S, e2, fun O' v H' S' l w sub r nw => ?_⟩
        obtain ⟨p, rfl, hp⟩ := nw _ rfl
        have np := S.notG hp
        have wd : Wid O' O H' := fun a z => .inl (sub a z)
        cases r with
        | ow p1 q r t =>
          refine k O _ H' (S.shrink S' sub) l .refl (fun _ h => h) (.va ?_) fun d z => by cases z
          cases dd with
          | lst ds => obtain ⟨xs, e, r⟩ := t; exact .lst np e (r.move (fun _ _ _ e _ => e) wd)
          | dk ds => obtain ⟨xs, e, r⟩ := t; exact .dK np (.inl e) (r.move (fun _ _ _ e _ => e) wd)
          | dt ds => obtain ⟨xs, e, r⟩ := t; exact .dT np e (r.move (fun _ _ _ e _ => e) wd)
      · cases e1
    · cases e
end
end RT

namespace RT
open PySem PySem.Spec PyProof.Rows L2
/-! ### dict(xs) of pairs whose keys are tuples -/
def mergeT (kvs more : List (List L2.Key × V)) : List (List L2.Key × V) := more.foldl (fun acc kv => putK acc kv.1 kv.2) kvs
theorem kt_merge {H : Hp} {more : List (List L2.Key × V)} {rs : List (List L2.Key × Addr × Value)} (r : KT H more rs) : ∀ {kvs : List (List L2.Key × V)} {xs : List (List L2.Key × Addr × Value)}, KT H kvs xs → KT H (mergeT kvs more) (storedAllH xs rs) := by
  induction r with
  | nil => intro _ _ q; exact q
  | @cons p q ps qs h t ih =>
    intro kvs xs q0
    have e : KT H (putK kvs p.1 p.2) (storedH xs q.1 q.2.1 q.2.2) := by
      have := KT.put q0 p.1 h.2.1 h.2.2
      rw [← h.1]; exact this
    exact ih e
theorem mergeT_len : ∀ (more kvs : List (List L2.Key × V)), (mergeT kvs more).length ≤ kvs.length + more.length
  | [], kvs => by show kvs.length ≤ kvs.length + 0; omega
  | p :: r, kvs => by
    have a := mergeT_len r (putK kvs p.1 p.2)
    have b := length_putK kvs p.1 p.2
    show (mergeT (putK kvs p.1 p.2) r).length ≤ _
    rw [List.length_cons]; omega
section
variable {X : Cx}
theorem pairsT {pins : List (Addr × Obj)} {σ : L2.St} {H : Hp} {s : Shared} (I : Inv X pins σ H s) : ∀ {ps : List Addr} {kvs : List (List L2.Key × V)}, Paired (fun p kv => ∃ b, SqT X.K H p [.ref b, kv.2] ∧ H b = some (.tup (kv.1.map kV))) ps kvs →
    ∃ prs : List (List L2.Key × Addr × Value), KT H kvs prs ∧ prs.length = ps.length ∧ ∀ (j : Nat) (q : List L2.Key × Addr × Value), prs[j]? = some q → ∃ b : Addr, ps[j]? = some b ∧ IsTup s.heap b #[.ref q.2.1, q.2.2] ∧ H q.2.1 = some (.tup (q.1.map kV))
  | _, _, .nil => ⟨[], .nil, rfl, fun j q e => by simp at e⟩
  | _, _, .cons (a := p) (b := kv) h t => by
    obtain ⟨prs, r, hl, hp⟩ := pairsT I t
    obtain ⟨b, hq, hb⟩ := h
    obtain ⟨its, rv, ht, _⟩ := I.tuple hq
    obtain ⟨u, y, ei, ru, ry⟩ := vals2 rv
    subst ei
    cases ru
    refine ⟨(kv.1, b, y) :: prs, .cons ⟨rfl, hb, ry⟩ r, by rw [List.length_cons, List.length_cons, hl], fun j q e => ?_⟩
    cases j with
    | zero =>
      have e' : (kv.1, b, y) = q := Option.some.inj e
      subst e'
      exact ⟨p, rfl, ht, hb⟩
    | succ j =>
      obtain ⟨c, e1, e2, e3⟩ := hp j q (by simpa using e)
      exact ⟨c, by simpa using e1, e2, e3⟩
theorem cr_dictT (hcalm : X.calm = true) (hu : X.A.units + 4 < cLine) : CallR X (.type "dict") (fun xs H Q => ∃ (a : Addr) (ps : List Addr) (kvs : List (List L2.Key × V)), xs = [.ref a] ∧ SqL X.K H a (ps.map V.ref) ∧ Paired (fun p kv => ∃ b, SqT X.K H p [.ref b, kv.2] ∧ H b = some (.tup (kv.1.map kV))) ps kvs ∧
    ∀ p, H p = none → Q (.ref p) (upd H p (.dT (mergeT [] kvs)))) := by
  intro pins s σ H xs us Q I r q
  obtain ⟨a, ps, kvs, ex, hq, hp, q⟩ := q
  subst ex
  obtain ⟨u, eu, rx⟩ := vals1 r
  subst eu
  cases rx
  obtain ⟨its, rv, pl, hz⟩ := I.list hq
  have ei := refs_at rv
  subst ei
  rw [List.length_map] at hz
  obtain ⟨prs, rel, hl, hpr⟩ := pairsT I hp
  obtain ⟨o, n, ho, hc, hd, hdat⟩ := pl
  have hlt : ∀ b o, s.heap.get? b = some o → b ≠ s.heap.objs.size := fun b o e => Nat.ne_of_lt (Heap.lt_size e)
  refine call_dict_pairsH (knd := tupleKind (mixKind X.prog X.w)) (ps := prs) (PairArg.list a (ps.map Value.ref).toArray (fun j => ps.getD j 0) (prs.map fun q => (Value.ref q.2.1, q.2.2))) (I.ok.hd hcalm) ?_ ⟨⟨o, n, ho, hc, hd, hdat⟩, by simp [hl], fun j k v hj => ?_⟩ ⟨by simp, fun i key v hv => ?_⟩ (fun h' hk x hx => ?_) (by simp [hl]; exact hz) fun h' tk hd' hk => ?_
  · show X.A.in1.in1.units < cLine
    exact Nat.lt_of_le_of_lt (by simp [Around.in1]) (show X.A.units + 4 < cLine from hu)
  · rw [List.getElem?_map] at hj
    obtain ⟨z, hz1, hz2⟩ := Option.map_eq_some_iff.mp hj
    obtain ⟨b, e1, e2, _⟩ := hpr j z hz1
    cases hz2
    have e3 : ps.getD j 0 = b := by simp [List.getD, e1]
    refine ⟨by simp [e1], .inl ?_⟩
    show s.heap.IsTuple (ps.getD j 0) _
    rw [e3]
    exact e2
  · have hv' : (prs.map fun q => (Value.ref q.2.1, q.2.2))[i]? = some (key, v) := hv
    rw [List.getElem?_map] at hv'
    obtain ⟨z, hz1, hz2⟩ := Option.map_eq_some_iff.mp hv'
    cases hz2
    exact ⟨z.1, z.2.1, hz1, rfl⟩
  · obtain ⟨j, hj⟩ := List.getElem?_of_mem hx
    obtain ⟨b, _, _, e3⟩ := hpr j x hj
    obtain ⟨o', items, n', g1, g2, g3, g4⟩ := key_of I.hok e3
    exact ⟨o', items, n', hk _ _ (hlt _ _ g1) (fun z => nomatch z) g1, g2, g3, g4⟩
  · have hm : (s.heap.objs.size == sysModules) = false := beq_eq_false_iff_ne.mpr (Nat.ne_of_gt I.big)
    have hlen : (mergeT [] kvs).length ≤ sizeLine := by
      refine Nat.le_trans (mergeT_len kvs []) ?_
      rw [List.length_nil, Nat.zero_add, Paired.length rel, hl]
      exact hz
    obtain ⟨q', es, ep, hq', h2, h3, h4, _, h5⟩ := hd'
    have fr := I.hok.fresh (Nat.le_refl s.heap.objs.size)
    refine ⟨.ref s.heap.objs.size, upd H s.heap.objs.size (.dT (mergeT [] kvs)), I.laid (t' := tk) (fun b o e => hk b o (fun z => nomatch z) e) (Nat.le_refl _) (show ObjOk X.prog X.w _ _ _ (.dT (mergeT [] kvs)) from ⟨hlen, hm, storedAllH [] prs, (kt_merge rel .nil).keeps fun c ys ec => ?_, q', es, ep, hq', h2, h3, h4, h5⟩), rfl, q _ fr⟩
    rw [upd_ne (fun z => by rw [z, fr] at ec; cases ec)]
    exact ec
/-- pairs (tuple key, value) -/
def pairsD : List D → Option (List (List L2.Key × D × D))
  | [] => some []
  | .tuple [k, v] :: r => match dKeyT k, pairsD r with
    | some ks, some rs => some ((ks, k, v) :: rs)
    | _, _ => none
  | _ => none
def gDictOf : List D → Option D
  | [.list ds] => match pairsD ds with
    | some rs => some (.dictT (rs.foldl (fun acc p => putD dKeyT acc p.2.1 p.1 p.2.2) []))
    | none => none
  | _ => none
theorem pairs_rp {K : PySem.W.Frag} {O : Addr → Prop} {H : Hp} : ∀ {ds : List D} {rs : List (List L2.Key × D × D)} {xs : List V}, pairsD ds = some rs → RpA K O H xs ds →
    ∃ (ps : List Addr) (kvs : List (List L2.Key × V)), xs = ps.map V.ref ∧ Paired (fun p kv => ∃ b, SqT K H p [.ref b, kv.2] ∧ H b = some (.tup (kv.1.map kV))) ps kvs ∧ ∀ acc dacc, RpT K O H acc dacc → RpT K O H (mergeT acc kvs) (rs.foldl (fun acc p => putD dKeyT acc p.2.1 p.1 p.2.2) dacc)
  | [], rs, xs, e, r => by
    cases e
    cases r
    exact ⟨[], [], rfl, .nil, fun acc dacc q => q⟩
  | d :: ds, rs, xs, e, r => by
    cases r with
    | cons a r' =>
      unfold pairsD at e
      split at e
      · rename_i hh; cases hh
      · rename_i k v rr heq
        cases heq
        split at e
        · rename_i ks rs' e1 e2
          cases e
          obtain ⟨ps, kvs, rfl, hp, hm⟩ := pairs_rp e2 r'
          cases a with
          | tup n1 q1 a1 =>
            cases a1 with
            | cons ak a2 =>
              cases a2 with
              | cons av a3 =>
                cases a3
                have ek := dKeyT_ok e1
                subst ek
                cases ak with
                | tup n2 q2 b2 =>
                  have ez := rp_keys b2
                  subst ez
                  refine ⟨_ :: ps, (ks, _) :: kvs, rfl, .cons ⟨_, .of q1, q2⟩ hp, fun acc dacc q => ?_⟩
                  exact hm _ _ (q.put av)
        · cases e
      · cases e
theorem cd_dictT (hc : X.calm = true) (hu : X.A.units + 65 < cLine) : CallD X (.type "dict") gDictOf := by
  refine CallD.by (cr_dictT hc (by omega)) fun g O σ env x ds z H vs Q S r e k => ?_
  unfold gDictOf at e
  split at e
  · split at e
    · rename_i ds' rs e1
      cases e
      cases r with
      | cons r r' =>
        cases r'
        obtain ⟨p, xs, rfl, q, rx⟩ := r.lst
        obtain ⟨ps, kvs, rfl, hp, hm⟩ := pairs_rp e1 rx
        refine ⟨p, ps, kvs, rfl, .of q, hp, fun l hl => ?_⟩
        have sm := same_upd (o := .dT (mergeT [] kvs)) hl
        exact k _ _ sm (.dT (S.notO hl) upd_same ((hm [] [] .nil).move (.of sm) .refl))
    · cases e
  · cases e
end
end RT

namespace RT
open PySem PySem.Spec PyProof.Rows L2
/-! ### sorted, of tuples that are alike, whatever stands in them -/
def sortableB (ds : List D) : Bool := ds.all fun d => match d with
  | .tuple (_ :: _) => true
  | _ => false
def alikeB (ds : List D) : Bool := ds.all fun d => ds.all fun e => PySem.W.alike d.py e.py
def leD (a b : D) : Bool := !PySem.W.dataLt b.py a.py
def gSortD : List D → Option D
  | [.list ds] => if shapedD (.list ds) && sortableB ds && alikeB ds && decide (ds.length ≤ maxLen) then some (.list (ds.mergeSort leD)) else none
  | _ => none
def gSort1 : List D → Option D
  | [.list ds] => if ds.length ≤ 1 then some (.list ds) else none
  | _ => none
theorem pyAll_map : ∀ ds : List D, pyAll ds = ds.map D.py
  | [] => rfl
  | d :: ds => by rw [pyAll, pyAll_map ds]; rfl
theorem each_of {K : PySem.W.Frag} {O : Addr → Prop} {H : Hp} : ∀ {xs : List V} {its : List Value} {ds : List D}, Vals xs its → RpA K O H xs ds → PySem.W.EachIs (fun u d => ∃ v, RelV v u ∧ Rp K O H v d) its ds
  | _, _, _, .nil, .nil => .nil
  | _, _, _, .cons a b, .cons c d => .cons ⟨_, a, c⟩ (each_of b d)
theorem of_each {K : PySem.W.Frag} {O : Addr → Prop} {H : Hp} {its : List Value} {ds : List D} (h : PySem.W.EachIs (fun u d => ∃ v, RelV v u ∧ Rp K O H v d) its ds) : ∃ xs, Vals xs its ∧ RpA K O H xs ds := by
  induction h with
  | nil => exact ⟨[], .nil, .nil⟩
  | cons h _ ih =>
    obtain ⟨v, a, b⟩ := h
    obtain ⟨xs, c, d⟩ := ih
    exact ⟨v :: xs, .cons a c, .cons b d⟩
theorem room66 {k : Nat} {A : Around} (r : Room k A) : A.units + 66 < cLine := by
  have := r.un
  omega
section
variable {X : Cx}
theorem cd_sortD (hu : X.A.units + 66 < cLine) : CallD X (.builtin "sorted") gSortD := by
  intro pins s σ H vs us Q I rv h
  obtain ⟨g, O, σ', env, x, ds, z, S, rr, e, k⟩ := h
  unfold gSortD at e
  split at e
  · rename_i ds0
    split at e
    · rename_i hc
      cases e
      simp only [Bool.and_eq_true, decide_eq_true_eq] at hc
      obtain ⟨⟨⟨hs, ht⟩, ha⟩, hlen⟩ := hc
      cases rr with
      | cons r r' =>
      cases r'
      obtain ⟨p, xs, rfl, hp, rx⟩ := r.lst
      obtain ⟨its, rvv, hl, hz⟩ := I.list (.of hp)
      rw [Vals.ref1 rv]
      have hlay := SeqAt.canLay_of_shaped hs
      have hdep := SeqAt.depth_of_shaped hs
      have hlay' : PyData.canLayAll0 (pyAll ds0) = true := by simpa [D.py, PyData.canLay0] using hlay
      obtain ⟨as, rd⟩ := Dp.readsAll I (pyAll ds0) xs its (rx.dp hlay') rvv
      rw [pyAll_map] at rd
      have hsort : ∀ out : List Value, PySem.W.EachIs (fun u d => ∃ v, RelV v u ∧ Rp X.K O H v d) out (ds0.mergeSort (PySem.W.dataLe false D.py)) → EP X pins σ Q (.ref (s.heap.objs.size + 1)) { s with heap := sortedAll s.heap its (List.toArray out) } := fun out he => by
        obtain ⟨zs, q1, q2⟩ := of_each he
        obtain ⟨ep, he'⟩ := PyProof.Rows.sortedAll_at s.heap its out.toArray
        have hzs : zs.length ≤ sizeLine := by
          rw [q2.length, List.length_mergeSort]; exact maxLen_ok hlen
        have hn : H (s.heap.objs.size + 1) = none := I.hok.fresh (Nat.le_succ _)
        have sm := same_upd (o := .lst zs) hn
        refine ⟨.ref _, upd H (s.heap.objs.size + 1) (.lst zs), I.laid (t' := s.toks) (fun _ _ => PyProof.Rows.sortedAll_old) (Nat.le_succ _) ⟨hzs, out, ep, q1, he'⟩, rfl, k _ _ sm ?_⟩
        exact .lst (S.notO hn) upd_same (q2.move (.of sm) .refl)
      refine PySem.W.sorted_data (enc := D.py) (bs := ds0) (R := fun u d => ∃ v, RelV v u ∧ Rp X.K O H v d) hl.isList (each_of rvv rx) (PySem.W.readsAll_each D.py rd) ?_ ?_ (maxLen_ok hlen) ?_ (fun out _ he => hsort out he)
      · intro d hd d' hd'
        obtain ⟨b, hb, rfl⟩ := List.mem_map.mp hd
        obtain ⟨b', hb', rfl⟩ := List.mem_map.mp hd'
        exact List.all_eq_true.mp (List.all_eq_true.mp ha b hb) b' hb'
      · refine .inl fun d hd => ?_
        obtain ⟨b, hb, rfl⟩ := List.mem_map.mp hd
        have q := List.all_eq_true.mp ht b hb
        cases b with
        | tuple xs =>
          cases xs with
          | nil => simp at q
          | cons x xs => exact ⟨x.py, pyAll xs, by rw [D.py, pyAll]⟩
        | _ => simp at q
      · intro b hb
        have dl : ∀ {ds : List D}, b ∈ ds → b.py.depth ≤ PyData.depthAll (pyAll ds) := fun {ds} => by
          induction ds with
          | nil => intro h; cases h
          | cons d ds ih =>
            intro h
            rw [pyAll, PyData.depthAll]
            rcases List.mem_cons.mp h with rfl | h
            · exact Nat.le_max_left _ _
            · exact Nat.le_trans (ih h) (Nat.le_max_right _ _)
        have h1 := dl hb
        have h2 : PyData.depthAll (pyAll ds0) + 1 ≤ 64 := by simpa [D.py, PyData.depth, Nat.add_comm] using hdep
        omega
    · cases e
  · cases e
theorem cd_sort1 : CallD X (.builtin "sorted") gSort1 := by
  intro pins s σ H vs us Q I rv h
  obtain ⟨g, O, σ', env, x, ds, z, S, rr, e, k⟩ := h
  unfold gSort1 at e
  split at e
  · rename_i ds0
    split at e
    · rename_i hc
      cases e
      cases rr with
      | cons r r' =>
      cases r'
      obtain ⟨p, xs, rfl, hp, rx⟩ := r.lst
      obtain ⟨its, rvv, hl, hz⟩ := I.list (.of hp)
      rw [Vals.ref1 rv]
      have hil : its.length ≤ 1 := by rw [← rvv.length, rx.length]; exact hc
      refine SrtO.sorted_ord (ltv := fun _ _ => false) ⟨fun _ _ h => (nomatch h), fun _ _ _ _ _ => rfl⟩ hl.isList (by rw [← rvv.length]; exact hz) (fun h2 => absurd h2 (by omega)) fun out h1 h2 => ?_
      have eo : out = its := by
        have hlo := h2.perm.length_eq
        match its, out, hil, hlo, h2.perm with
        | [], [], _, _, _ => rfl
        | [a], [b], _, _, p => exact (by rw [List.singleton_perm_singleton.mp p])
        | [], _ :: _, _, h, _ => simp at h
        | [_], [], _, h, _ => simp at h
        | [_], _ :: _ :: _, _, h, _ => simp at h
        | _ :: _ :: _, _, h, _, _ => simp at h
      subst eo
      obtain ⟨ep, he'⟩ := PyProof.Rows.sortedAll_at s.heap out out.toArray
      have hn : H (s.heap.objs.size + 1) = none := I.hok.fresh (Nat.le_succ _)
      have sm := same_upd (o := .lst xs) hn
      refine ⟨.ref _, upd H (s.heap.objs.size + 1) (.lst xs), I.laid (t' := s.toks) (fun _ _ => PyProof.Rows.sortedAll_old) (Nat.le_succ _) ⟨hz, out, ep, rvv, he'⟩, rfl, k _ _ sm ?_⟩
      exact .lst (S.notO hn) upd_same (rx.move (.of sm) .refl)
    · cases e
  · cases e
def gSortX : List D → Option D := cOr gSort (cOr gSort1 gSortD)
theorem cd_sortX (hu : X.A.units + 66 < cLine) : CallD X (.builtin "sorted") gSortX := cd_sortA.or (cd_sort1.or (cd_sortD hu))
end
end RT

namespace RT
open PySem PySem.Spec PyProof.Rows L2
/-! ### for k in d: the dict is locked meanwhile -/
def noOw (env : FEn) : Bool := env.all fun s => match s with
  | .ow _ => false
  | .da _ => false
  | _ => true
def sForD (i : Nat) (gt : FGt) (b : FS) : FS := fun env x => match env[i]? with
  | some (.va (.dict ds)) => if noOw env then forL gt b (ds.map (·.1)) env x else none
  | _ => none
theorem noOw_at {env : FEn} (h : noOw env = true) {i : Nat} {d : OwD} : env[i]? ≠ some (.ow d) := by
  intro e
  have := List.all_eq_true.mp h _ (List.mem_of_getElem? e)
  simp at this
theorem noDa_at {env : FEn} (h : noOw env = true) {i : Nat} {ds : List (D × D)} : env[i]? ≠ some (.da ds) := by
  intro e
  have := List.all_eq_true.mp h _ (List.mem_of_getElem? e)
  simp at this
section
variable {ω : World} {K : PySem.W.Frag} {g : FG} {O O' : Addr → Prop} {σ σ' : L2.St} {H H' : Hp} {env env' : FEn} {x x' : FRow} {d : Addr} {kvs : List (L2.Key × V)} {od : Obj}
def gL (g : FG) (O : Addr → Prop) (H : Hp) : FG := ⟨O, noT H, g.R, [], g.T, g.w⟩
theorem noT_gone {a : Addr} (h : noT H a = none) : Gone H a := fun o e => by
  cases t : isNT o with
  | false => rfl
  | true => rw [noT_of e t] at h; cases h
theorem FSt.new2 (S : FSt ω K g O σ H env x) {a : Addr} (q : Gone H a) : g.H0 a = none := by
  cases e : g.H0 a with
  | none => rfl
  | some o =>
    by_cases r : g.R = some a
    · obtain ⟨_, _, a0, e0, _⟩ := S.row a r
      exact (q.no e0 rfl).elim
    · exact (q.no (S.le a o r e (S.nt0 _ _ e)) (S.nt0 _ _ e)).elim
theorem lock_kq (hd : H d = some (.dK kvs)) : Kq O H (upd H d (.frz od (.dK kvs))) where
  l := fun a xs _ e => by
    by_cases q : a = d
    · subst q; rw [hd] at e; cases e
    · rw [upd_ne q]; exact e
  t := fun a xs _ e => by
    by_cases q : a = d
    · subst q; rw [hd] at e; cases e
    · rw [upd_ne q]; exact e
  d := fun a xs _ e => by
    by_cases q : a = d
    · subst q; rw [hd] at e; cases e
    · rw [upd_ne q]; exact e
  k := fun a xs _ e => by
    by_cases q : a = d
    · subst q
      rcases e with e | ⟨o, e⟩
      · rw [hd] at e; cases e; exact .inr ⟨od, upd_same⟩
      · rw [hd] at e; cases e
    · rcases e with e | ⟨o, e⟩
      · exact .inl (by rw [upd_ne q]; exact e)
      · exact .inr ⟨o, by rw [upd_ne q]; exact e⟩
theorem unlock_kq (hd : H d = some (.frz od (.dK kvs))) : Kq O H (upd H d (.dK kvs)) where
  l := fun a xs _ e => by
    by_cases q : a = d
    · subst q; rw [hd] at e; cases e
    · rw [upd_ne q]; exact e
  t := fun a xs _ e => by
    by_cases q : a = d
    · subst q; rw [hd] at e; cases e
    · rw [upd_ne q]; exact e
  d := fun a xs _ e => by
    by_cases q : a = d
    · subst q; rw [hd] at e; cases e
    · rw [upd_ne q]; exact e
  k := fun a xs _ e => by
    by_cases q : a = d
    · subst q
      rcases e with e | ⟨o, e⟩
      · rw [hd] at e; cases e
      · rw [hd] at e; cases e; exact .inl upd_same
    · rcases e with e | ⟨o, e⟩
      · exact .inl (by rw [upd_ne q]; exact e)
      · exact .inr ⟨o, by rw [upd_ne q]; exact e⟩
theorem row_upd {O' : Addr → Prop} {r : Addr} {o o' : HO} (q : RowAt K O' H r x) (hr : r ≠ d) (hd : H d = some o) (hn : ∀ p xs, o ≠ .frz p (.lst xs)) (hn2 : ∀ xs, o ≠ .lst xs) (h : ∀ a, O a → O' a) : RowAt K O (upd H d o') r x := by
  obtain ⟨a0, e, q⟩ := q
  refine ⟨a0, by rw [upd_ne hr]; exact e, ?_⟩
  rcases q with ⟨n, q⟩ | q
  · have z : a0 ≠ d := fun z => by
      subst z
      rcases q with q | ⟨p, q⟩
      · rw [hd] at q; cases q; exact absurd rfl (hn2 _)
      · rw [hd] at q; cases q; exact absurd rfl (hn _ _)
    refine .inl ⟨fun z => n (h _ z), ?_⟩
    rcases q with q | ⟨p, q⟩
    · exact .inl (by rw [upd_ne z]; exact q)
    · exact .inr ⟨p, by rw [upd_ne z]; exact q⟩
  · exact .inr q
theorem FSt.lock (S : FSt ω K g O σ H env x) (hd : H d = some (.dK kvs)) (hO : ¬ O d) (hn : noOw env = true) : FSt ω K (gL g O (upd H d (.frz od (.dK kvs)))) O σ (upd H d (.frz od (.dK kvs))) env x where
  sub := fun a h => h
  new := fun a h => .inl h
  dom := fun a h => by
    have : a ≠ d := fun z => hO (z ▸ h)
    rw [upd_ne this]; exact S.dom a h
  le := fun a o _ e _ => (noT_some e).1
  tb := tabs_upd S.tb hd rfl notC_dK
  tk := S.tk
  nt0 := fun a o e => (noT_some e).2
  ww := S.ww
  row := fun r hr => by
    obtain ⟨h1, h2, h3⟩ := S.row r hr
    have hr' : r ≠ d := fun z => hO (z ▸ S.sub r h1)
    refine ⟨S.sub r h1, ?_, row_upd h3 hr' hd (fun _ _ => by simp) (fun _ => by simp) fun _ h => h⟩
    obtain ⟨a0, e, _⟩ := h3
    show noT (upd H d _) r ≠ none
    rw [noT_of (by rw [upd_ne hr']; exact e) rfl]; simp
  len := S.len
  sl := fun i s e h1 h2 => by
    cases S.sl i s e h1 h2 with
    | no => exact .no _
    | va r => exact .va (r.mv (lock_kq hd))
    | ow a b c d => exact absurd h2 (noOw_at hn)
    | da a b c d => exact absurd h2 (noDa_at hn)
    | fn n e r => exact .fn n (by rw [upd_ne (fun z => by rw [z, hd] at e; unfold LamX.CodeO at e; cases e)]; exact e) fun p hp => (r p hp).mv (lock_kq hd)
    | rw e => exact .rw e
  dis := S.dis
  gh := fun p hp => by cases hp
theorem FSt.unlock (S : FSt ω K g O σ H env x) (hd : H d = some (.dK kvs)) (hO : ¬ O d) (S' : FSt ω K (gL g O (upd H d (.frz od (.dK kvs)))) O' σ' H' env' x') : H' d = some (.frz od (.dK kvs)) ∧ FSt ω K g O' σ' (upd H' d (.dK kvs)) env' x' := by
  have hR : g.R ≠ some d := fun z => hO (S.sub d (S.row d z).1)
  have hl : H' d = some (.frz od (.dK kvs)) := S'.le d _ hR (noT_of upd_same rfl) rfl
  have hO' : ¬ O' d := fun z => by
    rcases S'.new d z with q | q
    · exact hO q
    · rw [show (gL g O (upd H d (.frz od (.dK kvs)))).H0 d = some (.frz od (.dK kvs)) from noT_of upd_same rfl] at q; cases q
  have hle : Le g H (upd H' d (.dK kvs)) := fun a o r e t => by
    by_cases q : a = d
    · subst q; rw [hd] at e; cases e; exact upd_same
    · rw [upd_ne q]
      exact S'.le a o r (noT_of (by rw [upd_ne q]; exact e) t) t
  refine ⟨hl, ?_⟩
  have hnew : ∀ a, O' a → O a ∨ Gone H a := fun a ha => by
    rcases S'.new a ha with q | q
    · exact .inl q
    · right
      by_cases z : a = d
      · subst z; exact absurd ha hO'
      · exact fun o e => noT_gone (show noT (upd H d (.frz od (.dK kvs))) a = none from q) o (by rw [upd_ne z]; exact e)
  exact {
    sub := fun a h => S'.sub a (S.sub a h)
    new := fun a ha => by
      rcases hnew a ha with q | q
      · exact S.new a q
      · exact .inr (S.new2 q)
    tb := tabs_upd S'.tb hl rfl notC_frz
    tk := S.tk
    nt0 := S.nt0
    ww := S.ww
    dom := fun a ha => by
      have : a ≠ d := fun z => hO' (z ▸ ha)
      rw [upd_ne this]; exact S'.dom a ha
    le := S.le.trans hle
    row := fun r hr => by
      obtain ⟨h1, h2, _⟩ := S.row r hr
      have hr' : r ≠ d := fun z => hO (z ▸ S.sub r h1)
      exact ⟨h1, h2, row_upd (S'.row r hr).2.2 hr' hl (fun _ _ => by simp) (fun _ => by simp) fun _ h => h⟩
    len := S'.len
    sl := fun i s e h1 h2 => by
      cases S'.sl i s e h1 h2 with
      | no => exact .no _
      | va r => exact .va (r.mv (unlock_kq hl))
      | @ow a w p1 p2 p3 h4 =>
        refine .ow p1 (fun z => p2 (S.sub a z)) p3 ?_
        have ha : a ≠ d := fun z => hO' (z ▸ p1)
        cases w with
        | lst ds => obtain ⟨xs, q, r⟩ := h4; exact ⟨xs, by rw [upd_ne ha]; exact q, r.mv (unlock_kq hl)⟩
        | dk ds => obtain ⟨xs, q, r⟩ := h4; exact ⟨xs, by rw [upd_ne ha]; exact q, r.mv (unlock_kq hl)⟩
        | dt ds => obtain ⟨xs, q, r⟩ := h4; exact ⟨xs, by rw [upd_ne ha]; exact q, r.mv (unlock_kq hl)⟩
      | @da a ds p1 p2 p3 h4 =>
        have ha : a ≠ d := fun z => hO' (z ▸ p1)
        exact .da p1 (fun z => p2 (S.sub a z)) p3 (h4.mv (fun u q _ => by rw [upd_ne ha]; exact q) fun _ _ r => r.mv (unlock_kq hl))
      | fn n e r => exact .fn n (by rw [upd_ne (fun z => by rw [z, hl] at e; unfold LamX.CodeO at e; cases e)]; exact e) fun p hp => (r p hp).mv (unlock_kq hl)
      | rw e => exact .rw e
    dis := S'.dis
    gh := fun p hp => (S.gh p hp).move (S.keep hle) hnew }
end
theorem RpK.keyAt {K : PySem.W.Frag} {O : Addr → Prop} {H : Hp} : ∀ {kvs : List (L2.Key × V)} {ds : List (D × D)}, RpK K O H kvs ds → ds.map (·.1) = kvs.map fun kv => keyD kv.1
  | _, _, .nil => rfl
  | _, _, .cons a b => by rw [List.map_cons, List.map_cons, RpK.keyAt b]
theorem rp_key {K : PySem.W.Frag} {O : Addr → Prop} {H : Hp} (k : L2.Key) : Rp K O H (kV k) (keyD k) := by
  cases k with
  | inl i => exact .int i
  | inr s => exact .str s
section
variable {X : Cx} {pos pos1 : Pos}
/-- the loop over the keys of a locked dict -/
theorem ps_forK {tg : Expr} {body : List Stmt} {n : Str} {vs : List Nat} {gt : FGt} {fb : FS} (i : Nat) (hp : PassesOwn (model X.prog X.w) X.A X.env X.xe) (hc : X.calm = true)
    (hN : X.N[i]? = some n) (hv : Vis X.env.scope n) (hd : (n == ("__debug__" : Str)) = false) (hcd : (n == ("__classdict__" : Str)) = false)
    (hg : SG X tg vs gt) (hb : SSs X body fb) (hs : ∀ x, foldedSetIterable (.Name n pos1) X.env x = pure x) :
    PS X (.For tg (.Name n pos1) body [] pos) (fun Dn σ H => ∃ g O env x r x' a od kvs ds, FSt X.w X.K g O σ H env x ∧ env[i]? = some (.va (.dict ds)) ∧ σ[i]? = some (some (.ref a)) ∧ g.H0 a = some (.frz od (.dK kvs)) ∧ RpK X.K O H kvs ds ∧ g.R ≠ some a ∧
      forL gt fb (ds.map (·.1)) env x = some (r, x') ∧ match r with
  | .nx env' => ∀ O' σ' H', FSt X.w X.K g O' σ' H' env' x' → Dn.nx σ' H'
  | .bk env' => ∀ O' σ' H', FSt X.w X.K g O' σ' H' env' x' → Dn.bk σ' H'
  | .ct env' => ∀ O' σ' H', FSt X.w X.K g O' σ' H' env' x' → Dn.ct σ' H'
  | .rt d => ∀ O' σ' H' v env', FSt X.w X.K g O' σ' H' env' x' → Rp X.K O' H' v d → Dn.rt v H') := by
  refine PSw (ps_for hp hc (pi_keys (pe_var hN hv hd hcd)) hg.out hb.out hs) fun Dn σ H h => ?_
  obtain ⟨g, O, env, x, r, x', a, od, kvs, ds, S, ei, es, ha, hk, hR, e, k⟩ := h
  refine ⟨_, es, a, od, rfl, .inl ⟨kvs, S.le a _ hR ha rfl, ?_⟩⟩
  have hke := hk.keyAt
  have hlen : (ds.map (·.1)).length = kvs.length := by rw [hke, List.length_map]
  refine ⟨fun i m σ2 H2 => m = (ds.map (·.1)).length - i ∧ i ≤ (ds.map (·.1)).length ∧ ∃ O env x, FSt X.w X.K g O σ2 H2 env x ∧ forL gt fb ((ds.map (·.1)).drop i) env x = some (r, x'), ⟨_, rfl, Nat.zero_le _, O, env, x, S, e⟩, fun i m σ2 H2 hW => ?_⟩
  obtain ⟨rfl, hil, O2, env2, x2, S2, e⟩ := hW
  have ha2 : H2 a = some (.frz od (.dK kvs)) := S2.le a _ hR ha rfl
  by_cases hlt : i < (ds.map (·.1)).length
  · rw [drop_get (List.getElem?_eq_getElem hlt)] at e
    refine .inr ⟨⟨ha2, by rw [← hlen]; exact hlt⟩, fun σ' H' => i + 1 ≤ (ds.map (·.1)).length ∧ ∃ O env x, FSt X.w X.K g O σ' H' env x ∧ forL gt fb ((ds.map (·.1)).drop (i + 1)) env x = some (r, x'), fun σ' H' hN => ⟨(ds.map (·.1)).length - (i + 1), by omega, rfl, hN.1, hN.2⟩, fun v H' hy => ?_⟩
    obtain ⟨rfl, kk, vv, hkv, rfl⟩ := hy
    have hdk : (ds.map (·.1))[i] = keyD kk := by
      have q : (ds.map (·.1))[i]? = some (keyD kk) := by rw [hke, List.getElem?_map, hkv]; rfl
      rw [List.getElem?_eq_getElem hlt] at q; exact Option.some.inj q
    rw [hdk] at e
    unfold forL at e
    split at e
    · cases e
    · rename_i env1 e2
      refine ⟨g, O2, env2, x2, keyD kk, env1, S2, rp_key kk, e2, fun σ1 _ S3 => ?_⟩
      split at e
      · rename_i env3 x3 e3
        exact ⟨g, O2, env1, x2, _, x3, S3, e3, fun O' σ' H' S' => ⟨hlt, O', env3, x3, S', e⟩⟩
      · rename_i env3 x3 e3
        exact ⟨g, O2, env1, x2, _, x3, S3, e3, fun O' σ' H' S' => ⟨hlt, O', env3, x3, S', e⟩⟩
      · rename_i env3 x3 e3
        cases e
        exact ⟨g, O2, env1, x2, _, x', S3, e3, fun O' σ' H' S' => k O' σ' H' S'⟩
      · rename_i d x3 e3
        cases e
        exact ⟨g, O2, env1, x2, _, x', S3, e3, fun O' σ' H' v env' S' r' => k O' σ' H' v env' S' r'⟩
      · cases e
  · have hi : i = (ds.map (·.1)).length := by omega
    rw [hi, List.drop_length] at e
    unfold forL at e
    cases e
    exact .inl ⟨⟨ha2, by omega⟩, k O2 σ2 H2 S2⟩
theorem PS.orr {X : Cx} {st : Stmt} {t u : TS} (h : PS X st t) (h' : PS X st u) : PS X st (fun Dn σ H => t Dn σ H ∨ u Dn σ H) := ⟨fun pins s σ H D I z => z.elim (h.run pins s σ H D I) (h'.run pins s σ H D I)⟩
theorem ss_forD {tg : Expr} {body : List Stmt} {n : Str} {vs : List Nat} {gt : FGt} {fb : FS} (i : Nat) (hp : PassesOwn (model X.prog X.w) X.A X.env X.xe) (hc : X.calm = true)
    (hg : SG X tg vs gt) (hb : SSs X body fb) (hN : X.N[i]? = some n := by rfl) (hv : Vis X.env.scope n := by first | exact Or.inl rfl | exact Or.inr (Or.inl rfl) | exact Or.inr (Or.inr rfl)) (hd : (n == ("__debug__" : Str)) = false := by decide) (hcd : (n == ("__classdict__" : Str)) = false := by decide)
    (hs : ∀ x, foldedSetIterable (.Name n pos1) X.env x = pure x := by intro _; rfl) : SS X (.For tg (.Name n pos1) body [] pos) (sForD i gt fb) := by
  have base := ps_forK (pos := pos) (pos1 := pos1) i hp hc hN hv hd hcd hg hb hs
  refine ⟨PSw (PS.orr (ps_lock base) base) fun Dn σ H h => ?_⟩
  obtain ⟨g, O, env, x, r, x', S, e, k⟩ := h
  unfold sForD at e
  split at e
  · rename_i ds ei
    split at e
    · rename_i hn
      obtain ⟨s, es, sl⟩ := S.at ei
      cases sl with
      | va rp =>
        cases rp with
        | @dK a kvs _ hO hrd hk =>
          have hR : g.R ≠ some a := fun z => hO (S.sub a (S.row a z).1)
          rcases hrd with hd | ⟨od, hd⟩
          · refine .inl ⟨a, _, hd, True.intro, fun od => ?_⟩
            refine ⟨gL g O _, O, env, x, r, x', a, od, kvs, ds, S.lock hd hO hn, ei, es, noT_of upd_same rfl, hk.mv (lock_kq hd), hR, e, ?_⟩
            cases r with
            | nx env' => exact fun O' σ' H' S' => ⟨(S.unlock hd hO S').1, k _ _ _ (S.unlock hd hO S').2⟩
            | bk env' => exact fun O' σ' H' S' => ⟨(S.unlock hd hO S').1, k _ _ _ (S.unlock hd hO S').2⟩
            | ct env' => exact fun O' σ' H' S' => ⟨(S.unlock hd hO S').1, k _ _ _ (S.unlock hd hO S').2⟩
            | rt d => exact fun O' σ' H' v env' S' rv => ⟨(S.unlock hd hO S').1, k _ _ _ _ _ (S.unlock hd hO S').2 (rv.mv (unlock_kq (S.unlock hd hO S').1))⟩
          · right
            have hle : ∀ {O' : Addr → Prop} {σ' : L2.St} {H' : Hp} {env' : FEn}, FSt X.w X.K ⟨O, noT H, g.R, [], g.T, g.w⟩ O' σ' H' env' x' → FSt X.w X.K g O' σ' H' env' x' := fun {O' σ' H' env'} S' => {
              sub := fun a h => S'.sub a (S.sub a h)
              new := fun a ha => by
                rcases S'.new a ha with q | q
                · exact S.new a q
                · exact .inr (S.new2 (noT_gone (show noT H a = none from q)))
              tb := S'.tb
              tk := S.tk
              nt0 := S.nt0
              ww := S.ww
              dom := S'.dom
              le := fun a o r e t => S'.le a o r (noT_of (S.le a o r e t) t) t
              row := fun r hr => ⟨(S.row r hr).1, (S.row r hr).2.1, (S'.row r hr).2.2⟩
              len := S'.len
              sl := fun i s e h1 h2 => by
                cases S'.sl i s e h1 h2 with
                | no => exact .no _
                | va r => exact .va r
                | ow p1 p2 p3 p4 => exact .ow p1 (fun z => p2 (S.sub _ z)) p3 p4
                | da p1 p2 p3 p4 => exact .da p1 (fun z => p2 (S.sub _ z)) p3 p4
                | fn n e r => exact .fn n e r
                | rw e => exact .rw e
              dis := S'.dis
              gh := fun p hp => (S.gh p hp).move (S.keep fun a o r e t => S'.le a o r (noT_of e t) t) fun a ha => (S'.new a ha).elim .inl fun q => .inr (noT_gone (show noT H a = none from q)) }
            have S1 : FSt X.w X.K ⟨O, noT H, g.R, [], g.T, g.w⟩ O σ H env x := {
              sub := fun a h => h
              new := fun a h => .inl h
              dom := S.dom
              le := fun a o _ e _ => (noT_some e).1
              tb := S.tb
              tk := S.tk
              nt0 := fun a o e => (noT_some e).2
              ww := S.ww
              row := fun r hr => ⟨S.sub r (S.row r hr).1, by obtain ⟨a0, e, _⟩ := (S.row r hr).2.2; rw [show (⟨O, noT H, g.R, [], g.T, g.w⟩ : FG).H0 r = _ from noT_of e rfl]; simp, (S.row r hr).2.2⟩
              len := S.len
              sl := fun i s e h1 h2 => by
                cases S.sl i s e h1 h2 with
                | no => exact .no _
                | va r => exact .va r
                | ow a b c d => exact absurd h2 (noOw_at hn)
                | da a b c d => exact absurd h2 (noDa_at hn)
                | fn n e r => exact .fn n e r
                | rw e => exact .rw e
              dis := S.dis
              gh := fun p hp => by cases hp }
            refine ⟨⟨O, noT H, g.R, [], g.T, g.w⟩, O, env, x, r, x', a, od, kvs, ds, S1, ei, es, noT_of hd rfl, hk, hR, e, ?_⟩
            cases r with
            | nx env' => exact fun O' σ' H' S' => k _ _ _ (hle S')
            | bk env' => exact fun O' σ' H' S' => k _ _ _ (hle S')
            | ct env' => exact fun O' σ' H' S' => k _ _ _ (hle S')
            | rt d => exact fun O' σ' H' v env' S' rv => k _ _ _ _ _ (hle S') rv
    · cases e
  · cases e
end
end RT

namespace RT
open PySem PySem.Spec PyProof.Rows L2 PpSet
/-! ### {elt for .. in .. for .. in ..}, the elements ints -/
section
variable {prog : Program} {w : World} {A : Around} {R : Result → Shared → Prop} {s : Shared} {el ta ia tb ib : Expr} {ca cb : List Expr} {sc : Scope} {ps : Pos} {J M : Value} {env : Env}
abbrev sc2 (el ta ia tb ib : Expr) (ca cb : List Expr) (sc : Scope) (ps : Pos) : Expr := .SetComp el [⟨ta, ia, ca, 0⟩, ⟨tb, ib, cb, 0⟩] sc ps
theorem turnS_a (el ta ia tb ib : Expr) (ca cb : List Expr) (sc : Scope) (ps : Pos) (J M : Value) (env : Env) :
    compTurn (sc2 el ta ia tb ib ca cb sc ps) 0 J M env = (do
      standAt ia.pos
      match ← pyNext J with
      | none => pure (.done .next)
      | some x =>
        letOwnedTupleGo ta J x
        assign ta env x
        let mut go := true
        for c in ca do
          if go then go ← isTrue c env (eval c env)
        if go then
          let y ← eval ib env
          standAt ib.pos
          let y ← foldedSetIterable ib env y
          let _ ← runOwn (.compStart (sc2 el ta ia tb ib ca cb sc ps) 1 (← holding [y] (pyIter y)) M env) env
        again (.compLoop (sc2 el ta ia tb ib ca cb sc ps) 0 J M env)) := by rfl
theorem turnS_b (el ta ia tb ib : Expr) (ca cb : List Expr) (sc : Scope) (ps : Pos) (J M : Value) (env : Env) :
    compTurn (sc2 el ta ia tb ib ca cb sc ps) 1 J M env = (do
      standAt ib.pos
      match ← pyNext J with
      | none => pure (.done .next)
      | some x =>
        letOwnedTupleGo tb J x
        assign tb env x
        let mut go := true
        for c in cb do
          if go then go ← isTrue c env (eval c env)
        if go then
          (do let y ← eval el env; standAt el.pos; let _ ← call (.builtin "set.add") [M, y])
        again (.compLoop (sc2 el ta ia tb ib ca cb sc ps) 1 J M env)) := by rfl
/-- the tests of a clause -/
abbrev asks (cs : List Expr) (env : Env) : Sem Bool := forIn cs true fun c r => if r = true then do let ok ← isTrue c env (eval c env); pure (ForInStep.yield ok) else pure (ForInStep.yield r)
/-- where a raise in the block goes -/
abbrev nb (prog : Program) (w : World) (A : Around) (R : Result → Shared → Prop) (env : Env) : Value → Shared → Prop := notedBy (model prog w) A env fun x t => R (.error x) t
theorem loopS_a (fold : ∀ x, foldedSetIterable ib env x = pure x) (G : Nat → Shared → Prop)
    (turn : ∀ n s, G n s → wpAny (model prog w) A (pyNext J) (fun r t1 => match r with
      | none => R (.ok .next) t1
      | some x => wpAny (model prog w) A (letOwnedTupleGo ta J x) (fun _ t2 => wpAny (model prog w) A (assign ta env x) (fun _ t3 => wpAny (model prog w) A (asks ca env) (fun go t4 =>
          if go = true then wpAny (model prog w) A (eval ib env) (fun y t5 => wpAny (model prog w) A (pyIter y) (fun K t6 =>
              codeAny (model prog w) A (.compStart (sc2 el ta ia tb ib ca cb sc ps) 1 K M env) (fun r t7 => match r with
                | .ok _ => ∃ m, m < n ∧ G m t7
                | .error _ => False) t6) (nb prog w A R env) t5) (nb prog w A R env) t4
          else ∃ m, m < n ∧ G m t4) (nb prog w A R env) t3) (nb prog w A R env) t2) (nb prog w A R env) t1) (nb prog w A R env) s)
    (n : Nat) (h : G n s) : codeAny (model prog w) A (.compLoop (sc2 el ta ia tb ib ca cb sc ps) 0 J M env) R s := by
  refine codeAny_loop rfl G (fun n s hG => ?_) n h
  show wpAny _ A ((compTurn (sc2 el ta ia tb ib ca cb sc ps) 0 J M env).onRaise (fun x => do noteFrame x env; theTreesLotGoes x)) _ _ s
  refine wpAny_noted ?_
  rw [turnS_a]
  refine wpAny_bind (wpAny_standAt (wpAny_bind (wpAny_mono (turn n s hG) (fun r t1 k1 => ?_) fun _ _ z => z)))
  cases r with
  | none => exact wpAny_pure k1
  | some x =>
    refine wpAny_bind (wpAny_mono k1 (fun _ t2 k2 => wpAny_bind (wpAny_mono k2 (fun _ t3 k3 => wpAny_bind (wpAny_mono k3 (fun go t4 k4 => ?_) fun _ _ z => z)) fun _ _ z => z)) fun _ _ z => z)
    cases go with
    | false => exact wpAny_pure ⟨rfl, k4⟩
    | true =>
      refine wpAny_bind (wpAny_mono k4 (fun y t5 k5 => wpAny_bind (wpAny_standAt (wpAny_bind (wpAny_of_eq (fold y) (wpAny_bind (wpAny_holding (wpAny_mono k5 (fun K t6 k6 => ?_) fun _ _ z => z))))))) fun _ _ z => z)
      refine wpAny_bind (wpAny_runOwn ?_)
      rw [Around.mark_none]
      refine codeAny_mono k6 fun r t7 k7 => ?_
      cases r with
      | error x => exact k7.elim
      | ok f => first | exact wpAny_pure ⟨rfl, k7⟩ | exact wpAny_bind (wpAny_pure (wpAny_pure ⟨rfl, k7⟩))
theorem loopS_b (G : Nat → Shared → Prop)
    (turn : ∀ n s, G n s → wpAny (model prog w) A (pyNext J) (fun r t1 => match r with
      | none => R (.ok .next) t1
      | some x => wpAny (model prog w) A (letOwnedTupleGo tb J x) (fun _ t2 => wpAny (model prog w) A (assign tb env x) (fun _ t3 => wpAny (model prog w) A (asks cb env) (fun go t4 =>
          if go = true then wpAny (model prog w) A (eval el env) (fun y t5 =>
              wpAny (model prog w) A (call (.builtin "set.add") [M, y]) (fun _ t6 => ∃ m, m < n ∧ G m t6) (nb prog w A R env) t5) (nb prog w A R env) t4
          else ∃ m, m < n ∧ G m t4) (nb prog w A R env) t3) (nb prog w A R env) t2) (nb prog w A R env) t1) (nb prog w A R env) s)
    (n : Nat) (h : G n s) : codeAny (model prog w) A (.compLoop (sc2 el ta ia tb ib ca cb sc ps) 1 J M env) R s := by
  refine codeAny_loop rfl G (fun n s hG => ?_) n h
  show wpAny _ A ((compTurn (sc2 el ta ia tb ib ca cb sc ps) 1 J M env).onRaise (fun x => do noteFrame x env; theTreesLotGoes x)) _ _ s
  refine wpAny_noted ?_
  rw [turnS_b]
  refine wpAny_bind (wpAny_standAt (wpAny_bind (wpAny_mono (turn n s hG) (fun r t1 k1 => ?_) fun _ _ z => z)))
  cases r with
  | none => exact wpAny_pure k1
  | some x =>
    refine wpAny_bind (wpAny_mono k1 (fun _ t2 k2 => wpAny_bind (wpAny_mono k2 (fun _ t3 k3 => wpAny_bind (wpAny_mono k3 (fun go t4 k4 => ?_) fun _ _ z => z)) fun _ _ z => z)) fun _ _ z => z)
    cases go with
    | false => exact wpAny_pure ⟨rfl, k4⟩
    | true => exact wpAny_bind (wpAny_bind (wpAny_mono k4 (fun y t5 k5 => wpAny_bind (wpAny_standAt (wpAny_bind (wpAny_mono k5 (fun _ t6 k6 => wpAny_pure (wpAny_pure ⟨rfl, k6⟩)) fun _ _ z => z)))) fun _ _ z => z))
theorem startS_b (h0 : codeAny (model prog w) A (.compLoop (sc2 el ta ia tb ib ca cb sc ps) 1 J M env) R s)
    (h : wpAny (model prog w) A (pyIter J) (fun K t => codeAny (model prog w) A (.compLoop (sc2 el ta ia tb ib ca cb sc ps) 1 K M env) R t) (nb prog w A R env) s) :
    codeAny (model prog w) A (.compStart (sc2 el ta ia tb ib ca cb sc ps) 1 J M env) R s := by
  refine codeAny_of_tree ?_
  show wpAny _ _ ((compStart (sc2 el ta ia tb ib ca cb sc ps) 1 J M env).onRaise (fun x => do noteFrame x env; standAt theWindowsPlace)) _ _ s
  refine wpAny_notedAt ?_
  unfold compStart
  show wpAny _ _ (ask >>= _) _ _ s
  refine wpAny_bind (wpAny_askSetting (wpAny_ite ?_))
  split
  · first | exact wpAny_bind (wpAny_pure (wpAny_pure ⟨rfl, h0⟩)) | exact wpAny_pure ⟨rfl, h0⟩
  · first
      | exact wpAny_bind (wpAny_rule (wpAny_bind (wpAny_standAt (wpAny_bind (wpAny_mono h (fun K t k => wpAny_pure ⟨rfl, k⟩) fun _ _ z => z)))))
      | (refine wpAny_bind (wpAny_rule ?_); show wpAny _ _ (standAt ib.pos >>= _) _ _ s; exact wpAny_bind (wpAny_standAt (wpAny_bind (wpAny_mono h (fun K t k => wpAny_pure ⟨rfl, k⟩) fun _ _ z => z))))
end
section
variable {X : Cx} {el ta ia tb ib : Expr} {ca cb : List Expr} {scope : Scope} {own : List (Str × Nat)} {vb : List Nat} {pos : Pos} {wa wb : TI} {ga gb : TG} {qa qb : TT} {te : TE}
/-- behind the first clause the second one's own loop, from which Nx is reached -/
def tSi2 (w : World) (wa : TI) (ga : TG) (qa : TT) (wb : TI) (gb : TG) (qb : TT) (te : TE) (vs vb : List Nat) : TE := fun σ H Q => wa σ H fun J H1 => ∀ p, H1 p = none →
  ∃ W : Nat → Nat → Hp → Prop, (∃ m, W 0 m (upd H1 p (SetIO w p (fun _ => false) 0))) ∧ ∀ i m H, W i m H → (J.stop i H ∧ Q (.ref p) H) ∨
    (J.go i H ∧ ∃ Nx : Hp → Prop, (∀ H', Nx H' → ∃ m', m' < m ∧ W (i + 1) m' H') ∧ ∀ x H', J.yld i H x H' → ga x (wipe σ vs) H' fun σ2 H2 => wipe σ2 vs = wipe σ vs ∧ qa σ2 H2 fun b H3 =>
      if b = true then wb σ2 H3 fun L H4 => ∃ U : Nat → Nat → Hp → Prop, (∃ m, U 0 m H4) ∧ ∀ j k H, U j k H → (L.stop j H ∧ Nx H) ∨
        (L.go j H ∧ ∃ Ny : Hp → Prop, (∀ H', Ny H' → ∃ k', k' < k ∧ U (j + 1) k' H') ∧ ∀ x H', L.yld j H x H' → gb x (wipe σ2 vb) H' fun σ3 H5 => wipe σ3 vb = wipe σ2 vb ∧ qb σ3 H5 fun b H6 =>
          if b = true then te σ3 H6 fun y H7 => ∃ (k : Int) (M : Int → Bool) (n : Nat), y = .int k ∧ H7 p = some (SetIO w p M n) ∧ n + 1 < scanBound ∧ Ny (upd H7 p (SetIO w p (fun j => M j || decide (j = k)) (if M k = true then n else n + 1))) else Ny H6)
      else Nx H3)
theorem pe_si2 (hc : X.calm = true) (hN : X.N.Nodup) (hi : PI X ta ia wa) (ok : BlkOk X.N X.env.scope scope own) (hv : ∀ i ∈ vb, i ∈ own.map (·.2))
    (hg : ∀ (s : Shared) (H : Hp) (C : Addr) (cl : List (Str × Addr)) (fp : List Addr), PG (X.blk s H scope (compEnvC scope cl C X.env) fp) ta ga)
    (ht : ∀ (s : Shared) (H : Hp) (C : Addr) (cl : List (Str × Addr)) (fp : List Addr), PTs (X.blk s H scope (compEnvC scope cl C X.env) fp) ca qa)
    (hib : ∀ (s : Shared) (H : Hp) (C : Addr) (cl : List (Str × Addr)) (fp : List Addr), PI (X.blk s H scope (compEnvC scope cl C X.env) fp) tb ib wb)
    (hgb : ∀ (s : Shared) (H : Hp) (C : Addr) (cl : List (Str × Addr)) (fp : List Addr), PG (X.blk s H scope (compEnvC scope cl C X.env) fp) tb gb)
    (htb : ∀ (s : Shared) (H : Hp) (C : Addr) (cl : List (Str × Addr)) (fp : List Addr), PTs (X.blk s H scope (compEnvC scope cl C X.env) fp) cb qb)
    (he : ∀ (s : Shared) (H : Hp) (C : Addr) (cl : List (Str × Addr)) (fp : List Addr), PE (X.blk s H scope (compEnvC scope cl C X.env) fp) el te)
    (hs : ∀ x, foldedSetIterable ia X.env x = pure x := by intro _; rfl) (hsb : ∀ env x, foldedSetIterable ib env x = pure x := by intro _ _; rfl) : PE X (sc2 el ta ia tb ib ca cb scope pos) (tSi2 X.w wa ga qa wb gb qb te (own.map (·.2)) vb) := by
  refine ⟨fun pins s σ H Q I h => ?_⟩
  show wpAny _ _ (eval (.SetComp el [⟨ta, ia, ca, 0⟩, ⟨tb, ib, cb, 0⟩] scope pos) X.env) _ _ s
  rw [eval_SetComp]
  have clo : ∀ y ∈ scope.names, y.2 = .free → ∃ c, X.env.cells.lookup y.1 = some c := fun y hy e => (ok.free y hy e).elim (fun k => I.ok.has _ (.inl k)) fun k => I.ok.has _ (.inr k)
  refine wpAny_comprehension_free (use := none) rfl hs (closure_ok clo) ok.kind (fun y hy e => by rw [ok.uniq y hy, e]) (thn (hi.run pins s σ H _ I h) fun xv s1 hx => thn hx fun itv s2 h2 => ?_)
  obtain ⟨it, fp, tn, J, H2, rfl, I2, T, st2, f2, q⟩ := h2
  refine newSet_ok (newEnv_comp ?_)
  let eo : Obj := { cls := .type "set", dict := none, data := .set #[] 0 (.fresh 0 0 (!X.w.params.followText "set-order")) }
  let p : Addr := s2.heap.objs.size
  have hpn : H2 p = none := I2.hok.fresh (Nat.le_refl _)
  obtain ⟨W, ⟨m0, w0⟩, turn⟩ := q p hpn
  let s3 : Shared := { s2 with heap := s2.heap.push eo }
  let H3 : Hp := upd H2 p (SetIO X.w p (fun _ => false) 0)
  have I3 : L2.Inv X pins σ H3 s3 := I2.laid (t' := s2.toks) (fun b o e => Heap.get?_push_of_some _ e) (Nat.le_refl _) (setIO_ok (setR_fresh X.w))
  have low : ∀ b ∈ fp, b < s2.heap.objs.size := fun b hb => let ⟨_, e, _⟩ := T.obj _ _ st2 b hb; Heap.lt_size e
  have f3 : ∀ b ∈ fp, FpOk X pins H3 b ∧ b < s3.heap.objs.size := fun b hb => by
    have hlt := low b hb
    refine ⟨⟨?_, (f2 b hb).2⟩, by show b < (s2.heap.push eo).objs.size; rw [Heap.size_push]; exact Nat.lt_succ_of_lt hlt⟩
    show upd H2 p _ b = none
    rw [upd_ne (show b ≠ p from Nat.ne_of_lt hlt)]
    exact (f2 b hb).1
  have st3 : tn 0 s3.heap := T.keep _ _ _ st2 fun b _ o e => Heap.get?_push_of_some _ e
  have I4 := block_start I3 ok hN f3
  have pg := hg s3 H3 s3.heap.objs.size (cellsFrom (s3.heap.objs.size + 1) scope.names (cloFrom X.env.cells scope.names [])) fp
  have pt := ht s3 H3 s3.heap.objs.size (cellsFrom (s3.heap.objs.size + 1) scope.names (cloFrom X.env.cells scope.names [])) fp
  have pe := he s3 H3 s3.heap.objs.size (cellsFrom (s3.heap.objs.size + 1) scope.names (cloFrom X.env.cells scope.names [])) fp
  have pib := hib s3 H3 s3.heap.objs.size (cellsFrom (s3.heap.objs.size + 1) scope.names (cloFrom X.env.cells scope.names [])) fp
  have pgb := hgb s3 H3 s3.heap.objs.size (cellsFrom (s3.heap.objs.size + 1) scope.names (cloFrom X.env.cells scope.names [])) fp
  have ptb := htb s3 H3 s3.heap.objs.size (cellsFrom (s3.heap.objs.size + 1) scope.names (cloFrom X.env.cells scope.names [])) fp
  have nfp : ∀ b ∈ fp, H3 b = none := fun b hb => (f3 b hb).1.1
  have w0 : W 0 m0 H3 := w0
  clear_value H3
  show codeAny (model X.prog X.w) X.A (.compStart (sc2 el ta ia tb ib ca cb scope pos) 0 (.ref it) (.ref p) (compEnvC scope (cellsFrom (s3.heap.objs.size + 1) scope.names (cloFrom X.env.cells scope.names [])) s3.heap.objs.size X.env)) (compPost (model X.prog X.w) X.A X.xe none (EP X pins σ Q) (.ref p) s3.heap.objs.size) { s3 with heap := pushCells (s3.heap.push { cls := .type "dict", data := .dict #[] }) scope.names }
  generalize hce : compEnvC scope (cellsFrom (s3.heap.objs.size + 1) scope.names (cloFrom X.env.cells scope.names [])) s3.heap.objs.size X.env = ce at I4 pg pt pe pib pgb ptb ⊢
  have cL : ce.locals = s3.heap.objs.size := by rw [← hce] <;> rfl
  generalize hs4 : ({ s3 with heap := pushCells (s3.heap.push { cls := .type "dict", data := .dict #[] }) scope.names } : Shared) = s4 at I4 ⊢
  have st4 : tn 0 s4.heap := T.keep _ _ _ st3 fun b _ o e => by rw [← hs4]; exact pushCells_keeps _ _ _ _ (Heap.get?_push_of_some _ e)
  have stat : ∀ {σ' : L2.St} {H' : Hp} {s' : Shared}, L2.Inv (X.blk s3 H3 scope ce fp) [] σ' H' s' → (∀ b ∈ fp, H' b = none) → ∀ b ∈ fp, FpOk (X.blk s3 H3 scope ce fp) [] H' b := fun {σ' H' s'} I' hn b hb =>
    ⟨hn b hb, (I'.ok.exf b hb).1, I'.ok.exfs b hb, .inl hb, fun x c e => (I'.ok.exf b hb).2 x c e, fun r hr => absurd (show r ∈ ([] : List (Addr × Obj)) ++ [] from hr) (by simp)⟩
  have loop : codeAny (model X.prog X.w) X.A (.compLoop (sc2 el ta ia tb ib ca cb scope pos) 0 (.ref it) (.ref p) ce) (compPost (model X.prog X.w) X.A X.xe none (EP X pins σ Q) (.ref p) s3.heap.objs.size) s4 := by
    refine loopS_a (hsb ce) (fun n s' => ∃ i H', L2.Inv (X.blk s3 H3 scope ce fp) [] (wipe σ (own.map (·.2))) H' s' ∧ tn i s'.heap ∧ (∀ b ∈ fp, H' b = none) ∧ W i n H') ?_ m0 ⟨0, H3, I4, st4, nfp, w0⟩
    rintro n s5 ⟨i, H5, I5, st5, n5, w5⟩
    rcases turn i n H5 w5 with ⟨stop, qq⟩ | ⟨go, Nx, hNx, step⟩
    · refine thnF (T.done (X.blk s3 H3 scope ce fp) rfl rfl rfl hc i [] s5 _ H5 (fun _ _ => False) I5 (stat I5 n5) st5 stop) fun r s6 ⟨hr, I6⟩ => ?_
      subst hr
      have I7 : L2.Inv X pins σ H5 s6 := I3.call' (ch := fp) I6.os I6.base I6.hok I6.bare fun b hb =>
        let ⟨_, a1, _, a3, a4, a5⟩ := (f3 b hb).1
        ⟨a3, a1, a4, a5⟩
      have nC : H5 s3.heap.objs.size = none := cL ▸ I6.free
      obtain ⟨m, hn, _⟩ := I6.loc
      have hn : s6.heap.Ns s3.heap.objs.size m := cL ▸ hn
      obtain ⟨a0, a1, a2, a3, a4, a5⟩ := I3.fpOk (H' := H5) (Nat.le_refl _) nC
      exact ⟨m, hn, fun h9 sb => ⟨.ref p, H5, I7.turned (t' := s6.toks) (fun b o hb e => (sb.2 b hb).trans e) a0 a1 a3 a4 a5, rfl, qq⟩⟩
    · refine thnF (T.item (X.blk s3 H3 scope ce fp) rfl rfl rfl hc i [] s5 _ H5 (fun _ _ => False) I5 (stat I5 n5) st5 go) fun r s6 ⟨u, hr, h6⟩ => ?_
      subst hr
      refine thnF h6 fun _ s7 ⟨x, H7, I7, r7, y7, st7, n7⟩ => ?_
      refine thnF (pg.run _ s7 _ H7 x u _ (I7.pinned (stat I7 n7) (T.obj _ _ st7)) r7 (step x H7 y7)) fun _ s8 ⟨σ8, H8, I8, hw8, q8⟩ => ?_
      refine thnF (pt.run _ s8 σ8 H8 _ I8 q8) fun b s9 ⟨H9, I9, q9⟩ => ?_
      have fin : ∀ {σ9 : L2.St} {s' : Shared} {H' : Hp}, L2.Inv (X.blk s3 H3 scope ce fp) ([] ++ pinsAt fp s7.heap) σ9 H' s' → (wipe σ (own.map (·.2))).length = σ9.length → (∀ (j : Nat) v, (wipe σ (own.map (·.2)))[j]? = some (some v) → σ9[j]? = some (some v)) → Nx H' →
          ∃ m, m < n ∧ ∃ i H', L2.Inv (X.blk s3 H3 scope ce fp) [] (wipe σ (own.map (·.2))) H' s' ∧ tn i s'.heap ∧ (∀ b ∈ fp, H' b = none) ∧ W i m H' := fun {σ9 s' H'} I' hl hk nx => by
        obtain ⟨m', hm, w'⟩ := hNx H' nx
        have stays : ∀ b ∈ fp, ∀ o, s7.heap.get? b = some o → s'.heap.get? b = some o ∧ H' b = none := fun b hb o e => by
          obtain ⟨z1, z2, _⟩ := I'.pin (b, o) (List.mem_append_right _ (List.mem_append_right _ (mem_pinsAt hb e)))
          exact ⟨z1, z2⟩
        refine ⟨m', hm, i + 1, H', (I'.unpinned (pins := [])).weak hl hk, T.keep _ _ _ st7 fun b hb o e => (stays b hb o e).1, fun b hb => ?_, w'⟩
        obtain ⟨o, e, _⟩ := T.obj _ _ st7 b hb
        exact (stays b hb o e).2
      have hl8 : (wipe σ (own.map (·.2))).length = σ8.length := by rw [← hw8, wipe_length]
      have hk8 : ∀ (j : Nat) v, (wipe σ (own.map (·.2)))[j]? = some (some v) → σ8[j]? = some (some v) := fun j v e => by
        rw [← hw8] at e
        exact (wipe_some e).1
      have hk9 : ∀ (j : Nat) v, (wipe σ (own.map (·.2)))[j]? = some (some v) → (wipe σ8 vb)[j]? = some (some v) := fun j v e => by
        rw [← hw8] at e
        rw [wipe_out fun z => (wipe_some e).2 (hv j z)]
        exact (wipe_some e).1
      cases b with
      | false =>
        rw [if_neg Bool.false_ne_true] at q9 ⊢
        exact fin I9 hl8 hk8 q9
      | true =>
        rw [if_pos rfl] at q9 ⊢
        refine thnF (pib.run _ s9 σ8 H9 _ I9 q9) fun xv s10 hx => thnF hx fun itv s11 h11 => ?_
        obtain ⟨jt, fq, un, L, H11, rfl, I11, V, st11, f11, U, ⟨m1, w1⟩, turn1⟩ := h11
        have stat1 : ∀ {H' : Hp}, (∀ b ∈ fq, H' b = none) → ∀ b ∈ fq, FpOk (X.blk s3 H3 scope ce fp) ([] ++ pinsAt fp s7.heap) H' b := fun hn b hb => ⟨hn b hb, (f11 b hb).2⟩
        have loop1 : codeAny (model X.prog X.w) X.A (.compLoop (sc2 el ta ia tb ib ca cb scope pos) 1 (.ref jt) (.ref p) ce)
            (fun r s' => match r with
              | .ok _ => ∃ m, m < n ∧ ∃ i H', L2.Inv (X.blk s3 H3 scope ce fp) [] (wipe σ (own.map (·.2))) H' s' ∧ tn i s'.heap ∧ (∀ b ∈ fp, H' b = none) ∧ W i m H'
              | .error _ => False) s11 := by
          refine loopS_b (fun k s' => ∃ j H', L2.Inv (X.blk s3 H3 scope ce fp) ([] ++ pinsAt fp s7.heap) (wipe σ8 vb) H' s' ∧ un j s'.heap ∧ (∀ b ∈ fq, H' b = none) ∧ U j k H') ?_ m1 ⟨0, H11, I11.weak (wipe_length _ _) (fun j v e => (wipe_some e).1), st11, fun b hb => (f11 b hb).1, w1⟩
          rintro k s12 ⟨j, H12, I12, st12, n12, w12⟩
          rcases turn1 j k H12 w12 with ⟨stop1, nx1⟩ | ⟨go1, Ny, hNy, step1⟩
          · refine thnF (V.done (X.blk s3 H3 scope ce fp) rfl rfl rfl hc j _ s12 (wipe σ8 vb) H12 (fun _ _ => False) I12 (stat1 n12) st12 stop1) fun r s13 ⟨hr, I13⟩ => ?_
            subst hr
            exact fin I13 (hl8.trans (wipe_length σ8 vb).symm) hk9 nx1
          · refine thnF (V.item (X.blk s3 H3 scope ce fp) rfl rfl rfl hc j _ s12 (wipe σ8 vb) H12 (fun _ _ => False) I12 (stat1 n12) st12 go1) fun r s13 ⟨u1, hr, h13⟩ => ?_
            subst hr
            refine thnF h13 fun _ s14 ⟨x1, H14, I14, r14, y14, st14, n14⟩ => ?_
            refine thnF (pgb.run _ s14 (wipe σ8 vb) H14 x1 u1 _ (I14.pinned (stat1 n14) (V.obj _ _ st14)) r14 (step1 x1 H14 y14)) fun _ s15 ⟨σ15, H15, I15, hw15, q15⟩ => ?_
            refine thnF (ptb.run _ s15 σ15 H15 _ I15 q15) fun b1 s16 ⟨H16, I16, q16⟩ => ?_
            have fin1 : ∀ {s' : Shared} {H' : Hp}, L2.Inv (X.blk s3 H3 scope ce fp) (([] ++ pinsAt fp s7.heap) ++ pinsAt fq s14.heap) σ15 H' s' → Ny H' → ∃ m, m < k ∧ ∃ j H', L2.Inv (X.blk s3 H3 scope ce fp) ([] ++ pinsAt fp s7.heap) (wipe σ8 vb) H' s' ∧ un j s'.heap ∧ (∀ b ∈ fq, H' b = none) ∧ U j m H' := fun {s' H'} I' ny => by
              obtain ⟨m', hm, w'⟩ := hNy H' ny
              have stays : ∀ b ∈ fq, ∀ o, s14.heap.get? b = some o → s'.heap.get? b = some o ∧ H' b = none := fun b hb o e => by
                obtain ⟨z1, z2, _⟩ := I'.pin (b, o) (List.mem_append_right _ (List.mem_append_right _ (mem_pinsAt hb e)))
                exact ⟨z1, z2⟩
              refine ⟨m', hm, j + 1, H', I'.unpinned.weak (by rw [← hw15, wipe_length]) (fun j v e => by rw [← hw15] at e; exact (wipe_some e).1), V.keep _ _ _ st14 fun b hb o e => (stays b hb o e).1, fun b hb => ?_, w'⟩
              obtain ⟨o, e, _⟩ := V.obj _ _ st14 b hb
              exact (stays b hb o e).2
            cases b1 with
            | false =>
              rw [if_neg Bool.false_ne_true] at q16 ⊢
              exact fin1 I16 q16
            | true =>
              rw [if_pos rfl] at q16 ⊢
              refine thnF (pe.run _ s16 σ15 H16 _ I16 q16) fun z s17 ⟨yv, H17, I17, r17, k0, M0, n0, ey, h17, hz, ny⟩ => ?_
              subst ey
              obtain ⟨tk, rfl⟩ := (show ∃ t, z = Value.int k0 t from r17)
              exact addI_ok (X := X.blk s3 H3 scope ce fp) I17 h17 hz fun s18 I18 => fin1 I18 ny
        exact startS_b loop1 (V.self X.A 0 _ _ _ st11 loop1)
  exact codeAny_compStart_set loop (T.self X.A 0 _ _ _ st4 loop)
end
end RT

namespace RT
open PySem PySem.Spec PyProof.Rows L2
def nSet2 (f : FA) (gt : FGt) (t : FT) (f1 : FA) (gt1 : FGt) (t1 : FT) (fe : FE) (vs vs1 : List Nat) : FN := fun env x => match f env x with
  | some (ds, x1) => match compL2 gt t f1 gt1 t1 fe vs1 (wipeE env vs) ds x1 with
    | some (rs, x2) => match intsD rs with
      | some ns => if ns.length < 64 then some (ns, x2) else none
      | none => none
    | none => none
  | none => none
theorem intsD_cons {r : D} {l : List D} {ns : List Int} (h : intsD (r :: l) = some ns) : ∃ k rest, r = .int k ∧ intsD l = some rest ∧ ns = k :: rest := by
  unfold intsD at h
  split at h
  · rename_i z; cases z
  · rename_i kk rr z
    cases z
    split at h
    · rename_i rest e
      cases h
      exact ⟨_, _, rfl, e, rfl⟩
    · cases h
  · cases h
theorem set2_read {K : PySem.W.Frag} {w : World} {f f1 : FA} {gt gt1 : FGt} {t t1 : FT} {fe : FE} {vs vs1 : List Nat} {σ : L2.St} {H : Hp} {Q : VK} (gk : TgOk gt) (h : tSet K w (nSet2 f gt t f1 gt1 t1 fe vs vs1) σ H Q) : tSi2 w (tI w K f) (tG w K vs gt) (tT w K t) (tI w K f1) (tG w K vs1 gt1) (tT w K t1) (tE w K fe) vs vs1 σ H Q := by
  obtain ⟨g, O, env, x, ns, x', S, e, k⟩ := h
  unfold nSet2 at e
  split at e
  · rename_i ds x1 e1
    split at e
    · rename_i rs x2 e2
      split at e
      · rename_i ns' e0
        split at e
        · rename_i hl
          cases e
          refine ⟨g, O, env, x, ds, x1, S, e1, fun J more H1 S1 l1 wk p hp => ?_⟩
          have n1 := S1.newp hp
          have hp0 : Gone H p := Le.gone l1 (.of hp) S1.unadd
          have hne : ∀ (j : Nat) d b, env[j]? = some d → isOwn d = true → σ[j]? = some (some (.ref b)) → b ≠ p := fun j d b h1 h0 h2 => own_ne2 S1 (.of hp) h1 h0 h2
          refine ⟨fun i m H2 => m = ds.length - i ∧ i ≤ ds.length ∧ Le g H H2 ∧ ∃ x M dn rest rd, FSt w K (g.add more) (oAdd O p) σ H2 env x ∧ H2 p = some (SetIO w p M (nubI dn).length) ∧ (∀ k, M k = true ↔ k ∈ dn) ∧ compL2 gt t f1 gt1 t1 fe vs1 (wipeE env vs) (ds.drop i) x = some (rd, x') ∧ intsD rd = some rest ∧ dn ++ rest = ns,
            ⟨_, rfl, Nat.zero_le _, l1.trans (.of (same_upd hp)), x1, _, [], ns, rs, S1.own hp notC_set, upd_same, (fun k => by simp), e2, e0, rfl⟩, fun i m H2 hW => ?_⟩
          obtain ⟨rfl, hil, lH, x, M, dn, rest, rd, S2, hacc, hM, e, ei, er⟩ := hW
          obtain ⟨wgo, wst⟩ := wk _ σ H2 env x i S2
          by_cases hlt : i < ds.length
          · have hd : ds[i]? = some ds[i] := List.getElem?_eq_getElem hlt
            obtain ⟨go, yl⟩ := wgo _ hd
            rw [drop_get hd] at e
            refine .inr ⟨go, fun H2 => i + 1 ≤ ds.length ∧ Le g H H2 ∧ ∃ x M dn rest rd, FSt w K (g.add more) (oAdd O p) σ H2 env x ∧ H2 p = some (SetIO w p M (nubI dn).length) ∧ (∀ k, M k = true ↔ k ∈ dn) ∧ compL2 gt t f1 gt1 t1 fe vs1 (wipeE env vs) (ds.drop (i + 1)) x = some (rd, x') ∧ intsD rd = some rest ∧ dn ++ rest = ns,
              fun H' hN => ⟨ds.length - (i + 1), by omega, rfl, hN.1, hN.2⟩, fun v H3 hy => ?_⟩
            obtain ⟨sm, rv⟩ := yl v H3 hy
            unfold compL2 at e
            split at e
            · cases e
            · rename_i env1 e3
              have S3 := S2.same sm
              refine ⟨g.add more, oAdd O p, wipeE env vs, x, ds[i], env1, S3.wiped vs, rv, e3, fun σ1 w1 S4 => ⟨w1.trans (wipe_wipe σ vs), ?_⟩⟩
              have hne1 : ∀ (j : Nat) d b, env1[j]? = some d → isOwn d = true → σ1[j]? = some (some (.ref b)) → b ≠ p := fun j d b h1 h0 h2 => by
                have q := gk _ _ _ e3 j d h1 h0
                rcases wipeE_get q with z | ⟨z, z2⟩
                · rw [z] at h0; cases h0
                · refine hne j d b z2 h0 ?_
                  have a1 : (wipe σ1 vs)[j]? = σ1[j]? := by rw [wipe_get, if_neg z]
                  have a2 : (wipe (wipe σ vs) vs)[j]? = σ[j]? := by rw [wipe_wipe, wipe_get, if_neg z]
                  rw [← a2, ← w1, a1]; exact h2
              split at e
              · rename_i xb e4
                split at e
                · rename_i ds1 xc e5
                  split at e
                  · rename_i rsA xd e6
                    split at e
                    · rename_i rs' xe e7
                      cases e
                      refine ⟨g.add more, oAdd O p, env1, x, _, xb, S4, e4, fun H5 S5 l5 => ?_⟩
                      refine iteT ?_
                      refine ⟨g.add more, oAdd O p, env1, xb, ds1, xc, S5, e5, fun J1 more1 H6 S6 l6 wk1 => ?_⟩
                      have l7 : Le (g.add more) H2 H6 := (Le.of sm).trans (l5.trans l6)
                      have S7 := S2.step l7 S6.tb fun r hr => (S6.row r hr).2.2
                      refine ⟨fun j m H7 => m = ds1.length - j ∧ j ≤ ds1.length ∧ Le g H H7 ∧ ∃ y M dn1 rest1 rd1, FSt w K (g.add more) (oAdd O p) σ H7 env y ∧ FSt w K ((g.add more).add more1) (oAdd O p) σ1 H7 env1 y ∧ H7 p = some (SetIO w p M (nubI dn1).length) ∧ (∀ k, M k = true ↔ k ∈ dn1) ∧ compL gt1 t1 fe (wipeE env1 vs1) (ds1.drop j) y = some (rd1, xd) ∧ intsD (rd1 ++ rs') = some rest1 ∧ dn1 ++ rest1 = ns,
                        ⟨_, rfl, Nat.zero_le _, fun c u hR e tn => l7 c u hR (lH c u hR e tn) tn, xc, M, dn, rest, rsA, S7, S6, l7 p _ n1.2 hacc rfl, hM, e6, ei, er⟩, fun j m H7 hW => ?_⟩
                      obtain ⟨rfl, hjl, lH7, y, M1, dn1, rest1, rd1, So, Si, hacc1, hM1, ec, ei1, er1⟩ := hW
                      obtain ⟨wgo1, wst1⟩ := wk1 _ σ1 H7 env1 y j Si
                      by_cases hlt1 : j < ds1.length
                      · have hd1 : ds1[j]? = some ds1[j] := List.getElem?_eq_getElem hlt1
                        obtain ⟨go1, yl1⟩ := wgo1 _ hd1
                        rw [drop_get hd1] at ec
                        refine .inr ⟨go1, fun H7 => j + 1 ≤ ds1.length ∧ Le g H H7 ∧ ∃ y M dn1 rest1 rd1, FSt w K (g.add more) (oAdd O p) σ H7 env y ∧ FSt w K ((g.add more).add more1) (oAdd O p) σ1 H7 env1 y ∧ H7 p = some (SetIO w p M (nubI dn1).length) ∧ (∀ k, M k = true ↔ k ∈ dn1) ∧ compL gt1 t1 fe (wipeE env1 vs1) (ds1.drop (j + 1)) y = some (rd1, xd) ∧ intsD (rd1 ++ rs') = some rest1 ∧ dn1 ++ rest1 = ns,
                          fun H' hN => ⟨ds1.length - (j + 1), by omega, rfl, hN.1, hN.2⟩, fun v1 H8 hy1 => ?_⟩
                        obtain ⟨sm1, rv1⟩ := yl1 v1 H8 hy1
                        unfold compL at ec
                        split at ec
                        · cases ec
                        · rename_i env2 c3
                          have T3 := Si.same sm1
                          refine ⟨(g.add more).add more1, oAdd O p, wipeE env1 vs1, y, ds1[j], env2, T3.wiped vs1, rv1, c3, fun σ2 w2 T4 => ⟨w2.trans (wipe_wipe σ1 vs1), ?_⟩⟩
                          split at ec
                          · rename_i ya c4
                            split at ec
                            · rename_i r yc c5
                              split at ec
                              · rename_i rs2 yd c6
                                cases ec
                                obtain ⟨kk, rest', rfl, ei', rfl⟩ := intsD_cons ei1
                                refine ⟨(g.add more).add more1, oAdd O p, env2, y, _, ya, T4, c4, fun H9 T5 k5 => ?_⟩
                                refine iteT ?_
                                refine ⟨(g.add more).add more1, oAdd O p, env2, ya, _, yc, T5, c5, fun z H10 T6 k6 r6 => ?_⟩
                                cases r6
                                have k7 : Le ((g.add more).add more1) H7 H10 := (Le.of sm1).trans (k5.trans k6)
                                have So7 := So.step (H' := H10) (x' := yc) k7 T6.tb fun r hr => (T6.row r hr).2.2
                                have Si7 := Si.step k7 T6.tb fun r hr => (T6.row r hr).2.2
                                have hacc' := k7 p _ n1.2 hacc1 rfl
                                have hlen : (nubI dn1).length ≤ dn1.length := by
                                  have z := nub_len dn1 []
                                  rw [List.length_nil, Nat.zero_add] at z
                                  exact z
                                have ll : dn1.length < 64 := by
                                  have h2 : (dn1 ++ kk :: rest').length = ns.length := by rw [er1]
                                  rw [List.length_append, List.length_cons] at h2
                                  omega
                                have hnub : (if M1 kk = true then (nubI dn1).length else (nubI dn1).length + 1) = (nubI (dn1 ++ [kk])).length := by
                                  rw [nubI_snoc]
                                  by_cases q : kk ∈ dn1
                                  · rw [if_pos ((hM1 kk).mpr q), if_pos ((nubI_mem dn1 kk).mpr q)]
                                  · rw [if_neg (fun z => q ((hM1 kk).mp z)), if_neg (fun z => q ((nubI_mem dn1 kk).mp z)), List.length_append, List.length_singleton]
                                refine ⟨kk, M1, _, rfl, hacc', Nat.lt_of_le_of_lt (show (nubI dn1).length + 1 ≤ 64 by omega) (by decide), hlt1, ?_, yc, _, dn1 ++ [kk], rest', rs2, So7.upd1 hacc' notC_set (.inr rfl) n1.1 n1.2 notC_set hne, Si7.upd1 hacc' notC_set (.inr rfl) n1.1 n1.2 notC_set hne1, by rw [upd_same, hnub], fun k => ?_, c6, ei', by rw [List.append_assoc]; exact er1⟩
                                · intro c u hR e tn
                                  have zz : c ≠ p := fun zz => by rw [zz] at e; exact hp0.no e tn
                                  rw [upd_ne zz]
                                  exact k7 c u hR (lH7 c u hR e tn) tn
                                · rw [Bool.or_eq_true, hM1 k, List.mem_append, List.mem_singleton, decide_eq_true_iff]
                              · cases ec
                            · cases ec
                          · rename_i ya c4
                            refine ⟨(g.add more).add more1, oAdd O p, env2, y, _, ya, T4, c4, fun H9 T5 k5 => ?_⟩
                            refine iteF ?_
                            have k7 : Le ((g.add more).add more1) H7 H9 := (Le.of sm1).trans k5
                            have So7 := So.step (H' := H9) (x' := ya) k7 T5.tb fun r hr => (T5.row r hr).2.2
                            have Si7 := Si.step k7 T5.tb fun r hr => (T5.row r hr).2.2
                            exact ⟨hlt1, fun c u hR e tn => k7 c u hR (lH7 c u hR e tn) tn, ya, M1, dn1, rest1, rd1, So7, Si7, k7 p _ n1.2 hacc1 rfl, hM1, ec, ei1, er1⟩
                          · cases ec
                      · have hj : j = ds1.length := by omega
                        rw [hj, List.drop_length] at ec
                        unfold compL at ec
                        cases ec
                        rw [List.nil_append] at ei1
                        exact .inl ⟨wst1 hj, hlt, lH7, _, M1, dn1, rest1, rs', So, hacc1, hM1, e7, ei1, er1⟩
                    · cases e
                  · cases e
                · cases e
              · rename_i xb e4
                refine ⟨g.add more, oAdd O p, env1, x, _, xb, S4, e4, fun H5 S5 l5 => ?_⟩
                refine iteF ?_
                have l7 : Le (g.add more) H2 H5 := (Le.of sm).trans l5
                have S7 := S2.step l7 S5.tb fun r hr => (S5.row r hr).2.2
                exact ⟨hlt, fun c u hR e tn => l7 c u hR (lH c u hR e tn) tn, xb, M, dn, rest, rd, S7, l7 p _ n1.2 hacc rfl, hM, e, ei, er⟩
              · cases e
          · have hi : i = ds.length := by omega
            rw [hi, List.drop_length] at e
            unfold compL2 at e
            cases e
            cases ei
            rw [List.append_nil] at er
            subst er
            exact .inl ⟨wst hi, k p H2 M S2.unadd lH hp0 hacc hM hl⟩
        · cases e
      · cases e
    · cases e
  · cases e
section
variable {X : Cx} {pos : Pos}
theorem sn_comp2 {elt tg iter tg1 iter1 : Expr} {ifs ifs1 : List Expr} {scope : Scope} {own : List (Str × Nat)} {vs1 : List Nat} {f f1 : FA} {gt gt1 : FGt} {t t1 : FT} {fe : FE} (hc : X.calm = true) (hN : X.N.Nodup) (hi : SI X tg iter f) (ok : BlkOk X.N X.env.scope scope own) (hv : ∀ i ∈ vs1, i ∈ own.map (·.2)) (gk : TgOk gt)
    (hg : ∀ (s : Shared) (H : Hp) (C : Addr) (cl : List (Str × Addr)) (fp : List Addr), SG (X.blk s H scope (compEnvC scope cl C X.env) fp) tg (own.map (·.2)) gt)
    (ht : ∀ (s : Shared) (H : Hp) (C : Addr) (cl : List (Str × Addr)) (fp : List Addr), STs (X.blk s H scope (compEnvC scope cl C X.env) fp) ifs t)
    (hi1 : ∀ (s : Shared) (H : Hp) (C : Addr) (cl : List (Str × Addr)) (fp : List Addr), SI (X.blk s H scope (compEnvC scope cl C X.env) fp) tg1 iter1 f1)
    (hg1 : ∀ (s : Shared) (H : Hp) (C : Addr) (cl : List (Str × Addr)) (fp : List Addr), SG (X.blk s H scope (compEnvC scope cl C X.env) fp) tg1 vs1 gt1)
    (ht1 : ∀ (s : Shared) (H : Hp) (C : Addr) (cl : List (Str × Addr)) (fp : List Addr), STs (X.blk s H scope (compEnvC scope cl C X.env) fp) ifs1 t1)
    (he : ∀ (s : Shared) (H : Hp) (C : Addr) (cl : List (Str × Addr)) (fp : List Addr), SE (X.blk s H scope (compEnvC scope cl C X.env) fp) elt fe)
    (hs : ∀ x, foldedSetIterable iter X.env x = pure x := by intro _; rfl) (hs1 : ∀ env x, foldedSetIterable iter1 env x = pure x := by intro _ _; rfl) :
    SN X (.SetComp elt [⟨tg, iter, ifs, 0⟩, ⟨tg1, iter1, ifs1, 0⟩] scope pos) (nSet2 f gt t f1 gt1 t1 fe (own.map (·.2)) vs1) :=
  ⟨PEw (pe_si2 hc hN hi.out ok hv (fun s H C cl fp => (show PG _ tg (tG X.w X.K (own.map (·.2)) gt) from (hg s H C cl fp).out)) (fun s H C cl fp => (show PTs _ ifs (tT X.w X.K t) from (ht s H C cl fp).out)) (fun s H C cl fp => (show PI _ tg1 iter1 (tI X.w X.K f1) from (hi1 s H C cl fp).out)) (fun s H C cl fp => (show PG _ tg1 (tG X.w X.K vs1 gt1) from (hg1 s H C cl fp).out)) (fun s H C cl fp => (show PTs _ ifs1 (tT X.w X.K t1) from (ht1 s H C cl fp).out)) (fun s H C cl fp => (show PE _ elt (tE X.w X.K fe) from (he s H C cl fp).out)) hs hs1) fun σ H Q h => set2_read gk h⟩
/-! x in a constant tuple of texts -/
def fInS (cs : List Str) (fa : FE) : FE := fun env x => match fa env x with
  | some (.str s, x1) => some (.bool (cs.any fun c => decide (c = s)), x1)
  | _ => none
theorem inV_strs (s : Str) (cs : List Str) : inV (.str s) (cs.map V.str) = cs.any fun c => decide (c = s) := by
  unfold inV
  rw [List.any_map]
  congr 1
theorem flat_strs (cs : List Str) : (cs.map V.str).all flatV = true := by
  rw [List.all_eq_true]
  intro v hv
  obtain ⟨c, _, rfl⟩ := List.mem_map.mp hv
  rfl
theorem se_inS {a : Expr} {fa : FE} {n : Str} {p1 : Pos} {ad : Addr} {o : Obj} {its : Array Value} {m : Nat} (cs : List Str) (hg : Gl X n) (hm : X.mg n = some (.ref ad)) (hK : X.K.lookup ad = some o) (hcl : o.cls = .type "tuple") (hda : o.data = .seq its m) (hsz : its.size ≤ sizeLine) (hvs : Vals (cs.map V.str) its.toList) (ha : SB X a fa) (hd : (n == ("__debug__" : Str)) = false := by decide) (hmk : behindInMarks .In (.Name n p1) = false := by rfl) : SE X (.Compare a [.In] [.Name n p1] pos) (fInS cs fa) := by
  refine ⟨PEw (pe_cmpR op_in_seq ha.out (pe_glob (v := .ref ad) hg hm rfl hd) hmk) fun σ H Q h => ?_⟩
  obtain ⟨g, O, env, x, d, x', S, e, k⟩ := h
  unfold fInS at e
  split at e
  · rename_i s x1 e1
    cases e
    refine ⟨g, O, env, x, _, x', S, e1, fun v H1 S1 l1 r1 => ?_⟩
    have : v = .str s := r1.str
    subst this
    refine ⟨ad, cs.map V.str, rfl, .inr (.inr ⟨o, its, m, hK, hcl, hda, hsz, hvs⟩), rfl, flat_strs cs, ?_⟩
    simp only [Bool.false_eq_true, if_false, inV_strs]
    exact k _ _ S1 l1 (.bl _)
  · cases e
/-! a < b of data that are alike -/
def gLtD : D → D → Option D := fun d e => if shapedD d && shapedD e && PySem.W.alike d.py e.py && !isNoneD d then some (.bool (PySem.W.dataLt d.py e.py)) else none
theorem od_ltD (hu : X.A.units + 64 < cLine) : OpD X (compareOp .Lt) gLtD := by
  intro pins s σ H x y v u Q I rx ry h
  obtain ⟨g, O, σ', env, x0, d, e, r, S, r1, r2, q, k⟩ := h
  unfold gLtD at q
  split at q
  · rename_i hc
    cases q
    simp only [Bool.and_eq_true, Bool.not_eq_true'] at hc
    obtain ⟨⟨⟨h1, h2⟩, h3⟩, h4⟩ := hc
    obtain ⟨as, q1⟩ := Dp.reads I d.py _ v (r1.dp h1) rx
    obtain ⟨bs, q2⟩ := Dp.reads I e.py _ u (r2.dp h2) ry
    have hd := SeqAt.depth_of_shaped h1
    have hn : d.py ≠ .none := fun z => by
      cases d <;> simp [D.py] at z
      simp [isNoneD] at h4
    show wpAny _ _ (richCompare .Lt v u) _ _ s
    exact PySem.W.rcLt_alike d.py e.py X.A s v u as bs q1 q2 h3 hn (by have := Nat.min_le_left d.py.depth e.py.depth; omega) _ _ _ _ ⟨.bl _, H, I, rfl, k _ _ (Same.refl _) (.bl _)⟩
  · cases q
def gLtX : D → D → Option D := gOr gLt gLtD
theorem od_ltX (hu : X.A.units + 64 < cLine) : OpD X (compareOp .Lt) gLtX := (od_ltA (by omega)).or (od_ltD hu)
end
end RT

namespace RT
open PySem PySem.Spec PyProof.Rows L2
/-! ### dicts with keys of any kind -/
section
variable {ω : World} {K : PySem.W.Frag} {O : Addr → Prop} {H : Hp} {P : Program} {w : World} {h : Heap}
mutual
theorem nis (ok : HOk P w H h) : ∀ (d : D) (v : V) (u : Value) (k : NestedKey), Rp K O H v d → nk d = some k → RelV v u → NestedIs h k u
  | .none, _, _, _, .non, e, r => by
    simp only [nk, Option.some.injEq] at e; subst e
    obtain rfl := (show _ = Value.none from r); exact .none
  | .bool b, _, _, _, .bl _, e, r => by
    simp only [nk, Option.some.injEq] at e; subst e
    obtain rfl := (show _ = Value.bool b from r); exact .bool rfl
  | .int i, _, _, _, .int _, e, r => by
    simp only [nk, Option.some.injEq] at e; subst e
    obtain ⟨t, rfl⟩ := (show ∃ t, _ = Value.int i t from r); exact .int _ t
  | .str x, _, _, _, .str _, e, r => by
    simp only [nk, Option.some.injEq] at e; subst e
    obtain ⟨t, rfl⟩ := (show ∃ t, _ = Value.str x t from r); exact .text _ t
  | .tuple ds, _, _, _, @Rp.tup _ _ _ a xs _ ha he rs, e, r => by
    simp only [nk, Option.map_eq_some_iff] at e
    obtain ⟨ks, e1, rfl⟩ := e
    obtain rfl := (show _ = Value.ref a from r)
    obtain ⟨_, its, rv, o, h1, h2, n, h3⟩ := ok a _ he
    exact .tup h1 h2 h3 (niss ok ds xs its ks rs e1 rv)
theorem niss (ok : HOk P w H h) : ∀ (ds : List D) (vs : List V) (us : List Value) (ks : List NestedKey), RpA K O H vs ds → nks ds = some ks → Vals vs us → NestedAll h ks us
  | [], _, _, _, .nil, e, .nil => by
    simp only [nks, Option.some.injEq] at e; subst e; exact .nil
  | d :: ds, _, _, _, .cons a b, e, .cons r rs => by
    simp only [nks] at e
    split at e
    · rename_i k ks e1 e2
      cases e
      exact .cons (nis ok d _ _ k a e1 r) (niss ok ds _ _ ks b e2 rs)
    · cases e
end
theorem lf_nk {d : D} {l : Leaf} (e : lf d = some l) : nk d = some l.key ∧ isTupD d = false := by
  cases d <;> simp only [lf, Option.some.injEq, reduceCtorEq] at e <;> subst e <;> exact ⟨rfl, rfl⟩
theorem lf_of {d : D} {q : NestedKey} (e : nk d = some q) (t : isTupD d = false) : ∃ l, lf d = some l ∧ q = l.key := by
  cases d <;> simp only [nk, Option.some.injEq, reduceCtorEq] at e <;> first | (cases t; done) | (subst e; exact ⟨_, rfl, rfl⟩)
theorem lf_is {d : D} {l : Leaf} {v : V} {u : Value} (e : lf d = some l) (r : Rp K O H v d) (ru : RelV v u) : Leaf.isOf l u = true := by
  cases d <;> simp only [lf, Option.some.injEq, reduceCtorEq] at e <;> subst e <;> cases r
  · obtain rfl := (show u = Value.none from ru); rfl
  · obtain rfl := (show u = Value.bool _ from ru); exact decide_eq_true rfl
  · obtain ⟨t, rfl⟩ := (show ∃ t, u = Value.int _ t from ru); exact decide_eq_true rfl
  · rename_i x
    obtain ⟨t, rfl⟩ := (show ∃ t, u = Value.str _ t from ru); simp [Leaf.isOf, Value.isStrOf]
/-- what stands for the key q -/
def valA (ds : List (D × D)) (q : NestedKey) : Option D := (ds.find? fun p => decide (nk p.1 = some q)).map (·.2)
abbrev upT (y : NestedKey × Addr × Value) : DaX := (y.1, .ref y.2.1, y.2.2)
theorem da_tup {a : Addr} {xs : List DaX} {ds : List (D × D)} (ok : HOk P w H h) (e : H a = some (.ext (RawD w a xs))) (r : Paired (DaR K O H) xs ds) (ht : ∀ p ∈ ds, isTupD p.1 = true) :
    (a == sysModules) = false ∧ ∃ ys : List (NestedKey × Addr × Value), xs = ys.map upT ∧ h.DictOfH (nestedKind P w) a ys := by
  have raw : RawD w a xs h := (ok a _ e).1
  have key : ∀ {xs : List DaX} {ds : List (D × D)}, Paired (DaR K O H) xs ds → (∀ p ∈ ds, isTupD p.1 = true) → ∃ ys : List (NestedKey × Addr × Value), xs = ys.map upT ∧ ∀ y ∈ ys, (nestedKind P w).is h y.1 y.2.1 := by
    intro xs ds r
    induction r with
    | nil => exact fun _ => ⟨[], rfl, fun _ h => nomatch h⟩
    | @cons x p xs ds r _ ih =>
      intro ht
      obtain ⟨ys, rfl, hy⟩ := ih fun p hp => ht p (List.mem_cons_of_mem _ hp)
      obtain ⟨v, rv, rp⟩ := r.u (ht p List.mem_cons_self)
      obtain ⟨b, rfl⟩ : ∃ b, v = .ref b := by
        have := ht p List.mem_cons_self
        cases hd : p.1 <;> rw [hd] at this <;> first | (cases this; done) | (rw [hd] at rp; exact rp.isRef)
      have e2 : x.2.1 = .ref b := rv
      have n := nis ok p.1 _ _ _ rp r.k rv
      rw [e2] at n
      refine ⟨(x.1, b, x.2.2) :: ys, ?_, fun y hy' => ?_⟩
      · rw [List.map_cons]; congr 1; show x = (x.1, .ref b, x.2.2); rw [← e2]
      · rcases List.mem_cons.mp hy' with rfl | hy'
        · exact ⟨n, r.dp⟩
        · exact hy y hy'
  obtain ⟨ys, rfl, hy⟩ := key r ht
  obtain ⟨hs, o, es, ep, h1, h2, h3, h4, h5⟩ := raw
  refine ⟨hs, ys, rfl, o, es, ep, h1, h2, h3, ?_, hy, ?_⟩
  · rw [h4, List.map_map]; rfl
  · rw [List.map_map] at h5; exact h5
theorem raw_tup {a : Addr} {ys : List (NestedKey × Addr × Value)} (hs : (a == sysModules) = false) (x : h.DictOfH (nestedKind P w) a ys) : RawD w a (ys.map upT) h := by
  obtain ⟨o, es, ep, h1, h2, h3, h4, _, h5⟩ := x
  refine ⟨hs, o, es, ep, h1, h2, h3, ?_, ?_⟩
  · rw [h4, List.map_map]; rfl
  · rw [List.map_map]; exact h5
theorem raw_ok {a : Addr} {xs : List DaX} (x : RawD w a xs h) : ObjOk P w H h a (.ext (RawD w a xs)) := by
  refine ⟨x, ?_, fun h1 h2 p k => ?_⟩
  · obtain ⟨_, o, _, _, e, _⟩ := x; exact ⟨o, e⟩
  · obtain ⟨hs, o, es, ep, e, r⟩ := p
    exact ⟨hs, o, es, ep, k o e, r⟩
theorem da_leaf {a : Addr} {xs : List DaX} {ds : List (D × D)} (ok : HOk P w H h) (e : H a = some (.ext (RawD w a xs))) (r : Paired (DaR K O H) xs ds) (ht : ∀ p ∈ ds, isTupD p.1 = false) :
    (a == sysModules) = false ∧ ∃ kvs : List (Leaf × Value), Paired (fun (y : Leaf × Value) (p : D × D) => lf p.1 = some y.1 ∧ ∃ v, RelV v y.2 ∧ Rp K O H v p.2) kvs ds ∧ h.DictOf (leafKind P w) a kvs := by
  have raw : RawD w a xs h := (ok a _ e).1
  have key : ∀ {xs : List DaX} {ds : List (D × D)}, Paired (DaR K O H) xs ds → (∀ p ∈ ds, isTupD p.1 = false) → ∃ kvs : List (Leaf × Value), Paired (fun (y : Leaf × Value) (p : D × D) => lf p.1 = some y.1 ∧ ∃ v, RelV v y.2 ∧ Rp K O H v p.2) kvs ds ∧
      xs.map (·.1) = kvs.map (fun y => y.1.key) ∧ Pairs (leafKind P w) (xs.map fun x => (⟨x.1.hash w, x.2.1, x.2.2⟩ : DictEntry)) kvs ∧ ∀ x ∈ xs, ∃ l, Leaf.isOf l x.2.1 = true ∧ x.1 = l.key := by
    intro xs ds r
    induction r with
    | nil => exact fun _ => ⟨[], .nil, rfl, .nil, fun _ h => nomatch h⟩
    | @cons x p xs ds r _ ih =>
      intro ht
      obtain ⟨kvs, p1, p2, p3, p4⟩ := ih fun p hp => ht p (List.mem_cons_of_mem _ hp)
      obtain ⟨l, e1, e2⟩ := lf_of r.k (ht p List.mem_cons_self)
      refine ⟨(l, x.2.2) :: kvs, .cons ⟨e1, r.v⟩ p1, by rw [List.map_cons, List.map_cons, p2, e2], .cons (r.l l e1) rfl p3, fun y hy => ?_⟩
      rcases List.mem_cons.mp hy with rfl | hy
      · exact ⟨l, r.l l e1, e2⟩
      · exact p4 y hy
  obtain ⟨kvs, p1, p2, p3, p4⟩ := key r ht
  obtain ⟨hs, o, es, ep, h1, h2, h3, h4, h5⟩ := raw
  refine ⟨hs, kvs, p1, o, es, ep, h1, h2, h3, ?_, ?_, ?_⟩
  · intro y hy
    have : y ∈ es.toList := by simpa using hy
    rw [h4] at this
    obtain ⟨x, hx, rfl⟩ := List.mem_map.mp this
    obtain ⟨l, q1, q2⟩ := p4 x hx
    exact ⟨l, q1, by show x.1.hash w = l.key.hash w; rw [q2]⟩
  · rw [h4]; exact p3
  · rw [p2] at h5
    have : (kvs.map (·.1)).map Leaf.key = kvs.map (fun y => y.1.key) := by rw [List.map_map]; rfl
    rw [← this] at h5
    exact List.Pairwise.of_map Leaf.key (fun a b hab e => hab (by rw [e])) h5
theorem raw_leaf {a : Addr} {kvs : List (Leaf × Value)} (hs : (a == sysModules) = false) (x : h.DictOf (leafKind P w) a kvs) :
    ∃ xs : List DaX, RawD w a xs h ∧ Paired (fun (x : DaX) (y : Leaf × Value) => x.1 = y.1.key ∧ Leaf.isOf y.1 x.2.1 = true ∧ x.2.2 = y.2) xs kvs := by
  obtain ⟨o, es, ep, h1, h2, h3, h4, h5, h6⟩ := x
  have key : ∀ {es : List DictEntry} {kvs : List (Leaf × Value)}, Pairs (leafKind P w) es kvs → (∀ e ∈ es, ∃ k, (leafKind P w).is k e.key = true ∧ e.hash = (leafKind P w).hash k) →
      ∃ xs : List DaX, es = xs.map (fun x => (⟨x.1.hash w, x.2.1, x.2.2⟩ : DictEntry)) ∧ Paired (fun (x : DaX) (y : Leaf × Value) => x.1 = y.1.key ∧ Leaf.isOf y.1 x.2.1 = true ∧ x.2.2 = y.2) xs kvs := by
    intro es kvs p
    induction p with
    | nil => exact fun _ => ⟨[], rfl, .nil⟩
    | @cons e kv es kvs q1 q2 _ ih =>
      intro hk
      obtain ⟨xs, rfl, r⟩ := ih fun e he => hk e (List.mem_cons_of_mem _ he)
      obtain ⟨k, k1, k2⟩ := hk e List.mem_cons_self
      have ek : k = kv.1 := (leafKind P w).inj _ _ _ k1 q1
      subst ek
      refine ⟨(kv.1.key, e.key, e.val) :: xs, ?_, .cons ⟨rfl, q1, q2⟩ r⟩
      rw [List.map_cons]; congr 1
      show e = ⟨kv.1.key.hash w, e.key, e.val⟩
      rw [show kv.1.key.hash w = e.hash from k2.symm]
  obtain ⟨xs, e1, r⟩ := key h5 fun e he => h4 e (by simpa using he)
  refine ⟨xs, ⟨hs, o, es, ep, h1, h2, h3, e1, ?_⟩, r⟩
  have e2 : xs.map (·.1) = (kvs.map (·.1)).map Leaf.key := by
    clear e1 h5 h6 h3 h4
    induction r with
    | nil => rfl
    | cons a _ ih => rw [List.map_cons, List.map_cons, List.map_cons, ih, a.1]
  rw [e2]
  exact List.Pairwise.map _ (fun a b hab e => hab (Leaf.key_inj e)) h6
end
end RT

namespace RT
open PySem PySem.Spec PyProof.Rows L2
section
variable {ω : World} {K : PySem.W.Frag} {O : Addr → Prop} {H : Hp} {P : Program} {w : World} {h : Heap}
theorem val_tup {q : NestedKey} : ∀ {ys : List (NestedKey × Addr × Value)} {ds : List (D × D)}, Paired (DaR K O H) (ys.map upT) ds →
    (valA ds q = none ∧ atKey ys q = none) ∨ ∃ d p v, valA ds q = some d ∧ atKey ys q = some p ∧ RelV v p.2 ∧ Rp K O H v d
  | [], _, .nil => .inl ⟨rfl, rfl⟩
  | y :: ys, p :: ds, .cons r rs => by
    have ih := val_tup (q := q) rs
    have k : nk p.1 = some y.1 := r.k
    by_cases c : y.1 = q
    · obtain ⟨v, a, b⟩ := r.v
      exact .inr ⟨p.2, y.2, v, by simp [valA, k, c], by simp [atKey, c], a, b⟩
    · have e1 : valA (p :: ds) q = valA ds q := by simp [valA, k, c]
      have e2 : atKey (y :: ys) q = atKey ys q := by simp [atKey, c]
      rw [e1, e2]; exact ih
theorem val_leaf {l : Leaf} : ∀ {kvs : List (Leaf × Value)} {ds : List (D × D)}, Paired (fun (y : Leaf × Value) (p : D × D) => lf p.1 = some y.1 ∧ ∃ v, RelV v y.2 ∧ Rp K O H v p.2) kvs ds →
    (valA ds l.key = none ∧ valueAt kvs l = none) ∨ ∃ d u v, valA ds l.key = some d ∧ valueAt kvs l = some u ∧ RelV v u ∧ Rp K O H v d
  | [], _, .nil => .inl ⟨rfl, rfl⟩
  | y :: ys, p :: ds, .cons r rs => by
    have ih := val_leaf (l := l) rs
    have k : nk p.1 = some y.1.key := (lf_nk r.1).1
    by_cases c : y.1 = l
    · obtain ⟨v, a, b⟩ := r.2
      exact .inr ⟨p.2, y.2, v, by simp [valA, k, c], by simp [valueAt, c], a, b⟩
    · have c' : ¬ y.1.key = l.key := fun z => c (Leaf.key_inj z)
      have e1 : valA (p :: ds) l.key = valA ds l.key := by simp [valA, k, c']
      have e2 : valueAt (y :: ys) l = valueAt ys l := by simp [valueAt, c]
      rw [e1, e2]; exact ih
theorem stored_new' {κ : Type} [DecidableEq κ] {kvs : List (κ × Value)} {k : κ} (h : valueAt kvs k = none) (v : Value) : stored kvs k v = kvs ++ [(k, v)] := by
  unfold stored
  rw [if_neg]
  unfold valueAt at h
  rw [Option.map_eq_none_iff, List.find?_eq_none] at h
  rw [List.any_eq_true]
  rintro ⟨x, hx, e⟩
  exact h x hx e
theorem leaf_depth (l : Leaf) : l.key.depth = 0 := by cases l <;> rfl
theorem Paired.snoc {α β : Type} {F : α → β → Prop} {a : α} {b : β} (r : F a b) : ∀ {l : List α} {m : List β}, Paired F l m → Paired F (l ++ [a]) (m ++ [b])
  | _, _, .nil => .cons r .nil
  | _, _, .cons x y => .cons x (Paired.snoc r y)
theorem Paired.comp {α β γ : Type} {F : α → β → Prop} {G : β → γ → Prop} {M : α → γ → Prop} (f : ∀ a b c, F a b → G b c → M a c) : ∀ {l : List α} {m : List β} {n : List γ}, Paired F l m → Paired G m n → Paired M l n
  | _, _, _, .nil, .nil => .nil
  | _, _, _, .cons x y, .cons u v => .cons (f _ _ _ x u) (Paired.comp f y v)
theorem leaf_up {xs : List DaX} {kvs : List (Leaf × Value)} {ds : List (D × D)} (a : Paired (fun (x : DaX) (y : Leaf × Value) => x.1 = y.1.key ∧ Leaf.isOf y.1 x.2.1 = true ∧ x.2.2 = y.2) xs kvs)
    (b : Paired (fun (y : Leaf × Value) (p : D × D) => lf p.1 = some y.1 ∧ ∃ v, RelV v y.2 ∧ Rp K O H v p.2) kvs ds) : Paired (DaR K O H) xs ds :=
  Paired.comp (fun x y p e f => {
    k := by rw [(lf_nk f.1).1, e.1]
    dp := by rw [e.1, leaf_depth]; omega
    u := fun t => by rw [(lf_nk f.1).2] at t; cases t
    l := fun l q => by rw [f.1] at q; cases q; exact e.2.1
    v := by obtain ⟨v, r, q⟩ := f.2; exact ⟨v, by rw [e.2.2]; exact r, q⟩ }) a b
/-- a key fits to those that stand -/
structure Fit (K : PySem.W.Frag) (O : Addr → Prop) (H : Hp) (ds : List (D × D)) (kd : D) (q : NestedKey) (v : V) : Prop where
  k : nk kd = some q
  dp : q.depth ≤ 8
  t : ∀ p ∈ ds, isTupD p.1 = isTupD kd
  r : Rp K O H v kd
variable {X : Cx} {pins : List (Addr × Obj)} {σ : L2.St} {s : Shared} {a : Addr} {xs : List DaX} {ds : List (D × D)} {kd d1 : D} {q : NestedKey} {v : V} {u r : Value} {E : Value → Shared → Prop} {Q : Value → Shared → Prop}
theorem Fit.ref (f : Fit K O H ds kd q v) (t : isTupD kd = true) : ∃ b, v = .ref b := by
  obtain ⟨_, _, _, r⟩ := f
  cases kd <;> first | (cases t; done) | exact r.isRef
theorem da_get (hu : X.A.units + 16 < cLine) (I : L2.Inv X pins σ H s) (e : H a = some (.ext (RawD X.w a xs))) (rs : Paired (DaR K O H) xs ds) (f : Fit K O H ds kd q v) (ru : RelV v u) (hv : valA ds q = some d1)
    (h : ∀ v1 w' s', L2.Inv X pins σ H s' → RelV v1 w' → Rp K O H v1 d1 → Q w' s') : s.TypeIs (.ref a) "dict" ∧ wpAny (model X.prog X.w) X.A (getItem (.ref a) u) Q E s := by
  cases t : isTupD kd with
  | true =>
    obtain ⟨b, rfl⟩ := f.ref t
    obtain rfl := (show u = .ref b from ru)
    obtain ⟨_, ys, rfl, hm⟩ := da_tup I.hok e rs fun p hp => (f.t p hp).trans t
    rcases val_tup (q := q) rs with ⟨z, _⟩ | ⟨d, p, v1, z1, z2, z3, z4⟩
    · rw [hv] at z; cases z
    · rw [hv] at z1; cases z1
      exact ⟨hm.typeIs, wpAny_getItem_heap (knd := nestedKind X.prog X.w) (by show X.A.units + 1 + 8 < cLine; omega) ⟨nis I.hok kd _ _ _ f.r f.k ru, f.dp⟩ hm z2 (h v1 _ _ (I.tok _) z3 z4)⟩
  | false =>
    obtain ⟨l, e1, rfl⟩ := lf_of f.k t
    obtain ⟨_, kvs, rk, hm⟩ := da_leaf I.hok e rs fun p hp => (f.t p hp).trans t
    rcases val_leaf (l := l) rk with ⟨z, _⟩ | ⟨d, p, v1, z1, z2, z3, z4⟩
    · rw [hv] at z; cases z
    · rw [hv] at z1; cases z1
      exact ⟨hm.typeIs, wpAny_getItem_of (knd := leafKind X.prog X.w) (lf_is e1 f.r ru) hm.mapOf z2 (h v1 _ _ (I.tok _) z3 z4)⟩
theorem da_setd {dd : D} {y : V} (hu : X.A.units + 16 < cLine) (I : L2.Inv X pins σ H s) (e : H a = some (.ext (RawD X.w a xs))) (rs : Paired (DaR K O H) xs ds) (f : Fit K O H ds kd q v) (ru : RelV v u) (rd : RelV y r) (rp : Rp K O H y dd) (hl : ds.length < sizeLine)
    (h1 : ∀ v1 d1 w' s', valA ds q = some d1 → L2.Inv X pins σ H s' → RelV v1 w' → Q w' s')
    (h2 : valA ds q = none → ∀ s' xs', L2.Inv X pins σ (upd H a (.ext (RawD X.w a xs'))) s' → Paired (DaR K O H) xs' (ds ++ [(kd, dd)]) → Q r s') : wpAny (model X.prog X.w) X.A (call (.builtin "dict.setdefault") [.ref a, u, r]) Q E s := by
  have hlen : xs.length = ds.length := Paired.length rs
  cases t : isTupD kd with
  | true =>
    obtain ⟨b, rfl⟩ := f.ref t
    obtain rfl := (show u = .ref b from ru)
    obtain ⟨hs, ys, rfl, hm⟩ := da_tup I.hok e rs fun p hp => (f.t p hp).trans t
    refine call_setdefault_heap (knd := nestedKind X.prog X.w) (hsz := by rw [List.length_map] at hlen; omega) (by show X.A.units + 1 + 8 < cLine; omega) ⟨nis I.hok kd _ _ _ f.r f.k ru, f.dp⟩ hs hm (fun p hp => ?_) fun hn h' hm' sb => ?_
    · rcases val_tup (q := q) rs with ⟨_, z⟩ | ⟨d, p, v1, z1, z2, z3, z4⟩
      · rw [hp] at z; cases z
      · rw [hp] at z2; cases z2
        exact h1 v1 d _ _ z1 (I.tok _) z3
    · rcases val_tup (q := q) rs with ⟨z, _⟩ | ⟨d, p, v1, z1, z2, z3, z4⟩
      · have rw' := raw_tup hs hm'
        rw [storedH_new hn, List.map_append] at rw'
        have he : ∃ o, h'.get? a = some o := let ⟨_, o, _, _, z, _⟩ := rw'; ⟨o, z⟩
        refine h2 z _ _ (I.write (e := a) (by rw [e]; exact True.intro) (.inl rfl) (fun b u hb hu => (sb.2 b hb).trans hu) he (raw_ok rw')) (Paired.snoc ?_ rs)
        exact ⟨f.k, f.dp, fun _ => ⟨_, ru, f.r⟩, (fun l z => by rw [(lf_nk z).2] at t; cases t), ⟨y, rd, rp⟩⟩
      · rw [hn] at z2; cases z2
  | false =>
    obtain ⟨l, e1, rfl⟩ := lf_of f.k t
    obtain ⟨hs, kvs, rk, hm⟩ := da_leaf I.hok e rs fun p hp => (f.t p hp).trans t
    have hk : kvs.length = ds.length := Paired.length rk
    refine call_meetsIn PySem.F.slot_dict_setdefault hm.typeIs PySem.F.entry_dict_setdefault (PySem.F.args_dict_setdefault_3 _ _ _) (kt_meets_setdefault (leafKind X.prog X.w) a (lf_is e1 f.r ru) hs r) ⟨kvs, hm, by omega, fun p hp => ?_, fun hn h' hm' sb => ?_⟩
    · rcases val_leaf (l := l) rk with ⟨_, z⟩ | ⟨d, p, v1, z1, z2, z3, z4⟩
      · rw [hp] at z; cases z
      · rw [hp] at z2; cases z2
        exact h1 v1 d _ _ z1 (I.tok _) z3
    · rcases val_leaf (l := l) rk with ⟨z, _⟩ | ⟨d, p, v1, z1, z2, z3, z4⟩
      · rw [stored_new' hn] at hm'
        obtain ⟨xs', rw', px⟩ := raw_leaf hs hm'
        have he : ∃ o, h'.get? a = some o := let ⟨_, o, _, _, z, _⟩ := rw'; ⟨o, z⟩
        exact h2 z _ _ (I.write (e := a) (t' := s.toks + 1) (by rw [e]; exact True.intro) (.inl rfl) (fun b u hb hu => (sb.2 b hb).trans hu) he (raw_ok rw')) (leaf_up px (Paired.snoc ⟨e1, y, rd, rp⟩ rk))
      · rw [hn] at z2; cases z2
/-- len(numbers) -/
def rLenA (w : World) : List V → Hp → VK → Prop := fun vs H Q => ∃ (p : Addr) (K : PySem.W.Frag) (O : Addr → Prop) (xs : List DaX) (ds : List (D × D)) (b : Bool), vs = [.ref p] ∧ H p = some (.ext (RawD w p xs)) ∧ Paired (DaR K O H) xs ds ∧ (∀ p ∈ ds, isTupD p.1 = b) ∧ ds.length < sizeLine ∧ Q (.int ((ds.length : Nat) : Int)) H
theorem cr_lenA : CallR X (.builtin "len") (rLenA X.w) := by
  intro pins s σ H vs us Q I r h
  obtain ⟨p, K, O, xs, ds, b, rfl, hp, rs, ht, hl, k⟩ := h
  obtain ⟨u, rfl, rx⟩ := vals1 r
  obtain rfl : u = .ref p := rx
  have hsz := sizeLine_eq
  cases b with
  | true =>
    obtain ⟨hs, ys, rfl, hm⟩ := da_tup I.hok hp rs ht
    have e : ys.length = ds.length := by rw [← List.length_map (f := upT)]; exact Paired.length rs
    refine call_len_dictH hs hm (by omega) ?_
    rw [e]
    exact ⟨.int ((ds.length : Nat) : Int), H, I.tok _, ⟨_, rfl⟩, k⟩
  | false =>
    obtain ⟨hs, kvs, rk, hm⟩ := da_leaf I.hok hp rs ht
    have e : kvs.length = ds.length := Paired.length rk
    refine call_len_dict hs hm (by omega) ?_
    rw [e]
    exact ⟨.int ((ds.length : Nat) : Int), H, I.tok _, ⟨_, rfl⟩, k⟩
end
/-! ### statements and expressions -/
def isDa : FSl → Bool
  | .da _ => true
  | _ => false
def xNewA : FX := fun _ x => some (.da [], x)
/-- d.setdefault(k, len(d)) -/
def sSetA (i : Nat) (fk : FE) : FS := fun env x => match fk env x with
  | some (k, x1) => match env[i]? with
    | some (.da ds) => match nk k with
      | some q => if q.depth ≤ 8 ∧ (∀ p ∈ ds, isTupD p.1 = isTupD k) ∧ ds.length < maxLen ∧ (∀ s ∈ env.set i .no, isDa s = false) then
          match valA ds q with
          | some _ => some (.nx env, x1)
          | none => some (.nx (env.set i (.da (ds ++ [(k, .int ds.length)]))), x1)
        else none
      | none => none
    | _ => none
  | none => none
def fAtA (i : Nat) (fk : FE) : FE := fun env x => match fk env x with
  | some (k, x1) => match env[i]? with
    | some (.da ds) => match nk k with
      | some q => if q.depth ≤ 8 ∧ (∀ p ∈ ds, isTupD p.1 = isTupD k) then
          match valA ds q with
          | some d => some (d, x1)
          | none => none
        else none
      | none => none
    | _ => none
  | none => none
theorem raw_new {w : World} (h : Heap) (hb : sysModules < h.objs.size) : RawD w h.objs.size [] (h.push { cls := .type "dict", data := .dict #[] }) :=
  ⟨by simpa using Nat.ne_of_gt hb, _, #[], 0, Heap.get?_push_size _ rfl, ⟨rfl, rfl, rfl⟩, rfl, rfl, List.nodup_nil⟩
section
variable {X : Cx} {b e : Expr} {fk : FE} {pos : Pos}
def tDNewA (w : World) : TE := fun _ H Q => ∀ p, H p = none → Q (.ref p) (upd H p (.ext (RawD w p [])))
theorem pe_dnewA : PE X (.Dict [] [] pos) (tDNewA X.w) := ⟨fun pins s σ H Q I h =>
  wpAny_Dict_empty ⟨.ref s.heap.objs.size, _, I.laid (a := s.heap.objs.size) (o := .ext (RawD X.w s.heap.objs.size [])) (t' := s.toks) (fun _ _ q => Heap.get?_push_of_some _ q) (Nat.le_refl _) (raw_ok (raw_new s.heap I.big)), rfl, h _ (I.hok.fresh (Nat.le_refl _))⟩⟩
theorem notC_raw {w : World} {a : Addr} {xs : List DaX} : ¬ IsC (.ext (RawD w a xs)) := not_code fun h R => by
  obtain ⟨_, o, es, ep, ho, _, hd, _⟩ := R
  exact ⟨a, o, ho, fun vs z => by rw [z] at hd; cases hd⟩
theorem sx_dA : SX X (.Dict [] [] pos) xNewA := by
  refine ⟨PEw pe_dnewA fun σ H Q h => ?_⟩
  obtain ⟨g, O, env, x, d, x', S, e, k⟩ := h
  cases e
  intro p hp
  have n1 := S.newp hp
  exact k _ _ _ (S.own (o := .ext (RawD X.w p [])) hp notC_raw) (.of (same_upd hp)) (wid_add hp) (fun a z => .inl z) (.da (.inr rfl) n1.1 n1.2 (by rw [S.ww]; exact ⟨[], upd_same, .nil⟩)) fun d z => by cases z
/-- an owned dict with keys of any kind changes -/
theorem FSt.putA {ω : World} {K : PySem.W.Frag} {g : FG} {O : Addr → Prop} {σ : L2.St} {H : Hp} {env : FEn} {x : FRow} (S : FSt ω K g O σ H env x) {i : Nat} {a : Addr} {ds ds' : List (D × D)} {o : HO} (h1 : env[i]? = some (.da ds)) (h2 : σ[i]? = some (some (.ref a))) (mu : MutC (some o)) (only : ∀ s ∈ env.set i .no, isDa s = false) (nw : DaAt K O (upd H a o) a ω ds') :
    FSt ω K g O σ (upd H a o) (env.set i (.da ds')) x := by
  rw [← S.ww] at nw
  have q := S.sl i _ _ h2 h1
  obtain ⟨oa, noa, nr, xs0, ha, _⟩ : O a ∧ ¬ g.O0 a ∧ g.R ≠ some a ∧ DaAt K O H a g.w ds := by
    cases q with
    | da p q r s => exact ⟨p, q, r, s⟩
  have n0 : g.H0 a = none := by
    rcases S.new a oa with z | z
    · exact absurd z noa
    · exact z
  have kp : Keep O H (upd H a o) := fun b u n e _ => by
    rw [upd_ne (show b ≠ a from fun z => n (z ▸ oa))]
    exact e
  refine ⟨S.sub, S.new, fun b hb => ?_, fun b u hR e tn => ?_, fun r e => ?_, by rw [List.length_set]; exact S.len, fun j s e' e1 e2 => ?_, fun j k e e' b c ne e1 e2 e3 e4 => ?_, fun p hp => (S.gh p hp).move kp .refl, tabs_upd S.tb ha rfl notC_raw, S.tk, S.nt0, S.ww⟩
  · by_cases z : b = a
    · subst z; rw [upd_same]; exact mu
    · rw [upd_ne z]; exact S.dom b hb
  · have z : b ≠ a := fun z => by rw [z, n0] at e; cases e
    rw [upd_ne z]
    exact S.le b u hR e tn
  · obtain ⟨q1, q2, a0, q3, q4⟩ := S.row r e
    refine ⟨q1, q2, a0, ?_, ?_⟩
    · rw [upd_ne (show r ≠ a from fun z => nr (z ▸ e))]; exact q3
    · exact q4.updO oa
  · rcases set_at e2 with ⟨z1, z2⟩ | ⟨z1, z2⟩
    · subst z1
      subst z2
      rw [h2] at e1
      cases e1
      exact .da oa noa nr nw
    · cases S.sl j s e' e1 z2 with
      | no => exact .no _
      | va r => exact .va (r.move kp .refl)
      | @ow b d2 p q r t =>
        have nb : b ≠ a := fun z => by
          subst z
          cases d2 <;> (obtain ⟨_, e0, _⟩ := t; rw [ha] at e0; cases e0)
        exact .ow p q r (t.move (fun u eu _ => by rw [upd_ne nb]; exact eu) kp .refl)
      | rw e => exact .rw e
      | @da b ds2 p q r t =>
        have := only (.da ds2) (by
          refine List.mem_of_getElem? (i := j) ?_
          rw [List.getElem?_set_ne z1]; exact z2)
        cases this
      | fn n e r => exact .fn n (kp _ _ n e rfl) fun p hp => (r p hp).move kp .refl
  · have at1 : ∀ {j : Nat} {d2 : OwD}, (env.set i (.da ds'))[j]? = some (.ow d2) → env[j]? = some (.ow d2) := fun {j d2} z => by
      rcases set_at z with ⟨z1, z2⟩ | ⟨z1, z2⟩
      · cases z2
      · exact z2
    exact S.dis j k _ _ b c ne (at1 e1) (at1 e2) e3 e4
theorem se_atA {i : Nat} {n : Str} {p0 : Pos} (hu : X.A.units + 16 < cLine) (hb : SE X b fk) (hs : NoSl b := by exact fun _ _ => rfl)
    (hN : X.N[i]? = some n := by rfl) (hvis : Vis X.env.scope n := by first | exact Or.inl rfl | exact Or.inr (Or.inl rfl) | exact Or.inr (Or.inr rfl)) (hd : (n == ("__debug__" : Str)) = false := by decide)
    (hcd : (n == ("__classdict__" : Str)) = false := by decide) : SE X (.Subscript (.Name n p0) b pos) (fAtA i fk) := by
  refine ⟨⟨fun pins s σ H Q I h => ?_⟩⟩
  obtain ⟨g, O, env, x, d, x', S, e, k⟩ := h
  unfold fAtA at e
  split at e
  · rename_i kd x1 e1
    split at e
    · rename_i ds e2
      split at e
      · rename_i q e3
        split at e
        · rename_i c
          obtain ⟨c1, c2⟩ := c
          split at e
          · rename_i d1 e4
            cases e
            obtain ⟨sv, e5, q5⟩ := S.at e2
            cases q5 with
            | @da a _ oa q6 q7 wt =>
              refine subD_of PySem.F.slot_dict_getitem.lookup hs (thn ((pe_var hN hvis hd hcd).run pins s σ H (fun v H1 => v = .ref a ∧ H1 = H) I ⟨_, e5, rfl, rfl⟩) fun u s1 ⟨v, H1, I1, rv, ev, eh⟩ => ?_)
              subst ev
              subst eh
              obtain rfl := (show u = .ref a from rv)
              refine thn (hb.out.run pins s1 σ _ (fun z H2 => FSt X.w X.K g O σ H2 env x' ∧ Le g H1 H2 ∧ Rp X.K O H2 z kd) I1 ⟨g, O, env, x, kd, _, S, e1, fun z H2 S2 l2 r2 => ⟨S2, l2, r2⟩⟩) fun iv s2 ⟨z, H2, I2, rz, S2, l2, r2⟩ => ?_
              obtain ⟨sv2, e6, q8⟩ := S2.at e2
              rw [e5] at e6
              cases e6
              cases q8 with
              | da _ _ _ wt2 =>
                rw [S.ww] at wt2
                obtain ⟨xs, hx, rs⟩ := wt2
                exact da_get hu I2 hx rs ⟨e3, c1, c2, r2⟩ rz e4 fun v1 w1 s3 I3 r3 r4 => ⟨v1, H2, I3, r3, k v1 H2 S2 l2 r4⟩
          · cases e
        · cases e
      · cases e
    · cases e
  · cases e
/-- n.setdefault(k, len(n)) -/
theorem ss_setA {i : Nat} {n : Str} {p0 apos p1 p2 cp1 cpos : Pos} (hu : X.A.units + 16 < cLine) (hb : SE X b fk) (hg : Gl X "len") (hm : X.mg "len" = none) (hv : bootBuiltins "len" = some (.builtin "len"))
    (hs : swapsWith (.Call (.Attribute (.Name n p0) "setdefault" apos) [b, .Call (.Name "len" p1) [.Name n p2] [] cp1] [] cpos) none pos.line X.env = pure false := by rfl)
    (hbase : attributeBase (.Name n p0) "setdefault" X.env (eval (.Name n p0) X.env) = eval (.Name n p0) X.env := by rfl)
    (hfew : ((backTo cpos (starEach [b, .Call (.Name "len" p1) [.Name n p2] [] cp1] X.env)).all (fun x => !x.1) && (backToKw cpos (keywordEach [] X.env)).all (fun x => x.1.isSome)
      && decide (([b, .Call (.Name "len" p1) [.Name n p2] [] cp1] : List Expr).length + ([] : List Keyword).length + (if ([] : List Keyword).isEmpty then 0 else 1) < 30)) = true := by rfl)
    (hline : (apos.endLine == cpos.line) = true := by rfl)
    (htrees : backTo cpos (starEach [b, .Call (.Name "len" p1) [.Name n p2] [] cp1] X.env) = [(false, eval b X.env), (false, eval (.Call (.Name "len" p1) [.Name n p2] [] cp1) X.env)] := by rfl)
    (hss : starEach ([.Name n p2] : List Expr) X.env = (false, eval (.Name n p2) X.env) :: starEach [] X.env := by rfl) (hplain : (backTo cp1 (starEach [] X.env)).any (·.1) = false := by rfl)
    (hN : X.N[i]? = some n := by rfl) (hvis : Vis X.env.scope n := by first | exact Or.inl rfl | exact Or.inr (Or.inl rfl) | exact Or.inr (Or.inr rfl)) (hd : (n == ("__debug__" : Str)) = false := by decide)
    (hcd : (n == ("__classdict__" : Str)) = false := by decide) : SS X (.Expr (.Call (.Attribute (.Name n p0) "setdefault" apos) [b, .Call (.Name "len" p1) [.Name n p2] [] cp1] [] cpos) pos) (sSetA i fk) := by
  refine ⟨⟨fun pins s σ H Dn I h => ?_⟩⟩
  obtain ⟨g, O, env, x, r, x', S, e, kk⟩ := h
  unfold sSetA at e
  split at e
  · rename_i kd x1 e1
    split at e
    · rename_i ds e2
      split at e
      · rename_i q e3
        split at e
        · rename_i c
          obtain ⟨c1, c2, c3, c4⟩ := c
          have hl : ds.length < sizeLine := maxLen_lt c3
          obtain ⟨sv, e5, q5⟩ := S.at e2
          cases q5 with
          | @da a _ oa q6 q7 wt =>
            have ev : PE X (.Name n p0) (tVar i) := pe_var hN hvis hd hcd
            have ev2 : PE X (.Name n p2) (tVar i) := pe_var hN hvis hd hcd
            have el := pe_callB (p := p1) (pos := cp1) cr_lenA hg hm hv (pa_cons ev2 pa_nil hss) (by decide) (by decide) hss hplain
            refine wpAny_Expr_any (Q := SP X pins Dn) ?_ I.quiet hs
            refine wpAny_Call_method hbase hfew hline PySem.F.plainAttrs_dict PySem.F.slot_dict_setdefault PySem.F.type_dict_setdefault (thn (ev.run pins s σ H (fun v H1 => v = .ref a ∧ H1 = H) I ⟨_, e5, rfl, rfl⟩) fun u s1 ⟨v, H1, I1, rv, ev, eh⟩ => ?_)
            subst ev
            subst eh
            obtain rfl := (show u = .ref a from rv)
            rw [S.ww] at wt
            have raw : RawD X.w a _ s1.heap := (I1.hok a _ wt.choose_spec.1).1
            obtain ⟨_, ob, _, _, o1, o2, _⟩ := raw
            refine ⟨⟨ob, o1, o2.1⟩, fun b q => by cases q; exact ⟨ob, o1, o2.2.1⟩, ?_⟩
            rw [htrees]
            refine Calls.callWith_builtin rfl (Calls.evalArgs_plain (Calls.spliced_cons (thn (hb.out.run pins s1 σ _ (fun z H2 => FSt X.w X.K g O σ H2 env x1 ∧ Le g H1 H2 ∧ Rp X.K O H2 z kd) I1 ⟨g, O, env, x, kd, _, S, e1, fun z H2 S2 l2 r2 => ⟨S2, l2, r2⟩⟩) fun iv s2 ⟨z, H2, I2, rz, S2, l2, r2⟩ => ?_)))
            obtain ⟨sv2, e6, q8⟩ := S2.at e2
            rw [e5] at e6
            cases e6
            cases q8 with
            | da _ _ _ wt2 =>
              rw [S.ww] at wt2
              obtain ⟨xs, hx, rs⟩ := wt2
              refine Calls.spliced_cons (thn (el.run pins s2 σ H2 (fun v H3 => v = .int ((ds.length : Nat) : Int) ∧ H3 = H2) I2 ⟨_, e5, ⟨a, X.K, O, xs, ds, isTupD kd, rfl, hx, rs, c2, hl, rfl, rfl⟩⟩) fun fv s3 ⟨y, H3, I3, ry, ey, eh⟩ => Calls.spliced_nil ?_)
              subst ey
              subst eh
              refine da_setd hu I3 hx rs ⟨e3, c1, c2, r2⟩ rz ry (.int _) hl (fun v1 d1 w1 s4 hv1 I4 r4 => ?_) fun hn s4 xs' I4 rs4 => ?_
              · rw [hv1] at e
                cases e
                exact ⟨σ, H3, I4, kk O σ H3 S2⟩
              · rw [hn] at e
                cases e
                refine ⟨σ, _, I4, kk O σ _ (S2.putA e2 e5 notC_raw c4 ⟨xs', upd_same, ?_⟩)⟩
                exact L2.Paired.mapP rs4 fun _ _ => DaR.mv fun _ _ r => r.move (keep_own S2 oa) .refl
        · cases e
      · cases e
    · cases e
  · cases e
end
end RT

namespace RT
open PySem PySem.Spec PyProof.Rows L2
theorem hu16 {k : Nat} {A : Around} (r : Room k A) : A.units + 16 < cLine := by
  have := room65 r
  omega
theorem spF_imp {K : PySem.W.Frag} {m m' : List D → Option D} (h : ∀ ds d, m ds = some d → m' ds = some d) {vs : List V} {H : Hp} {Q : VK} {E : XK} (q : spF K m vs H Q E) : spF K m' vs H Q E := by
  obtain ⟨T, O, ds, d, t1, t2, a, b, c, e⟩ := q
  exact ⟨T, O, ds, d, t1, t2, a, b, h _ _ c, e⟩
/-! ### the numbers of marks -/
def keyOk (d : D) : Bool := match nk d with
  | some q => decide (q.depth ≤ 8)
  | none => false
/-- one mark more -/
def tblS (acc : List (D × D)) (d : D) : List (D × D) := match nk d with
  | some q => match valA acc q with
    | some _ => acc
    | none => acc ++ [(d, .int acc.length)]
  | none => acc
def tblK (ds : List D) : List (D × D) := ds.foldl tblS []
def gNumbered : List D → Option D
  | [.list ds] => if ds.length ≤ 1000 ∧ (∀ d ∈ ds, keyOk d = true) ∧ ((∀ d ∈ ds, isTupD d = true) ∨ ∀ d ∈ ds, isTupD d = false) then
      match ds.mapM (fun d => (nk d).bind (valA (tblK ds))) with
      | some rs => some (.list rs)
      | none => none
    else none
  | _ => none
theorem tbl_keys {b : Bool} : ∀ {ds : List D} {acc : List (D × D)}, (∀ d ∈ ds, isTupD d = b) → (∀ p ∈ acc, isTupD p.1 = b) → (∀ p ∈ ds.foldl tblS acc, isTupD p.1 = b) ∧ (ds.foldl tblS acc).length ≤ acc.length + ds.length
  | [], acc, _, h => ⟨h, by simp⟩
  | d :: ds, acc, hd, h => by
    have h1 : (∀ p ∈ tblS acc d, isTupD p.1 = b) ∧ (tblS acc d).length ≤ acc.length + 1 := by
      unfold tblS
      split
      · split
        · exact ⟨h, by omega⟩
        · refine ⟨fun p hp => ?_, by simp⟩
          rcases List.mem_append.mp hp with hp | hp
          · exact h p hp
          · rw [List.mem_singleton] at hp; subst hp; exact hd d List.mem_cons_self
      · exact ⟨h, by omega⟩
    obtain ⟨h2, h3⟩ := tbl_keys (fun e he => hd e (List.mem_cons_of_mem _ he)) h1.1
    exact ⟨h2, by rw [List.foldl_cons, List.length_cons]; omega⟩
theorem num_loop (l : D) {b : Bool} (x : FRow) : ∀ (ds : List D) (acc : List (D × D)) (e2 : FSl), isDa e2 = false → (∀ d ∈ ds, keyOk d = true) → (∀ d ∈ ds, isTupD d = b) → (∀ p ∈ acc, isTupD p.1 = b) → acc.length + ds.length ≤ 1000 →
    ∃ e2', isDa e2' = false ∧ forL (gtName 2) (sSetA 1 (fVar 2)) ds [.va l, .da acc, e2] x = some (.nx [.va l, .da (ds.foldl tblS acc), e2'], x)
  | [], acc, e2, h, _, _, _, _ => ⟨e2, h, rfl⟩
  | d :: ds, acc, e2, h, hk, ht, ha, hl => by
    have kd := hk d List.mem_cons_self
    unfold keyOk at kd
    split at kd
    · rename_i q e
      have dp : q.depth ≤ 8 := of_decide_eq_true kd
      have l1 : acc.length < maxLen := by unfold maxLen; simp only [List.length_cons] at hl; omega
      have only : ∀ s ∈ ([.va l, .da acc, .va d] : FEn).set 1 .no, isDa s = false := fun s hs => by
        simp only [List.set, List.mem_cons, List.not_mem_nil, or_false] at hs
        rcases hs with rfl | rfl | rfl <;> rfl
      have c : q.depth ≤ 8 ∧ (∀ p ∈ acc, isTupD p.1 = isTupD d) ∧ acc.length < maxLen ∧ (∀ s ∈ ([.va l, .da acc, .va d] : FEn).set 1 .no, isDa s = false) :=
        ⟨dp, fun p hp => (ha p hp).trans (ht d List.mem_cons_self).symm, l1, only⟩
      have step : sSetA 1 (fVar 2) [.va l, .da acc, .va d] x = some (.nx [.va l, .da (tblS acc d), .va d], x) := by
        have e0 : fVar 2 [.va l, .da acc, .va d] x = some (d, x) := rfl
        have e1 : ([.va l, .da acc, .va d] : FEn)[1]? = some (.da acc) := rfl
        unfold sSetA tblS
        rw [e0]
        simp only [e1, e]
        rw [if_pos c]
        cases valA acc q <;> rfl
      have tk := (tbl_keys (ds := [d]) (acc := acc) (b := b) (fun e he => by rw [List.mem_singleton] at he; subst he; exact ht _ List.mem_cons_self) ha)
      have tl : (tblS acc d).length ≤ acc.length + 1 := tk.2
      obtain ⟨e2', g1, g2⟩ := num_loop l (b := b) x ds (tblS acc d) (.va d) rfl (fun e he => hk e (List.mem_cons_of_mem _ he)) (fun e he => ht e (List.mem_cons_of_mem _ he)) tk.1 (by simp only [List.length_cons] at hl; omega)
      refine ⟨e2', g1, ?_⟩
      have e3 : gtName 2 d [.va l, .da acc, e2] = some [.va l, .da acc, .va d] := rfl
      rw [forL, e3]
      simp only [step]
      exact g2
    · cases kd
theorem num_comp (l : D) (x : FRow) (acc : List (D × D)) (e2 : FSl) {b : Bool} (ha : ∀ p ∈ acc, isTupD p.1 = b) : ∀ (ds rs : List D), (∀ d ∈ ds, keyOk d = true) → (∀ d ∈ ds, isTupD d = b) → ds.mapM (fun d => (nk d).bind (valA acc)) = some rs →
    compL (gtName 2) tYesF (fAtA 1 (fVar 2)) [.va l, .da acc, e2] ds x = some (rs, x)
  | [], rs, _, _, h => by
    simp at h; subst h; rfl
  | d :: ds, rs, hk, ht, h => by
    rw [List.mapM_cons] at h
    cases h1 : (nk d).bind (valA acc) with
    | none => rw [h1] at h; cases h
    | some r =>
      rw [h1] at h
      cases h2 : ds.mapM (fun d => (nk d).bind (valA acc)) with
      | none => rw [h2] at h; cases h
      | some rs' =>
        rw [h2] at h
        cases h
        have ih := num_comp l x acc e2 ha ds rs' (fun e he => hk e (List.mem_cons_of_mem _ he)) (fun e he => ht e (List.mem_cons_of_mem _ he)) h2
        have kd := hk d List.mem_cons_self
        unfold keyOk at kd
        split at kd
        · rename_i q e
          have dp : q.depth ≤ 8 := of_decide_eq_true kd
          rw [e] at h1
          have h1 : valA acc q = some r := h1
          have c : q.depth ≤ 8 ∧ (∀ p ∈ acc, isTupD p.1 = isTupD d) := ⟨dp, fun p hp => (ha p hp).trans (ht d List.mem_cons_self).symm⟩
          have step : fAtA 1 (fVar 2) [.va l, .da acc, .va d] x = some (r, x) := by
            have e0 : fVar 2 [.va l, .da acc, .va d] x = some (d, x) := rfl
            have e1 : ([.va l, .da acc, .va d] : FEn)[1]? = some (.da acc) := rfl
            unfold fAtA
            rw [e0]
            simp only [e1, e]
            rw [if_pos c]
            simp only [h1]
          have e3 : gtName 2 d [.va l, .da acc, e2] = some [.va l, .da acc, .va d] := rfl
          have e4 : tYesF [.va l, .da acc, .va d] x = some (true, x) := rfl
          rw [compL, e3]
          simp only [e4, step, ih]
        · cases kd
theorem mapM_len {α β : Type} {f : α → Option β} : ∀ {l : List α} {r : List β}, l.mapM f = some r → r.length = l.length
  | [], r, h => by simp at h; subst h; rfl
  | a :: l, r, h => by
    rw [List.mapM_cons] at h
    cases h1 : f a with
    | none => rw [h1] at h; cases h
    | some b =>
      rw [h1] at h
      cases h2 : l.mapM f with
      | none => rw [h2] at h; cases h
      | some r' =>
        rw [h2] at h; cases h
        rw [List.length_cons, List.length_cons, mapM_len h2]
theorem numbered_pure : ∀ ds d, gNumbered ds = some d → mkF 3 1 (sSeq (sSet 1 xNewA)
    (sSeq (sFor (fSeq (fVar 0)) (gtName 2) (sSetA 1 (fVar 2)))
    (sRet (fOfX (xLc (fSeq (fVar 0)) (gtName 2) tYesF (fAtA 1 (fVar 2)) [2]))))) ds = some d := by
  intro dl d h
  unfold gNumbered at h
  split at h
  · rename_i ds
    split at h
    · rename_i c
      obtain ⟨hl, hk, hb⟩ := c
      split at h
      · rename_i rs hr
        cases h
        have ht : ∃ b, ∀ d ∈ ds, isTupD d = b := hb.elim (fun z => ⟨true, z⟩) fun z => ⟨false, z⟩
        obtain ⟨b, ht⟩ := ht
        obtain ⟨e2, g1, g2⟩ := num_loop (.list ds) (b := b) row0 ds [] .no rfl hk ht (fun _ h => nomatch h) (by simpa using hl)
        have tk := (tbl_keys (ds := ds) (acc := []) (b := b) ht (fun _ h => nomatch h)).1
        have g3 := num_comp (.list ds) row0 (tblK ds) .no tk ds rs hk ht hr
        have s0 : startE 3 [.list ds] = [.va (.list ds), .no, .no] := rfl
        have s1 : sSet 1 xNewA [.va (.list ds), .no, .no] row0 = some (.nx [.va (.list ds), .da [], .no], row0) := rfl
        have s2 : sFor (fSeq (fVar 0)) (gtName 2) (sSetA 1 (fVar 2)) [.va (.list ds), .da [], .no] row0 = some (.nx [.va (.list ds), .da (tblK ds), e2], row0) := g2
        have s3 : fOfX (xLc (fSeq (fVar 0)) (gtName 2) tYesF (fAtA 1 (fVar 2)) [2]) [.va (.list ds), .da (tblK ds), e2] row0 = some (.list rs, row0) := by
          have w0 : wipeE [.va (.list ds), .da (tblK ds), e2] [2] = [.va (.list ds), .da (tblK ds), .no] := rfl
          have f0 : fSeq (fVar 0) [.va (.list ds), .da (tblK ds), e2] row0 = some (ds, row0) := rfl
          have ml : rs.length < maxLen := by rw [mapM_len hr]; unfold maxLen; omega
          unfold fOfX xLc
          simp only [f0, w0, g3]
          rw [if_pos ml]; rfl
        unfold mkF
        rw [if_pos (show [D.list ds].length = 1 from rfl), s0]
        unfold sSeq
        simp only [s1, s2]
        unfold sRet
        rw [s3]
      · cases h
    · cases h
  · cases h
end RT

namespace RT
open PySem PySem.Spec PyProof.Rows L2
/-! ### dicts whose keys are tuples of any kind: k not in d, d[k] = v, {k: v} -/
section
variable {ω : World} {K : PySem.W.Frag} {O : Addr → Prop} {H : Hp} {X : Cx} {pins : List (Addr × Obj)} {σ : L2.St} {s : Shared} {a : Addr} {xs : List DaX} {ds : List (D × D)} {kd d1 : D} {q : NestedKey} {v : V} {u r : Value} {E : Value → Shared → Prop}
/-- what stands behind d[k] = v -/
def putAD (ds : List (D × D)) (kd : D) (q : NestedKey) (dd : D) : List (D × D) := match valA ds q with
  | some _ => ds.map fun p => if nk p.1 = some q then (p.1, dd) else p
  | none => ds ++ [(kd, dd)]
theorem da_put {dd : D} {y : V} {Q : Unit → Shared → Prop} (hu : X.A.units + 16 < cLine) (I : L2.Inv X pins σ H s) (e : H a = some (.ext (RawD X.w a xs))) (rs : Paired (DaR K O H) xs ds) (f : Fit K O H ds kd q v) (t : isTupD kd = true) (ru : RelV v u) (rd : RelV y r) (rp : Rp K O H y dd) (hl : ds.length < sizeLine)
    (h : ∀ s' xs', L2.Inv X pins σ (upd H a (.ext (RawD X.w a xs'))) s' → Paired (DaR K O H) xs' (putAD ds kd q dd) → Q () s') : wpAny (model X.prog X.w) X.A (setItem (.ref a) u r) Q E s := by
  have hlen : xs.length = ds.length := Paired.length rs
  obtain ⟨b, rfl⟩ := f.ref t
  obtain rfl := (show u = .ref b from ru)
  obtain ⟨hs, ys, rfl, hm⟩ := da_tup I.hok e rs fun p hp => (f.t p hp).trans t
  refine wpAny_setItem_heap (knd := nestedKind X.prog X.w) (hsz := by rw [List.length_map] at hlen; omega) (by show X.A.units + 1 + 8 < cLine; omega) ⟨nis I.hok kd _ _ _ f.r f.k ru, f.dp⟩ hm fun h' hm' sb => ?_
  have rw' := raw_tup hs hm'
  have he : ∃ o, h'.get? a = some o := let ⟨_, o, _, _, z, _⟩ := rw'; ⟨o, z⟩
  have I' := I.write (e := a) (t' := s.toks + (nestedKind X.prog X.w).draws q) (by rw [e]; exact True.intro) (.inl rfl) (fun b u hb hu => (sb.2 b hb).trans hu) he (raw_ok rw')
  refine h _ _ I' ?_
  unfold putAD
  rcases val_tup (q := q) rs with ⟨z, z2⟩ | ⟨d, p, v1, z1, z2, _, _⟩
  · rw [z, storedH_new z2, List.map_append]
    refine Paired.snoc ?_ rs
    exact ⟨f.k, f.dp, fun _ => ⟨_, ru, f.r⟩, (fun l z => by rw [(lf_nk z).2] at t; cases t), ⟨y, rd, rp⟩⟩
  · rw [z1, storedH_old z2]
    simp only
    clear z1 z2 hm hm' rw' he I' hlen e hl h f I
    have key : ∀ {ys : List (NestedKey × Addr × Value)} {ds : List (D × D)}, Paired (DaR K O H) (ys.map upT) ds → Paired (DaR K O H) ((ys.map (putAt q r)).map upT) (ds.map fun p => if nk p.1 = some q then (p.1, dd) else p) := by
      intro ys
      induction ys with
      | nil => intro ds r; cases r; exact .nil
      | cons y0 ys ih =>
        intro ds r
        cases r with
        | @cons _ p _ ds r0 rs =>
          refine .cons ?_ (ih rs)
          have k : nk p.1 = some y0.1 := r0.k
          by_cases c : y0.1 = q
          · have e1 : putAt q r y0 = (y0.1, y0.2.1, r) := by simp [putAt, c]
            have e2 : (fun p : D × D => if nk p.1 = some q then (p.1, dd) else p) p = (p.1, dd) := if_pos (by rw [k, c])
            rw [e1, e2]
            exact ⟨r0.k, r0.dp, r0.u, r0.l, ⟨y, rd, rp⟩⟩
          · have e1 : putAt q r y0 = y0 := by simp [putAt, c]
            have e2 : (fun p : D × D => if nk p.1 = some q then (p.1, dd) else p) p = p := if_neg (by rw [k]; exact fun z => c (Option.some.inj z))
            rw [e1, e2]
            exact r0
    exact key rs
theorem da_notin {Q : Value → Shared → Prop} (hu : X.A.units + 16 < cLine) (I : L2.Inv X pins σ H s) (e : H a = some (.ext (RawD X.w a xs))) (rs : Paired (DaR K O H) xs ds) (f : Fit K O H ds kd q v) (t : isTupD kd = true) (ru : RelV v u)
    (h : ∀ s', L2.Inv X pins σ H s' → Q (.bool (!(valA ds q).isSome)) s') : wpAny (model X.prog X.w) X.A (compareOp .NotIn u (.ref a)) Q E s := by
  obtain ⟨b, rfl⟩ := f.ref t
  obtain rfl := (show u = .ref b from ru)
  obtain ⟨hs, ys, rfl, hm⟩ := da_tup I.hok e rs fun p hp => (f.t p hp).trans t
  have eqv : (atKey ys q).isSome = (valA ds q).isSome := by
    rcases val_tup (q := q) rs with ⟨z, z2⟩ | ⟨d, p, v1, z1, z2, _, _⟩
    · rw [z, z2]; rfl
    · rw [z1, z2]; rfl
  refine notIn_keyed (knd := nestedKind X.prog X.w) (by show X.A.units + 1 + 8 < cLine; omega) ⟨nis I.hok kd _ _ _ f.r f.k ru, f.dp⟩ hs ⟨ys, hm, rfl⟩ ?_
  rw [valueAt_pairsH, Option.isSome_map, eqv]
  exact h _ (I.tok _)
end
/-- d[k] = v -/
def sPutA (i : Nat) (fk fv : FE) : FS := fun env x => match fv env x with
  | some (dd, x1) => match fk env x1 with
    | some (k, x2) => match env[i]? with
      | some (.da ds) => match nk k with
        | some q => if q.depth ≤ 8 ∧ (∀ p ∈ ds, isTupD p.1 = isTupD k) ∧ isTupD k = true ∧ ds.length < maxLen ∧ (∀ s ∈ env.set i .no, isDa s = false) then
            some (.nx (env.set i (.da (putAD ds k q dd))), x2) else none
        | none => none
      | _ => none
    | none => none
  | none => none
/-- k not in d -/
def tNotA (i : Nat) (fk : FE) : FT := fun env x => match fk env x with
  | some (k, x1) => match env[i]? with
    | some (.da ds) => match nk k with
      | some q => if q.depth ≤ 8 ∧ (∀ p ∈ ds, isTupD p.1 = isTupD k) ∧ isTupD k = true then some (!(valA ds q).isSome, x1) else none
      | none => none
    | _ => none
  | none => none
section
variable {X : Cx} {b c e : Expr} {fk fv : FE} {pos : Pos}
theorem ss_putA {i : Nat} {n : Str} {p0 pos' : Pos} (hu : X.A.units + 16 < cLine) (hv : SE X c fv) (hk : SE X b fk) (hs : swapsWith c (some (.Subscript (.Name n p0) b pos')) pos.line X.env = pure false := by rfl)
    (hN : X.N[i]? = some n := by rfl) (hvis : Vis X.env.scope n := by first | exact Or.inl rfl | exact Or.inr (Or.inl rfl) | exact Or.inr (Or.inr rfl)) (hd : (n == ("__debug__" : Str)) = false := by decide)
    (hcd : (n == ("__classdict__" : Str)) = false := by decide) : SS X (.Assign [.Subscript (.Name n p0) b pos'] c pos) (sPutA i fk fv) := by
  refine ⟨⟨fun pins s σ H Dn I h => ?_⟩⟩
  obtain ⟨g, O, env, x, r, x', S, e, kk⟩ := h
  unfold sPutA at e
  split at e
  · rename_i dd x1 e0
    split at e
    · rename_i kd x2 e1
      split at e
      · rename_i ds e2
        split at e
        · rename_i q e3
          split at e
          · rename_i c
            obtain ⟨c1, c2, ct, c3, c4⟩ := c
            cases e
            have hl : ds.length < sizeLine := maxLen_lt c3
            obtain ⟨sv, e5, q5⟩ := S.at e2
            cases q5 with
            | @da a _ oa q6 q7 wt =>
              have ev : PE X (.Name n p0) (tVar i) := pe_var hN hvis hd hcd
              refine wpAny_Assign_Subscript (thn (hv.out.run pins s σ H (fun z H2 => FSt X.w X.K g O σ H2 env x1 ∧ Le g H H2 ∧ Rp X.K O H2 z dd) I ⟨g, O, env, x, dd, _, S, e0, fun z H2 S2 l2 r2 => ⟨S2, l2, r2⟩⟩) fun rv s1 ⟨y, H1, I1, ry, S1, l1, r1⟩ => ?_) hs
              refine thn (ev.run pins s1 σ H1 (fun v H2 => v = .ref a ∧ H2 = H1) I1 ⟨_, e5, rfl, rfl⟩) fun u s2 ⟨v, H2, I2, rv2, ev2, eh⟩ => ?_
              subst ev2
              subst eh
              obtain rfl := (show u = .ref a from rv2)
              refine thn (hk.out.run pins s2 σ _ (fun z H3 => FSt X.w X.K g O σ H3 env x' ∧ Le g H2 H3 ∧ Rp X.K O H3 z kd) I2 ⟨g, O, env, x1, kd, _, S1, e1, fun z H3 S3 l3 r3 => ⟨S3, l3, r3⟩⟩) fun iv s3 ⟨z, H3, I3, rz, S3, l3, r3⟩ => ?_
              obtain ⟨sv3, e6, q8⟩ := S3.at e2
              rw [e5] at e6
              cases e6
              cases q8 with
              | da _ _ _ wt2 =>
                rw [S.ww] at wt2
                obtain ⟨xs, hx, rs⟩ := wt2
                refine da_put hu I3 hx rs ⟨e3, c1, c2, r3⟩ ct rz ry (r1.step S1 l3) hl fun s4 xs' I4 rs4 => ?_
                refine ⟨σ, _, I4, kk O σ _ (S3.putA e2 e5 notC_raw c4 ⟨xs', upd_same, ?_⟩)⟩
                exact L2.Paired.mapP rs4 fun _ _ => DaR.mv fun _ _ r => r.move (keep_own S3 oa) .refl
          · cases e
        · cases e
      · cases e
    · cases e
  · cases e
theorem st_notA {i : Nat} {n : Str} {p0 : Pos} (hu : X.A.units + 16 < cLine) (hb : SE X b fk) (hm : behindInMarks .NotIn (.Name n p0) = false := by rfl)
    (hN : X.N[i]? = some n := by rfl) (hvis : Vis X.env.scope n := by first | exact Or.inl rfl | exact Or.inr (Or.inl rfl) | exact Or.inr (Or.inr rfl)) (hd : (n == ("__debug__" : Str)) = false := by decide)
    (hcd : (n == ("__classdict__" : Str)) = false := by decide) : ST X (.Compare b [.NotIn] [.Name n p0] pos) (tNotA i fk) := by
  refine ⟨⟨fun pins s σ H Q I h => ?_⟩⟩
  obtain ⟨g, O, env, x, r, x', S, e, kk⟩ := h
  unfold tNotA at e
  split at e
  · rename_i kd x1 e1
    split at e
    · rename_i ds e2
      split at e
      · rename_i q e3
        split at e
        · rename_i c
          obtain ⟨c1, c2, ct⟩ := c
          cases e
          obtain ⟨sv, e5, q5⟩ := S.at e2
          cases q5 with
          | @da a _ oa q6 q7 wt =>
            have ev : PE X (.Name n p0) (tVar i) := pe_var hN hvis hd hcd
            refine wpAny_isTrue_Compare1 (thn (hb.out.run pins s σ H (fun z H2 => FSt X.w X.K g O σ H2 env x' ∧ Le g H H2 ∧ Rp X.K O H2 z kd) I ⟨g, O, env, x, kd, _, S, e1, fun z H2 S2 l2 r2 => ⟨S2, l2, r2⟩⟩) fun kv s1 ⟨z, H1, I1, rz, S1, l1, r1⟩ => ?_) hm
            refine thn (ev.run pins s1 σ H1 (fun v H2 => v = .ref a ∧ H2 = H1) I1 ⟨_, e5, rfl, rfl⟩) fun u s2 ⟨v, H2, I2, rv2, ev2, eh⟩ => ?_
            subst ev2
            subst eh
            obtain rfl := (show u = .ref a from rv2)
            obtain ⟨sv3, e6, q8⟩ := S1.at e2
            rw [e5] at e6
            cases e6
            cases q8 with
            | da _ _ _ wt2 =>
              rw [S.ww] at wt2
              obtain ⟨xs, hx, rs⟩ := wt2
              refine da_notin hu I2 hx rs ⟨e3, c1, c2, r1⟩ ct rz fun s3 I3 => ?_
              exact wpAny_truthy_bool ⟨H2, I3, kk H2 S1 l1⟩
        · cases e
      · cases e
    · cases e
  · cases e
/-- {k: v} -/
def xDict1A (fk fv : FE) : FX := fun env x => match fk env x with
  | some (kd, x1) => match nk kd with
    | some q => if q.depth ≤ 8 ∧ isTupD kd = true then
        match fv env x1 with
        | some (dd, x2) => some (.da [(kd, dd)], x2)
        | none => none
      else none
    | none => none
  | none => none
theorem sx_d1A {a : Expr} (hu : X.A.units + 16 < cLine) (hk : SE X a fk) (hv : SE X b fv) (hshape : (evalEachOpt [some a] X.env).zip ((evalEach [b] X.env).map fun v => do let x ← v; standAt pos; pure x) = (pairTrees [some a] [b] X.env pos).map fun p => (some p.1, p.2) := by rfl) : SX X (.Dict [some a] [b] pos) (xDict1A fk fv) := by
  refine ⟨⟨fun pins s σ H Q I h => ?_⟩⟩
  obtain ⟨g, O, env, x, sl, x', S, e, k⟩ := h
  unfold xDict1A at e
  split at e
  · rename_i kd x1 e1
    split at e
    · rename_i q e3
      split at e
      · rename_i c
        obtain ⟨c1, ct⟩ := c
        split at e
        · rename_i dd x2 e2
          cases e
          have hn : H s.heap.objs.size = none := I.hok.fresh (Nat.le_refl _)
          have n1 := S.newp hn
          have I1 := I.laid (a := s.heap.objs.size) (o := .ext (RawD X.w s.heap.objs.size [])) (h' := s.heap.push { cls := .type "dict", data := .dict #[] }) (t' := s.toks) (fun _ _ q => Heap.get?_push_of_some _ q) (Nat.le_refl _) (raw_ok (raw_new s.heap I.big))
          have S0 := S.own (o := .ext (RawD X.w s.heap.objs.size [])) hn notC_raw
          have hpt : (pairTrees [some a] [b] X.env pos).length ≤ 15 := by show 1 ≤ 15; decide
          have walk := (pps_cons (pos := pos) hk.out hv.out pps_nil).run pins _ σ _ (fun ps H2 => ∃ kv vv, ps = [(kv, vv)] ∧ FSt X.w X.K g (oAdd O s.heap.objs.size) σ H2 env x' ∧ Le g (upd H s.heap.objs.size (.ext (RawD X.w s.heap.objs.size []))) H2 ∧ Rp X.K (oAdd O s.heap.objs.size) H2 kv kd ∧ Rp X.K (oAdd O s.heap.objs.size) H2 vv dd) I1
            ⟨g, oAdd O s.heap.objs.size, env, x, kd, x1, S0, e1, fun kv H1 S1 l1 r1 => ⟨g, oAdd O s.heap.objs.size, env, x1, dd, x', S1, e2, fun vv H2 S2 l2 r2 => ⟨kv, vv, rfl, S2, l1.trans l2, r1.step S1 l2, r2⟩⟩⟩
          rw [arm_eval_Dict, hshape, dictDisplay_pairs _ (by intro z; cases z) (by omega)]
          refine wpAny_bind (wpAny_standAt (wpAny_bind (wpAny_subDictH (knd := nestedKind X.prog X.w) (Q := fun d s' => wpAny (model X.prog X.w) X.A (pure (Value.ref d)) (EP X pins σ Q) X.xe s') (by show X.A.units + 8 < cLine; omega) hpt
            (wpAny_mono walk (fun ws s2 h2 => ?_) fun _ _ e => e))))
          obtain ⟨ps, H2, I2, rel, kv, vv, rfl, S2, l2, r1, r2⟩ := h2
          cases rel with
          | @cons _ w0 _ ws0 r rs0 =>
            cases rs0
            obtain ⟨ku, vu⟩ := w0
            obtain ⟨rk, rv⟩ := r
            obtain ⟨b0, rfl⟩ : ∃ b0, kv = .ref b0 := by
              cases kd <;> first | (cases ct; done) | exact r1.isRef
            obtain rfl := (show ku = .ref b0 from rk)
            have n2 := n1.2
            have hp2 : H2 s.heap.objs.size = some (.ext (RawD X.w s.heap.objs.size [])) := l2 _ _ n2 upd_same rfl
            obtain ⟨hs, ys, ey, hm⟩ := da_tup (K := X.K) (O := O) (ds := []) I2.hok hp2 .nil (fun _ h => nomatch h)
            have ey : ys = [] := by cases ys with
              | nil => rfl
              | cons _ _ => cases ey
            subst ey
            have hne : ∀ (j : Nat) d b, env[j]? = some d → isOwn d = true → σ[j]? = some (some (.ref b)) → b ≠ s.heap.objs.size := fun j d b h1 h0 h2 => own_ne2 S (.of hn) h1 h0 h2
            refine ⟨[(q, b0, vu)], ⟨rfl, rfl, ⟨nis I2.hok kd _ _ _ r1 e3 rk, c1⟩, trivial⟩, hm, fun h' tk hd sb => wpAny_pure ?_⟩
            have rw' := raw_tup hs hd
            have he : ∃ o, h'.get? s.heap.objs.size = some o := let ⟨_, o, _, _, z, _⟩ := rw'; ⟨o, z⟩
            have I3 := I2.write (e := s.heap.objs.size) (t' := tk) (by rw [hp2]; exact True.intro) (.inl rfl) (fun b u hb hu => (sb.2 b hb).trans hu) he (raw_ok rw')
            refine ⟨.ref s.heap.objs.size, _, I3, rfl, k _ _ _ (S2.upd1 hp2 notC_raw (.inr rfl) n1.1 n1.2 notC_raw hne) (fun c u hR ec tn => ?_) (wid_add hn) (fun a z => .inl z) (.da (.inr rfl) n1.1 n1.2 (S.ww.symm ▸ ⟨_, upd_same, ?_⟩)) fun d z => by cases z⟩
            · have z : c ≠ s.heap.objs.size := fun z => by rw [z, hn] at ec; cases ec
              rw [upd_ne z]
              exact l2 c u hR (by rw [upd_ne z]; exact ec) tn
            · have kp := fun (v : V) (d : D) (r : Rp X.K (oAdd O s.heap.objs.size) H2 v d) => r.move (keep_own S2 (p := s.heap.objs.size) (o := .ext (RawD X.w s.heap.objs.size [(q, .ref b0, vu)])) (.inr rfl)) .refl
              exact .cons ⟨e3, c1, fun _ => ⟨_, rk, kp _ _ r1⟩, (fun l z => by rw [(lf_nk z).2] at ct; cases ct), ⟨vv, rv, kp _ _ r2⟩⟩ .nil
        · cases e
      · cases e
    · cases e
  · cases e
end
end RT

namespace RT
open PySem PySem.Spec PyProof.Rows L2
/-! ### zip of two lists, of two tuples -/
def zipD (ds es : List D) : List D := ds.zipWith (fun d e => D.tuple [d, e]) es
theorem zipD_len (ds es : List D) : (zipD ds es).length = min ds.length es.length := by simp [zipD]
theorem zipD_get {ds es : List D} {i : Nat} {d : D} (h : (zipD ds es)[i]? = some d) : ∃ a b, ds[i]? = some a ∧ es[i]? = some b ∧ d = .tuple [a, b] := by
  unfold zipD at h
  rw [List.getElem?_zipWith] at h
  cases h1 : ds[i]? with
  | none => rw [h1] at h; cases h
  | some a =>
    cases h2 : es[i]? with
    | none => rw [h1, h2] at h; cases h
    | some b =>
      rw [h1, h2] at h
      exact ⟨a, b, rfl, rfl, (Option.some.inj h).symm⟩
def fZip (fa fb : FE) : FA := fun env x => match fa env x with
  | some (.list ds, x1) => match fb env x1 with
    | some (.list es, x2) => some (zipD ds es, x2)
    | _ => none
  | some (.tuple ds, x1) => match fb env x1 with
    | some (.tuple es, x2) => some (zipD ds es, x2)
    | _ => none
  | _ => none
section
variable {X : Cx} {a b c e : Expr} {es : List Expr} {fa fb fc f : FE} {pos : Pos}
theorem si_zip {p tpos : Pos} {elts : List Expr} {kk : Nat} (hg : Gl X "zip") (hm : X.mg "zip" = none) (ha : SE X a fa) (hb : SE X b fb) (hs : starEach [a, b] X.env = (false, eval a X.env) :: starEach [b] X.env := by rfl) (hs2 : starEach [b] X.env = (false, eval b X.env) :: starEach [] X.env := by rfl)
    (hpl : (backTo pos (starEach [b] X.env)).any (·.1) = false := by rfl) : SI X (.Tuple elts kk tpos) (.Call (.Name "zip" p) [a, b] [] pos) (fZip fa fb) := by
  refine ⟨⟨fun pins s σ H R I h2 => ?_⟩⟩
  obtain ⟨g, O, env, x, ds, x', S, e, k⟩ := h2
  unfold fZip at e
  split at e
  · rename_i ds1 x1 e1
    split at e
    · rename_i ds2 x2 e2
      cases e
      refine (RZ.pi_zipA hg hm (pa_cons ha.out (pa_cons hb.out pa_nil hs2) hs) hs hpl).run pins s σ H R I ⟨g, O, env, x, _, x1, S, e1, fun v H1 S1 l1 r1 => ⟨g, O, env, x1, _, x', S1, e2, fun w H2 S2 l2 r2 => ?_⟩⟩
      have r1 := r1.step S1 l2
      cases r1 with
      | @lst p xs _ np hp rx =>
        cases r2 with
        | @lst q ys _ nq hq ry =>
          refine ⟨p, q, xs, ys, rfl, .inl ⟨.of hp, .of hq, k _ [(.ref p, .list ds1), (.ref q, .list ds2)] H2 (S2.addg _ fun z hz => ?_) (l1.trans l2) fun O3 σ3 H3 env3 x3 i S3 => ?_⟩⟩
          · rcases List.mem_cons.mp hz with rfl | hz
            · exact .lst np hp rx
            · rw [List.mem_singleton] at hz; subst hz; exact .lst nq hq ry
          · have g1 := S3.gh (.ref p, .list ds1) (by simp [FG.add])
            have g2 := S3.gh (.ref q, .list ds2) (by simp [FG.add])
            cases g1 with
            | @lst _ us _ np2 hp2 ru =>
              cases g2 with
              | @lst _ ws _ nq2 hq2 rw' =>
                refine ⟨fun d hd => ?_, fun hi => ⟨us, ws, .of hp2, .of hq2, ?_⟩⟩
                · obtain ⟨d1, d2, h1, h2, rfl⟩ := zipD_get hd
                  obtain ⟨y1, e3, r3⟩ := ru.get h1
                  obtain ⟨y2, e4, r4⟩ := rw'.get h2
                  refine ⟨⟨us, ws, y1, y2, .of hp2, .of hq2, e3, e4⟩, fun v H' hy => ?_⟩
                  obtain ⟨T, z1, z2, rfl, hT, rfl, hy1, hy2⟩ := hy
                  have e5 := hy1 us (.of hp2)
                  rw [e3] at e5
                  cases e5
                  have e6 := hy2 ws (.of hq2)
                  rw [e4] at e6
                  cases e6
                  have sm := same_upd (o := .tup [y1, y2]) hT
                  exact ⟨sm, .tup (S3.notO hT) upd_same (.cons (r3.move (.of sm) .refl) (.cons (r4.move (.of sm) .refl) .nil))⟩
                · rw [hi, zipD_len, ru.length, rw'.length]
                  omega
    · cases e
  · rename_i ds1 x1 e1
    split at e
    · rename_i ds2 x2 e2
      cases e
      refine (RZ.pi_zipA hg hm (pa_cons ha.out (pa_cons hb.out pa_nil hs2) hs) hs hpl).run pins s σ H R I ⟨g, O, env, x, _, x1, S, e1, fun v H1 S1 l1 r1 => ⟨g, O, env, x1, _, x', S1, e2, fun w H2 S2 l2 r2 => ?_⟩⟩
      have r1 := r1.step S1 l2
      cases r1 with
      | @tup p xs _ np hp rx =>
        cases r2 with
        | @tup q ys _ nq hq ry =>
          refine ⟨p, q, xs, ys, rfl, .inr ⟨.of hp, .of hq, k _ [(.ref p, .tuple ds1), (.ref q, .tuple ds2)] H2 (S2.addg _ fun z hz => ?_) (l1.trans l2) fun O3 σ3 H3 env3 x3 i S3 => ?_⟩⟩
          · rcases List.mem_cons.mp hz with rfl | hz
            · exact .tup np hp rx
            · rw [List.mem_singleton] at hz; subst hz; exact .tup nq hq ry
          · have g1 := S3.gh (.ref p, .tuple ds1) (by simp [FG.add])
            have g2 := S3.gh (.ref q, .tuple ds2) (by simp [FG.add])
            cases g1 with
            | @tup _ us _ np2 hp2 ru =>
              cases g2 with
              | @tup _ ws _ nq2 hq2 rw' =>
                refine ⟨fun d hd => ?_, fun hi => ⟨us, ws, .of hp2, .of hq2, ?_⟩⟩
                · obtain ⟨d1, d2, h1, h2, rfl⟩ := zipD_get hd
                  obtain ⟨y1, e3, r3⟩ := ru.get h1
                  obtain ⟨y2, e4, r4⟩ := rw'.get h2
                  refine ⟨⟨us, ws, y1, y2, .of hp2, .of hq2, e3, e4⟩, fun v H' hy => ?_⟩
                  obtain ⟨T, z1, z2, rfl, hT, rfl, hy1, hy2⟩ := hy
                  have e5 := hy1 us (.of hp2)
                  rw [e3] at e5
                  cases e5
                  have e6 := hy2 ws (.of hq2)
                  rw [e4] at e6
                  cases e6
                  have sm := same_upd (o := .tup [y1, y2]) hT
                  exact ⟨sm, .tup (S3.notO hT) upd_same (.cons (r3.move (.of sm) .refl) (.cons (r4.move (.of sm) .refl) .nil))⟩
                · rw [hi, zipD_len, ru.length, rw'.length]
                  omega
    · cases e
  · cases e
end
end RT

namespace RT
open PySem PySem.Spec PyProof.Rows L2
/-! ### set(t), t a tuple of ints, under sorted -/
theorem ilen_le : ∀ {l m : List Int}, l.Nodup → (∀ x ∈ l, x ∈ m) → l.length ≤ m.length
  | [], _, _, _ => Nat.zero_le _
  | a :: l, m, hn, hs => by
    have hn' := List.nodup_cons.mp hn
    have ha := hs a List.mem_cons_self
    have := ilen_le (l := l) (m := m.erase a) hn'.2 fun x hx => (List.mem_erase_of_ne (show x ≠ a from fun e => hn'.1 (by rw [← e]; exact hx))).mpr (hs x (List.mem_cons_of_mem _ hx))
    rw [List.length_erase_of_mem ha] at this
    have := List.length_pos_of_mem ha
    simp only [List.length_cons]; omega
theorem setR_count {w : World} {h : Heap} {a : Addr} {M : Int → Bool} {c : Nat} {ns : List Int} (R : SetR w h a M c) (hM : ∀ k, M k = true ↔ k ∈ ns) : c = (nubI ns).length := by
  obtain ⟨o, es, ep, t, _, _, _, _, hnd, hmem, _, _, hc, _⟩ := R
  have e : es.size = (es.toList.map keyOf).length := by simp
  rw [← hc, e]
  refine Nat.le_antisymm (ilen_le hnd fun x hx => (nubI_mem ns x).mpr ((hM x).mp ((hmem x).mpr hx))) (ilen_le (nubI_nd ns) fun x hx => (hmem x).mp ((hM x).mpr ((nubI_mem ns x).mp hx)))
def rSetT (K : PySem.W.Frag) (w : World) : List V → Hp → VK → Prop := fun vs H Q => ∃ (l : Addr) (ns : List Int), vs = [.ref l] ∧ SqT K H l (ns.map V.int) ∧ ns.length < 64 ∧ ∀ p M, H p = none → (∀ k, M k = true ↔ k ∈ ns) → Q (.ref p) (upd H p (SetIO w p M (nubI ns).length))
theorem cr_setT {X : Cx} (hc : X.calm = true) : CallR X (.type "set") (rSetT X.K X.w) := by
  intro pins s σ H vs us Q I r h
  obtain ⟨l, ns, rfl, hl, h64, q⟩ := h
  rw [Vals.ref1 r]
  obtain ⟨its, rv, pt, hz⟩ := I.tuple hl
  have hi : IntsAre its ns := rv.ints
  refine call_set_tupI ns (I.ok.hd hc) pt (by simpa using hi) (Nat.lt_of_le_of_lt (show ns.length + 1 ≤ 64 by omega) (by decide)) fun h' tk c R hcn hk => ?_
  have en := setR_count (ns := ns) R fun k => by simp
  rw [en] at R
  have I1 : L2.Inv X pins σ (upd H s.heap.objs.size (SetIO X.w s.heap.objs.size (fun j => decide (j ∈ ns)) (nubI ns).length)) { s with heap := h', toks := tk } :=
    I.laid (a := s.heap.objs.size) (o := SetIO X.w s.heap.objs.size (fun j => decide (j ∈ ns)) (nubI ns).length) (t' := tk) (fun b o e => hk b o e) (Nat.le_refl _) (setIO_ok R)
  exact ⟨.ref _, _, I1, rfl, q _ _ (I.hok.fresh (Nat.le_refl _)) fun k => by simp⟩
def nSetT (fa : FE) : FN := fun env x => match fa env x with
  | some (.tuple ds, x1) => match intsD ds with
    | some ns => if ns.length < 64 then some (ns, x1) else none
    | none => none
  | _ => none
section
variable {X : Cx} {a b c e : Expr} {es : List Expr} {fa fb fc f : FE} {pos : Pos}
theorem sn_setT {p : Pos} (hc : X.calm = true) (hg : Gl X "set") (hm : X.mg "set" = none) (ha : SE X a fa) (hs : starEach [a] X.env = (false, eval a X.env) :: starEach [] X.env := by rfl) (hpl : (backTo pos (starEach [] X.env)).any (·.1) = false := by rfl) : SN X (.Call (.Name "set" p) [a] [] pos) (nSetT fa) := by
  refine ⟨PEw (pe_callTy (cr_setT hc) hg hm (by decide +kernel) (pa_cons ha.out pa_nil hs) (by decide) (by decide) hs hpl) fun σ H Q h => ?_⟩
  obtain ⟨g, O, env, x, ns0, x', S, e, k⟩ := h
  unfold nSetT at e
  split at e
  · rename_i ds x1 e1
    split at e
    · rename_i ns e2
      split at e
      · rename_i hl
        cases e
        refine ⟨g, O, env, x, _, x', S, e1, fun v H1 S1 l1 r1 => ?_⟩
        obtain ⟨t, rfl⟩ := r1.isRef
        obtain ⟨xs, hq, rx⟩ := r1.seqT
        have ei := ints_ok e2
        subst ei
        have ex := rx.ints
        subst ex
        refine ⟨t, ns0, rfl, hq, hl, fun p M hp hM => ?_⟩
        have S2 := S1.own (o := SetIO X.w p M (nubI ns0).length) hp notC_set
        exact k p _ M S2 (l1.trans (.of (same_upd hp))) (Le.gone l1 (.of hp) S1) upd_same hM hl
      · cases e
    · cases e
  · cases e
end
end RT

namespace RT
open PySem PySem.Spec PyProof.Rows L2
open LamX (CodeO)
open NdefX
/-! ### a lambda with parameters, called by whoever got it: F.body is not used, its body is the expression be -/
section
variable {CX : CXT} {P : Program} {w : World} {K : PySem.W.Frag} {mg : Str → Option Value} {base : Heap} {N ps fr : List Str} {F : NF} {f : Addr} {k : Nat} {params : Arguments} {be : Expr}
/-- the object at f is the lambda -/
def LamAt (f : Addr) (F : NF) (params : Arguments) (be : Expr) (pm ctv : Value) (h : Heap) : Prop := h.get? f = some (PySem.W.kla_obj "<lambda>" F.qual params be F.scope F.cl pm F.c ctv)
theorem lam_run {A : Around} {outer : List Env} {s : Shared} {H : Hp} {us : List Value} {vs : List V} {ws : List (Option V)} {Q : VK} {E : XK} {te : TE} {pm ctv : Value} (S : NScope N ps fr F.scope) (hr : Room (k + 1) A) (e0 : Env0 P w K mg base A outer s H)
    (hf : LamAt f F params be pm ctv s.heap) (hc : H F.c = some (CodeO F.c F.qual)) (C : CellsAt F.cl fr ws s.heap H) (r : Vals vs us) (hl : vs.length = ps.length)
    (hb : bindArgs (PySem.W.kla_fn "<lambda>" F.qual params be F.scope F.cl pm (.ref F.c) ctv) ⟨us, []⟩ = pure (ps.zip us))
    (hbody : Room k (A.deeper (envF F f s.heap.objs.size)) → PE (ncx CX P w K mg base N F f A outer s H E) be te ∧ te (startF N vs ws) H Q) : codeAny (model P w) A (.call (.ref f) ⟨us, []⟩) (CR CX outer P w H s Q E) s := by
  have lim : s.heap.NoLimit := e0.mod.nolimit.keeps fun b o e => (e0.bs b o e).1
  refine PySem.W.kla_callFunE hr.depth hf rfl S.co S.gen rfl (codeO_at e0.hok hc) ?_
  rw [hb]
  refine wpAny_pure (wpAny_newFunctionEnv S.nocell (fun ⟨n, _⟩ hy => S.par n (List.of_mem_zip hy).1) (fun h₁ hns hsb => ⟨lim.fresh _ hsb, ?_⟩) S.kind)
  show codeAny _ _ (.expr be (envF F f s.heap.objs.size)) _ _
  have kp : ∀ b o, s.heap.get? b = some o → h₁.get? b = some o := fun b o e => hsb.extBut b o (Nat.ne_of_lt (Heap.lt_size e)) (Heap.get?_push_of_some _ e)
  obtain ⟨ht, hq⟩ := hbody (hr.deeper _)
  have I : L2.Inv (ncx CX P w K mg base N F f A outer s H E) [] (startF N vs ws) H { s with heap := h₁, toks := s.toks + (ps.zip us).length } := inv_startN S hr.hd e0 hl r C hns kp
  refine PySem.W.kla_codeExpr (wpAny_mono (ht.run [] _ (startF N vs ws) H Q I hq) (fun u s' hs => ?_) fun e s' hs => hs)
  obtain ⟨v, H', J, rv, q⟩ := hs
  exact ⟨v, H', J.os, J.bare, J.base, J.hok, rv, q⟩
end
end RT

namespace RT
open PySem PySem.Spec PyProof.Rows L2
open LamX (CodeO)
open NdefX
/-! ### a name that holds a function made by the caller -/
/-- in the context X the function at f, called with plain data, answers m -/
structure LamCall (X : Cx) (f c : Addr) (q : Str) (gs : List (V × D)) (m : List D → Option D) : Prop where
  at_ : ∀ (pins : List (Addr × Obj)) (σ : L2.St) (H : Hp) (s : Shared), L2.Inv X pins σ H s → PySem.W.FnAt f s.heap
  run : ∀ (pins : List (Addr × Obj)) (σ : L2.St) (H : Hp) (s : Shared) (O : Addr → Prop) (us : List Value) (vs : List V) (ds : List D) (d : D) (Q : VK) (T : List (Addr × Str)), L2.Inv X pins σ H s → TOK X.K T → LamX.Tabs T H → (∀ a, O a → MutC (H a)) → H c = some (CodeO c q) → (∀ p ∈ gs, Rp X.K O H p.1 p.2) → Vals vs us → RpA X.K O H vs ds → m ds = some d →
    (∀ v H', SameT T H H' → Rp X.K O H' v d → Q v H') → wpAny (model X.prog X.w) X.A (call (.ref f) us) (EP X pins σ Q) X.xe s
open Classical in
noncomputable def fCallF (i : Nat) (sl : FSl) (m : List D → Option D) (fa : FA) : FE := fun env x => match fa env x with
  | some (ds, x1) => if env[i]? = some sl then match m ds with
    | some d => some (d, x1)
    | none => none
    else none
  | none => none
section
variable {X : Cx} {e : Expr} {es : List Expr} {fa : FA} {pos : Pos}
theorem se_callF {i : Nat} {n : Str} {p : Pos} {f c : Addr} {q : Str} {gs : List (V × D)} {m : List D → Option D} (hL : LamCall X f c q gs m) (ha : SA X (e :: es) fa)
    (hN : X.N[i]? = some n := by rfl) (hv : Vis X.env.scope n := by first | exact Or.inl rfl | exact Or.inr (Or.inl rfl) | exact Or.inr (Or.inr rfl)) (hd : (n == ("__debug__" : Str)) = false := by decide) (hcd : (n == ("__classdict__" : Str)) = false := by decide)
    (he : starEach (e :: es) X.env = (false, eval e X.env) :: starEach es X.env := by rfl) (hpl : (backTo pos (starEach es X.env)).any (·.1) = false := by rfl) : SE X (.Call (.Name n p) (e :: es) [] pos) (fCallF i (.fn f c q gs) m fa) := by
  refine ⟨⟨fun pins s σ H Q I h => ?_⟩⟩
  obtain ⟨g, O, env, x, r, x', S, e0, k⟩ := h
  unfold fCallF at e0
  split at e0
  · rename_i ds x1 e1
    split at e0
    · rename_i e2
      split at e0
      · rename_i d e3
        cases e0
        obtain ⟨sv, e5, q5⟩ := S.at e2
        have e6 : σ[i]? = some (some (.ref f)) := by cases q5; exact e5
        refine wpAny_Call_Name_kw (thn ((pe_var (pos := p) hN hv hd hcd).run pins s σ H (fun v H1 => v = .ref f ∧ H1 = H) I ⟨.ref f, e6, rfl, rfl⟩) fun u s1 ⟨v, H1, I1, r1, ev, eH⟩ => ?_)
        subst ev
        subst eH
        obtain rfl : u = Value.ref f := r1
        refine PySem.W.callWith_F (first := []) (hL.at_ _ _ _ _ I1) (thn (ha.out.run pos pins s1 σ _ (fun vs H2 => FSt X.w X.K g O σ H2 env x' ∧ Le g H1 H2 ∧ RpA X.K O H2 vs ds) I1 ⟨g, O, env, x, ds, _, S, e1, fun vs H2 S2 l2 r2 => ⟨S2, l2, r2⟩⟩) fun us s2 ⟨vs, H2, I2, rv, S2, l2, r2⟩ => ⟨hL.at_ _ _ _ _ I2, ?_⟩) he hpl
        obtain ⟨sv2, e7, q7⟩ := S2.at e2
        have q8 : ¬ O c ∧ H2 c = some (CodeO c q) ∧ ∀ p ∈ gs, Rp X.K O H2 p.1 p.2 := by cases q7 with
          | fn n e r => exact ⟨n, e, r⟩
        refine hL.run pins σ H2 s2 O us vs ds r Q g.T I2 S2.tk S2.tb S2.dom q8.2.1 q8.2.2 rv r2 e3 fun v H3 sm r3 => ?_
        exact k v H3 (S2.sameT sm) (l2.trans (.ofT sm)) r3
      · cases e0
    · cases e0
  · cases e0
end
end RT

namespace RT
open PySem PySem.Spec PyProof.Rows L2
open LamX (CodeO)
open NdefX
/-- the names at the entry of a lambda: its parameters, what it captured -/
def startG (n : Nat) (ds cs : List D) : FEn := ds.map FSl.va ++ (cs.map FSl.va ++ List.replicate (n - ds.length - cs.length) FSl.no)
def mkG (n k : Nat) (cs : List D) (fb : FE) : List D → Option D := fun ds => if ds.length = k then match fb (startG n ds cs) row0 with
  | some (d, _) => some d
  | none => none
  else none
theorem Paired.app {α β : Type} {R : α → β → Prop} : ∀ {l l' : List α} {m m' : List β}, Paired R l m → Paired R l' m' → Paired R (l ++ l') (m ++ m')
  | _, _, _, _, .nil, h => h
  | _, _, _, _, .cons a b, h => .cons a (Paired.app b h)
theorem Paired.at2 {α β : Type} {R : α → β → Prop} : ∀ {l : List α} {m : List β}, Paired R l m → ∀ {i : Nat} {a : α} {b : β}, l[i]? = some a → m[i]? = some b → R a b
  | _, _, .nil, i, a, b, h, _ => by simp at h
  | _, _, .cons r rs, 0, a, b, h, h' => by simp at h h'; subst h; subst h'; exact r
  | _, _, .cons r rs, i + 1, a, b, h, h' => Paired.at2 rs (by simpa using h) (by simpa using h')
section
variable {ω : World} {K : PySem.W.Frag} {g : FG} {O : Addr → Prop} {H : Hp}
theorem sl_vas : ∀ {vs : List V} {ds : List D}, RpA K O H vs ds → Paired (SlOk K g O H) (vs.map some) (ds.map FSl.va)
  | _, _, .nil => .nil
  | _, _, .cons a b => .cons (.va a) (sl_vas b)
theorem sl_caps : ∀ {gs : List (V × D)}, (∀ p ∈ gs, Rp K O H p.1 p.2) → Paired (SlOk K g O H) (gs.map fun p => some p.1) ((gs.map (·.2)).map FSl.va)
  | [], _ => .nil
  | p :: gs, h => .cons (.va (h p List.mem_cons_self)) (sl_caps fun q hq => h q (List.mem_cons_of_mem _ hq))
theorem sl_nos : ∀ n : Nat, Paired (SlOk K g O H) (List.replicate n (none : Option V)) (List.replicate n FSl.no)
  | 0 => .nil
  | n + 1 => by rw [List.replicate_succ, List.replicate_succ]; exact .cons (.no _) (sl_nos n)
end
theorem startG_own {n : Nat} {ds cs : List D} {i : Nat} {d : OwD} : (startG n ds cs)[i]? ≠ some (.ow d) := by
  intro h
  have := List.mem_of_getElem? h
  unfold startG at this
  simp only [List.mem_append, List.mem_map, List.mem_replicate] at this
  rcases this with ⟨_, _, z⟩ | ⟨_, _, z⟩ | ⟨_, z⟩ <;> cases z
section
variable {X : Cx} {N ps fr : List Str} {F : NF} {f : Addr} {k : Nat} {params : Arguments} {be : Expr} {pm ctv : Value} {gs : List (V × D)} {fb : FE}
/-- a lambda that was made before the running frame began -/
theorem lamCall_of (S : NScope N ps fr F.scope) (hr : Room (k + 1) X.A) (hf : LamAt f F params be pm ctv X.s_0.heap) (hfn : X.H_0 f = none) (hfr : f ∉ X.fs) (hfe : f ∉ X.ex)
    (C : CellsAt F.cl fr (gs.map fun p => some p.1) X.s_0.heap X.H_0) (nf : ∀ y c, F.cl.lookup y = some c → c ∉ X.fs) (hx : ∀ y c, F.cl.lookup y = some c → c ∉ X.ex)
    (hb : ∀ us : List Value, us.length = ps.length → bindArgs (PySem.W.kla_fn "<lambda>" F.qual params be F.scope F.cl pm (.ref F.c) ctv) ⟨us, []⟩ = pure (ps.zip us))
    (hbody : ∀ (A : Around) (outer : List Env) (s : Shared) (H : Hp) (E : XK), Room k (A.deeper (envF F f s.heap.objs.size)) → SE (ncx C8.CX0 X.prog X.w X.K X.mg X.base N F f A outer s H E) be fb) :
    LamCall X f F.c F.qual gs (mkG N.length ps.length (gs.map (·.2)) fb) where
  at_ := fun pins σ H s I => ⟨_, _, _, _, I.base.keep f _ hf hfn hfr hfe⟩
  run := fun pins σ H s O us vs ds d Q T I tk tb dom hc hg rv ra hm q => by
    unfold mkG at hm
    split at hm
    · rename_i hl
      split at hm
      · rename_i d' x1 e1
        cases hm
        have hlv : vs.length = ps.length := by rw [ra.length, hl]
        have hf' : LamAt f F params be pm ctv s.heap := I.base.keep f _ hf hfn hfr hfe
        have rc := lam_run (CX := C8.CX0) (E := C8.E0) (N := N) (te := tE X.w X.K fb) (Q := Q) S hr I.env0 hf' hc (C.later nf hx I) rv hlv (hb us (by rw [← rv.length]; exact hlv)) (fun hr' => ⟨(hbody _ _ _ _ _ hr').out, ⟨⟨O, noT H, none, [], T, X.w⟩, O, startG N.length ds (gs.map (·.2)), row0, _, x1, ?_, e1, fun v H' S' l r => q v H' ⟨fun a o e t => l a o (fun z => by cases z) e t, S'.tb⟩ r⟩⟩)
        · refine wpAny_call (codeAny_mono rc fun r s' hq => ?_)
          cases r with
          | error e => exact (show False from hq).elim
          | ok fl =>
            cases fl with
            | ret u => exact I.after hq
            | next => exact False.elim hq
            | brk => exact False.elim hq
            | cont => exact False.elim hq
        · have pr : Paired (SlOk X.K ⟨O, noT H, none, [], T, X.w⟩ O H) (startF N vs (gs.map fun p => some p.1)) (startG N.length ds (gs.map (·.2))) := by
            unfold startF startG
            rw [← ra.length, List.length_map, List.length_map]
            exact Paired.app (sl_vas ra) (Paired.app (sl_caps hg) (sl_nos _))
          exact ⟨fun _ h => h, fun _ h => .inl h, dom, (fun a o _ e _ => (noT_some e).1), fun r e => (by cases e), Paired.length pr, fun i s e h1 h2 => Paired.at2 pr h1 h2, fun i j d d' a b ne h1 h2 => absurd h1 startG_own, fun p hp => (by cases hp), tb, tk, fun a o e => (noT_some e).2, rfl⟩
      · cases hm
    · cases hm
end
end RT

namespace RT
open PySem PySem.Spec PyProof.Rows L2
open LamX (CodeO TabB)
open NdefX
/-! ### a call that hands a lambda over: n(a, lambda ..: .., c) -/
def startS (n : Nat) (sl : List FSl) : FEn := sl ++ List.replicate (n - sl.length) FSl.no
def mkS (n : Nat) (sl : List FSl) (body : FS) : Option D := match body (startS n sl) row0 with
  | some (.rt d, _) => some d
  | some (.nx _, _) => some .none
  | _ => none
/-- a def that calls its second parameter -/
structure CalleeG (P : Program) (ω : World) (K : PySem.W.Frag) (mg : Str → Option Value) (base : Heap) (k : Nat) (n : Str) (N ps : List Str) (G : (List D → Option D) → D → D → Option D) : Prop where
  ex : ∃ (g : Addr) (st : Stmt) (fd : FuncData), Fun K n n st g fd ∧ FnScope N ps (defScope st) ∧ Binds K fd ps [] ∧ mg n = some (.ref g) ∧ ps.length = 3 ∧
    ∀ (cdv : Value) (A : Around) (outer : List Env) (s : Shared) (H : Hp), Room k (A.deeper (envOfC n (defScope st) s.heap.objs.size g cdv)) → ∀ (f c : Addr) (q : Str) (gs : List (V × D)) (m : List D → Option D),
      LamCall (cxOf CX0 P ω K mg base N n (defScope st) g cdv A outer s H E0).nox f c q gs m →
      ∃ body : FS, SSs (cxOf CX0 P ω K mg base N n (defScope st) g cdv A outer s H E0).nox (defBody st) body ∧ ∀ a b d, G m a b = some d → mkS N.length [.va a, .fn f c q gs, .va b] body = some d
theorem CalleeG.mono {P : Program} {ω : World} {K : PySem.W.Frag} {mg : Str → Option Value} {base : Heap} {k j : Nat} {n : Str} {N ps : List Str} {G : (List D → Option D) → D → D → Option D} (c : CalleeG P ω K mg base k n N ps G) (h : k ≤ j) : CalleeG P ω K mg base j n N ps G := by
  obtain ⟨g, st, fd, a, b, c, d, e, z⟩ := c.ex
  exact ⟨g, st, fd, a, b, c, d, e, fun cdv A outer s H hr => z cdv A outer s H (hr.mono h)⟩
def capsD (env : FEn) : List Nat → Option (List D)
  | [] => some []
  | j :: js => match env[j]?, capsD env js with
    | some (.va d), some ds => some (d :: ds)
    | _, _ => none
def fLam (G : (List D → Option D) → D → D → Option D) (fa fc : FE) (js : List Nat) (n k : Nat) (fb : FE) : FE := fun env x => match fa env x with
  | some (a, x1) => match capsD env js with
    | some cs => match fc env x1 with
      | some (c, x2) => match G (mkG n k cs fb) a c with
        | some d => some (d, x2)
        | none => none
      | none => none
    | none => none
  | none => none
section
variable {ω : World} {K : PySem.W.Frag} {g : FG} {O : Addr → Prop} {σ : L2.St} {H : Hp} {env : FEn} {x : FRow}
theorem caps_at (S : FSt ω K g O σ H env x) : ∀ {js : List Nat} {cs : List D}, capsD env js = some cs → ∃ gs : List (V × D), gs.map (fun p => some p.1) = js.map (slotAt σ) ∧ gs.map (·.2) = cs ∧ ∀ p ∈ gs, Rp K O H p.1 p.2
  | [], cs, h => by cases h; exact ⟨[], rfl, rfl, fun _ h => nomatch h⟩
  | j :: js, cs, h => by
    unfold capsD at h
    split at h
    · rename_i d ds e1 e2
      cases h
      obtain ⟨gs, h1, h2, h3⟩ := caps_at S e2
      obtain ⟨s, q1, q2⟩ := S.at e1
      cases q2 with
      | @va v _ r =>
        refine ⟨(v, d) :: gs, by rw [List.map_cons, List.map_cons, h1, slotAt_of q1], by rw [List.map_cons, h2], fun p hp => ?_⟩
        rcases List.mem_cons.mp hp with rfl | hp
        · exact r
        · exact h3 p hp
    · cases h
end
theorem startS_own {n : Nat} {a b : D} {f c : Addr} {q : Str} {gs : List (V × D)} {i : Nat} {d : OwD} : (startS n [.va a, .fn f c q gs, .va b])[i]? ≠ some (.ow d) := by
  intro h
  have := List.mem_of_getElem? h
  unfold startS at this
  simp only [List.mem_append, List.mem_cons, List.mem_replicate, List.not_mem_nil, or_false] at this
  rcases this with (z | z | z) | ⟨_, z⟩ <;> cases z
section
variable {X : Cx} {pos : Pos}
theorem se_lam {k : Nat} {n x : Str} {N ps : List Str} {G : (List D → Option D) → D → D → Option D} {p lpos : Pos} {ea ec be : Expr} {fa fc fb : FE} {params : Arguments} {scope : Scope} {Nl psl fr : List Str} {js : List Nat} {c P : Addr}
    (C : CalleeG X.prog X.w X.K X.mg X.base (k + 1) n N ps G) (hr : Room (k + 2) X.A) (hg : Gl X n) (ha : SE X ea fa) (hc : SE X ec fc)
    (TB : TabB X.base X.mg c P) (hcode : X.env.code = .ref c) (ht : PySem.W.tabIn X.K x = some (c, P)) (hx : x ∈ makers) (hq : X.env.qual ++ "<lambda>" = lamq x)
    (Sl : NScope Nl psl fr scope) (hdef : defaultsOf params X.env = ([], [])) (hnd : ndefB X.env.scope scope fr = true) (hjs : js.map (fun j => X.N[j]?) = fr.map some)
    (hfn : ∀ y, X.fn y = true) (hst : X.stack = X.env :: X.outer ∧ X.env.frame = some X.env.locals)
    (hb : ∀ (q : Str) (cl : List (Str × Addr)) (pm cv ctv : Value) (us : List Value), us.length = psl.length → bindArgs (PySem.W.kla_fn "<lambda>" q params be scope cl pm cv ctv) ⟨us, []⟩ = pure (psl.zip us))
    (hbody : ∀ (q : Str) (cl : List (Str × Addr)) (c' f : Addr) (A : Around) (outer : List Env) (s : Shared) (H : Hp) (E : XK), Room k (A.deeper (envF ⟨"<lambda>", q, params, [], scope, cl, c'⟩ f s.heap.objs.size)) →
      SE (ncx C8.CX0 X.prog X.w X.K X.mg X.base Nl ⟨"<lambda>", q, params, [], scope, cl, c'⟩ f A outer s H E) be fb)
    (hdb : (n == ("__debug__" : Str)) = false := by decide)
    (he : starEach [ea, .Lambda params be scope lpos, ec] X.env = (false, eval ea X.env) :: starEach [.Lambda params be scope lpos, ec] X.env := by rfl)
    (he2 : starEach [.Lambda params be scope lpos, ec] X.env = (false, eval (.Lambda params be scope lpos) X.env) :: starEach [ec] X.env := by rfl)
    (he3 : starEach [ec] X.env = (false, eval ec X.env) :: starEach [] X.env := by rfl)
    (hpl : (backTo pos (starEach [.Lambda params be scope lpos, ec] X.env)).any (·.1) = false := by rfl) :
    SE X (.Call (.Name n p) [ea, .Lambda params be scope lpos, ec] [] pos) (fLam G fa fc js Nl.length psl.length fb) := by
  obtain ⟨gA, st, fd, F, Sg, hbi, hm, hp3, hG⟩ := C.ex
  have hk := F.kp
  obtain ⟨oc, od, kV, doc, pm0, an, cdv, ct, osl, rfl, lk, hcd⟩ := F.ex
  refine ⟨⟨fun pins s σ H Q I h => ?_⟩⟩
  obtain ⟨g, O, env, x0, r, x', S, e0, kk⟩ := h
  unfold fLam at e0
  split at e0
  · rename_i da x1 e1
    split at e0
    · rename_i cs e2
      split at e0
      · rename_i dc x2 e3
        split at e0
        · rename_i d e4
          cases e0
          refine wpAny_Call_Name_kw (ld_glob I hg hm ?_ hdb)
          refine PySem.W.callWith_K (h₀ := X.base) I.ok.mod.kin hk ?_ he hpl
          rw [he, he2]
          show wpAny _ _ (spliced ((false, eval ea X.env) :: (false, eval (.Lambda params be scope lpos) X.env) :: backTo pos (starEach [ec] X.env))) _ _ s
          refine Calls.spliced_cons (thn (ha.out.run pins s σ H (fun v H1 => FSt X.w X.K g O σ H1 env x1 ∧ Le g H H1 ∧ Rp X.K O H1 v da) I ⟨g, O, env, x0, da, _, S, e1, fun v H1 S1 l1 r1 => ⟨S1, l1, r1⟩⟩) fun u1 s1 ⟨v1, H1, I1, rv1, S1, l1, r1⟩ => ?_)
          have hfree := ndef_free hnd
          have hfr := ndef_fr hnd
          have hfree' : ∀ y ∈ scope.names, y.2 = .free → ∃ c, X.env.cells.lookup y.1 = some c := fun y hy e => (hfree y hy e).elim (fun z => I1.ok.has _ (.inl z)) fun z => I1.ok.has _ (.inr z)
          obtain ⟨tm, tu⟩ := S1.tk x hx c P ht
          refine Calls.spliced_cons (LamX.lam_make2 (T := g.T) I1 TB hcode (by rw [hq]; exact tm) (fun p hp e => by rw [hq]; exact tu p hp e) S1.tb hdef hfree' fun f c' pm ctv H2 s2 I2 eN T2 hf hfn0 hfr0 hco => ?_)
          have S2 : FSt X.w X.K g O σ H2 env x1 := S1.step (.ofN eN) T2 fun r hr' => (S1.row r hr').2.2.ext eN
          have l2 : Le g H1 H2 := .ofN eN
          have hstk : frs X.stack = X.env.locals :: X.fs := by rw [hst.1]; unfold frs; rw [List.filterMap_cons, hst.2] <;> rfl
          have hfl : f ≠ X.env.locals := fun z => hfr0 (by rw [hstk, z]; exact List.mem_cons_self)
          have hff : f ∉ X.fs := fun z => hfr0 (by rw [hstk]; exact List.mem_cons_of_mem _ z)
          have I2' : L2.Inv X (pins ++ [(f, PySem.W.kla_obj "<lambda>" (X.env.qual ++ "<lambda>") params be scope (cloFrom X.env.cells scope.names []) pm c' ctv)]) σ H2 s2 := I2.pins_of fun q hq' => (List.mem_append.mp hq').elim (fun z => I2.pin q (List.mem_append_right _ z)) fun z => by
            rw [List.mem_singleton] at z
            subst z
            exact ⟨hf, hfn0, hfl, hff, fun v z => by cases z⟩
          refine thn ((sa_cons hc sa_nil he3).out.run pos _ s2 σ H2 (fun vs H3 => FSt X.w X.K g O σ H3 env x' ∧ Le g H2 H3 ∧ RpA X.K O H3 vs [dc]) I2' ⟨g, O, env, x1, [dc], _, S2, by unfold aCons; rw [e3]; rfl, fun vs H3 S3 l3 r3 => ⟨S3, l3, r3⟩⟩) fun us s3 ⟨vs, H3, I3', rv3, S3, l3, r3⟩ => ?_
          have I3 : L2.Inv X pins σ H3 s3 := I3'.unpinned
          obtain ⟨hf3, hfn3, _⟩ := I3'.pin (f, _) (List.mem_append_right _ (List.mem_append_right _ (List.mem_singleton.mpr rfl)))
          cases r3 with
          | @cons v3 _ _ _ r3 rn =>
          cases rn
          cases rv3 with
          | @cons _ u3 _ _ rv3 rn =>
          cases rn
          have hRc : g.R ≠ some c' := fun z => by
            obtain ⟨a0, q1, _⟩ := (S2.row c' z).2.2
            rw [q1] at hco
            unfold CodeO at hco
            cases hco
          have hco3 : H3 c' = some (CodeO c' (X.env.qual ++ "<lambda>")) := l3 c' _ hRc hco rfl
          have hOc : ¬ O c' := fun z => by
            have d := S3.dom c' z
            rw [hco3] at d
            exact d.nc ⟨_, _, rfl⟩
          obtain ⟨gs, g1, g2, g3⟩ := caps_at S3 e2
          have cab : ∀ y a, (cloFrom X.env.cells scope.names []).lookup y = some a → a ∉ frs X.stack := fun y a e z => by
            have ec := clo_cm hfree' e
            rw [hstk] at z
            rcases List.mem_cons.mp z with z | z
            · exact I3.cne y a ec z
            · obtain ⟨_, o, ho, _⟩ := I3.ok.funs.mem z
              exact absurd (Nat.lt_of_lt_of_le (Heap.lt_size ho) (I3.ok.cab y a (hfn y) ec)) (Nat.lt_irrefl _)
          refine ⟨I3.kIn, ?_⟩
          have rc : codeAny (model X.prog X.w) X.A (.call (.ref gA) ⟨[u1, .ref f, u3], []⟩) (CR CX0 X.stack X.prog X.w H3 s3 Q E0) s3 := by
            refine LamX.run_ofS (N := N) (ps := ps) (us := [u1, .ref f, u3]) (vs := [v1, .ref f, v3]) lk hcd Sg hr I3.env0 (hbi s3 [u1, .ref f, u3] I3.kIn (by rw [hp3]; rfl)) (.cons rv1 (.cons rfl (.cons rv3 .nil))) (by rw [hp3]; rfl) fun hr' => ?_
            have LC : LamCall (cxOf CX0 X.prog X.w X.K X.mg X.base N n (defScope st) gA cdv X.A X.stack s3 H3 E0).nox f c' (X.env.qual ++ "<lambda>") gs (mkG Nl.length psl.length cs fb) := by
              have := lamCall_of (X := (cxOf CX0 X.prog X.w X.K X.mg X.base N n (defScope st) gA cdv X.A X.stack s3 H3 E0).nox) (F := ⟨"<lambda>", X.env.qual ++ "<lambda>", params, [], scope, cloFrom X.env.cells scope.names [], c'⟩) (f := f) (k := k) (N := Nl) (ps := psl) (fr := fr) (params := params) (be := be) (pm := pm) (ctv := ctv) (gs := gs) (fb := fb)
                Sl hr' hf3 hfn3 hfr0 (fun z => nomatch z) (by rw [g1]; exact cells_of I3 (Caps.made I3.ok hfree hfr hjs)) cab (fun _ _ _ z => nomatch z) (fun us hl => hb _ _ _ _ _ us hl) (fun A outer s H E hr2 => hbody _ _ _ _ A outer s H E hr2)
              rw [g2] at this
              exact this
            obtain ⟨body, hss, hmk⟩ := hG cdv X.A X.stack s3 H3 hr' f c' (X.env.qual ++ "<lambda>") gs _ LC
            have hmk := hmk da dc r e4
            refine ⟨tS X.w X.K body, hss.out.nox, ?_⟩
            have S0 : FSt X.w X.K ⟨O, noT H3, none, [], g.T, X.w⟩ O (L2.start N [v1, .ref f, v3]) H3 (startS N.length [.va da, .fn f c' (X.env.qual ++ "<lambda>") gs, .va dc]) row0 := by
              have pr : Paired (SlOk X.K ⟨O, noT H3, none, [], g.T, X.w⟩ O H3) (L2.start N [v1, .ref f, v3]) (startS N.length [.va da, .fn f c' (X.env.qual ++ "<lambda>") gs, .va dc]) := by
                unfold L2.start startS
                exact .cons (.va (r1.move ((S1.keep l2)) .refl |>.move (S2.keep l3) .refl)) (.cons (.fn hOc hco3 g3) (.cons (.va r3) (sl_nos _)))
              exact ⟨fun _ h => h, fun _ h => .inl h, S3.dom, (fun a o _ e _ => (noT_some e).1), fun r e => (by cases e), Paired.length pr, fun i s e h1 h2 => Paired.at2 pr h1 h2, fun i j d d' a b ne h1 h2 => absurd h1 startS_own, fun p hp => (by cases hp), S3.tb, S3.tk, fun a o e => (noT_some e).2, rfl⟩
            have fin : ∀ {O' : Addr → Prop} {σ' : L2.St} {H' : Hp} {v : V} {d : D} {env' : FEn} {x'' : FRow}, FSt X.w X.K ⟨O, noT H3, none, [], g.T, X.w⟩ O' σ' H' env' x'' → d = r → Rp X.K O' H' v d → Q v H' := fun {O' σ' H' v d env' x''} S' ed rp => by
              subst ed
              have sm : SameT g.T H3 H' := ⟨fun a o e t => S'.le a o (fun z => by cases z) (noT_of e t) t, S'.tb⟩
              exact kk v H' (S3.sameT sm) ((l1.trans (l2.trans l3)).trans (.ofT sm)) (rp.move (fun _ _ _ e _ => e) fun a z => .inl (S'.sub a z))
            unfold mkS at hmk
            split at hmk
            · rename_i d' x'' eb
              exact ⟨_, O, _, row0, _, _, S0, eb, fun O' σ' H' v env' S' rp => fin S' (Option.some.inj hmk) rp⟩
            · rename_i env' x'' eb
              exact ⟨_, O, _, row0, _, _, S0, eb, fun O' σ' H' S' => fin S' (Option.some.inj hmk) .non⟩
            · cases hmk
          refine wpAny_call (codeAny_mono rc fun r s' hq => ?_)
          cases r with
          | error e => exact (show False from hq).elim
          | ok fl =>
            cases fl with
            | ret u => exact I3.after hq
            | next => exact False.elim hq
            | brk => exact False.elim hq
            | cont => exact False.elim hq
        · cases e0
      · cases e0
    · cases e0
  · cases e0
end
end RT

namespace RT
open PySem PySem.Spec PyProof.Rows L2
/-! ### what grows from a start on, as a function -/
def ixF (q : NestedKey) : List D → Nat → Option Nat
  | [], _ => none
  | d :: ds, i => if nk d = some q then some i else ixF q ds (i + 1)
def plF : List D → Nat → List (D × D)
  | [], _ => []
  | d :: ds, i => (d, .int (i : Nat)) :: plF ds (i + 1)
theorem valA_plF (q : NestedKey) : ∀ (ds : List D) (i : Nat), valA (plF ds i) q = (ixF q ds i).map fun j => D.int (j : Nat)
  | [], i => rfl
  | d :: ds, i => by
    unfold valA plF ixF
    by_cases h : nk d = some q
    · rw [if_pos h, List.find?_cons_of_pos (by simpa using h)]; rfl
    · rw [if_neg h, List.find?_cons_of_neg (by simpa using h)]
      exact valA_plF q ds (i + 1)
theorem plF_len : ∀ (ds : List D) (i : Nat), (plF ds i).length = ds.length
  | [], _ => rfl
  | d :: ds, i => by unfold plF; rw [List.length_cons, List.length_cons, plF_len ds]
theorem plF_app (t : D) : ∀ (ds : List D) (i : Nat), plF (ds ++ [t]) i = plF ds i ++ [(t, .int ((i + ds.length : Nat) : Int))]
  | [], i => rfl
  | d :: ds, i => by
    rw [List.cons_append, plF, plF_app t ds (i + 1), plF, List.cons_append, List.length_cons]
    rw [show i + 1 + ds.length = i + (ds.length + 1) by omega]
theorem plF_tup : ∀ (ds : List D) (i : Nat), (∀ d ∈ ds, isTupD d = true) → ∀ p ∈ plF ds i, isTupD p.1 = true
  | [], _, _ => fun p hp => nomatch hp
  | d :: ds, i, h => fun p hp => by
    unfold plF at hp
    rcases List.mem_cons.mp hp with rfl | hp
    · exact h d List.mem_cons_self
    · exact plF_tup ds (i + 1) (fun e he => h e (List.mem_cons_of_mem _ he)) p hp
/-- the key of a thing, a tuple -/
def keyT (d : D) : Option NestedKey := match nk d with
  | some q => if q.depth ≤ 8 ∧ isTupD d = true then some q else none
  | none => none
theorem keyT_ok {d : D} {q : NestedKey} (h : keyT d = some q) : nk d = some q ∧ q.depth ≤ 8 ∧ isTupD d = true := by
  unfold keyT at h
  split at h
  · rename_i q' e
    split at h
    · rename_i c
      cases h
      exact ⟨e, c⟩
    · cases h
  · cases h
def grAdd (most : Option Nat) : List D → List (D × D) → Option (List D)
  | th, [] => some th
  | th, (_, t) :: r => match keyT t with
    | none => none
    | some q => match ixF q th 0 with
      | some _ => grAdd most th r
      | none => if most = some th.length then none else if th.length < 100000 then grAdd most (th ++ [t]) r else none
def grRow (th : List D) : List (D × D) → Option (List D)
  | [] => some []
  | (mk, t) :: r => match keyT t with
    | none => none
    | some q => match ixF q th 0 with
      | some j => match grRow th r with
        | some rs => some (.tuple [mk, .int (j : Nat)] :: rs)
        | none => none
      | none => none
def stepsD : List D → Option (List (D × D))
  | [] => some []
  | .tuple [mk, t] :: r => match stepsD r with
    | some rs => some ((mk, t) :: rs)
    | none => none
  | _ => none
def seqD : D → Option (List D)
  | .list ds => some ds
  | .tuple ds => some ds
  | _ => none
def grLoop (m : List D → Option D) (most : Option Nat) : Nat → List D → List D → Option (List D × List D)
  | 0, _, _ => none
  | n + 1, th, wb => if wb.length < th.length then
      match th[wb.length]? with
      | some t => match m [t] with
        | some s => match seqD s with
          | some sd => match stepsD sd with
            | some st => match grAdd most th st with
              | some th' => match grRow th' st with
                | some row => if row.length < 100000 ∧ wb.length < 100000 then grLoop m most n th' (wb ++ [.list row]) else none
                | none => none
              | none => none
            | none => none
          | none => none
        | none => none
      | none => none
    else some (th, wb)
def mostD : D → Option (Option Nat)
  | .none => some none
  | .int (.ofNat n) => some (some n)
  | _ => none
def gGrown (m : List D → Option D) (a b : D) : Option D := match keyT a, mostD b with
  | some _, some most => match grLoop m most 4000 [a] [] with
    | some (th, wb) => some (.tuple [.list th, .list wb])
    | none => none
  | _, _ => none
noncomputable def bGrown (sl : FSl) (m : List D → Option D) : FS :=
    sSeq (sSet 3 (xLst (aCons (fVar 0) aNil)))
    (sSeq (sSet 4 (xDict1A (fVar 0) (fC (.int 0))))
    (sSeq (sSet 5 (xLst aNil))
    (sSeq (whL (fTst (fBin gLtX (fCall gLen (aCons (fBor 5) aNil)) (fCall gLen (aCons (fBor 3) aNil)))) (sSeq (sSet 6 (xVal (fCallF 1 sl m (aCons (fBin gAt (fBor 3) (fCall gLen (aCons (fBor 5) aNil))) aNil))))
    (sSeq (sFor (fSeq (fVar 6)) (gtTup 2 (gtCons (gtName 7) (gtCons (gtName 8) gtNil))) (sIf (tNotA 4 (fVar 8)) (sSeq (sIf (tAndF (fTst (fBin gNotN (fBor 2) (fC .none))) (fTst (fBin gEq (fCall gLen (aCons (fBor 3) aNil)) (fBor 2)))) sNo sNil)
    (sSeq (sPutA 4 (fVar 8) (fCall gLen (aCons (fBor 3) aNil)))
    (sApp 3 (fVar 8)))) sNil))
    (sApp 5 (fOfX (xLc (fSeq (fVar 6)) (gtTup 2 (gtCons (gtName 9) (gtCons (gtName 8) gtNil))) tYesF (fTup (aCons (fVar 9) (aCons (fAtA 4 (fVar 8)) aNil))) [9, 8]))))) 4000)
    (sFrz 5 (sFrz 3 (sRet (fTup (aCons (fVar 3) (aCons (fVar 5) aNil)))))))))
abbrev eG (a : D) (sl : FSl) (b : D) (th wb : List D) (e6 e7 e8 : FSl) : FEn := [.va a, sl, .va b, .ow (.lst th), .da (plF th 0), .ow (.lst wb), e6, e7, e8, .no]
section
variable {a b : D} {sl e6 e7 e8 : FSl} {th wb : List D} {x : FRow} {most : Option Nat}
theorem len3 : fCall gLen (aCons (fBor 3) aNil) (eG a sl b th wb e6 e7 e8) x = some (.int th.length, x) := rfl
theorem len5 : fCall gLen (aCons (fBor 5) aNil) (eG a sl b th wb e6 e7 e8) x = some (.int wb.length, x) := rfl
theorem full_no (hb : mostD b = some most) (hm : most ≠ some th.length) : tAndF (fTst (fBin gNotN (fBor 2) (fC .none))) (fTst (fBin gEq (fCall gLen (aCons (fBor 3) aNil)) (fBor 2))) (eG a sl b th wb e6 e7 e8) x = some (false, x) := by
  have g2 : fBor 2 (eG a sl b th wb e6 e7 e8) x = some (b, x) := rfl
  unfold mostD at hb
  split at hb
  · rfl
  · rename_i n
    cases hb
    have hne : (th.length : Int) ≠ (n : Nat) := fun z => hm (by rw [show n = th.length by omega])
    have h1 : fTst (fBin gNotN (fBor 2) (fC .none)) (eG a sl (.int (.ofNat n)) th wb e6 e7 e8) x = some (true, x) := rfl
    have h2 : fBin gEq (fCall gLen (aCons (fBor 3) aNil)) (fBor 2) (eG a sl (.int (.ofNat n)) th wb e6 e7 e8) x = some (.bool false, x) := by
      have q : gEq (.int th.length) (.int (Int.ofNat n)) = some (.bool false) := by
        have s1 : ∀ i : Int, shapedD (.int i) = true := fun i => rfl
        unfold gEq
        rw [s1, s1]
        simp only [Bool.and_self, if_true, eqD, D.py, PyData.eqv]
        rw [show ((th.length : Int) == Int.ofNat n) = false from by simpa using hne]
      unfold fBin
      rw [len3]
      simp only [g2, q]
    unfold tAndF
    rw [h1]
    simp only [fTst, h2]
  · cases hb
theorem gr_one (h4 : isDa sl = false) (h6 : isDa e6 = false) {mk t : D} (hb : mostD b = some most) {q : NestedKey} (hk : keyT t = some q) (ht : ∀ d ∈ th, isTupD d = true) (hl : th.length ≤ 100000) (hr : ixF q th 0 = none → most ≠ some th.length ∧ th.length < 100000) :
    sIf (tNotA 4 (fVar 8)) (sSeq (sIf (tAndF (fTst (fBin gNotN (fBor 2) (fC .none))) (fTst (fBin gEq (fCall gLen (aCons (fBor 3) aNil)) (fBor 2)))) sNo sNil) (sSeq (sPutA 4 (fVar 8) (fCall gLen (aCons (fBor 3) aNil))) (sApp 3 (fVar 8)))) sNil (eG a sl b th wb e6 (.va mk) (.va t)) x =
      some (.nx (eG a sl b (match ixF q th 0 with | some _ => th | none => th ++ [t]) wb e6 (.va mk) (.va t)), x) := by
  obtain ⟨k1, k2, k3⟩ := keyT_ok hk
  have g8 : fVar 8 (eG a sl b th wb e6 (.va mk) (.va t)) x = some (t, x) := rfl
  have g4 : (eG a sl b th wb e6 (.va mk) (.va t))[4]? = some (.da (plF th 0)) := rfl
  have c : q.depth ≤ 8 ∧ (∀ p ∈ plF th 0, isTupD p.1 = isTupD t) ∧ isTupD t = true := ⟨k2, fun p hp => by rw [k3]; exact plF_tup th 0 ht p hp, k3⟩
  have nt : tNotA 4 (fVar 8) (eG a sl b th wb e6 (.va mk) (.va t)) x = some (!(valA (plF th 0) q).isSome, x) := by
    unfold tNotA
    rw [g8]
    simp only [g4, k1]
    rw [if_pos c]
  rw [valA_plF] at nt
  cases hi : ixF q th 0 with
  | some j =>
    rw [hi] at nt
    have nt : tNotA 4 (fVar 8) (eG a sl b th wb e6 (.va mk) (.va t)) x = some (false, x) := nt
    unfold sIf
    rw [nt]
    rfl
  | none =>
    rw [hi] at nt
    have nt : tNotA 4 (fVar 8) (eG a sl b th wb e6 (.va mk) (.va t)) x = some (true, x) := nt
    obtain ⟨r1, r2⟩ := hr hi
    have only : ∀ s ∈ (eG a sl b th wb e6 (.va mk) (.va t)).set 4 .no, isDa s = false := fun s hs => by
      simp only [eG, List.set, List.mem_cons, List.not_mem_nil, or_false] at hs
      rcases hs with rfl | rfl | rfl | rfl | rfl | rfl | rfl | rfl | rfl | rfl <;> first | rfl | assumption
    have v0 : valA (plF th 0) q = none := by rw [valA_plF, hi]; rfl
    have c2 : q.depth ≤ 8 ∧ (∀ p ∈ plF th 0, isTupD p.1 = isTupD t) ∧ isTupD t = true ∧ (plF th 0).length < maxLen ∧ (∀ s ∈ (eG a sl b th wb e6 (.va mk) (.va t)).set 4 .no, isDa s = false) :=
      ⟨c.1, c.2.1, c.2.2, by rw [plF_len]; unfold maxLen; omega, only⟩
    have pu : sPutA 4 (fVar 8) (fCall gLen (aCons (fBor 3) aNil)) (eG a sl b th wb e6 (.va mk) (.va t)) x = some (.nx [.va a, sl, .va b, .ow (.lst th), .da (plF (th ++ [t]) 0), .ow (.lst wb), e6, .va mk, .va t, .no], x) := by
      unfold sPutA
      rw [len3]
      simp only [g8, g4, k1]
      rw [if_pos c2]
      unfold putAD
      rw [v0, plF_app, Nat.zero_add]
      rfl
    have ap : sApp 3 (fVar 8) [.va a, sl, .va b, .ow (.lst th), .da (plF (th ++ [t]) 0), .ow (.lst wb), e6, .va mk, .va t, .no] x = some (.nx (eG a sl b (th ++ [t]) wb e6 (.va mk) (.va t)), x) := by
      have g8' : fVar 8 [.va a, sl, .va b, .ow (.lst th), .da (plF (th ++ [t]) 0), .ow (.lst wb), e6, .va mk, .va t, .no] x = some (t, x) := rfl
      have g3 : ([.va a, sl, .va b, .ow (.lst th), .da (plF (th ++ [t]) 0), .ow (.lst wb), e6, .va mk, .va t, .no] : FEn)[3]? = some (.ow (.lst th)) := rfl
      unfold sApp
      rw [g8']
      simp only [g3]
      rw [if_pos (show th.length < maxLen by unfold maxLen; omega)]
      rfl
    have fn := full_no (a := a) (sl := sl) (wb := wb) (e6 := e6) (e7 := .va mk) (e8 := .va t) (x := x) hb r1
    unfold sIf
    rw [nt]
    simp only [sSeq, fn, sNil, pu, ap]
theorem gr_for (h4 : isDa sl = false) (h6 : isDa e6 = false) (hb : mostD b = some most) : ∀ (st : List (D × D)) (th : List D) (e7 e8 : FSl) (th' : List D), isDa e7 = false → isDa e8 = false → (∀ d ∈ th, isTupD d = true) → th.length ≤ 100000 → grAdd most th st = some th' →
    ∃ e7' e8', isDa e7' = false ∧ isDa e8' = false ∧ (∀ d ∈ th', isTupD d = true) ∧ th'.length ≤ 100000 ∧ forL (gtTup 2 (gtCons (gtName 7) (gtCons (gtName 8) gtNil))) (sIf (tNotA 4 (fVar 8)) (sSeq (sIf (tAndF (fTst (fBin gNotN (fBor 2) (fC .none))) (fTst (fBin gEq (fCall gLen (aCons (fBor 3) aNil)) (fBor 2)))) sNo sNil) (sSeq (sPutA 4 (fVar 8) (fCall gLen (aCons (fBor 3) aNil))) (sApp 3 (fVar 8)))) sNil)
      (st.map fun p => D.tuple [p.1, p.2]) (eG a sl b th wb e6 e7 e8) x = some (.nx (eG a sl b th' wb e6 e7' e8'), x)
  | [], th, e7, e8, th', h7, h8, ht, hl, h => by cases h; exact ⟨e7, e8, h7, h8, ht, hl, rfl⟩
  | (mk, t) :: r, th, e7, e8, th', h7, h8, ht, hl, h => by
    unfold grAdd at h
    cases hk : keyT t with
    | none => rw [hk] at h; cases h
    | some q =>
      rw [hk] at h
      have tt := (keyT_ok hk).2.2
      have go : ∀ th2 : List D, th2 = (match ixF q th 0 with | some _ => th | none => th ++ [t]) → (ixF q th 0 = none → most ≠ some th.length ∧ th.length < 100000) → grAdd most th2 r = some th' → (∀ d ∈ th2, isTupD d = true) → th2.length ≤ 100000 →
          ∃ e7' e8', isDa e7' = false ∧ isDa e8' = false ∧ (∀ d ∈ th', isTupD d = true) ∧ th'.length ≤ 100000 ∧ forL (gtTup 2 (gtCons (gtName 7) (gtCons (gtName 8) gtNil))) (sIf (tNotA 4 (fVar 8)) (sSeq (sIf (tAndF (fTst (fBin gNotN (fBor 2) (fC .none))) (fTst (fBin gEq (fCall gLen (aCons (fBor 3) aNil)) (fBor 2)))) sNo sNil) (sSeq (sPutA 4 (fVar 8) (fCall gLen (aCons (fBor 3) aNil))) (sApp 3 (fVar 8)))) sNil)
            (((mk, t) :: r).map fun p => D.tuple [p.1, p.2]) (eG a sl b th wb e6 e7 e8) x = some (.nx (eG a sl b th' wb e6 e7' e8'), x) := fun th2 e2 hr g ht2 hl2 => by
        obtain ⟨e7', e8', q1, q2, q3, q4, q5⟩ := gr_for h4 h6 hb r th2 (.va mk) (.va t) th' rfl rfl ht2 hl2 g
        refine ⟨e7', e8', q1, q2, q3, q4, ?_⟩
        have one := gr_one (a := a) (wb := wb) (x := x) h4 h6 (mk := mk) hb hk ht hl hr
        rw [← e2] at one
        have e3 : gtTup 2 (gtCons (gtName 7) (gtCons (gtName 8) gtNil)) (.tuple [mk, t]) (eG a sl b th wb e6 e7 e8) = some (eG a sl b th wb e6 (.va mk) (.va t)) := rfl
        rw [List.map_cons, forL, e3]
        simp only [one]
        exact q5
      cases hi : ixF q th 0 with
      | some j =>
        simp only [hi] at h
        exact go th (by rw [hi]) (fun z => by rw [hi] at z; cases z) h ht hl
      | none =>
        simp only [hi] at h
        split at h
        · cases h
        · rename_i r1
          split at h
          · rename_i r2
            refine go (th ++ [t]) (by rw [hi]) (fun _ => ⟨r1, r2⟩) h (fun d hd => ?_) (by rw [List.length_append, List.length_singleton]; omega)
            rcases List.mem_append.mp hd with hd | hd
            · exact ht d hd
            · rw [List.mem_singleton] at hd; subst hd; exact tt
          · cases h
theorem gr_comp (ht : ∀ d ∈ th, isTupD d = true) : ∀ (st : List (D × D)) (rs : List D), grRow th st = some rs →
    compL (gtTup 2 (gtCons (gtName 9) (gtCons (gtName 8) gtNil))) tYesF (fTup (aCons (fVar 9) (aCons (fAtA 4 (fVar 8)) aNil))) [.va a, sl, .va b, .ow (.lst th), .da (plF th 0), .ow (.lst wb), e6, e7, .no, .no] (st.map fun p => D.tuple [p.1, p.2]) x = some (rs, x)
  | [], rs, h => by cases h; rfl
  | (mk, t) :: r, rs, h => by
    unfold grRow at h
    cases hk : keyT t with
    | none => rw [hk] at h; cases h
    | some q =>
      rw [hk] at h
      obtain ⟨k1, k2, k3⟩ := keyT_ok hk
      cases hi : ixF q th 0 with
      | none => simp only [hi] at h; cases h
      | some j =>
        simp only [hi] at h
        cases hr : grRow th r with
        | none => simp only [hr] at h; cases h
        | some rs' =>
          simp only [hr] at h
          cases h
          have ih := gr_comp ht r rs' hr
          have e3 : gtTup 2 (gtCons (gtName 9) (gtCons (gtName 8) gtNil)) (.tuple [mk, t]) [.va a, sl, .va b, .ow (.lst th), .da (plF th 0), .ow (.lst wb), e6, e7, .no, .no] = some [.va a, sl, .va b, .ow (.lst th), .da (plF th 0), .ow (.lst wb), e6, e7, .va t, .va mk] := rfl
          have e4 : tYesF [.va a, sl, .va b, .ow (.lst th), .da (plF th 0), .ow (.lst wb), e6, e7, .va t, .va mk] x = some (true, x) := rfl
          have c : q.depth ≤ 8 ∧ (∀ p ∈ plF th 0, isTupD p.1 = isTupD t) := ⟨k2, fun p hp => by rw [k3]; exact plF_tup th 0 ht p hp⟩
          have at_ : fAtA 4 (fVar 8) [.va a, sl, .va b, .ow (.lst th), .da (plF th 0), .ow (.lst wb), e6, e7, .va t, .va mk] x = some (.int (j : Nat), x) := by
            have g8 : fVar 8 [.va a, sl, .va b, .ow (.lst th), .da (plF th 0), .ow (.lst wb), e6, e7, .va t, .va mk] x = some (t, x) := rfl
            have g4 : ([.va a, sl, .va b, .ow (.lst th), .da (plF th 0), .ow (.lst wb), e6, e7, .va t, .va mk] : FEn)[4]? = some (.da (plF th 0)) := rfl
            have v : valA (plF th 0) q = some (.int (j : Nat)) := by rw [valA_plF, hi]; rfl
            unfold fAtA
            rw [g8]
            simp only [g4, k1]
            rw [if_pos c, v]
          have g9 : fVar 9 [.va a, sl, .va b, .ow (.lst th), .da (plF th 0), .ow (.lst wb), e6, e7, .va t, .va mk] x = some (mk, x) := rfl
          have tp : fTup (aCons (fVar 9) (aCons (fAtA 4 (fVar 8)) aNil)) [.va a, sl, .va b, .ow (.lst th), .da (plF th 0), .ow (.lst wb), e6, e7, .va t, .va mk] x = some (.tuple [mk, .int (j : Nat)], x) := by
            unfold fTup aCons
            rw [g9]
            simp only [at_, aNil]
            exact if_pos (show 2 ≤ maxLen by unfold maxLen; omega)
          rw [List.map_cons, compL, e3]
          simp only [e4, tp, ih]
theorem stepsD_map : ∀ {sd : List D} {st : List (D × D)}, stepsD sd = some st → sd = st.map fun p => D.tuple [p.1, p.2]
  | [], st, h => by cases h; rfl
  | d :: sd, st, h => by
    unfold stepsD at h
    split at h
    · rename_i e
      cases e
    · rename_i mk t r e
      injection e with e1 e2
      subst e1
      subst e2
      split at h
      · rename_i rs hr
        cases h
        rw [List.map_cons, ← stepsD_map hr]
      · cases h
    · cases h
theorem gr_loop {m : List D → Option D} (h4 : isDa sl = false) (hb : mostD b = some most) : ∀ (n : Nat) (th wb : List D) (e6 e7 e8 : FSl) (th' wb' : List D), isDa e6 = false → isDa e7 = false → isDa e8 = false → (∀ d ∈ th, isTupD d = true) → th.length ≤ 100000 → grLoop m most n th wb = some (th', wb') →
    ∃ e6' e7' e8', whL (fTst (fBin gLtX (fCall gLen (aCons (fBor 5) aNil)) (fCall gLen (aCons (fBor 3) aNil)))) (sSeq (sSet 6 (xVal (fCallF 1 sl m (aCons (fBin gAt (fBor 3) (fCall gLen (aCons (fBor 5) aNil))) aNil))))
    (sSeq (sFor (fSeq (fVar 6)) (gtTup 2 (gtCons (gtName 7) (gtCons (gtName 8) gtNil))) (sIf (tNotA 4 (fVar 8)) (sSeq (sIf (tAndF (fTst (fBin gNotN (fBor 2) (fC .none))) (fTst (fBin gEq (fCall gLen (aCons (fBor 3) aNil)) (fBor 2)))) sNo sNil)
    (sSeq (sPutA 4 (fVar 8) (fCall gLen (aCons (fBor 3) aNil)))
    (sApp 3 (fVar 8)))) sNil))
    (sApp 5 (fOfX (xLc (fSeq (fVar 6)) (gtTup 2 (gtCons (gtName 9) (gtCons (gtName 8) gtNil))) tYesF (fTup (aCons (fVar 9) (aCons (fAtA 4 (fVar 8)) aNil))) [9, 8]))))) n (eG a sl b th wb e6 e7 e8) x = some (.nx (eG a sl b th' wb' e6' e7' e8'), x)
  | 0, _, _, _, _, _, _, _, _, _, _, _, _, h => by cases h
  | n + 1, th, wb, e6, e7, e8, th', wb', h6, h7, h8, ht, hl, h => by
    have tst : fTst (fBin gLtX (fCall gLen (aCons (fBor 5) aNil)) (fCall gLen (aCons (fBor 3) aNil))) (eG a sl b th wb e6 e7 e8) x = some (decide ((wb.length : Int) < th.length), x) := by
      unfold fTst fBin
      rw [len5]
      simp only [len3]
      rfl
    unfold grLoop at h
    split at h
    · rename_i hlt
      have hlt' : decide ((wb.length : Int) < th.length) = true := decide_eq_true (by omega)
      rw [hlt'] at tst
      split at h
      · rename_i t et
        split at h
        · rename_i s es
          split at h
          · rename_i sd esd
            split at h
            · rename_i st est
              split at h
              · rename_i th2 eth
                split at h
                · rename_i row erow
                  split at h
                  · rename_i hrow
                    have at_ : fBin gAt (fBor 3) (fCall gLen (aCons (fBor 5) aNil)) (eG a sl b th wb e6 e7 e8) x = some (t, x) := by
                      have g3 : fBor 3 (eG a sl b th wb e6 e7 e8) x = some (.list th, x) := rfl
                      have q : gAt (.list th) (.int wb.length) = some t := by
                        show atI th (wb.length : Int) = some t
                        have ix : ixN th.length (wb.length : Int) = some wb.length := by
                          unfold ixN
                          rw [if_pos (by omega), if_pos (by omega)]
                          rfl
                        unfold atI
                        rw [ix]
                        exact et
                      unfold fBin
                      rw [g3]
                      simp only [len5, q]
                    have cf : fCallF 1 sl m (aCons (fBin gAt (fBor 3) (fCall gLen (aCons (fBor 5) aNil))) aNil) (eG a sl b th wb e6 e7 e8) x = some (s, x) := by
                      have g1 : (eG a sl b th wb e6 e7 e8)[1]? = some sl := rfl
                      have l : aCons (fBin gAt (fBor 3) (fCall gLen (aCons (fBor 5) aNil))) aNil (eG a sl b th wb e6 e7 e8) x = some ([t], x) := by
                        rw [aCons, at_]
                        rfl
                      unfold fCallF
                      rw [l]
                      simp only [g1, es, if_true]
                    have s1 : sSet 6 (xVal (fCallF 1 sl m (aCons (fBin gAt (fBor 3) (fCall gLen (aCons (fBor 5) aNil))) aNil))) (eG a sl b th wb e6 e7 e8) x = some (.nx (eG a sl b th wb (.va s) e7 e8), x) := by
                      unfold sSet xVal
                      rw [cf]
                      rfl
                    have sq : ∀ (th : List D) (e7 e8 e9 : FSl), fSeq (fVar 6) [.va a, sl, .va b, .ow (.lst th), .da (plF th 0), .ow (.lst wb), .va s, e7, e8, e9] x = some (sd, x) := fun th e7 e8 e9 => by
                      have g6 : fVar 6 [.va a, sl, .va b, .ow (.lst th), .da (plF th 0), .ow (.lst wb), .va s, e7, e8, e9] x = some (s, x) := rfl
                      unfold fSeq
                      rw [g6]
                      unfold seqD at esd
                      split at esd
                      · cases esd; rfl
                      · cases esd; rfl
                      · cases esd
                    have em := stepsD_map est
                    obtain ⟨e7', e8', q1, q2, q3, q4, q5⟩ := gr_for (a := a) (wb := wb) (x := x) h4 (e6 := .va s) rfl hb st th e7 e8 th2 h7 h8 ht hl eth
                    rw [← em] at q5
                    have s2 : sFor (fSeq (fVar 6)) (gtTup 2 (gtCons (gtName 7) (gtCons (gtName 8) gtNil))) (sIf (tNotA 4 (fVar 8)) (sSeq (sIf (tAndF (fTst (fBin gNotN (fBor 2) (fC .none))) (fTst (fBin gEq (fCall gLen (aCons (fBor 3) aNil)) (fBor 2)))) sNo sNil)
                        (sSeq (sPutA 4 (fVar 8) (fCall gLen (aCons (fBor 3) aNil))) (sApp 3 (fVar 8)))) sNil) (eG a sl b th wb (.va s) e7 e8) x = some (.nx (eG a sl b th2 wb (.va s) e7' e8'), x) := by
                      unfold sFor
                      rw [sq]
                      exact q5
                    have cm := gr_comp (a := a) (b := b) (sl := sl) (wb := wb) (e6 := .va s) (e7 := e7') (x := x) q3 st row erow
                    rw [← em] at cm
                    have s3 : sApp 5 (fOfX (xLc (fSeq (fVar 6)) (gtTup 2 (gtCons (gtName 9) (gtCons (gtName 8) gtNil))) tYesF (fTup (aCons (fVar 9) (aCons (fAtA 4 (fVar 8)) aNil))) [9, 8])) (eG a sl b th2 wb (.va s) e7' e8') x = some (.nx (eG a sl b th2 (wb ++ [.list row]) (.va s) e7' e8'), x) := by
                      have w : wipeE (eG a sl b th2 wb (.va s) e7' e8') [9, 8] = [.va a, sl, .va b, .ow (.lst th2), .da (plF th2 0), .ow (.lst wb), .va s, e7', .no, .no] := rfl
                      have l : fOfX (xLc (fSeq (fVar 6)) (gtTup 2 (gtCons (gtName 9) (gtCons (gtName 8) gtNil))) tYesF (fTup (aCons (fVar 9) (aCons (fAtA 4 (fVar 8)) aNil))) [9, 8]) (eG a sl b th2 wb (.va s) e7' e8') x = some (.list row, x) := by
                        unfold fOfX xLc
                        rw [sq]
                        simp only [w, cm]
                        rw [if_pos (show row.length < maxLen by unfold maxLen; omega)]
                        rfl
                      have g5 : (eG a sl b th2 wb (.va s) e7' e8')[5]? = some (.ow (.lst wb)) := rfl
                      unfold sApp
                      rw [l]
                      simp only [g5]
                      rw [if_pos (show wb.length < maxLen by unfold maxLen; omega)]
                      rfl
                    obtain ⟨f6, f7, f8, q6⟩ := gr_loop h4 hb n th2 (wb ++ [.list row]) (.va s) e7' e8' th' wb' rfl q1 q2 q3 q4 h
                    refine ⟨f6, f7, f8, ?_⟩
                    rw [whL, tst]
                    simp only [sSeq, s1, s2, s3]
                    exact q6
                  · cases h
                · cases h
              · cases h
            · cases h
          · cases h
        · cases h
      · cases h
    · rename_i hlt
      cases h
      have hlt' : decide ((wb.length : Int) < th.length) = false := decide_eq_false (by omega)
      rw [hlt'] at tst
      refine ⟨e6, e7, e8, ?_⟩
      rw [whL, tst]
theorem grown_pure {m : List D → Option D} (h4 : isDa sl = false) {d : D} (h : gGrown m a b = some d) : mkS 10 [.va a, sl, .va b] (bGrown sl m) = some d := by
  unfold gGrown at h
  split at h
  · rename_i q most hk hb
    split at h
    · rename_i th wb hl
      cases h
      obtain ⟨k1, k2, k3⟩ := keyT_ok hk
      obtain ⟨e6, e7, e8, g⟩ := gr_loop (a := a) (sl := sl) (x := row0) h4 hb 4000 [a] [] .no .no .no th wb rfl rfl rfl (fun d hd => by rw [List.mem_singleton] at hd; subst hd; exact k3) (by rw [List.length_singleton]; omega) hl
      have s0 : startS 10 [.va a, sl, .va b] = [.va a, sl, .va b, .no, .no, .no, .no, .no, .no, .no] := rfl
      have s1 : sSet 3 (xLst (aCons (fVar 0) aNil)) [.va a, sl, .va b, .no, .no, .no, .no, .no, .no, .no] row0 = some (.nx [.va a, sl, .va b, .ow (.lst [a]), .no, .no, .no, .no, .no, .no], row0) := by
        have l : aCons (fVar 0) aNil [.va a, sl, .va b, .no, .no, .no, .no, .no, .no, .no] row0 = some ([a], row0) := rfl
        unfold sSet xLst
        rw [l]
        simp only [List.length_singleton]
        rw [if_pos (show 1 ≤ maxLen by unfold maxLen; omega)]
        rfl
      have s2 : sSet 4 (xDict1A (fVar 0) (fC (.int 0))) [.va a, sl, .va b, .ow (.lst [a]), .no, .no, .no, .no, .no, .no] row0 = some (.nx [.va a, sl, .va b, .ow (.lst [a]), .da (plF [a] 0), .no, .no, .no, .no, .no], row0) := by
        have g0 : fVar 0 [.va a, sl, .va b, .ow (.lst [a]), .no, .no, .no, .no, .no, .no] row0 = some (a, row0) := rfl
        unfold sSet xDict1A
        rw [g0]
        simp only [k1]
        rw [if_pos ⟨k2, k3⟩]
        rfl
      have s3 : sSet 5 (xLst aNil) [.va a, sl, .va b, .ow (.lst [a]), .da (plF [a] 0), .no, .no, .no, .no, .no] row0 = some (.nx (eG a sl b [a] [] .no .no .no), row0) := by
        have l : aNil [.va a, sl, .va b, .ow (.lst [a]), .da (plF [a] 0), .no, .no, .no, .no, .no] row0 = some ([], row0) := rfl
        unfold sSet xLst
        rw [l]
        simp only [List.length_nil]
        rw [if_pos (Nat.zero_le _)]
        rfl
      have s5 : sFrz 5 (sFrz 3 (sRet (fTup (aCons (fVar 3) (aCons (fVar 5) aNil))))) (eG a sl b th wb e6 e7 e8) row0 = some (.rt (.tuple [.list th, .list wb]), row0) := by
        have l : aCons (fVar 3) (aCons (fVar 5) aNil) [.va a, sl, .va b, .va (.list th), .da (plF th 0), .va (.list wb), e6, e7, e8, .no] row0 = some ([.list th, .list wb], row0) := rfl
        show sRet (fTup (aCons (fVar 3) (aCons (fVar 5) aNil))) [.va a, sl, .va b, .va (.list th), .da (plF th 0), .va (.list wb), e6, e7, e8, .no] row0 = _
        unfold sRet fTup
        rw [l]
        simp only [List.length_cons, List.length_nil]
        rw [if_pos (show 2 ≤ maxLen by unfold maxLen; omega)]
      unfold mkS bGrown
      rw [s0]
      simp only [sSeq, s1, s2, s3, g, s5]
    · cases h
  · cases h
end
end RT

namespace RT
open PySem PySem.Spec PyProof.Rows L2
open LamX (CodeO TabB)
/-! ### a def that makes functions -/
theorem tab_code {K : PySem.W.Frag} {x : Str} {f c P : Addr} {oc : Value} {od : Option Addr} {fd : FuncData} {osl : Array (Option Value)} (ns : PySem.W.nsIn K mainGlobals x = some (some (.ref f))) (lk : K.lookup f = some ⟨oc, od, .func fd, osl⟩) (ti : PySem.W.tabIn K x = some (c, P)) : fd.code = .ref c := by
  unfold PySem.W.tabIn at ti
  rw [ns] at ti
  simp only [lk] at ti
  split at ti
  · rename_i c' e
    split at ti
    · split at ti
      · cases ti; exact e
      · cases ti
    · cases ti
  · cases ti
section
variable {P : Program} {ω : World} {K : PySem.W.Frag} {mg : Str → Option Value} {base : Heap}
theorem ok_fnM {x qual : Str} {st : Stmt} {f c T : Addr} {fd : FuncData} {N ps : List Str} {k : Nat} {body : FS} (F : Fun K x qual st f fd) (S : FnScope N ps (defScope st)) (ns : PySem.W.nsIn K mainGlobals x = some (some (.ref f))) (ti : PySem.W.tabIn K x = some (c, T))
    (h : ∀ (A : Around) (outer : List Env) (s : Shared) (H : Hp) (E : XK), Room k (A.deeper (envOfC qual (defScope st) s.heap.objs.size f (.ref c))) → SSs (cxOf CX0 P ω K mg base N qual (defScope st) f (.ref c) A outer s H E).nox (defBody st) body) :
    FnOk P ω K mg base CX0 (k + 1) f fd ps (spF K (mkF N.length ps.length body)) := by
  obtain ⟨oc, od, kV, doc, pm, an, cdv, ct, osl, rfl, lk, hcd⟩ := F.ex
  obtain rfl : cdv = .ref c := tab_code ns lk ti
  refine fn_of lk hcd S (fun vs H Q E h => ?_) fun A outer s H vs Q E hr hsp => ⟨tS ω K body, (h A outer s H E hr).out.nox, ?_⟩
  · obtain ⟨T, O, ds, d, _, _, _, r, e, _⟩ := h
    unfold mkF at e
    split at e
    · rename_i hl
      rw [r.length, hl]
    · cases e
  · obtain ⟨T, O, ds, d, tk, tb, dom, r, e, q⟩ := hsp
    unfold mkF at e
    split at e
    · rename_i hl
      have S0 : FSt ω K ⟨O, noT H, none, [], T, ω⟩ O (L2.start N vs) H (startE N.length ds) row0 := by
        refine ⟨fun _ h => h, fun _ h => .inl h, dom, (fun a o _ e _ => (noT_some e).1), fun r e => (by cases e), ?_, fun i s e h1 h2 => ?_, fun i j d d' a b ne h1 h2 => absurd h1 no_ow, fun p hp => (by cases hp), tb, tk, fun a o e => (noT_some e).2, rfl⟩
        · unfold L2.start startE
          rw [List.length_append, List.length_append, List.length_map, List.length_map, List.length_replicate, List.length_replicate, r.length]
        · unfold L2.start at h1
          unfold startE at h2
          rw [r.length] at h1
          exact vas_at r i s e h1 h2
      have same : ∀ {O' : Addr → Prop} {σ' : L2.St} {H' : Hp} {env' : FEn} {x' : FRow}, FSt ω K ⟨O, noT H, none, [], T, ω⟩ O' σ' H' env' x' → SameT T H H' := fun S' => ⟨fun a o e t => S'.le a o (fun z => by cases z) (noT_of e t) t, S'.tb⟩
      split at e
      · rename_i d' x' e1
        cases e
        exact ⟨_, O, _, row0, _, _, S0, e1, fun O' σ' H' v env' S' rp => q v H' (same S') (rp.move (fun _ _ _ e _ => e) fun a z => .inl (S'.sub a z))⟩
      · rename_i d' x' e1
        cases e
        exact ⟨_, O, _, row0, _, _, S0, e1, fun O' σ' H' S' => q _ H' (same S') .non⟩
      · cases e
    · cases e
end
end RT

namespace RT
open PySem PySem.Spec PyProof.Rows L2
/-! ### d.setdefault(k, v), d a dict with ints and texts as keys; xs[::-1]; x in a tuple -/
def sSetD (i : Nat) (fk fv : FE) : FS := fun env x => match fk env x with
  | some (k, x1) => match fv env x1 with
    | some (v, x2) => match env[i]? with
      | some (.ow (.dk ds)) => match dKey k with
        | some q => if ds.length < maxLen then
            match valD dKey ds q with
            | some _ => some (.nx env, x2)
            | none => some (.nx (env.set i (.ow (.dk (putD dKey ds k q v)))), x2)
          else none
        | none => none
      | _ => none
    | none => none
  | none => none
section
variable {X : Cx} {a b c e : Expr} {es : List Expr} {fa fb fc f fk fv : FE} {pos : Pos}
theorem ss_setD {i : Nat} {n : Str} {p0 apos cpos : Pos} (hk : SE X b fk) (hv : SE X c fv)
    (hs : swapsWith (.Call (.Attribute (.Name n p0) "setdefault" apos) [b, c] [] cpos) none pos.line X.env = pure false := by rfl)
    (m : M2 X (.Name n p0) "setdefault" apos b c cpos := by exact ⟨rfl, rfl, rfl, rfl⟩)
    (hN : X.N[i]? = some n := by rfl) (hvis : Vis X.env.scope n := by first | exact Or.inl rfl | exact Or.inr (Or.inl rfl) | exact Or.inr (Or.inr rfl)) (hd : (n == ("__debug__" : Str)) = false := by decide)
    (hcd : (n == ("__classdict__" : Str)) = false := by decide) : SS X (.Expr (.Call (.Attribute (.Name n p0) "setdefault" apos) [b, c] [] cpos) pos) (sSetD i fk fv) := by
  refine ⟨PSw (ps_expr (pe_dsetd (pe_var hN hvis hd hcd) hk.out hv.out m) hs) fun Dn σ H h => ?_⟩
  obtain ⟨g, O, env, x, r, x', S, e, kk⟩ := h
  unfold sSetD at e
  split at e
  · rename_i k x1 e1
    split at e
    · rename_i v x2 e2
      split at e
      · rename_i ds e3
        split at e
        · rename_i q e4
          split at e
          · rename_i hl
            obtain ⟨s, e5, q5⟩ := S.at e3
            cases q5 with
            | @ow p _ op q6 q7 w =>
              obtain ⟨kvs0, hH0, hr0⟩ := w
              refine ⟨_, e5, p, rfl, .inl ⟨kvs0, .inl hH0⟩, g, O, env, x, k, x1, S, e1, fun y H2 S2 l2 r2 => ⟨g, O, env, x1, v, x2, S2, e2, fun z H3 S3 l3 r3 => ?_⟩⟩
              obtain ⟨s2, e6, q8⟩ := S3.at e3
              rw [e5] at e6
              cases e6
              cases q8 with
              | ow _ _ _ w2 =>
                obtain ⟨kvs, hH, hr⟩ := w2
                have ez := dKey_rp e4 r2
                subst ez
                refine ⟨kvs, q, hH, rfl, by rw [hr.length]; exact maxLen_lt hl, fun v1 hv1 => ?_, fun hn => ?_⟩
                · rcases hr.val (k := q) with ⟨z1, _⟩ | ⟨v2, d2, z1, z2, _⟩
                  · rw [z1] at hv1; cases hv1
                  · rw [z2] at e
                    cases e
                    exact kk O _ _ S3
                · rcases hr.val (k := q) with ⟨_, z2⟩ | ⟨v2, d2, z1, z2, _⟩
                  · rw [z2] at e
                    cases e
                    refine kk O _ _ (S3.put e3 e5 True.intro ⟨_, upd_same, ?_⟩)
                    have e7 := dKey_ok e4
                    subst e7
                    exact (hr.put r3).move (keep_own S3 op) .refl
                  · rw [z1] at hn; cases hn
          · cases e
        · cases e
      · cases e
    · cases e
  · cases e
def gRev : D → Option D
  | .list ds => if ds.length ≤ maxLen then some (.list ds.reverse) else none
  | _ => none
def fRev (fa : FE) : FE := fun env x => match fa env x with
  | some (d, x1) => match gRev d with
    | some r => some (r, x1)
    | none => none
  | none => none
theorem RpA.rev {K : PySem.W.Frag} {O : Addr → Prop} {H : Hp} : ∀ {v : List V} {d : List D}, RpA K O H v d → RpA K O H v.reverse d.reverse
  | _, _, .nil => .nil
  | _, _, .cons a b => by rw [List.reverse_cons, List.reverse_cons]; exact (RpA.rev b).app (.cons a .nil)
theorem se_rev {k : Nat} {p1 p2 p3 : Pos} (ha : SB X a fa) : SE X (.Subscript a (.Slice none none (some (.UnaryOp .USub (.Constant (.int 1) k p1) p2)) p3) pos) (fRev fa) := by
  refine ⟨PEw (pe_revL ha.out) fun σ H Q h => ?_⟩
  obtain ⟨g, O, env, x, r, x', S, e, kk⟩ := h
  unfold fRev at e
  split at e
  · rename_i d x1 e1
    unfold gRev at e
    split at e
    · rename_i r' e2
      cases e
      split at e2
      · rename_i ds
        split at e2
        · rename_i hl
          cases e2
          refine ⟨g, O, env, x, _, x', S, e1, fun v H1 S1 l1 r1 => ?_⟩
          obtain ⟨p, xs, rfl, hp, rx⟩ := r1.lst
          refine ⟨p, xs, rfl, .of hp, fun q hq => ?_⟩
          have sm := same_upd (o := .lst xs.reverse) hq
          exact kk _ _ (S1.same sm) (l1.trans (.of sm)) (.lst (S1.notO hq) upd_same (rx.rev.move (.of sm) .refl))
        · cases e2
      · cases e2
    · cases e
  · cases e
end
end RT

namespace RT
open PySem PySem.Spec PyProof.Rows L2
/-! ### sorted(d), the keys of d tuples of ints and texts -/
/-- the tables of the makers that the program has -/
theorem tok_of {K : PySem.W.Frag} {L : List (Str × Addr × Addr)} (h1 : (makers.all fun x => match PySem.W.tabIn K x with | some (_, P) => L.any fun q => q.1 == x && q.2.2 == P | none => true) = true) (h2 : (L.map fun q => q.2.2).Nodup) : TOK K (L.map fun q => (q.2.2, lamq q.1)) := fun x hx c P e => by
  have z := List.all_eq_true.mp h1 x hx
  rw [e] at z
  obtain ⟨q, hq, z⟩ := List.any_eq_true.mp z
  rw [Bool.and_eq_true, beq_iff_eq, beq_iff_eq] at z
  obtain ⟨z1, z2⟩ := z
  subst z1
  subst z2
  refine ⟨List.mem_map.mpr ⟨q, hq, rfl⟩, fun p hp ep => ?_⟩
  obtain ⟨q', hq', rfl⟩ := List.mem_map.mp hp
  have : q' = q := by
    have key : ∀ {L : List (Str × Addr × Addr)}, (L.map fun q => q.2.2).Nodup → ∀ {a b}, a ∈ L → b ∈ L → a.2.2 = b.2.2 → a = b := fun {L} => by
      induction L with
      | nil => intro _ a b ha; cases ha
      | cons l L ih =>
        intro hn a b ha hb e
        rw [List.map_cons, List.nodup_cons] at hn
        rcases List.mem_cons.mp ha with e1 | h1
        · rcases List.mem_cons.mp hb with e2 | h2
          · rw [e1, e2]
          · exact absurd (List.mem_map.mpr ⟨b, h2, by rw [← e, e1]⟩) hn.1
        · rcases List.mem_cons.mp hb with e2 | h2
          · exact absurd (List.mem_map.mpr ⟨a, h1, by rw [e, e2]⟩) hn.1
          · exact ih hn.2 h1 h2 e
    exact key h2 hq' hq ep
  rw [this]
mutual
theorem reads_there {h : Heap} : ∀ {v : Value} {d : PyData} {as : List Addr}, Reads h v d as → ∀ b ∈ as, ∃ o, h.get? b = some o
  | _, _, _, .none => fun _ z => nomatch z
  | _, _, _, .bool _ => fun _ z => nomatch z
  | _, _, _, .int _ _ => fun _ z => nomatch z
  | _, _, _, .str _ _ => fun _ z => nomatch z
  | _, _, _, .list e _ _ r => fun b z => (List.mem_cons.mp z).elim (fun q => ⟨_, q ▸ e⟩) (readsAll_there r b)
  | _, _, _, .tuple _ _ _ r => readsAll_there r
  | _, _, _, .dict e _ _ r r' => fun b z => (List.mem_cons.mp z).elim (fun q => ⟨_, q ▸ e⟩) fun z => (List.mem_append.mp z).elim (readsAll_there r b) (readsAll_there r' b)
theorem readsAll_there {h : Heap} : ∀ {v : List Value} {d : List PyData} {as : List Addr}, ReadsAll h v d as → ∀ b ∈ as, ∃ o, h.get? b = some o
  | _, _, _, .nil => fun _ z => nomatch z
  | _, _, _, .cons r r' => fun b z => (List.mem_append.mp z).elim (reads_there r b) (readsAll_there r' b)
end
theorem each_as {h h2 : Heap} {a : Addr} (keep : ∀ b o, h.get? b = some o → h2.get? b = some o) (fresh : ∀ b o, h.get? b = some o → b ≠ a) : ∀ {vs : List Value} {bs : List D} {as : List Addr}, ReadsAll h vs (bs.map D.py) as → (∀ b ∈ as, ∃ o, h.get? b = some o) → PySem.W.EachIs (fun v b => ∃ as, Reads h2 v (D.py b) as ∧ a ∉ as) vs bs
  | [], [], _, _, _ => .nil
  | [], _ :: _, _, r, _ => nomatch r
  | _ :: _, [], _, r, _ => nomatch r
  | v :: vs, b :: bs, as, r, th => by
    rw [List.map_cons] at r
    cases r with
    | cons r1 r2 => exact .cons ⟨_, PyProof.Rows.Reads.keeps keep r1, fun z => let ⟨o, eo⟩ := th _ (List.mem_append_left _ z); fresh _ o eo rfl⟩ (each_as keep fresh r2 fun b hb => th b (List.mem_append_right _ hb))
/-- what collecting has made: a new list -/
def Coll (P : Nat → Value → Prop) (n : Nat) (s : Shared) (acc : Array Value) (h2 : Heap) : Prop :=
  (∀ b o, s.heap.get? b = some o → h2.get? b = some o) ∧ s.heap.objs.size < h2.objs.size ∧ ItemsOf P acc n
theorem collect_new {prog : Program} {w : World} {A : Around} {E : Value → Shared → Prop} {s : Shared} {T : String} {r d : Addr} {n : Nat} {P : Nat → Value → Prop} {OK : Heap → Prop} {R : List Value → Shared → Prop}
    (src : PySem.W.KdlSrc prog w T r d n P OK) (nh : A.handled = none) (ok : OK s.heap) (le : n ≤ sizeLine) (kk : ∀ (h2 : Heap) (t2 : Nat) (acc : Array Value), Coll P n s acc h2 → R acc.toList { s with heap := h2, toks := t2 }) :
    wpAny (model prog w) A (collect (.ref r)) R E s := by
  obtain ⟨lt1, lt2⟩ := src.there _ ok
  have new0 : (s.heap.push { cls := .type "list", data := .seq ([] : List Value).toArray }).get? s.heap.objs.size = some (seqObj "list" #[] 0) := Heap.get?_push_size _ rfl
  have ext := PySem.W.kdl_extend (A := A) (s := ⟨s.heap.push { cls := .type "list", data := .seq ([] : List Value).toArray }, s.gens, s.drawn, s.toks, s.os⟩) (R := fun q s2 => ∃ (h2 : Heap) (t2 : Nat) (acc : Array Value) (c2 : Nat), q = .ok (.ret (.ref s.heap.objs.size)) ∧ s2 = { s with heap := h2, toks := t2 } ∧ h2.get? s.heap.objs.size = some (seqObj "list" acc c2) ∧ Coll P n s acc h2)
    src nh (src.keep _ _ ok fun b _ o e => Heap.get?_push_of_some _ e) s.heap.objs.size (Nat.ne_of_gt lt1) (Nat.ne_of_gt lt2) (.ref s.heap.objs.size) 0 new0
    (fun h2 t2 acc c2 kp at2 it => ⟨h2, t2, acc, c2, rfl, rfl, at2, fun b o e => kp b o (Nat.ne_of_lt (Heap.lt_size e)) (Heap.get?_push_of_some _ e), Heap.lt_size at2, it⟩) le
  unfold collect
  refine wpAny_bind (wpAny_runValue ?_)
  refine codeAny_builtin entry_proto_collect' ?_
  rw [Around.under_plainId PySem.F.plain_proto_collect]
  show wpAny _ _ (newList [] >>= fun x => again (.builtin "list.__iadd__" ⟨[x, .ref r], []⟩)) _ _ _
  refine wpAny_bind (wpAny_newObj_type (wpAny_pure ⟨plainId_quiet PySem.F.plain_list_iadd _, ?_⟩))
  refine codeAny_builtin entry_list_iadd' ?_
  rw [Around.under_plainId PySem.F.plain_list_iadd]
  refine wpAny_mono ext (fun fin s2 y => ?_) fun e s2 y => ?_
  · cases fin with
    | done f =>
      obtain ⟨h2, t2, acc, c2, e, rfl, at2, co⟩ := y
      cases e
      exact wpAny_bind (wpAny_load at2 (wpAny_pure (kk h2 t2 acc co)))
    | again c =>
      exact ⟨y.1, codeAny_mono y.2 fun q s3 ⟨h2, t2, acc, c2, e, es, at2, co⟩ => by
        subst e
        subst es
        exact wpAny_bind (wpAny_load at2 (wpAny_pure (kk h2 t2 acc co)))⟩
  · exact let ⟨_, _, _, _, e, _⟩ := y; nomatch e
def keysD (kvs : List (D × D)) : List D := kvs.map (·.1)
def gSortK : List D → Option D
  | [.dictT kvs] => gSortD [.list (keysD kvs)]
  | _ => none
section
variable {X : Cx}
theorem cd_sortK (hc : X.calm = true) (hu : X.A.units + 66 < cLine) : CallD X (.builtin "sorted") gSortK := by
  intro pins s σ H vs us Q I rv h
  obtain ⟨g, O, σ', env, x, ds, z, S, rr, e, k⟩ := h
  unfold gSortK at e
  split at e
  · rename_i kvs0
    unfold gSortD at e
    split at e
    · rename_i ds0 eds
      injection eds with eds1 eds2
      injection eds1 with eds1
      subst eds1
      split at e
      · rename_i hcond
        cases e
        simp only [Bool.and_eq_true, decide_eq_true_eq] at hcond
        obtain ⟨⟨⟨hs, ht⟩, ha⟩, hlen⟩ := hcond
        cases rr with
        | cons r r' =>
        cases r'
        obtain ⟨p, kvs, rfl, hp, rx⟩ := r.dcT
        rw [Vals.ref1 rv]
        obtain ⟨z0, lo, ks, pr, o, es, ep, ho, hx, hdt, he, hn0⟩ := (show ObjOk X.prog X.w H s.heap p (.dT kvs) from (I.hok p _ hp))
        have l1 : es.size = ks.length := size_of_entries he
        have l2 : kvs.length = ks.length := Paired.length pr
        have hd := I.ok.hd hc
        refine Calls.call_function_entry kind_sorted plain_sorted entry_sorted (args_sorted1 _) ?_
        rw [Builtin.«sorted»]
        refine wpAny_bind (m := checkCount "sorted" 1 1 1) (wpAny_pure (wpAny_bind ?_))
        refine collect_new (A := X.A.in1) (kdl_raw lo hx hdt) hd ho (by omega) fun h1 tk acc ⟨kp, grew, it⟩ => ?_
        have ea : acc.toList = ks.map fun x => Value.ref x.2.1 := by
          have hl : acc.toList.length = ks.length := by rw [Array.length_toList, it.1]; exact l1
          refine List.ext_getElem? fun j => ?_
          rw [List.getElem?_map]
          cases hj : acc.toList[j]? with
          | none =>
            have := List.getElem?_eq_none_iff.mp hj
            rw [List.getElem?_eq_none (by omega)]; rfl
          | some v =>
            obtain ⟨en, hen, hv⟩ := it.2 j v (by rw [← Array.getElem?_toList]; exact hj)
            have qe := entry_at he j
            rw [hen] at qe
            cases hb : ks[j]? with
            | none => rw [hb] at qe; exact nomatch (show some en = none from qe)
            | some b => rw [hb] at qe; rw [hv, Option.some.inj (show some en = some _ from qe)]; rfl
        have eb : acc.toList = (ks.map fun x => x.2.1).map Value.ref := by rw [ea, List.map_map]; rfl
        have rvs : Vals ((ks.map fun x => x.2.1).map V.ref) acc.toList := by rw [eb]; exact vals_refs _
        have rk := keysT_rp S rx (isKeys_of pr)
        have hlay := SeqAt.canLay_of_shaped hs
        have hdep := SeqAt.depth_of_shaped hs
        have hlay' : PyData.canLayAll0 (pyAll (keysD kvs0)) = true := by simpa [D.py, PyData.canLay0] using hlay
        obtain ⟨as, rd⟩ := Dp.readsAll I (pyAll (keysD kvs0)) _ acc.toList (rk.dp hlay') rvs
        have there := readsAll_there rd
        rw [pyAll_map] at rd
        have hz : acc.toList.length ≤ sizeLine := by rw [eb, List.length_map, List.length_map]; omega
        refine wpAny_bind (wpAny_newList ?_ hz)
        have fresh : ∀ b o, s.heap.get? b = some o → b ≠ h1.objs.size := fun b o e => Nat.ne_of_lt (Heap.lt_size (kp b o e))
        have hD : (h1.push { cls := .type "list", data := .seq acc.toList.toArray }).get? h1.objs.size = some (seqObj "list" acc.toList.toArray 0) := Heap.get?_push_size _ rfl
        have keep : ∀ b o, s.heap.get? b = some o → (h1.push { cls := .type "list", data := .seq acc.toList.toArray }).get? b = some o := fun b o e => Heap.get?_push_of_some _ (kp b o e)
        have er0 := PySem.W.readsAll_each D.py rd
        refine wpAny_bind (wpAny_holding (wpAny_mono (PySem.W.list_sort_data (s := { s with heap := h1.push { cls := .type "list", data := .seq acc.toList.toArray }, toks := tk }) (a := h1.objs.size) (n := 0) (vs := acc.toList) (enc := D.py) (bs := keysD kvs0) (R := fun u d => ∃ v, RelV v u ∧ Rp X.K O H v d)
          (Q := fun _ s' => EP X pins σ Q (.ref h1.objs.size) s') hD (each_of rvs rk) ?_ ?_ ?_ (maxLen_ok hlen) ?_ (fun out hlo heo => ?_)) (fun _ s' q => wpAny_pure ⟨_, rfl, q⟩) fun _ _ e => e))
        · exact each_as keep fresh rd there
        · intro d hd1 d' hd'
          obtain ⟨b, hb, rfl⟩ := List.mem_map.mp hd1
          obtain ⟨b', hb', rfl⟩ := List.mem_map.mp hd'
          exact List.all_eq_true.mp (List.all_eq_true.mp ha b hb) b' hb'
        · refine .inl fun d hd1 => ?_
          obtain ⟨b, hb, rfl⟩ := List.mem_map.mp hd1
          have q := List.all_eq_true.mp ht b hb
          cases b with
          | tuple xs =>
            cases xs with
            | nil => simp at q
            | cons x xs => exact ⟨x.py, pyAll xs, by rw [D.py, pyAll]⟩
          | _ => simp at q
        · intro b hb
          have dl : ∀ {ds : List D}, b ∈ ds → b.py.depth ≤ PyData.depthAll (pyAll ds) := fun {ds} => by
            induction ds with
            | nil => intro h; cases h
            | cons d ds ih =>
              intro h
              rw [pyAll, PyData.depthAll]
              rcases List.mem_cons.mp h with rfl | h
              · exact Nat.le_max_left _ _
              · exact Nat.le_trans (ih h) (Nat.le_max_right _ _)
          have h1 := dl hb
          have h2 : PyData.depthAll (pyAll (keysD kvs0)) + 1 ≤ 64 := by simpa [D.py, PyData.depth, Nat.add_comm] using hdep
          show X.A.units + 1 + 1 + b.py.depth < cLine
          omega
        · obtain ⟨zs, q1, q2⟩ := of_each heo
          obtain ⟨ep', he'⟩ := PyProof.Rows.sortedHeap_at (out := out.toArray) hD
          have hzs : zs.length ≤ sizeLine := by
            rw [q2.length, List.length_mergeSort]; exact maxLen_ok hlen
          have hle : s.heap.objs.size ≤ h1.objs.size := Nat.le_of_lt grew
          have hn : H h1.objs.size = none := I.hok.fresh hle
          have sm := same_upd (o := .lst zs) hn
          refine ⟨.ref _, upd H h1.objs.size (.lst zs), I.laid (t' := tk) (fun b o e => ?_) hle ⟨hzs, out, ep', q1, he'⟩, rfl, k _ _ sm (.lst (S.notO hn) upd_same (q2.move (.of sm) .refl))⟩
          exact (PyProof.Rows.sortedHeap_old (fresh b o e) (Heap.lt_size (keep b o e))).trans (keep b o e)
      · cases e
    · rename_i hno
      exact absurd rfl (hno _)
  · cases e
def gSortY : List D → Option D := cOr gSortX gSortK
theorem cd_sortY (hc : X.calm = true) (hu : X.A.units + 66 < cLine) : CallD X (.builtin "sorted") gSortY := (cd_sortX hu).or (cd_sortK hc hu)
end
end RT

namespace Lw
open PySem PySem.Spec PyProof.Rows L2 RT
def b_law_taken : FS :=
    sSeq (sIf (fTst (fBin (gI yes2 fun i j => .bool (decide (j < i))) (fRow 0 3) (fC (.int 0)))) (sSeq (sSet 2 (xVal (fBin gModI (fCall gInt (aCons (fRow 0 3) aNil)) (fBor 1))))
    (sSeq (sRow 0 3 (fBin gDivI (fRow 0 3) (fBor 1)))
    (sRet (fVar 2)))) sNil)
    (sSeq (sRow 0 1 (fBin gAdd (fRow 0 1) (fC (.int 1))))
    (sSeq (sIf (fTst (fBin (gI yes2 fun i j => .bool (decide (j < i))) (fRow 0 1) (fRowLen 0))) (sSeq (sRow 0 2 (fBin gModI (fCall gInt (aCons (fBin gAdd (fBin gMul (fRow 0 2) (fC (.int 48271))) (fC (.int 11))) aNil)) (fC (.int 2147483647))))
    (sRet (fBin gModI (fCall gInt (aCons (fBin gDivI (fRow 0 2) (fC (.int 7))) aNil)) (fBor 1)))) sNil)
    (sSeq (sSet 3 (xVal (fRowAt 0 (fBin gSubI (fRow 0 1) (fC (.int 1))))))
    (sSeq (sRow 0 2 (fBin gModI (fCall gInt (aCons (fBin gAdd (fBin gAdd (fBin gMul (fRow 0 2) (fC (.int 48271))) (fBor 3)) (fC (.int 11))) aNil)) (fC (.int 2147483647))))
    (sSeq (sIf (fTst (fBin (gI yes2 fun i j => .bool (decide (j ≤ i))) (fBor 3) (fBin gPowI (fC (.int 10)) (fC (.int 18))))) (sRow 0 3 (fBin gDivI (fBor 3) (fBor 1))) sNil)
    (sRet (fBin gModI (fCall gInt (aCons (fBor 3) aNil)) (fBor 1))))))))
def m_law_taken : List D → FRow → Option (D × FRow) := mkR 3 1 b_law_taken
def b_law_scene : FS :=
    sSeq (sPars [5, 6] (xsCons (xVal (fCallR 0 m_law_taken (aCons (fVar 1) aNil))) (xsCons (xNew (.dt [])) xsNil)))
    (sSeq (sFor (fRg1 (fBin gAdd (fC (.int 1)) (fCallR 0 m_law_taken (aCons (fC (.int 2)) aNil)))) (gtName 7) (sSeq (sSet 8 (xVal (fBin gModI (fCall gInt (aCons (fBin gAdd (fBin gAdd (fBor 5) (fC (.int 1))) (fCallR 0 m_law_taken (aCons (fBin gSubI (fBor 1) (fC (.int 1))) aNil))) aNil)) (fBor 1))))
    (sSeq (sSet 9 (xVal (fIf (fTru (fBor 4)) (fCallR 0 m_law_taken (aCons (fBin gAdd (fBor 3) (fC (.int 1))) aNil)) (fBin gAdd (fBin gAdd (fBor 2) (fC (.int 1))) (fCallR 0 m_law_taken (aCons (fBin gSubI (fBor 3) (fBor 2)) aNil))))))
    (sDPut 6 (fTup (aCons (fVar 8) (aCons (fCallR 0 m_law_taken (aCons (fC (.int 2)) aNil)) aNil))) (fVar 9)))))
    (sRet (fTup (aCons (fVar 5) (aCons (fCall gTupOf (aCons (fCall gSortX (aCons (fOfX (xLc (fSeq (fCall gListOf (aCons (fBor 6) aNil))) (gtName 10) tYesF (fBin gAdd (fBor 10) (fTup (aCons (fBin gAt (fBor 6) (fBor 10)) aNil))) [10])) aNil)) aNil)) aNil)))))
def m_law_scene : List D → FRow → Option (D × FRow) := mkR 10 4 b_law_scene
def b_law_script : FS :=
    sSeq (sSet 4 (xVal (fBin gAdd (fC (.int 1)) (fCallR 0 m_law_taken (aCons (fVar 2) aNil)))))
    (sRet (fTup (aCons (fVar 1) (aCons (fBin gAdd (fCall gTupOf (aCons (fOfX (xLc (fRg1 (fVar 4)) (gtName 5) tYesF (fCallR 0 m_law_scene (aCons (fVar 1) (aCons (fVar 5) (aCons (fVar 4) (aCons (fVar 3) aNil))))) [5])) aNil)) (fTup (aCons (fC .none) aNil))) aNil))))
def m_law_script : List D → FRow → Option (D × FRow) := mkR 5 3 b_law_script
def b_law_lines (rec : List D → Option D) : FS :=
    sSeq (sIf (fTst (fBin gIsN (fBin gAt (fBin gAt (fBor 0) (fC (.int 1))) (fBor 1)) (fC .none))) (sRet (fLst (aCons (fTup aNil) aNil))) sNil)
    (sSeq (sSet 2 (xVal (fLst aNil)))
    (sSeq (sFor (fSeq (fBin gAt (fBin gAt (fBin gAt (fBor 0) (fC (.int 1))) (fBor 1)) (fC (.int 1)))) (gtName 3) (sSet 2 (xVal (fBin gAdd (fBor 2) (fOfX (xLc (fSeq (fCall rec (aCons (fVar 0) (aCons (fBin gAt (fBor 3) (fC (.int 2))) aNil)))) (gtName 4) tYesF (fBin gAdd (fTup (aCons (fBin gAdd (fTup (aCons (fBin gAt (fBin gAt (fBin gAt (fBor 0) (fC (.int 1))) (fBor 1)) (fC (.int 0))) aNil)) (fSl (fBor 3) oNone (oSome (fC (.int 2))))) aNil)) (fBor 4)) [4]))))))
    (sRet (fVar 2))))
def m_law_lines : Nat → List D → Option D
  | 0 => fun _ => none
  | k + 1 => mkF 5 2 (b_law_lines (m_law_lines k))
def b_law_alike (rec : List D → Option D) : FS :=
    sSeq (sIf (fTru (fIsi2 .tuple .list (fBor 1))) (sSeq (sIf (tOrF (tNotF (fTru (fIsi2 .tuple .list (fBor 0)))) (fTst (fBin gNe (fIsi .list (fBor 0)) (fIsi .list (fBor 1))))) (sRet (fC (.bool false))) sNil)
    (sSeq (sIf (fTst (fBin gNe (fCall gLen (aCons (fBor 0) aNil)) (fCall gLen (aCons (fBor 1) aNil)))) (sRet (fC (.bool false))) sNil)
    (sRet (fBin gEq (fOfX (xLc (fRg1 (fCall gLen (aCons (fBor 1) aNil))) (gtName 2) (tNotF (fTru (fCall rec (aCons (fBin gAt (fBor 0) (fBor 2)) (aCons (fBin gAt (fBor 1) (fBor 2)) aNil))))) (fVar 2) [2])) (fLst aNil))))) sNil)
    (sSeq (sIf (tOrF (fTst (fBin gIsN (fBor 1) (fC .none))) (fTru (fIsi .str (fBor 1)))) (sRet (fAnd (fBin gEq (fBor 0) (fBor 1)) (fBin gEq (fIsi .str (fBor 0)) (fIsi .str (fBor 1))))) sNil)
    (sRet (fAnd (fIsi .int (fBor 0)) (fAnd (fBin gEq (fIsi .bool (fBor 0)) (fIsi .bool (fBor 1))) (fBin gEq (fBor 0) (fBor 1))))))
def m_law_alike : Nat → List D → Option D
  | 0 => fun _ => none
  | k + 1 => mkF 3 2 (b_law_alike (m_law_alike k))
def b_has_items : FS :=
    sRet (fAnd (fIsi .tuple (fBor 0)) (fChain (gI yes2 fun i j => .bool (decide (i ≤ j))) (gI yes2 fun i j => .bool (decide (i ≤ j))) (fBor 1) (fCall gLen (aCons (fBor 0) aNil)) (fBor 2)))
def m_has_items : List D → Option D := mkF 3 3 b_has_items
def b_is_number : FS :=
    sRet (fAnd (fIsi .int (fBor 0)) (fAnd (fNot (fIsi .bool (fBor 0))) (fChain (gI yes2 fun i j => .bool (decide (i ≤ j))) (gI yes2 fun i j => .bool (decide (i ≤ j))) (fBor 1) (fBor 0) (fBor 2))))
def m_is_number : List D → Option D := mkF 3 3 b_is_number
def b_has_script_form : FS :=
    sSeq (sIf (tNotF (fTru (fCall m_has_items (aCons (fVar 0) (aCons (fC (.int 2)) (aCons (fC (.int 2)) aNil)))))) (sRet (fC (.bool false))) sNil)
    (sSeq (sUnp (fVar 0) (gtTup 2 (gtCons (gtName 1) (gtCons (gtName 2) gtNil))))
    (sRet (fAnd (fCall m_is_number (aCons (fVar 1) (aCons (fC (.int 2)) (aCons (fC (.int 4)) aNil)))) (fCall m_has_items (aCons (fVar 2) (aCons (fC (.int 1)) (aCons (fC (.int 8)) aNil)))))))
def m_has_script_form : List D → Option D := mkF 3 1 b_has_script_form
def b_is_rising : FS :=
    sRet (fCall gAll (aCons (fOfX (xLc (fRg1 (fBin gSubI (fCall gLen (aCons (fBor 0) aNil)) (fC (.int 1)))) (gtName 1) tYesF (fBin gLtX (fBin gAt (fBor 0) (fBor 1)) (fBin gAt (fBor 0) (fBin gAdd (fBor 1) (fC (.int 1))))) [1])) aNil))
def m_is_rising : List D → Option D := mkF 2 1 b_is_rising
def b_is_talk : FS :=
    sSeq (sIf (tNotF (fTru (fCall m_has_items (aCons (fVar 0) (aCons (fC (.int 3)) (aCons (fC (.int 3)) aNil)))))) (sRet (fC (.bool false))) sNil)
    (sSeq (sUnp (fVar 0) (gtTup 3 (gtCons (gtName 2) (gtCons (gtName 3) (gtCons (gtName 4) gtNil)))))
    (sSeq (sIf (tOrF (tNotF (fTru (fCall m_is_number (aCons (fVar 2) (aCons (fC (.int 0)) (aCons (fBin gSubI (fBor 1) (fC (.int 1))) aNil)))))) (tNotF (fTru (fCall m_is_number (aCons (fVar 3) (aCons (fC (.int 0)) (aCons (fBin gSubI (fBor 1) (fC (.int 1))) aNil))))))) (sRet (fC (.bool false))) sNil)
    (sRet (fAnd (fBin gNe (fBor 2) (fBor 3)) (fCall m_is_number (aCons (fVar 4) (aCons (fC (.int 0)) (aCons (fC (.int 5)) aNil))))))))
def m_is_talk : List D → Option D := mkF 5 2 b_is_talk
def b_is_branch : FS :=
    sSeq (sIf (tNotF (fTru (fCall m_has_items (aCons (fVar 0) (aCons (fC (.int 3)) (aCons (fC (.int 3)) aNil)))))) (sRet (fC (.bool false))) sNil)
    (sSeq (sUnp (fVar 0) (gtTup 3 (gtCons (gtName 4) (gtCons (gtName 5) (gtCons (gtName 6) gtNil)))))
    (sRet (fAnd (fCall m_is_talk (aCons (fTup (aCons (fVar 1) (aCons (fVar 4) (aCons (fVar 5) aNil)))) (aCons (fVar 2) aNil))) (fCall m_is_number (aCons (fVar 6) (aCons (fC (.int 0)) (aCons (fBin gSubI (fBor 3) (fC (.int 1))) aNil)))))))
def m_is_branch : List D → Option D := mkF 7 4 b_is_branch
def b_is_scene : FS :=
    sSeq (sIf (fTst (fBin gIsN (fBor 0) (fC .none))) (sRet (fC (.bool true))) sNil)
    (sSeq (sIf (tNotF (fTru (fCall m_has_items (aCons (fVar 0) (aCons (fC (.int 2)) (aCons (fC (.int 2)) aNil)))))) (sRet (fC (.bool false))) sNil)
    (sSeq (sUnp (fVar 0) (gtTup 2 (gtCons (gtName 3) (gtCons (gtName 4) gtNil))))
    (sSeq (sIf (tOrF (tNotF (fTru (fIsi .tuple (fBor 4)))) (fTst (fBin gEq (fCall gLen (aCons (fBor 4) aNil)) (fC (.int 0))))) (sRet (fC (.bool false))) sNil)
    (sSeq (sIf (tNotF (fTru (fCall gAll (aCons (fOfX (xLc (fSeq (fVar 4)) (gtName 5) tYesF (fCall m_is_branch (aCons (fVar 5) (aCons (fVar 3) (aCons (fVar 1) (aCons (fVar 2) aNil))))) [5])) aNil)))) (sRet (fC (.bool false))) sNil)
    (sRet (fCall m_is_rising (aCons (fOfX (xLc (fSeq (fVar 4)) (gtName 5) tYesF (fSl (fBor 5) oNone (oSome (fC (.int 2)))) [5])) aNil)))))))
def m_is_scene : List D → Option D := mkF 6 3 b_is_scene
def b_check_script : FS :=
    sSeq (sIf (tNotF (fTru (fCall m_has_script_form (aCons (fVar 0) aNil)))) sNo sNil)
    (sSeq (sUnp (fVar 0) (gtTup 2 (gtCons (gtName 1) (gtCons (gtName 2) gtNil))))
    (sFor (fEn (fVar 2)) (gtTup 2 (gtCons (gtName 3) (gtCons (gtName 4) gtNil))) (sIf (tNotF (fTru (fCall m_is_scene (aCons (fVar 4) (aCons (fVar 1) (aCons (fCall gLen (aCons (fBor 2) aNil)) aNil)))))) sNo sNil)))
def m_check_script : List D → Option D := mkF 5 1 b_check_script
def b_check_scene : FS :=
    sIf (tNotF (fTru (fCall m_is_number (aCons (fVar 0) (aCons (fC (.int 0)) (aCons (fBin gSubI (fCall gLen (aCons (fBin gAt (fBor 1) (fC (.int 1))) aNil)) (fC (.int 1))) aNil)))))) sNo sNil
def m_check_scene : List D → Option D := mkF 2 2 b_check_scene
def b_check_actor : FS :=
    sIf (tNotF (fTru (fCall m_is_number (aCons (fVar 0) (aCons (fC (.int 0)) (aCons (fBin gSubI (fBor 1) (fC (.int 1))) aNil)))))) sNo sNil
def m_check_actor : List D → Option D := mkF 2 2 b_check_actor
def b_with_one : FS :=
    sRet (fCall gTupOf (aCons (fSrtS (nSetT (fBin gAdd (fBor 0) (fTup (aCons (fVar 1) aNil))))) aNil))
def m_with_one : List D → Option D := mkF 2 2 b_with_one
def b_moments_behind : FS :=
    sSeq (sUnp (fVar 1) (gtTup 3 (gtCons (gtName 3) (gtCons (gtName 4) (gtCons (gtName 5) gtNil)))))
    (sSeq (sSet 6 (xLst aNil))
    (sSeq (sFor (fSeq (fBin gAt (fBor 0) (fBor 3))) (gtTup 2 (gtCons (gtName 7) (gtCons (gtName 8) gtNil))) (sSeq (sUnp (fVar 7) (gtTup 3 (gtCons (gtName 9) (gtCons (gtName 10) (gtCons (gtName 11) gtNil)))))
    (sSeq (sSet 12 (xVal (fIf (fTst (fBin gInA (fBor 9) (fBor 4))) (fCall m_with_one (aCons (fVar 4) (aCons (fVar 10) aNil))) (fVar 4))))
    (sSeq (sSet 13 (xVal (fIf (fTst (fBin gEq (fBor 10) (fBor 2))) (fCall m_with_one (aCons (fVar 5) (aCons (fVar 9) aNil))) (fVar 5))))
    (sApp 6 (fTup (aCons (fVar 7) (aCons (fTup (aCons (fVar 8) (aCons (fVar 12) (aCons (fVar 13) aNil)))) aNil))))))))
    (sFrz 6 (sRet (fVar 6)))))
def m_moments_behind : List D → Option D := mkF 14 3 b_moments_behind
def b_letters_from : FS :=
    sSeq (sUnp (fLam gGrown (fTup (aCons (fVar 1) (aCons (fTup (aCons (fVar 2) aNil)) (aCons (fTup aNil) aNil)))) (fC .none) [2, 0] 3 1 (fCall m_moments_behind (aCons (fVar 2) (aCons (fVar 0) (aCons (fVar 1) aNil))))) (gtTup 2 (gtCons (gtName 3) (gtCons (gtName 4) gtNil))))
    (sSeq (sSet 5 (xNew (.dt [])))
    (sSeq (sFor (fZip (fVar 3) (fVar 4)) (gtTup 2 (gtCons (gtTup 3 (gtCons (gtName 6) (gtCons (gtName 7) (gtCons (gtName 8) gtNil)))) (gtCons (gtName 9) gtNil))) (sFor (fSeq (fVar 9)) (gtTup 2 (gtCons (gtTup 3 (gtCons (gtName 10) (gtCons (gtName 11) (gtCons (gtName 12) gtNil)))) (gtCons (gtName 6) gtNil))) (sIf (tAndF (fTst (fBin gEq (fBor 11) (fBor 2))) (fTst (fBin gNotInA (fBor 10) (fBin gAdd (fBor 7) (fBor 8))))) (sDPut 5 (fTup (aCons (fVar 10) (aCons (fVar 12) aNil))) (fC (.bool true))) sNil)))
    (sRet (fCall gTupOf (aCons (fCall gSortY (aCons (fBor 5) aNil)) aNil)))))
def m_letters_from : List D → Option D := mkF 13 3 b_letters_from
def b_talks_from : FS :=
    sSeq (sIf (fTst (fBin gIsN (fBor 0) (fC .none))) (sRet (fLst aNil)) sNil)
    (sSeq (sUnp (fVar 0) (gtTup 2 (gtCons (gtName 1) (gtCons (gtName 2) gtNil))))
    (sRet (fOfX (xLc (fSeq (fVar 2)) (gtTup 3 (gtCons (gtName 3) (gtCons (gtName 4) (gtCons (gtName 5) gtNil)))) tYesF (fTup (aCons (fTup (aCons (fVar 1) (aCons (fVar 3) (aCons (fVar 4) aNil)))) (aCons (fVar 5) aNil))) [3, 4, 5]))))
def m_talks_from : List D → Option D := mkF 6 1 b_talks_from
def b_talk_web : FS :=
    sRet (fOfX (xLc (fSeq (fBin gAt (fBor 0) (fC (.int 1)))) (gtName 1) tYesF (fCall m_talks_from (aCons (fVar 1) aNil)) [1]))
def m_talk_web : List D → Option D := mkF 2 1 b_talk_web
def b_first_letters : FS :=
    sSeq (sDrop (fCall m_check_script (aCons (fVar 0) aNil)))
    (sSeq (sDrop (fCall m_check_scene (aCons (fVar 1) (aCons (fVar 0) aNil))))
    (sSeq (sDrop (fCall m_check_actor (aCons (fVar 2) (aCons (fBin gAt (fBor 0) (fC (.int 0))) aNil))))
    (sRet (fCall m_letters_from (aCons (fCall m_talk_web (aCons (fVar 0) aNil)) (aCons (fVar 1) (aCons (fVar 2) aNil)))))))
def m_first_letters : List D → Option D := mkF 3 3 b_first_letters
def b_law : FS :=
    sSeq (sSet 2 (xVal (fCallR 1 m_law_script (aCons (fBin gAdd (fC (.int 2)) (fCallR 1 m_law_taken (aCons (fC (.int 3)) aNil))) (aCons (fC (.int 5)) (aCons (fC (.bool false)) aNil))))))
    (sSeq (sFor (fRg1 (fCall gLen (aCons (fBin gAt (fBor 2) (fC (.int 1))) aNil))) (gtName 3) (sFor (fRg1 (fBin gAt (fBor 2) (fC (.int 0)))) (gtName 4) (sSeq (sSet 5 (xNew (.dt [])))
    (sSeq (sFor (fSeq (fCall (m_law_lines 9) (aCons (fVar 2) (aCons (fVar 3) aNil)))) (gtName 6) (sSeq (sPars [7, 8] (xsCons (xLst (aCons (fVar 4) aNil)) (xsCons (xLst aNil) xsNil)))
    (sFor (fSeq (fVar 6)) (gtTup 3 (gtCons (gtName 9) (gtCons (gtName 10) (gtCons (gtName 11) gtNil)))) (sIf (fTst (fBin gInA (fBor 9) (fBor 7))) (sApp 7 (fVar 10)) (sIf (fTst (fBin gEq (fBor 10) (fBor 4))) (sSeq (sIf (fTst (fBin gNotInA (fBor 9) (fBor 8))) (sDPut 5 (fTup (aCons (fVar 9) (aCons (fVar 11) aNil))) (fC (.bool true))) sNil)
    (sApp 8 (fVar 9))) sNil)))))
    (sIf (tNotF (fTru (fCall (m_law_alike 9) (aCons (fCall m_first_letters (aCons (fVar 2) (aCons (fVar 3) (aCons (fVar 4) aNil)))) (aCons (fCall gTupOf (aCons (fCall gSortX (aCons (fCall gListOf (aCons (fBor 5) aNil)) aNil)) aNil)) aNil))))) (sRet (fC (.bool false))) sNil)))))
    (sRet (fC (.bool true))))
end Lw

namespace Lw
open PySem PySem.Spec PyProof.Rows L2 RT

def topS (i : Nat) : Stmt := PySem.Challenge.pw_roletalks_k08_whole_first_letters.main.body.getD i (.Pass ⟨0, 0, 0, 0⟩)
theorem v_all : bootBuiltins "all" = some (.builtin "all") := by decide +kernel
theorem v_bool : bootBuiltins "bool" = some (.type "bool") := by decide +kernel
theorem v_enumerate : bootBuiltins "enumerate" = some (.type "enumerate") := by decide +kernel
theorem v_int : bootBuiltins "int" = some (.type "int") := by decide +kernel
theorem v_isinstance : bootBuiltins "isinstance" = some (.builtin "isinstance") := by decide +kernel
theorem v_len : bootBuiltins "len" = some (.builtin "len") := by decide +kernel
theorem v_list : bootBuiltins "list" = some (.type "list") := by decide +kernel
theorem v_range : bootBuiltins "range" = some (.type "range") := by decide +kernel
theorem v_set : bootBuiltins "set" = some (.type "set") := by decide +kernel
theorem v_sorted : bootBuiltins "sorted" = some (.builtin "sorted") := by decide +kernel
theorem v_str : bootBuiltins "str" = some (.type "str") := by decide +kernel
theorem v_tuple : bootBuiltins "tuple" = some (.type "tuple") := by decide +kernel
theorem v_zip : bootBuiltins "zip" = some (.type "zip") := by decide +kernel
abbrev s_law_taken : Stmt := topS 31
abbrev N_law_taken : List Str := ["row", "many", "found", "cell"]
theorem sc_law_taken : FnScope N_law_taken ["row", "many"] (defScope s_law_taken) := ⟨rfl, rfl, rfl, by decide +kernel, rfl, by decide +kernel, by decide +kernel⟩
abbrev s_law_scene : Stmt := topS 33
abbrev N_law_scene : List Str := ["row", "actors", "at", "size", "loops", "speaker", "heads", "turn", "hearer", "spot", "head"]
theorem sc_law_scene : FnScope N_law_scene ["row", "actors", "at", "size", "loops"] (defScope s_law_scene) := ⟨rfl, rfl, rfl, by decide +kernel, rfl, by decide +kernel, by decide +kernel⟩
abbrev s_law_script : Stmt := topS 34
abbrev N_law_script : List Str := ["row", "actors", "most", "loops", "size", "at"]
theorem sc_law_script : FnScope N_law_script ["row", "actors", "most", "loops"] (defScope s_law_script) := ⟨rfl, rfl, rfl, by decide +kernel, rfl, by decide +kernel, by decide +kernel⟩
abbrev s_law_lines : Stmt := topS 35
abbrev N_law_lines : List Str := ["play", "scene", "found", "branch", "tail"]
theorem sc_law_lines : FnScope N_law_lines ["play", "scene"] (defScope s_law_lines) := ⟨rfl, rfl, rfl, by decide +kernel, rfl, by decide +kernel, by decide +kernel⟩
abbrev s_law_alike : Stmt := topS 32
abbrev N_law_alike : List Str := ["found", "due", "k"]
theorem sc_law_alike : FnScope N_law_alike ["found", "due"] (defScope s_law_alike) := ⟨rfl, rfl, rfl, by decide +kernel, rfl, by decide +kernel, by decide +kernel⟩
abbrev s_has_items : Stmt := topS 9
abbrev N_has_items : List Str := ["value", "least", "most"]
theorem sc_has_items : FnScope N_has_items ["value", "least", "most"] (defScope s_has_items) := ⟨rfl, rfl, rfl, by decide +kernel, rfl, by decide +kernel, by decide +kernel⟩
abbrev s_is_number : Stmt := topS 8
abbrev N_is_number : List Str := ["value", "least", "most"]
theorem sc_is_number : FnScope N_is_number ["value", "least", "most"] (defScope s_is_number) := ⟨rfl, rfl, rfl, by decide +kernel, rfl, by decide +kernel, by decide +kernel⟩
abbrev s_has_script_form : Stmt := topS 18
abbrev N_has_script_form : List Str := ["value", "actors", "scenes"]
theorem sc_has_script_form : FnScope N_has_script_form ["value"] (defScope s_has_script_form) := ⟨rfl, rfl, rfl, by decide +kernel, rfl, by decide +kernel, by decide +kernel⟩
abbrev s_is_rising : Stmt := topS 10
abbrev N_is_rising : List Str := ["values", "at"]
theorem sc_is_rising : FnScope N_is_rising ["values"] (defScope s_is_rising) := ⟨rfl, rfl, rfl, by decide +kernel, rfl, by decide +kernel, by decide +kernel⟩
abbrev s_is_talk : Stmt := topS 21
abbrev N_is_talk : List Str := ["value", "actors", "speaker", "hearer", "word"]
theorem sc_is_talk : FnScope N_is_talk ["value", "actors"] (defScope s_is_talk) := ⟨rfl, rfl, rfl, by decide +kernel, rfl, by decide +kernel, by decide +kernel⟩
abbrev s_is_branch : Stmt := topS 20
abbrev N_is_branch : List Str := ["value", "speaker", "actors", "many", "hearer", "word", "there"]
theorem sc_is_branch : FnScope N_is_branch ["value", "speaker", "actors", "many"] (defScope s_is_branch) := ⟨rfl, rfl, rfl, by decide +kernel, rfl, by decide +kernel, by decide +kernel⟩
abbrev s_is_scene : Stmt := topS 19
abbrev N_is_scene : List Str := ["value", "actors", "many", "speaker", "branches", "branch"]
theorem sc_is_scene : FnScope N_is_scene ["value", "actors", "many"] (defScope s_is_scene) := ⟨rfl, rfl, rfl, by decide +kernel, rfl, by decide +kernel, by decide +kernel⟩
abbrev s_check_script : Stmt := topS 17
abbrev N_check_script : List Str := ["script", "actors", "scenes", "index", "scene"]
theorem sc_check_script : FnScope N_check_script ["script"] (defScope s_check_script) := ⟨rfl, rfl, rfl, by decide +kernel, rfl, by decide +kernel, by decide +kernel⟩
abbrev s_check_scene : Stmt := topS 22
abbrev N_check_scene : List Str := ["scene", "script"]
theorem sc_check_scene : FnScope N_check_scene ["scene", "script"] (defScope s_check_scene) := ⟨rfl, rfl, rfl, by decide +kernel, rfl, by decide +kernel, by decide +kernel⟩
abbrev s_check_actor : Stmt := topS 11
abbrev N_check_actor : List Str := ["value", "actors"]
theorem sc_check_actor : FnScope N_check_actor ["value", "actors"] (defScope s_check_actor) := ⟨rfl, rfl, rfl, by decide +kernel, rfl, by decide +kernel, by decide +kernel⟩
abbrev s_grown : Stmt := topS 12
abbrev N_grown : List Str := ["start", "steps_from", "most", "things", "places", "web", "steps", "_", "there", "mark"]
theorem sc_grown : FnScope N_grown ["start", "steps_from", "most"] (defScope s_grown) := ⟨rfl, rfl, rfl, by decide +kernel, rfl, by decide +kernel, by decide +kernel⟩
abbrev s_with_one : Stmt := topS 29
abbrev N_with_one : List Str := ["actors", "actor"]
theorem sc_with_one : FnScope N_with_one ["actors", "actor"] (defScope s_with_one) := ⟨rfl, rfl, rfl, by decide +kernel, rfl, by decide +kernel, by decide +kernel⟩
abbrev s_moments_behind : Stmt := topS 28
abbrev N_moments_behind : List Str := ["web", "moment", "actor", "scene", "still", "told", "found", "talk", "there", "speaker", "hearer", "_", "still_then", "told_then"]
theorem sc_moments_behind : FnScope N_moments_behind ["web", "moment", "actor"] (defScope s_moments_behind) := ⟨rfl, rfl, rfl, by decide +kernel, rfl, by decide +kernel, by decide +kernel⟩
abbrev s_letters_from : Stmt := topS 27
abbrev N_letters_from : List Str := ["web", "scene", "actor", "moments", "talks", "found", "_", "still", "told", "steps", "speaker", "hearer", "word"]
theorem sc_letters_from : FnScope N_letters_from ["web", "scene", "actor"] (defScope s_letters_from) := ⟨rfl, rfl, rfl, by decide +kernel, rfl, by decide +kernel, by decide +kernel⟩
abbrev s_talks_from : Stmt := topS 23
abbrev N_talks_from : List Str := ["scene", "speaker", "branches", "hearer", "word", "there"]
theorem sc_talks_from : FnScope N_talks_from ["scene"] (defScope s_talks_from) := ⟨rfl, rfl, rfl, by decide +kernel, rfl, by decide +kernel, by decide +kernel⟩
abbrev s_talk_web : Stmt := topS 24
abbrev N_talk_web : List Str := ["script", "scene"]
theorem sc_talk_web : FnScope N_talk_web ["script"] (defScope s_talk_web) := ⟨rfl, rfl, rfl, by decide +kernel, rfl, by decide +kernel, by decide +kernel⟩
abbrev s_first_letters : Stmt := topS 26
abbrev N_first_letters : List Str := ["script", "scene", "actor"]
theorem sc_first_letters : FnScope N_first_letters ["script", "scene", "actor"] (defScope s_first_letters) := ⟨rfl, rfl, rfl, by decide +kernel, rfl, by decide +kernel, by decide +kernel⟩
abbrev s_law : Stmt := topS 36
abbrev N_law : List Str := ["script", "row", "play", "scene", "actor", "due", "line", "still", "sent", "speaker", "hearer", "word"]
theorem sc_law : FnScope N_law ["script"] (defScope s_law) := ⟨rfl, rfl, rfl, by decide +kernel, rfl, by decide +kernel, by decide +kernel⟩
section
variable {P : Program} {w : World} {K : PySem.W.Frag} {mg : Str → Option Value} {base : Heap}
theorem ok_law_taken {f : Addr} {fd : FuncData} {k : Nat} (F : Fun K "_law_taken" "_law_taken" s_law_taken f fd) (z_int : mg "int" = none) (z_len : mg "len" = none) : FnOk P w K mg base CX0 (k + 1) f fd ["row", "many"] (spR K m_law_taken) := by
  refine RT.ok_fnR F sc_law_taken (by decide) (by decide) (fun cdv A outer s H E hr => ?_)
  unfold b_law_taken
  exact sss_cons (ss_if (st_cmp od_gt (sb_of (se_row (i := 0))) (sb_of se_int) (nomark _)) (sss_cons (ss_set (i := 2) (sc_law_taken.nd) rfl (by first | exact Or.inl rfl | exact Or.inr rfl) (sx_of (se_op od_mod (sb_of (se_callTy cd_int (by rfl) z_int v_int (sbs_cons (sb_of (se_row (i := 0))) sbs_nil))) (sb_var 1))))
      (sss_cons (ss_row (i := 0) (se_op od_div (sb_of (se_row (i := 0))) (sb_var 1)))
      (sss_one (ss_ret (se_var 2))))) sss_nil)
      (sss_cons (ss_row (i := 0) (se_op od_addA (sb_of (se_row (i := 0))) (sb_of se_int)))
      (sss_cons (ss_if (st_cmp od_gt (sb_of (se_row (i := 0))) (sb_of (se_rowlen (i := 0) (by rfl) z_len)) (nomark _)) (sss_cons (ss_row (i := 0) (se_op od_mod (sb_of (se_callTy cd_int (by rfl) z_int v_int (sbs_cons (sb_of (se_op od_addA (sb_of (se_op od_mulA (sb_of (se_row (i := 0))) (sb_of se_int))) (sb_of se_int))) sbs_nil))) (sb_of se_int)))
      (sss_one (ss_ret (se_op od_mod (sb_of (se_callTy cd_int (by rfl) z_int v_int (sbs_cons (sb_of (se_op od_div (sb_of (se_row (i := 0))) (sb_of se_int))) sbs_nil))) (sb_var 1))))) sss_nil)
      (sss_cons (ss_set (i := 3) (sc_law_taken.nd) rfl (by first | exact Or.inl rfl | exact Or.inr rfl) (sx_of (se_rowat (i := 0) (se_op od_sub (sb_of (se_row (i := 0))) (sb_of se_int)))))
      (sss_cons (ss_row (i := 0) (se_op od_mod (sb_of (se_callTy cd_int (by rfl) z_int v_int (sbs_cons (sb_of (se_op od_addA (sb_of (se_op od_addA (sb_of (se_op od_mulA (sb_of (se_row (i := 0))) (sb_of se_int))) (sb_var 3))) (sb_of se_int))) sbs_nil))) (sb_of se_int)))
      (sss_cons (ss_if (st_cmp od_ge (sb_var 3) (sb_of (se_op od_pow (sb_of se_int) (sb_of se_int))) (nomark _)) (sss_one (ss_row (i := 0) (se_op od_div (sb_var 3) (sb_var 1)))) sss_nil)
      (sss_one (ss_ret (se_op od_mod (sb_of (se_callTy cd_int (by rfl) z_int v_int (sbs_cons (sb_var 3) sbs_nil))) (sb_var 1)))))))))
theorem ok_law_scene {f : Addr} {fd : FuncData} {k : Nat} (F : Fun K "_law_scene" "_law_scene" s_law_scene f fd) (c_law_taken : Callee P w K mg base k "_law_taken" (spR K m_law_taken)) (z_tuple : mg "tuple" = none) (z_sorted : mg "sorted" = none) (z_list : mg "list" = none) (z_range : mg "range" = none) (z_int : mg "int" = none) : FnOk P w K mg base CX0 (k + 1) f fd ["row", "actors", "at", "size", "loops"] (spR K m_law_scene) := by
  refine RT.ok_fnR F sc_law_scene (by decide) (by decide) (fun cdv A outer s H E hr => ?_)
  unfold b_law_scene
  exact sss_cons (ss_parT (is := [5, 6]) rfl (sc_law_scene.nd) (.cons rfl (by first | exact Or.inl rfl | exact Or.inr rfl) (Or.inl rfl) rfl (.cons rfl (by first | exact Or.inl rfl | exact Or.inr rfl) (Or.inl rfl) rfl .nil)) (sxs_cons (sx_of (se_callR (i := 0) c_law_taken hr (by rfl) (sa_cons (se_var 1) sa_nil))) (sxs_cons sx_dT sxs_nil)) (by decide) rfl rfl rfl rfl rfl)
      (sss_cons (ss_for PassesOwn.never rfl (si_rg1 (by rfl) z_range (se_op od_addA (sb_of se_int) (sb_of (se_callR (i := 0) c_law_taken hr (by rfl) (sa_cons se_int sa_nil))))) (sg_name 7 (vs := [7]) (sc_law_scene.nd) rfl (by first | exact Or.inl rfl | exact Or.inr rfl) (by decide)) (sss_cons (ss_set (i := 8) (sc_law_scene.nd) rfl (by first | exact Or.inl rfl | exact Or.inr rfl) (sx_of (se_op od_mod (sb_of (se_callTy cd_int (by rfl) z_int v_int (sbs_cons (sb_of (se_op od_addA (sb_of (se_op od_addA (sb_var 5) (sb_of se_int))) (sb_of (se_callR (i := 0) c_law_taken hr (by rfl) (sa_cons (se_op od_sub (sb_var 1) (sb_of se_int)) sa_nil))))) sbs_nil))) (sb_var 1))))
      (sss_cons (ss_set (i := 9) (sc_law_scene.nd) rfl (by first | exact Or.inl rfl | exact Or.inr rfl) (sx_of (se_if (st_tru (sb_var 4)) (se_callR (i := 0) c_law_taken hr (by rfl) (sa_cons (se_op od_addA (sb_var 3) (sb_of se_int)) sa_nil)) (se_op od_addA (sb_of (se_op od_addA (sb_var 2) (sb_of se_int))) (sb_of (se_callR (i := 0) c_law_taken hr (by rfl) (sa_cons (se_op od_sub (sb_var 3) (sb_var 2)) sa_nil)))))))
      (sss_one (ss_dput (i := 6) (hu_of hr) (se_var 9) (se_tup (sa_cons (se_var 8) (sa_cons (se_callR (i := 0) c_law_taken hr (by rfl) (sa_cons se_int sa_nil)) sa_nil))))))))
      (sss_one (ss_ret (se_tup (sa_cons (se_var 5) (sa_cons (se_callTy cd_tuple (by rfl) z_tuple v_tuple (sbs_cons (sb_of (se_callB (cd_sortX (room66 hr)) (by rfl) z_sorted v_sorted (sbs_cons (sb_of (se_ofX (sx_lc (own := [("head", 10)]) rfl (sc_law_scene.nd) (si_seq (se_callTy (cd_list rfl) (by rfl) z_list v_list (sbs_cons (sb_var 6) sbs_nil))) (blkOk_by (own := [("head", 10)]) (N := N_law_scene) (sc := defScope s_law_scene) (by decide +kernel)) (fun _ _ _ _ _ => sg_name 10 (vs := [10]) (sc_law_scene.nd) rfl (by first | exact Or.inl rfl | exact Or.inr rfl) (by decide)) (fun _ _ _ _ _ => sts_nil) (fun _ _ _ _ _ => se_op od_addA (sb_var 10) (sb_of (se_tup (sa_cons (se_at (hu_of hr) (sb_var 6) (sb_var 10)) sa_nil))))))) sbs_nil))) sbs_nil)) sa_nil))))))
theorem ok_law_script {f : Addr} {fd : FuncData} {k : Nat} (F : Fun K "_law_script" "_law_script" s_law_script f fd) (c_law_scene : Callee P w K mg base k "_law_scene" (spR K m_law_scene)) (c_law_taken : Callee P w K mg base k "_law_taken" (spR K m_law_taken)) (z_tuple : mg "tuple" = none) (z_range : mg "range" = none) : FnOk P w K mg base CX0 (k + 1) f fd ["row", "actors", "most", "loops"] (spR K m_law_script) := by
  refine RT.ok_fnR F sc_law_script (by decide) (by decide) (fun cdv A outer s H E hr => ?_)
  unfold b_law_script
  exact sss_cons (ss_set (i := 4) (sc_law_script.nd) rfl (by first | exact Or.inl rfl | exact Or.inr rfl) (sx_of (se_op od_addA (sb_of se_int) (sb_of (se_callR (i := 0) c_law_taken hr (by rfl) (sa_cons (se_var 2) sa_nil))))))
      (sss_one (ss_ret (se_tup (sa_cons (se_var 1) (sa_cons (se_op od_addA (sb_of (se_callTy cd_tuple (by rfl) z_tuple v_tuple (sbs_cons (sb_of (se_ofX (sx_lc (own := [("at", 5)]) rfl (sc_law_script.nd) (si_rg1 (by rfl) z_range (se_var 4)) (blkOk_by (own := [("at", 5)]) (N := N_law_script) (sc := defScope s_law_script) (by decide +kernel)) (fun _ _ _ _ _ => sg_name 5 (vs := [5]) (sc_law_script.nd) rfl (by first | exact Or.inl rfl | exact Or.inr rfl) (by decide)) (fun _ _ _ _ _ => sts_nil) (fun _ _ _ _ _ => se_callR (i := 0) c_law_scene hr (by rfl) (sa_cons (se_var 1) (sa_cons (se_var 5) (sa_cons (se_var 4) (sa_cons (se_var 3) sa_nil)))))))) sbs_nil))) (sb_of (se_tup (sa_cons se_non sa_nil)))) sa_nil)))))
theorem okr_law_lines {f : Addr} {fd : FuncData} {k : Nat} {rec : List D → Option D} (F : Fun K "_law_lines" "_law_lines" s_law_lines f fd) (c_law_lines : Callee P w K mg base k "_law_lines" (spF K rec)) : FnOk P w K mg base CX0 (k + 1) f fd ["play", "scene"] (spF K (mkF 5 2 (b_law_lines rec))) := by
  refine RT.ok_fn F sc_law_lines (fun cdv A outer s H E hr => ?_)
  unfold b_law_lines
  exact sss_cons (ss_if (st_cmp od_isN (sb_of (se_at (hu_of hr) (sb_of (se_at (hu_of hr) (sb_var 0) (sb_of se_int))) (sb_var 1))) (sb_of se_non) (nomark _)) (sss_one (ss_ret (se_lst (sa_cons (se_tup sa_nil) sa_nil)))) sss_nil)
      (sss_cons (ss_set (i := 2) (sc_law_lines.nd) rfl (by first | exact Or.inl rfl | exact Or.inr rfl) (sx_of (se_lst sa_nil)))
      (sss_cons (ss_for PassesOwn.never rfl (si_seq (se_at (hu_of hr) (sb_of (se_at (hu_of hr) (sb_of (se_at (hu_of hr) (sb_var 0) (sb_of se_int))) (sb_var 1))) (sb_of se_int))) (sg_name 3 (vs := [3]) (sc_law_lines.nd) rfl (by first | exact Or.inl rfl | exact Or.inr rfl) (by decide)) (sss_one (ss_set (i := 2) (sc_law_lines.nd) rfl (by first | exact Or.inl rfl | exact Or.inr rfl) (sx_of (se_op od_addA (sb_var 2) (sb_of (se_ofX (sx_lc (own := [("tail", 4)]) rfl (sc_law_lines.nd) (si_seq (se_call c_law_lines hr (by rfl) (sa_cons (se_var 0) (sa_cons (se_at (hu_of hr) (sb_var 3) (sb_of se_int)) sa_nil)))) (blkOk_by (own := [("tail", 4)]) (N := N_law_lines) (sc := defScope s_law_lines) (by decide +kernel)) (fun _ _ _ _ _ => sg_name 4 (vs := [4]) (sc_law_lines.nd) rfl (by first | exact Or.inl rfl | exact Or.inr rfl) (by decide)) (fun _ _ _ _ _ => sts_nil) (fun _ _ _ _ _ => se_op od_addA (sb_of (se_tup (sa_cons (se_op od_addA (sb_of (se_tup (sa_cons (se_at (hu_of hr) (sb_of (se_at (hu_of hr) (sb_of (se_at (hu_of hr) (sb_var 0) (sb_of se_int))) (sb_var 1))) (sb_of se_int)) sa_nil))) (sb_of (se_sl (sb_var 3) so_none (so_some se_int)))) sa_nil))) (sb_var 4))))))))))
      (sss_one (ss_ret (se_var 2)))))
theorem ok_law_lines {f : Addr} {fd : FuncData} {k : Nat} (F : Fun K "_law_lines" "_law_lines" s_law_lines f fd) (hm : mg "_law_lines" = some (.ref f)) (hb : Binds K fd ["play", "scene"] []) : ∀ n : Nat, FnOk P w K mg base CX0 (k + n) f fd ["play", "scene"] (spF K (m_law_lines n))
  | 0 => ok_none
  | n + 1 => okr_law_lines (k := k + n) F ⟨f, fd, _, ok_law_lines F hm hb n, hm, F.kp, hb⟩
theorem okr_law_alike {f : Addr} {fd : FuncData} {k : Nat} {rec : List D → Option D} (F : Fun K "_law_alike" "_law_alike" s_law_alike f fd) (c_law_alike : Callee P w K mg base k "_law_alike" (spF K rec)) (z_isinstance : mg "isinstance" = none) (z_bool : mg "bool" = none) (z_int : mg "int" = none) (z_str : mg "str" = none) (z_tuple : mg "tuple" = none) (z_list : mg "list" = none) (z_range : mg "range" = none) (z_len : mg "len" = none) : FnOk P w K mg base CX0 (k + 1) f fd ["found", "due"] (spF K (mkF 3 2 (b_law_alike rec))) := by
  refine RT.ok_fn F sc_law_alike (fun cdv A outer s H E hr => ?_)
  unfold b_law_alike
  exact sss_cons (ss_if (st_tru (sb_of (se_isi2 (T := .tuple) (U := .list) (by rfl) z_isinstance (sb_var 1) (by rfl) z_tuple v_tuple (by rfl) z_list v_list))) (sss_cons (ss_if (st_w (sw_or (st_not (st_tru (sb_of (se_isi2 (T := .tuple) (U := .list) (by rfl) z_isinstance (sb_var 0) (by rfl) z_tuple v_tuple (by rfl) z_list v_list)))) (sw_or1 (st_cmp (od_ne hr.units) (sb_of (se_isi (T := .list) (by rfl) z_isinstance (sb_var 0) (by rfl) z_list v_list)) (sb_of (se_isi (T := .list) (by rfl) z_isinstance (sb_var 1) (by rfl) z_list v_list)) (nomark _))))) (sss_one (ss_ret se_bl)) sss_nil)
      (sss_cons (ss_if (st_cmp (od_ne hr.units) (sb_of (se_callB cd_len (by rfl) z_len v_len (sbs_cons (sb_var 0) sbs_nil))) (sb_of (se_callB cd_len (by rfl) z_len v_len (sbs_cons (sb_var 1) sbs_nil))) (nomark _)) (sss_one (ss_ret se_bl)) sss_nil)
      (sss_one (ss_ret (se_cmp (od_eq hr.units) (sb_of (se_ofX (sx_lc (own := [("k", 2)]) rfl (sc_law_alike.nd) (si_rg1 (by rfl) z_range (se_callB cd_len (by rfl) z_len v_len (sbs_cons (sb_var 1) sbs_nil))) (blkOk_by (own := [("k", 2)]) (N := N_law_alike) (sc := defScope s_law_alike) (by decide +kernel)) (fun _ _ _ _ _ => sg_name 2 (vs := [2]) (sc_law_alike.nd) rfl (by first | exact Or.inl rfl | exact Or.inr rfl) (by decide)) (fun _ _ _ _ _ => sts_one (st_not (st_tru (sb_of (se_call c_law_alike hr (by rfl) (sa_cons (se_at (hu_of hr) (sb_var 0) (sb_var 2)) (sa_cons (se_at (hu_of hr) (sb_var 1) (sb_var 2)) sa_nil))))))) (fun _ _ _ _ _ => se_var 2)))) (sb_of (se_lst sa_nil)) (nomark _)))))) sss_nil)
      (sss_cons (ss_if (st_w (sw_or (st_cmp od_isN (sb_var 1) (sb_of se_non) (nomark _)) (sw_or1 (st_tru (sb_of (se_isi (T := .str) (by rfl) z_isinstance (sb_var 1) (by rfl) z_str v_str)))))) (sss_one (ss_ret (se_and (se_cmp (od_eq hr.units) (sb_var 0) (sb_var 1) (nomark _)) (se_one (se_cmp (od_eq hr.units) (sb_of (se_isi (T := .str) (by rfl) z_isinstance (sb_var 0) (by rfl) z_str v_str)) (sb_of (se_isi (T := .str) (by rfl) z_isinstance (sb_var 1) (by rfl) z_str v_str)) (nomark _)))))) sss_nil)
      (sss_one (ss_ret (se_and (se_isi (T := .int) (by rfl) z_isinstance (sb_var 0) (by rfl) z_int v_int) (se_and (se_cmp (od_eq hr.units) (sb_of (se_isi (T := .bool) (by rfl) z_isinstance (sb_var 0) (by rfl) z_bool v_bool)) (sb_of (se_isi (T := .bool) (by rfl) z_isinstance (sb_var 1) (by rfl) z_bool v_bool)) (nomark _)) (se_one (se_cmp (od_eq hr.units) (sb_var 0) (sb_var 1) (nomark _))))))))
theorem ok_law_alike {f : Addr} {fd : FuncData} {k : Nat} (F : Fun K "_law_alike" "_law_alike" s_law_alike f fd) (hm : mg "_law_alike" = some (.ref f)) (hb : Binds K fd ["found", "due"] []) (z_isinstance : mg "isinstance" = none) (z_bool : mg "bool" = none) (z_int : mg "int" = none) (z_str : mg "str" = none) (z_tuple : mg "tuple" = none) (z_list : mg "list" = none) (z_range : mg "range" = none) (z_len : mg "len" = none) : ∀ n : Nat, FnOk P w K mg base CX0 (k + n) f fd ["found", "due"] (spF K (m_law_alike n))
  | 0 => ok_none
  | n + 1 => okr_law_alike (k := k + n) F ⟨f, fd, _, ok_law_alike F hm hb z_isinstance z_bool z_int z_str z_tuple z_list z_range z_len n, hm, F.kp, hb⟩ z_isinstance z_bool z_int z_str z_tuple z_list z_range z_len
theorem ok_has_items {f : Addr} {fd : FuncData} {k : Nat} (F : Fun K "has_items" "has_items" s_has_items f fd) (z_len : mg "len" = none) (z_isinstance : mg "isinstance" = none) (z_tuple : mg "tuple" = none) : FnOk P w K mg base CX0 (k + 1) f fd ["value", "least", "most"] (spF K m_has_items) := by
  refine RT.ok_fn F sc_has_items (fun cdv A outer s H E hr => ?_)
  unfold b_has_items
  exact sss_one (ss_ret (se_and (se_isi (T := .tuple) (by rfl) z_isinstance (sb_var 0) (by rfl) z_tuple v_tuple) (se_one (se_chain od_le od_le (sb_var 1) (sb_of (se_callB cd_len (by rfl) z_len v_len (sbs_cons (sb_var 0) sbs_nil))) (sb_var 2)))))
theorem ok_is_number {f : Addr} {fd : FuncData} {k : Nat} (F : Fun K "is_number" "is_number" s_is_number f fd) (z_isinstance : mg "isinstance" = none) (z_bool : mg "bool" = none) (z_int : mg "int" = none) : FnOk P w K mg base CX0 (k + 1) f fd ["value", "least", "most"] (spF K m_is_number) := by
  refine RT.ok_fn F sc_is_number (fun cdv A outer s H E hr => ?_)
  unfold b_is_number
  exact sss_one (ss_ret (se_and (se_isi (T := .int) (by rfl) z_isinstance (sb_var 0) (by rfl) z_int v_int) (se_and (se_not (se_isi (T := .bool) (by rfl) z_isinstance (sb_var 0) (by rfl) z_bool v_bool)) (se_one (se_chain od_le od_le (sb_var 1) (sb_var 0) (sb_var 2))))))
theorem ok_has_script_form {f : Addr} {fd : FuncData} {k : Nat} (F : Fun K "has_script_form" "has_script_form" s_has_script_form f fd) (c_has_items : Callee P w K mg base k "has_items" (spF K m_has_items)) (c_is_number : Callee P w K mg base k "is_number" (spF K m_is_number)) {t_MOST_SCENES : Tok} (k_MOST_SCENES : mg "MOST_SCENES" = some (.int 8 t_MOST_SCENES)) {t_MOST_ACTORS : Tok} (k_MOST_ACTORS : mg "MOST_ACTORS" = some (.int 4 t_MOST_ACTORS)) {t_LEAST_ACTORS : Tok} (k_LEAST_ACTORS : mg "LEAST_ACTORS" = some (.int 2 t_LEAST_ACTORS)) : FnOk P w K mg base CX0 (k + 1) f fd ["value"] (spF K m_has_script_form) := by
  refine RT.ok_fn F sc_has_script_form (fun cdv A outer s H E hr => ?_)
  unfold b_has_script_form
  exact sss_cons (ss_if (st_not (st_tru (sb_of (se_call c_has_items hr (by rfl) (sa_cons (se_var 0) (sa_cons se_int (sa_cons se_int sa_nil))))))) (sss_one (ss_ret se_bl)) sss_nil)
      (sss_cons (ss_unp (se_var 0) (sg_tup (n := 2) rfl (sgs_cons (sg_name 1 (vs := [1, 2]) (sc_has_script_form.nd) rfl (by first | exact Or.inl rfl | exact Or.inr rfl) (by decide)) (sgs_cons (sg_name 2 (vs := [1, 2]) (sc_has_script_form.nd) rfl (by first | exact Or.inl rfl | exact Or.inr rfl) (by decide)) sgs_nil))))
      (sss_one (ss_ret (se_and (se_call c_is_number hr (by rfl) (sa_cons (se_var 1) (sa_cons (se_glob (v := .int 2) (by rfl) k_LEAST_ACTORS ⟨_, rfl⟩ (fun _ _ _ => .int _)) (sa_cons (se_glob (v := .int 4) (by rfl) k_MOST_ACTORS ⟨_, rfl⟩ (fun _ _ _ => .int _)) sa_nil)))) (se_one (se_call c_has_items hr (by rfl) (sa_cons (se_var 2) (sa_cons se_int (sa_cons (se_glob (v := .int 8) (by rfl) k_MOST_SCENES ⟨_, rfl⟩ (fun _ _ _ => .int _)) sa_nil)))))))))
theorem ok_is_rising {f : Addr} {fd : FuncData} {k : Nat} (F : Fun K "is_rising" "is_rising" s_is_rising f fd) (z_all : mg "all" = none) (z_range : mg "range" = none) (z_len : mg "len" = none) : FnOk P w K mg base CX0 (k + 1) f fd ["values"] (spF K m_is_rising) := by
  refine RT.ok_fn F sc_is_rising (fun cdv A outer s H E hr => ?_)
  unfold b_is_rising
  exact sss_one (ss_ret (se_callB (cd_all rfl) (by rfl) z_all v_all (sbs_cons (sb_of (se_ofX (sx_lc (own := [("at", 1)]) rfl (sc_is_rising.nd) (si_rg1 (by rfl) z_range (se_op od_sub (sb_of (se_callB cd_len (by rfl) z_len v_len (sbs_cons (sb_var 0) sbs_nil))) (sb_of se_int))) (blkOk_by (own := [("at", 1)]) (N := N_is_rising) (sc := defScope s_is_rising) (by decide +kernel)) (fun _ _ _ _ _ => sg_name 1 (vs := [1]) (sc_is_rising.nd) rfl (by first | exact Or.inl rfl | exact Or.inr rfl) (by decide)) (fun _ _ _ _ _ => sts_nil) (fun _ _ _ _ _ => se_cmp (od_ltX hr.units) (sb_of (se_at (hu_of hr) (sb_var 0) (sb_var 1))) (sb_of (se_at (hu_of hr) (sb_var 0) (sb_of (se_op od_addA (sb_var 1) (sb_of se_int))))) (nomark _))))) sbs_nil)))
theorem ok_is_talk {f : Addr} {fd : FuncData} {k : Nat} (F : Fun K "is_talk" "is_talk" s_is_talk f fd) (c_is_number : Callee P w K mg base k "is_number" (spF K m_is_number)) (c_has_items : Callee P w K mg base k "has_items" (spF K m_has_items)) {t_LAST_WORD : Tok} (k_LAST_WORD : mg "LAST_WORD" = some (.int 5 t_LAST_WORD)) : FnOk P w K mg base CX0 (k + 1) f fd ["value", "actors"] (spF K m_is_talk) := by
  refine RT.ok_fn F sc_is_talk (fun cdv A outer s H E hr => ?_)
  unfold b_is_talk
  exact sss_cons (ss_if (st_not (st_tru (sb_of (se_call c_has_items hr (by rfl) (sa_cons (se_var 0) (sa_cons se_int (sa_cons se_int sa_nil))))))) (sss_one (ss_ret se_bl)) sss_nil)
      (sss_cons (ss_unp (se_var 0) (sg_tup (n := 3) rfl (sgs_cons (sg_name 2 (vs := [2, 3, 4]) (sc_is_talk.nd) rfl (by first | exact Or.inl rfl | exact Or.inr rfl) (by decide)) (sgs_cons (sg_name 3 (vs := [2, 3, 4]) (sc_is_talk.nd) rfl (by first | exact Or.inl rfl | exact Or.inr rfl) (by decide)) (sgs_cons (sg_name 4 (vs := [2, 3, 4]) (sc_is_talk.nd) rfl (by first | exact Or.inl rfl | exact Or.inr rfl) (by decide)) sgs_nil)))))
      (sss_cons (ss_if (st_w (sw_or (st_not (st_tru (sb_of (se_call c_is_number hr (by rfl) (sa_cons (se_var 2) (sa_cons se_int (sa_cons (se_op od_sub (sb_var 1) (sb_of se_int)) sa_nil))))))) (sw_or1 (st_not (st_tru (sb_of (se_call c_is_number hr (by rfl) (sa_cons (se_var 3) (sa_cons se_int (sa_cons (se_op od_sub (sb_var 1) (sb_of se_int)) sa_nil)))))))))) (sss_one (ss_ret se_bl)) sss_nil)
      (sss_one (ss_ret (se_and (se_cmp (od_ne hr.units) (sb_var 2) (sb_var 3) (nomark _)) (se_one (se_call c_is_number hr (by rfl) (sa_cons (se_var 4) (sa_cons se_int (sa_cons (se_glob (v := .int 5) (by rfl) k_LAST_WORD ⟨_, rfl⟩ (fun _ _ _ => .int _)) sa_nil))))))))))
theorem ok_is_branch {f : Addr} {fd : FuncData} {k : Nat} (F : Fun K "is_branch" "is_branch" s_is_branch f fd) (c_is_number : Callee P w K mg base k "is_number" (spF K m_is_number)) (c_is_talk : Callee P w K mg base k "is_talk" (spF K m_is_talk)) (c_has_items : Callee P w K mg base k "has_items" (spF K m_has_items)) : FnOk P w K mg base CX0 (k + 1) f fd ["value", "speaker", "actors", "many"] (spF K m_is_branch) := by
  refine RT.ok_fn F sc_is_branch (fun cdv A outer s H E hr => ?_)
  unfold b_is_branch
  exact sss_cons (ss_if (st_not (st_tru (sb_of (se_call c_has_items hr (by rfl) (sa_cons (se_var 0) (sa_cons se_int (sa_cons se_int sa_nil))))))) (sss_one (ss_ret se_bl)) sss_nil)
      (sss_cons (ss_unp (se_var 0) (sg_tup (n := 3) rfl (sgs_cons (sg_name 4 (vs := [4, 5, 6]) (sc_is_branch.nd) rfl (by first | exact Or.inl rfl | exact Or.inr rfl) (by decide)) (sgs_cons (sg_name 5 (vs := [4, 5, 6]) (sc_is_branch.nd) rfl (by first | exact Or.inl rfl | exact Or.inr rfl) (by decide)) (sgs_cons (sg_name 6 (vs := [4, 5, 6]) (sc_is_branch.nd) rfl (by first | exact Or.inl rfl | exact Or.inr rfl) (by decide)) sgs_nil)))))
      (sss_one (ss_ret (se_and (se_call c_is_talk hr (by rfl) (sa_cons (se_tup (sa_cons (se_var 1) (sa_cons (se_var 4) (sa_cons (se_var 5) sa_nil)))) (sa_cons (se_var 2) sa_nil))) (se_one (se_call c_is_number hr (by rfl) (sa_cons (se_var 6) (sa_cons se_int (sa_cons (se_op od_sub (sb_var 3) (sb_of se_int)) sa_nil)))))))))
theorem ok_is_scene {f : Addr} {fd : FuncData} {k : Nat} (F : Fun K "is_scene" "is_scene" s_is_scene f fd) (c_is_rising : Callee P w K mg base k "is_rising" (spF K m_is_rising)) (c_is_branch : Callee P w K mg base k "is_branch" (spF K m_is_branch)) (c_has_items : Callee P w K mg base k "has_items" (spF K m_has_items)) (z_all : mg "all" = none) (z_len : mg "len" = none) (z_isinstance : mg "isinstance" = none) (z_tuple : mg "tuple" = none) : FnOk P w K mg base CX0 (k + 1) f fd ["value", "actors", "many"] (spF K m_is_scene) := by
  refine RT.ok_fn F sc_is_scene (fun cdv A outer s H E hr => ?_)
  unfold b_is_scene
  exact sss_cons (ss_if (st_cmp od_isN (sb_var 0) (sb_of se_non) (nomark _)) (sss_one (ss_ret se_bl)) sss_nil)
      (sss_cons (ss_if (st_not (st_tru (sb_of (se_call c_has_items hr (by rfl) (sa_cons (se_var 0) (sa_cons se_int (sa_cons se_int sa_nil))))))) (sss_one (ss_ret se_bl)) sss_nil)
      (sss_cons (ss_unp (se_var 0) (sg_tup (n := 2) rfl (sgs_cons (sg_name 3 (vs := [3, 4]) (sc_is_scene.nd) rfl (by first | exact Or.inl rfl | exact Or.inr rfl) (by decide)) (sgs_cons (sg_name 4 (vs := [3, 4]) (sc_is_scene.nd) rfl (by first | exact Or.inl rfl | exact Or.inr rfl) (by decide)) sgs_nil))))
      (sss_cons (ss_if (st_w (sw_or (st_not (st_tru (sb_of (se_isi (T := .tuple) (by rfl) z_isinstance (sb_var 4) (by rfl) z_tuple v_tuple)))) (sw_or1 (st_cmp (od_eq hr.units) (sb_of (se_callB cd_len (by rfl) z_len v_len (sbs_cons (sb_var 4) sbs_nil))) (sb_of se_int) (nomark _))))) (sss_one (ss_ret se_bl)) sss_nil)
      (sss_cons (ss_if (st_not (st_tru (sb_of (se_callB (cd_all rfl) (by rfl) z_all v_all (sbs_cons (sb_of (se_ofX (sx_lc (own := [("branch", 5)]) rfl (sc_is_scene.nd) (si_seq (se_var 4)) (blkOk_by (own := [("branch", 5)]) (N := N_is_scene) (sc := defScope s_is_scene) (by decide +kernel)) (fun _ _ _ _ _ => sg_name 5 (vs := [5]) (sc_is_scene.nd) rfl (by first | exact Or.inl rfl | exact Or.inr rfl) (by decide)) (fun _ _ _ _ _ => sts_nil) (fun _ _ _ _ _ => se_call c_is_branch hr (by rfl) (sa_cons (se_var 5) (sa_cons (se_var 3) (sa_cons (se_var 1) (sa_cons (se_var 2) sa_nil)))))))) sbs_nil))))) (sss_one (ss_ret se_bl)) sss_nil)
      (sss_one (ss_ret (se_call c_is_rising hr (by rfl) (sa_cons (se_ofX (sx_lc (own := [("branch", 5)]) rfl (sc_is_scene.nd) (si_seq (se_var 4)) (blkOk_by (own := [("branch", 5)]) (N := N_is_scene) (sc := defScope s_is_scene) (by decide +kernel)) (fun _ _ _ _ _ => sg_name 5 (vs := [5]) (sc_is_scene.nd) rfl (by first | exact Or.inl rfl | exact Or.inr rfl) (by decide)) (fun _ _ _ _ _ => sts_nil) (fun _ _ _ _ _ => se_sl (sb_var 5) so_none (so_some se_int)))) sa_nil))))))))
theorem ok_check_script {f : Addr} {fd : FuncData} {k : Nat} (F : Fun K "check_script" "check_script" s_check_script f fd) (c_is_scene : Callee P w K mg base k "is_scene" (spF K m_is_scene)) (c_has_script_form : Callee P w K mg base k "has_script_form" (spF K m_has_script_form)) (z_enumerate : mg "enumerate" = none) (z_len : mg "len" = none) : FnOk P w K mg base CX0 (k + 1) f fd ["script"] (spF K m_check_script) := by
  refine RT.ok_fn F sc_check_script (fun cdv A outer s H E hr => ?_)
  unfold b_check_script
  exact sss_cons (ss_if (st_not (st_tru (sb_of (se_call c_has_script_form hr (by rfl) (sa_cons (se_var 0) sa_nil))))) (sss_one ss_no) sss_nil)
      (sss_cons (ss_unp (se_var 0) (sg_tup (n := 2) rfl (sgs_cons (sg_name 1 (vs := [1, 2]) (sc_check_script.nd) rfl (by first | exact Or.inl rfl | exact Or.inr rfl) (by decide)) (sgs_cons (sg_name 2 (vs := [1, 2]) (sc_check_script.nd) rfl (by first | exact Or.inl rfl | exact Or.inr rfl) (by decide)) sgs_nil))))
      (sss_one (ss_for PassesOwn.never rfl (si_en (by rfl) z_enumerate (se_var 2)) (sg_tup (n := 2) rfl (sgs_cons (sg_name 3 (vs := [3, 4]) (sc_check_script.nd) rfl (by first | exact Or.inl rfl | exact Or.inr rfl) (by decide)) (sgs_cons (sg_name 4 (vs := [3, 4]) (sc_check_script.nd) rfl (by first | exact Or.inl rfl | exact Or.inr rfl) (by decide)) sgs_nil))) (sss_one (ss_if (st_not (st_tru (sb_of (se_call c_is_scene hr (by rfl) (sa_cons (se_var 4) (sa_cons (se_var 1) (sa_cons (se_callB cd_len (by rfl) z_len v_len (sbs_cons (sb_var 2) sbs_nil)) sa_nil))))))) (sss_one ss_no) sss_nil)))))
theorem ok_check_scene {f : Addr} {fd : FuncData} {k : Nat} (F : Fun K "check_scene" "check_scene" s_check_scene f fd) (c_is_number : Callee P w K mg base k "is_number" (spF K m_is_number)) (z_len : mg "len" = none) : FnOk P w K mg base CX0 (k + 1) f fd ["scene", "script"] (spF K m_check_scene) := by
  refine RT.ok_fn F sc_check_scene (fun cdv A outer s H E hr => ?_)
  unfold b_check_scene
  exact sss_one (ss_if (st_not (st_tru (sb_of (se_call c_is_number hr (by rfl) (sa_cons (se_var 0) (sa_cons se_int (sa_cons (se_op od_sub (sb_of (se_callB cd_len (by rfl) z_len v_len (sbs_cons (sb_of (se_at (hu_of hr) (sb_var 1) (sb_of se_int))) sbs_nil))) (sb_of se_int)) sa_nil))))))) (sss_one ss_no) sss_nil)
theorem ok_check_actor {f : Addr} {fd : FuncData} {k : Nat} (F : Fun K "check_actor" "check_actor" s_check_actor f fd) (c_is_number : Callee P w K mg base k "is_number" (spF K m_is_number)) : FnOk P w K mg base CX0 (k + 1) f fd ["value", "actors"] (spF K m_check_actor) := by
  refine RT.ok_fn F sc_check_actor (fun cdv A outer s H E hr => ?_)
  unfold b_check_actor
  exact sss_one (ss_if (st_not (st_tru (sb_of (se_call c_is_number hr (by rfl) (sa_cons (se_var 0) (sa_cons se_int (sa_cons (se_op od_sub (sb_var 1) (sb_of se_int)) sa_nil))))))) (sss_one ss_no) sss_nil)
theorem ok_grown {f : Addr} {fd : FuncData} {k : Nat} (F : Fun K "grown" "grown" s_grown f fd) (hb : Binds K fd ["start", "steps_from", "most"] []) (hm : mg "grown" = some (.ref f)) (z_len : mg "len" = none) : CalleeG P w K mg base k "grown" N_grown ["start", "steps_from", "most"] gGrown :=
  ⟨f, s_grown, fd, F, sc_grown, hb, hm, rfl, fun cdv A outer s H hr f1 c1 q1 gs1 m hL => ⟨bGrown (.fn f1 c1 q1 gs1) m, by
    unfold bGrown
    exact sss_cons (ss_set (i := 3) (sc_grown.nd) rfl (by first | exact Or.inl rfl | exact Or.inr rfl) (sx_lst (sa_cons (se_var 0) sa_nil)))
      (sss_cons (ss_set (i := 4) (sc_grown.nd) rfl (by first | exact Or.inl rfl | exact Or.inr rfl) (sx_d1A (hu16 hr) (se_var 0) se_int))
      (sss_cons (ss_set (i := 5) (sc_grown.nd) rfl (by first | exact Or.inl rfl | exact Or.inr rfl) (sx_lst sa_nil))
      (sss_cons (ss_while 4000 PassesOwn.never (st_cmp (od_ltX hr.units) (sb_of (se_callB cd_len (by rfl) z_len v_len (sbs_cons (sb_var 5) sbs_nil))) (sb_of (se_callB cd_len (by rfl) z_len v_len (sbs_cons (sb_var 3) sbs_nil))) (nomark _)) (sss_cons (ss_set (i := 6) (sc_grown.nd) rfl (by first | exact Or.inl rfl | exact Or.inr rfl) (sx_of (se_callF (i := 1) hL (sa_cons (se_at (hu_of hr) (sb_var 3) (sb_of (se_callB cd_len (by rfl) z_len v_len (sbs_cons (sb_var 5) sbs_nil)))) sa_nil))))
      (sss_cons (ss_for PassesOwn.never rfl (si_seq (se_var 6)) (sg_tup (n := 2) rfl (sgs_cons (sg_name 7 (vs := [7, 8]) (sc_grown.nd) rfl (by first | exact Or.inl rfl | exact Or.inr rfl) (by decide)) (sgs_cons (sg_name 8 (vs := [7, 8]) (sc_grown.nd) rfl (by first | exact Or.inl rfl | exact Or.inr rfl) (by decide)) sgs_nil))) (sss_one (ss_if (st_notA (i := 4) (hu16 hr) (se_var 8)) (sss_cons (ss_if (st_w (sw_and (st_cmp od_notN (sb_var 2) (sb_of se_non) (nomark _)) (sw_and1 (st_cmp (od_eq hr.units) (sb_of (se_callB cd_len (by rfl) z_len v_len (sbs_cons (sb_var 3) sbs_nil))) (sb_var 2) (nomark _))))) (sss_one ss_no) sss_nil)
      (sss_cons (ss_putA (i := 4) (hu16 hr) (se_callB cd_len (by rfl) z_len v_len (sbs_cons (sb_var 3) sbs_nil)) (se_var 8))
      (sss_one (ss_app (i := 3) (se_var 8))))) sss_nil)))
      (sss_one (ss_app (i := 5) (se_ofX (sx_lc (own := [("mark", 9), ("there", 8)]) rfl (sc_grown.nd) (si_seq (se_var 6)) (blkOk_by (own := [("mark", 9), ("there", 8)]) (N := N_grown) (sc := defScope s_grown) (by decide +kernel)) (fun _ _ _ _ _ => sg_tup (n := 2) rfl (sgs_cons (sg_name 9 (vs := [9, 8]) (sc_grown.nd) rfl (by first | exact Or.inl rfl | exact Or.inr rfl) (by decide)) (sgs_cons (sg_name 8 (vs := [9, 8]) (sc_grown.nd) rfl (by first | exact Or.inl rfl | exact Or.inr rfl) (by decide)) sgs_nil))) (fun _ _ _ _ _ => sts_nil) (fun _ _ _ _ _ => se_tup (sa_cons (se_var 9) (sa_cons (se_atA (i := 4) (hu16 hr) (se_var 8)) sa_nil))))))))))
      (sss_one (ss_frz 5 (ss_frz 3 (ss_ret (se_tup (sa_cons (se_var 3) (sa_cons (se_var 5) sa_nil)))))))))), fun a b d h => grown_pure rfl h⟩⟩
theorem ok_with_one {f : Addr} {fd : FuncData} {k : Nat} (F : Fun K "with_one" "with_one" s_with_one f fd) (z_tuple : mg "tuple" = none) (z_sorted : mg "sorted" = none) (z_set : mg "set" = none) : FnOk P w K mg base CX0 (k + 1) f fd ["actors", "actor"] (spF K m_with_one) := by
  refine RT.ok_fn F sc_with_one (fun cdv A outer s H E hr => ?_)
  unfold b_with_one
  exact sss_one (ss_ret (se_callTy cd_tuple (by rfl) z_tuple v_tuple (sbs_cons (sb_of (se_srtS rfl (by rfl) z_sorted (sn_setT rfl (by rfl) z_set (se_op od_addA (sb_var 0) (sb_of (se_tup (sa_cons (se_var 1) sa_nil))))))) sbs_nil)))
theorem ok_moments_behind {f : Addr} {fd : FuncData} {k : Nat} (F : Fun K "moments_behind" "moments_behind" s_moments_behind f fd) (c_with_one : Callee P w K mg base k "with_one" (spF K m_with_one)) : FnOk P w K mg base CX0 (k + 1) f fd ["web", "moment", "actor"] (spF K m_moments_behind) := by
  refine RT.ok_fn F sc_moments_behind (fun cdv A outer s H E hr => ?_)
  unfold b_moments_behind
  exact sss_cons (ss_unp (se_var 1) (sg_tup (n := 3) rfl (sgs_cons (sg_name 3 (vs := [3, 4, 5]) (sc_moments_behind.nd) rfl (by first | exact Or.inl rfl | exact Or.inr rfl) (by decide)) (sgs_cons (sg_name 4 (vs := [3, 4, 5]) (sc_moments_behind.nd) rfl (by first | exact Or.inl rfl | exact Or.inr rfl) (by decide)) (sgs_cons (sg_name 5 (vs := [3, 4, 5]) (sc_moments_behind.nd) rfl (by first | exact Or.inl rfl | exact Or.inr rfl) (by decide)) sgs_nil)))))
      (sss_cons (ss_set (i := 6) (sc_moments_behind.nd) rfl (by first | exact Or.inl rfl | exact Or.inr rfl) (sx_lst sa_nil))
      (sss_cons (ss_for PassesOwn.never rfl (si_seq (se_at (hu_of hr) (sb_var 0) (sb_var 3))) (sg_tup (n := 2) rfl (sgs_cons (sg_name 7 (vs := [7, 8]) (sc_moments_behind.nd) rfl (by first | exact Or.inl rfl | exact Or.inr rfl) (by decide)) (sgs_cons (sg_name 8 (vs := [7, 8]) (sc_moments_behind.nd) rfl (by first | exact Or.inl rfl | exact Or.inr rfl) (by decide)) sgs_nil))) (sss_cons (ss_unp (se_var 7) (sg_tup (n := 3) rfl (sgs_cons (sg_name 9 (vs := [9, 10, 11]) (sc_moments_behind.nd) rfl (by first | exact Or.inl rfl | exact Or.inr rfl) (by decide)) (sgs_cons (sg_name 10 (vs := [9, 10, 11]) (sc_moments_behind.nd) rfl (by first | exact Or.inl rfl | exact Or.inr rfl) (by decide)) (sgs_cons (sg_name 11 (vs := [9, 10, 11]) (sc_moments_behind.nd) rfl (by first | exact Or.inl rfl | exact Or.inr rfl) (by decide)) sgs_nil)))))
      (sss_cons (ss_set (i := 12) (sc_moments_behind.nd) rfl (by first | exact Or.inl rfl | exact Or.inr rfl) (sx_of (se_if (st_inA (room65 hr) (sb_var 9) (sb_var 4)) (se_call c_with_one hr (by rfl) (sa_cons (se_var 4) (sa_cons (se_var 10) sa_nil))) (se_var 4))))
      (sss_cons (ss_set (i := 13) (sc_moments_behind.nd) rfl (by first | exact Or.inl rfl | exact Or.inr rfl) (sx_of (se_if (st_cmp (od_eq hr.units) (sb_var 10) (sb_var 2) (nomark _)) (se_call c_with_one hr (by rfl) (sa_cons (se_var 5) (sa_cons (se_var 9) sa_nil))) (se_var 5))))
      (sss_one (ss_app (i := 6) (se_tup (sa_cons (se_var 7) (sa_cons (se_tup (sa_cons (se_var 8) (sa_cons (se_var 12) (sa_cons (se_var 13) sa_nil)))) sa_nil)))))))))
      (sss_one (ss_frz 6 (ss_ret (se_var 6))))))
theorem ok_letters_from {f : Addr} {fd : FuncData} {k : Nat} (F : Fun K "letters_from" "letters_from" s_letters_from f fd) (c_moments_behind : Callee P w K mg base k "moments_behind" (spF K m_moments_behind)) (c_grown : CalleeG P w K mg base (k + 1) "grown" N_grown ["start", "steps_from", "most"] gGrown) {cc_letters_from pp_letters_from : Addr} (a_letters_from : PySem.W.nsIn K mainGlobals "letters_from" = some (some (.ref f))) (ti_letters_from : PySem.W.tabIn K "letters_from" = some (cc_letters_from, pp_letters_from)) (tb_letters_from : LamX.TabB base mg cc_letters_from pp_letters_from) (z_tuple : mg "tuple" = none) (z_sorted : mg "sorted" = none) (z_zip : mg "zip" = none) : FnOk P w K mg base CX0 (k + 3) f fd ["web", "scene", "actor"] (spF K m_letters_from) := by
  refine RT.ok_fnM (k := k + 2) F sc_letters_from a_letters_from ti_letters_from (fun A outer s H E hr => ?_)
  unfold b_letters_from
  exact sss_cons (ss_unp (se_lam (Nl := ["moment", "actor", "web"]) (psl := ["moment"]) (fr := ["actor", "web"]) (js := [2, 0]) c_grown hr (by rfl) (se_tup (sa_cons (se_var 1) (sa_cons (se_tup (sa_cons (se_var 2) sa_nil)) (sa_cons (se_tup sa_nil) sa_nil)))) se_non tb_letters_from rfl ti_letters_from (by decide) rfl (NdefX.nscope_by (by decide +kernel)) rfl (show NdefX.ndefB (defScope s_letters_from) _ _ = true by decide +kernel) rfl (fun _ => rfl) ⟨rfl, rfl⟩ (fun _ _ _ _ _ us hl => match us, hl with | [_], _ => rfl) (fun _ _ _ _ _ _ _ _ _ hr => se_call c_moments_behind hr (by rfl) (sa_cons (se_var 2) (sa_cons (se_var 0) (sa_cons (se_var 1) sa_nil))))) (sg_tup (n := 2) rfl (sgs_cons (sg_name 3 (vs := [3, 4]) (sc_letters_from.nd) rfl (by first | exact Or.inl rfl | exact Or.inr rfl) (by decide)) (sgs_cons (sg_name 4 (vs := [3, 4]) (sc_letters_from.nd) rfl (by first | exact Or.inl rfl | exact Or.inr rfl) (by decide)) sgs_nil))))
      (sss_cons (ss_set (i := 5) (sc_letters_from.nd) rfl (by first | exact Or.inl rfl | exact Or.inr rfl) sx_dT)
      (sss_cons (ss_for PassesOwn.never rfl (si_zip (by rfl) z_zip (se_var 3) (se_var 4)) (sg_tup (n := 2) rfl (sgs_cons (sg_tup (n := 3) rfl (sgs_cons (sg_name 6 (vs := [9, 6, 7, 8]) (sc_letters_from.nd) rfl (by first | exact Or.inl rfl | exact Or.inr rfl) (by decide)) (sgs_cons (sg_name 7 (vs := [9, 6, 7, 8]) (sc_letters_from.nd) rfl (by first | exact Or.inl rfl | exact Or.inr rfl) (by decide)) (sgs_cons (sg_name 8 (vs := [9, 6, 7, 8]) (sc_letters_from.nd) rfl (by first | exact Or.inl rfl | exact Or.inr rfl) (by decide)) sgs_nil)))) (sgs_cons (sg_name 9 (vs := [9, 6, 7, 8]) (sc_letters_from.nd) rfl (by first | exact Or.inl rfl | exact Or.inr rfl) (by decide)) sgs_nil))) (sss_one (ss_for PassesOwn.never rfl (si_seq (se_var 9)) (sg_tup (n := 2) rfl (sgs_cons (sg_tup (n := 3) rfl (sgs_cons (sg_name 10 (vs := [6, 10, 11, 12]) (sc_letters_from.nd) rfl (by first | exact Or.inl rfl | exact Or.inr rfl) (by decide)) (sgs_cons (sg_name 11 (vs := [6, 10, 11, 12]) (sc_letters_from.nd) rfl (by first | exact Or.inl rfl | exact Or.inr rfl) (by decide)) (sgs_cons (sg_name 12 (vs := [6, 10, 11, 12]) (sc_letters_from.nd) rfl (by first | exact Or.inl rfl | exact Or.inr rfl) (by decide)) sgs_nil)))) (sgs_cons (sg_name 6 (vs := [6, 10, 11, 12]) (sc_letters_from.nd) rfl (by first | exact Or.inl rfl | exact Or.inr rfl) (by decide)) sgs_nil))) (sss_one (ss_if (st_w (sw_and (st_cmp (od_eq hr.units) (sb_var 11) (sb_var 2) (nomark _)) (sw_and1 (st_notInA (room65 hr) (sb_var 10) (sb_of (se_op od_addA (sb_var 7) (sb_var 8))))))) (sss_one (ss_dput (i := 5) (hu_of hr) se_bl (se_tup (sa_cons (se_var 10) (sa_cons (se_var 12) sa_nil))))) sss_nil)))))
      (sss_one (ss_ret (se_callTy cd_tuple (by rfl) z_tuple v_tuple (sbs_cons (sb_of (se_callB (cd_sortY rfl (room66 hr)) (by rfl) z_sorted v_sorted (sbs_cons (sb_var 5) sbs_nil))) sbs_nil))))))
theorem ok_talks_from {f : Addr} {fd : FuncData} {k : Nat} (F : Fun K "talks_from" "talks_from" s_talks_from f fd) : FnOk P w K mg base CX0 (k + 1) f fd ["scene"] (spF K m_talks_from) := by
  refine RT.ok_fn F sc_talks_from (fun cdv A outer s H E hr => ?_)
  unfold b_talks_from
  exact sss_cons (ss_if (st_cmp od_isN (sb_var 0) (sb_of se_non) (nomark _)) (sss_one (ss_ret (se_lst sa_nil))) sss_nil)
      (sss_cons (ss_unp (se_var 0) (sg_tup (n := 2) rfl (sgs_cons (sg_name 1 (vs := [1, 2]) (sc_talks_from.nd) rfl (by first | exact Or.inl rfl | exact Or.inr rfl) (by decide)) (sgs_cons (sg_name 2 (vs := [1, 2]) (sc_talks_from.nd) rfl (by first | exact Or.inl rfl | exact Or.inr rfl) (by decide)) sgs_nil))))
      (sss_one (ss_ret (se_ofX (sx_lc (own := [("hearer", 3), ("word", 4), ("there", 5)]) rfl (sc_talks_from.nd) (si_seq (se_var 2)) (blkOk_by (own := [("hearer", 3), ("word", 4), ("there", 5)]) (N := N_talks_from) (sc := defScope s_talks_from) (by decide +kernel)) (fun _ _ _ _ _ => sg_tup (n := 3) rfl (sgs_cons (sg_name 3 (vs := [3, 4, 5]) (sc_talks_from.nd) rfl (by first | exact Or.inl rfl | exact Or.inr rfl) (by decide)) (sgs_cons (sg_name 4 (vs := [3, 4, 5]) (sc_talks_from.nd) rfl (by first | exact Or.inl rfl | exact Or.inr rfl) (by decide)) (sgs_cons (sg_name 5 (vs := [3, 4, 5]) (sc_talks_from.nd) rfl (by first | exact Or.inl rfl | exact Or.inr rfl) (by decide)) sgs_nil)))) (fun _ _ _ _ _ => sts_nil) (fun _ _ _ _ _ => se_tup (sa_cons (se_tup (sa_cons (se_var 1) (sa_cons (se_var 3) (sa_cons (se_var 4) sa_nil)))) (sa_cons (se_var 5) sa_nil))))))))
theorem ok_talk_web {f : Addr} {fd : FuncData} {k : Nat} (F : Fun K "talk_web" "talk_web" s_talk_web f fd) (c_talks_from : Callee P w K mg base k "talks_from" (spF K m_talks_from)) : FnOk P w K mg base CX0 (k + 1) f fd ["script"] (spF K m_talk_web) := by
  refine RT.ok_fn F sc_talk_web (fun cdv A outer s H E hr => ?_)
  unfold b_talk_web
  exact sss_one (ss_ret (se_ofX (sx_lc (own := [("scene", 1)]) rfl (sc_talk_web.nd) (si_seq (se_at (hu_of hr) (sb_var 0) (sb_of se_int))) (blkOk_by (own := [("scene", 1)]) (N := N_talk_web) (sc := defScope s_talk_web) (by decide +kernel)) (fun _ _ _ _ _ => sg_name 1 (vs := [1]) (sc_talk_web.nd) rfl (by first | exact Or.inl rfl | exact Or.inr rfl) (by decide)) (fun _ _ _ _ _ => sts_nil) (fun _ _ _ _ _ => se_call c_talks_from hr (by rfl) (sa_cons (se_var 1) sa_nil)))))
theorem ok_first_letters {f : Addr} {fd : FuncData} {k : Nat} (F : Fun K "first_letters" "first_letters" s_first_letters f fd) (c_letters_from : Callee P w K mg base k "letters_from" (spF K m_letters_from)) (c_talk_web : Callee P w K mg base k "talk_web" (spF K m_talk_web)) (c_check_actor : Callee P w K mg base k "check_actor" (spF K m_check_actor)) (c_check_scene : Callee P w K mg base k "check_scene" (spF K m_check_scene)) (c_check_script : Callee P w K mg base k "check_script" (spF K m_check_script)) : FnOk P w K mg base CX0 (k + 1) f fd ["script", "scene", "actor"] (spF K m_first_letters) := by
  refine RT.ok_fn F sc_first_letters (fun cdv A outer s H E hr => ?_)
  unfold b_first_letters
  exact sss_cons (ss_drop (se_call c_check_script hr (by rfl) (sa_cons (se_var 0) sa_nil)))
      (sss_cons (ss_drop (se_call c_check_scene hr (by rfl) (sa_cons (se_var 1) (sa_cons (se_var 0) sa_nil))))
      (sss_cons (ss_drop (se_call c_check_actor hr (by rfl) (sa_cons (se_var 2) (sa_cons (se_at (hu_of hr) (sb_var 0) (sb_of se_int)) sa_nil))))
      (sss_one (ss_ret (se_call c_letters_from hr (by rfl) (sa_cons (se_call c_talk_web hr (by rfl) (sa_cons (se_var 0) sa_nil)) (sa_cons (se_var 1) (sa_cons (se_var 2) sa_nil))))))))
theorem ok_law {f : Addr} {fd : FuncData} {k : Nat} (F : Fun K "law" "law" s_law f fd) (c_law_alike : Callee P w K mg base k "_law_alike" (spF K (m_law_alike 9))) (c_first_letters : Callee P w K mg base k "first_letters" (spF K m_first_letters)) (c_law_lines : Callee P w K mg base k "_law_lines" (spF K (m_law_lines 9))) (c_law_script : Callee P w K mg base k "_law_script" (spR K m_law_script)) (c_law_taken : Callee P w K mg base k "_law_taken" (spR K m_law_taken)) (z_range : mg "range" = none) (z_len : mg "len" = none) (z_tuple : mg "tuple" = none) (z_sorted : mg "sorted" = none) (z_list : mg "list" = none) : FnOk P w K mg base CX0 (k + 1) f fd ["script"] (spLaw K b_law 10 10108) := by
  refine RT.ok_law F sc_law rfl (fun cdv A outer s H E => ps_set (i := 1) sc_law.nd rfl (by first | exact Or.inl rfl | exact Or.inr rfl) (pe_lst (pa_cons (pv 0) (pa_cons pe_int (pa_cons pe_int (pa_cons pe_int pa_nil)))))) (fun cdv A outer s H E hr => ?_)
  unfold b_law
  exact sss_cons (ss_set (i := 2) (sc_law.nd) rfl (by first | exact Or.inl rfl | exact Or.inr rfl) (sx_of (se_callR (i := 1) c_law_script hr (by rfl) (sa_cons (se_op od_addA (sb_of se_int) (sb_of (se_callR (i := 1) c_law_taken hr (by rfl) (sa_cons se_int sa_nil)))) (sa_cons se_int (sa_cons se_bl sa_nil))))))
      (sss_cons (ss_for PassesOwn.never rfl (si_rg1 (by rfl) z_range (se_callB cd_len (by rfl) z_len v_len (sbs_cons (sb_of (se_at (hu_of hr) (sb_var 2) (sb_of se_int))) sbs_nil))) (sg_name 3 (vs := [3]) (sc_law.nd) rfl (by first | exact Or.inl rfl | exact Or.inr rfl) (by decide)) (sss_one (ss_for PassesOwn.never rfl (si_rg1 (by rfl) z_range (se_at (hu_of hr) (sb_var 2) (sb_of se_int))) (sg_name 4 (vs := [4]) (sc_law.nd) rfl (by first | exact Or.inl rfl | exact Or.inr rfl) (by decide)) (sss_cons (ss_set (i := 5) (sc_law.nd) rfl (by first | exact Or.inl rfl | exact Or.inr rfl) sx_dT)
      (sss_cons (ss_for PassesOwn.never rfl (si_seq (se_call c_law_lines hr (by rfl) (sa_cons (se_var 2) (sa_cons (se_var 3) sa_nil)))) (sg_name 6 (vs := [6]) (sc_law.nd) rfl (by first | exact Or.inl rfl | exact Or.inr rfl) (by decide)) (sss_cons (ss_par2 (i := 7) (j := 8) rfl (sc_law.nd) rfl rfl (by decide) rfl rfl (sxs_cons (sx_lst (sa_cons (se_var 4) sa_nil)) (sxs_cons (sx_lst sa_nil) sxs_nil)) rfl)
      (sss_one (ss_for PassesOwn.never rfl (si_seq (se_var 6)) (sg_tup (n := 3) rfl (sgs_cons (sg_name 9 (vs := [9, 10, 11]) (sc_law.nd) rfl (by first | exact Or.inl rfl | exact Or.inr rfl) (by decide)) (sgs_cons (sg_name 10 (vs := [9, 10, 11]) (sc_law.nd) rfl (by first | exact Or.inl rfl | exact Or.inr rfl) (by decide)) (sgs_cons (sg_name 11 (vs := [9, 10, 11]) (sc_law.nd) rfl (by first | exact Or.inl rfl | exact Or.inr rfl) (by decide)) sgs_nil)))) (sss_one (ss_if (st_inA (room65 hr) (sb_var 9) (sb_var 7)) (sss_one (ss_app (i := 7) (se_var 10))) (sss_one (ss_if (st_cmp (od_eq hr.units) (sb_var 10) (sb_var 4) (nomark _)) (sss_cons (ss_if (st_notInA (room65 hr) (sb_var 9) (sb_var 8)) (sss_one (ss_dput (i := 5) (hu_of hr) se_bl (se_tup (sa_cons (se_var 9) (sa_cons (se_var 11) sa_nil))))) sss_nil)
      (sss_one (ss_app (i := 8) (se_var 9)))) sss_nil))))))))
      (sss_one (ss_if (st_not (st_tru (sb_of (se_call c_law_alike hr (by rfl) (sa_cons (se_call c_first_letters hr (by rfl) (sa_cons (se_var 2) (sa_cons (se_var 3) (sa_cons (se_var 4) sa_nil)))) (sa_cons (se_callTy cd_tuple (by rfl) z_tuple v_tuple (sbs_cons (sb_of (se_callB (cd_sortX (room66 hr)) (by rfl) z_sorted v_sorted (sbs_cons (sb_of (se_callTy (cd_list rfl) (by rfl) z_list v_list (sbs_cons (sb_var 5) sbs_nil))) sbs_nil))) sbs_nil)) sa_nil)))))) (sss_one (ss_ret se_bl)) sss_nil)))))))
      (sss_one (ss_ret se_bl)))
end
end Lw

namespace Bf
def adds (acc ts : List Int) : List Int := ts.foldl (fun acc t => if t ∈ acc then acc else acc ++ [t]) acc
theorem adds_nil (acc : List Int) : adds acc [] = acc := rfl
theorem adds_cons (acc : List Int) (t : Int) (ts : List Int) : adds acc (t :: ts) = adds (if t ∈ acc then acc else acc ++ [t]) ts := rfl
theorem adds_pre : ∀ (ts acc : List Int), acc <+: adds acc ts
  | [], acc => List.prefix_refl acc
  | t :: ts, acc => by
    rw [adds_cons]
    split
    · exact adds_pre ts acc
    · exact (List.prefix_append acc [t]).trans (adds_pre ts _)
theorem adds_nd : ∀ (ts acc : List Int), acc.Nodup → (adds acc ts).Nodup
  | [], acc, h => h
  | t :: ts, acc, h => by
    rw [adds_cons]
    split
    · exact adds_nd ts acc h
    · exact adds_nd ts _ (by grind)
theorem adds_mem (x : Int) : ∀ (ts acc : List Int), x ∈ adds acc ts ↔ x ∈ acc ∨ x ∈ ts
  | [], acc => by simp [adds_nil]
  | t :: ts, acc => by
    rw [adds_cons]
    split <;> rw [adds_mem x ts] <;> grind
def bf (G : Int → List Int) (v : Int) : Nat → List Int
  | 0 => [v]
  | k + 1 => match (bf G v k)[k]? with
    | some u => adds (bf G v k) (G u)
    | none => bf G v k
variable {G : Int → List Int} {v : Int}
theorem bf_s (k : Nat) : bf G v k <+: bf G v (k + 1) := by
  rw [bf]
  split
  · exact adds_pre _ _
  · exact List.prefix_refl _
theorem bf_le {k j : Nat} (h : k ≤ j) : bf G v k <+: bf G v j := by
  induction j with
  | zero => have : k = 0 := by omega
            subst this; exact List.prefix_refl _
  | succ j ih =>
    by_cases e : k = j + 1
    · subst e; exact List.prefix_refl _
    · exact (ih (by omega)).trans (bf_s j)
theorem bf_nd (k : Nat) : (bf G v k).Nodup := by
  induction k with
  | zero => simp [bf]
  | succ k ih => rw [bf]; split; exact adds_nd _ _ ih; exact ih
theorem bf_in (S : Int → Prop) (hv : S v) (hG : ∀ u, S u → ∀ t ∈ G u, S t) (k : Nat) : ∀ x ∈ bf G v k, S x := by
  induction k with
  | zero => simp [bf, hv]
  | succ k ih =>
    intro x hx
    rw [bf] at hx
    split at hx
    · rename_i u hu
      rcases (adds_mem x _ _).mp hx with h | h
      · exact ih x h
      · exact hG u (ih u (List.mem_of_getElem? hu)) x h
    · exact ih x hx
theorem bf_stop {k : Nat} (h : (bf G v k).length ≤ k) : ∀ j, bf G v (k + j) = bf G v k := by
  intro j
  induction j with
  | zero => rfl
  | succ j ih =>
    rw [← Nat.add_assoc, bf, ih]
    rw [List.getElem?_eq_none (by omega)]
theorem pig : ∀ (m : Nat) (l : List Int), l.Nodup → (∀ x ∈ l, 0 ≤ x ∧ x < m) → l.length ≤ m
  | 0, l, _, h => by
    cases l with
    | nil => simp
    | cons a l => have := h a (by simp); omega
  | m + 1, l, hn, h => by
    have e := pig m (l.erase (m : Int)) (hn.erase _) (fun x hx => by
      have h1 := (hn.mem_erase_iff).mp hx
      have h2 := h x h1.2
      have := h1.1
      omega)
    rw [List.length_erase] at e
    split at e <;> omega
theorem bf_len {m : Nat} (hv : 0 ≤ v ∧ v < m) (hG : ∀ u : Int, 0 ≤ u ∧ u < m → ∀ t ∈ G u, 0 ≤ t ∧ t < m) (k : Nat) : (bf G v k).length ≤ m :=
  pig m _ (bf_nd k) (bf_in (fun x => 0 ≤ x ∧ x < m) hv hG k)
def ord (G : Int → List Int) (v : Int) : List Int := bf G v 8
structure Web (m : Nat) (G : Int → List Int) : Prop where
  le : m ≤ 8
  to : ∀ u : Int, 0 ≤ u ∧ u < m → ∀ t ∈ G u, 0 ≤ t ∧ t < m
variable {m : Nat}
theorem ord_end (W : Web m G) (hv : 0 ≤ v ∧ v < m) {k : Nat} (hk : (bf G v k).length ≤ k) : bf G v k = ord G v := by
  have h8 : (bf G v 8).length ≤ 8 := by have := bf_len hv W.to 8; have := W.le; omega
  by_cases h : k ≤ 8
  · have := bf_stop hk (8 - k)
    rw [ord, ← this]; congr 1; omega
  · have := bf_stop h8 (k - 8)
    rw [ord, ← this]; congr 1; omega
theorem ord_self : v ∈ ord G v := (bf_le (Nat.zero_le 8)).subset (by simp [bf])
theorem ord_in (W : Web m G) (hv : 0 ≤ v ∧ v < m) : ∀ x ∈ ord G v, 0 ≤ x ∧ x < m := bf_in (fun x => 0 ≤ x ∧ x < m) hv W.to 8
theorem ord_nd : (ord G v).Nodup := bf_nd 8
theorem ord_len (W : Web m G) (hv : 0 ≤ v ∧ v < m) : (ord G v).length ≤ m := bf_len hv W.to 8
theorem ord_go (W : Web m G) (hv : 0 ≤ v ∧ v < m) {u t : Int} (hu : u ∈ ord G v) (ht : t ∈ G u) : t ∈ ord G v := by
  obtain ⟨i, hi, e⟩ := List.getElem_of_mem hu
  have hl := ord_len W hv
  have h8 := W.le
  have hi2 : i < (bf G v i).length := by
    by_cases c : (bf G v i).length ≤ i
    · rw [ord_end W hv c] at c; omega
    · omega
  have e2 : (bf G v i)[i]? = some u := by
    have p : bf G v i <+: ord G v := bf_le (by omega)
    rw [List.getElem?_eq_getElem hi2, p.getElem hi2, e]
  have : t ∈ bf G v (i + 1) := by
    rw [bf, e2]; exact (adds_mem t _ _).mpr (Or.inr ht)
  exact (bf_le (show i + 1 ≤ 8 by omega)).subset this
theorem ord_sub {S : Int → Prop} (hv : S v) (hG : ∀ u, S u → ∀ t ∈ G u, S t) : ∀ x ∈ ord G v, S x := bf_in S hv hG 8
theorem ord_trans (W : Web m G) (hv : 0 ≤ v ∧ v < m) {u t : Int} (hu : u ∈ ord G v) (ht : t ∈ ord G u) : t ∈ ord G v :=
  ord_sub (S := fun x => x ∈ ord G v) hu (fun a ha b hb => ord_go W hv ha hb) t ht
/-- levels -/
def lv (G : Int → List Int) (O : List Int) : List Int → List Int
  | [] => O
  | u :: us => lv G (adds O (G u)) us
theorem lv_bf : ∀ (us : List Int) (p : Nat), (∀ j, (hj : j < us.length) → (bf G v (p + us.length))[p + j]? = some us[j]) → p + us.length ≤ (bf G v p).length → lv G (bf G v p) us = bf G v (p + us.length)
  | [], p, _, _ => rfl
  | u :: us, p, h, hl => by
    have h0 := h 0 (by simp)
    have hp : p < (bf G v p).length := by simp at hl; omega
    have q : (bf G v p) <+: bf G v (p + (u :: us).length) := bf_le (by omega)
    have e : (bf G v p)[p]? = some u := by
      rw [Nat.add_zero, List.getElem?_eq_getElem (by have := q.length_le; omega)] at h0
      rw [List.getElem?_eq_getElem hp, q.getElem hp]; simpa using h0
    have e1 : adds (bf G v p) (G u) = bf G v (p + 1) := by rw [bf, e]
    rw [lv, e1]
    have el : p + (u :: us).length = (p + 1) + us.length := by simp; omega
    rw [lv_bf us (p + 1), el]
    · intro j hj
      have := h (j + 1) (by simp; omega)
      rw [el] at this
      rw [show p + 1 + j = p + (j + 1) by omega, this]; simp
    · have := (bf_s (G := G) (v := v) p).length_le
      rw [← el]; exact Nat.le_trans hl this
theorem lv_all (p : Nat) : lv G (bf G v p) ((bf G v p).drop p) = bf G v (p + ((bf G v p).drop p).length) := by
  by_cases hp : p ≤ (bf G v p).length
  · refine lv_bf _ p (fun j hj => ?_) (by simp; omega)
    have q : (bf G v p) <+: bf G v (p + ((bf G v p).drop p).length) := bf_le (by omega)
    have h2 : p + j < (bf G v p).length := by simp at hj; omega
    rw [List.getElem?_eq_getElem (by have := q.length_le; omega), ← q.getElem h2]
    simp
  · rw [List.drop_eq_nil_of_le (by omega)]; rfl
theorem adds_map {f : Int → Int} {S : Int → Prop} (hf : ∀ a b, S a → S b → f a = f b → a = b) : ∀ (ts acc : List Int), (∀ x ∈ acc, S x) → (∀ x ∈ ts, S x) → adds (acc.map f) (ts.map f) = (adds acc ts).map f
  | [], acc, _, _ => rfl
  | t :: ts, acc, ha, ht => by
    rw [List.map_cons, adds_cons, adds_cons]
    have e : f t ∈ acc.map f ↔ t ∈ acc := by
      rw [List.mem_map]
      constructor
      · rintro ⟨a, h1, h2⟩
        rw [← hf a t (ha a h1) (ht t (by simp)) h2]; exact h1
      · exact fun h => ⟨t, h, rfl⟩
    by_cases c : t ∈ acc
    · rw [if_pos c, if_pos (e.mpr c)]
      exact adds_map hf ts acc ha fun x hx => ht x (by simp [hx])
    · rw [if_neg c, if_neg (fun h => c (e.mp h))]
      rw [← adds_map hf ts (acc ++ [t]) (by grind) fun x hx => ht x (by simp [hx])]
      simp
theorem bf_map {G' : Int → List Int} {f : Int → Int} {S : Int → Prop} (hf : ∀ a b, S a → S b → f a = f b → a = b) (hv : S v) (hG : ∀ u, S u → ∀ t ∈ G u, S t) (e : ∀ u, S u → G' (f u) = (G u).map f) (k : Nat) : bf G' (f v) k = (bf G v k).map f := by
  induction k with
  | zero => rfl
  | succ k ih =>
    rw [bf, bf, ih, List.getElem?_map]
    cases h : (bf G v k)[k]? with
    | none => rfl
    | some u =>
      have hs := bf_in S hv hG k
      have hu := hs u (List.mem_of_getElem? h)
      show adds _ (G' (f u)) = _
      rw [e u hu]
      exact adds_map hf _ _ hs (hG u hu)
def idx (O : List Int) (t : Int) : Int := (O.idxOf t : Nat)
theorem idx_inj {O : List Int} {a b : Int} (ha : a ∈ O) (hb : b ∈ O) (h : idx O a = idx O b) : a = b := by
  have h1 : O.idxOf a = O.idxOf b := by unfold idx at h; omega
  have ha' := List.idxOf_lt_length_of_mem ha
  have hb' := List.idxOf_lt_length_of_mem hb
  have e1 := List.getElem_idxOf ha'
  have e2 := List.getElem_idxOf hb'
  rw [← e1, ← e2]; congr 1
theorem idx_at {O : List Int} (hn : O.Nodup) {i : Nat} (hi : i < O.length) : idx O O[i] = i := by
  unfold idx
  rw [hn.idxOf_getElem i hi]
theorem idx_lt {O : List Int} {a : Int} (ha : a ∈ O) : 0 ≤ idx O a ∧ idx O a < O.length := by
  have := List.idxOf_lt_length_of_mem ha
  unfold idx; omega
theorem idx_all {O : List Int} (hn : O.Nodup) : O.map (idx O) = (List.range O.length).map fun (i : Nat) => (i : Int) := by
  apply List.ext_getElem (by simp)
  intro i h1 h2
  simp only [List.getElem_map, List.getElem_range]
  exact idx_at hn (by simpa using h1)
end Bf

namespace Lw
open PySem RT
abbrev Br := Int × Int × Int
abbrev Sc := Option (Int × List Br)
def eB (b : Br) : D := .tuple [.int b.1, .int b.2.1, .int b.2.2]
def eS : Sc → D
  | none => .none
  | some (s, bs) => .tuple [.int s, .tuple (bs.map eB)]
def eX (n : Int) (ss : List Sc) : D := .tuple [.int n, .tuple (ss.map eS)]
theorem compL_gen {α : Type} {gt : FGt} {t : FT} {fe : FE} {env : FEn} {x : FRow} (enc : α → D) (p : α → Bool) (g : α → D) : ∀ (l : List α), (∀ a ∈ l, ∃ e, gt (enc a) env = some e ∧ t e x = some (p a, x) ∧ (p a = true → fe e x = some (g a, x))) → compL gt t fe env (l.map enc) x = some ((l.filter p).map g, x)
  | [], _ => rfl
  | a :: l, h => by
    obtain ⟨e, h1, h2, h3⟩ := h a (by simp)
    have ih := compL_gen enc p g l fun b hb => h b (by simp [hb])
    cases hp : p a with
    | true => simp [compL, h1, h2, h3 hp, hp, ih]
    | false => simp [compL, h1, h2, hp, ih]
theorem compL_map {α : Type} {gt : FGt} {t : FT} {fe : FE} {env : FEn} {x : FRow} (enc : α → D) (g : α → D) (l : List α) (h : ∀ a ∈ l, ∃ e, gt (enc a) env = some e ∧ t e x = some (true, x) ∧ fe e x = some (g a, x)) : compL gt t fe env (l.map enc) x = some (l.map g, x) := by
  rw [compL_gen enc (fun _ => true) g l fun a ha => by obtain ⟨e, h1, h2, h3⟩ := h a ha; exact ⟨e, h1, h2, fun _ => h3⟩]
  rw [List.filter_eq_self.mpr (by simp)]
theorem forL_inv {α β : Type} {gt : FGt} {b : FS} {x : FRow} (enc : α → D) (f : β → α → β) (R : β → FEn → Prop) : ∀ (l : List α) (s : β) (env : FEn), (∀ a ∈ l, ∀ s env, R s env → ∃ e e2, gt (enc a) env = some e ∧ b e x = some (.nx e2, x) ∧ R (f s a) e2) → R s env → ∃ e2, forL gt b (l.map enc) env x = some (.nx e2, x) ∧ R (l.foldl f s) e2
  | [], s, env, _, r => ⟨env, rfl, r⟩
  | a :: l, s, env, h, r => by
    obtain ⟨e, e2, h1, h2, h3⟩ := h a (by simp) s env r
    obtain ⟨e3, h4, h5⟩ := forL_inv enc f R l (f s a) e2 (fun b hb => h b (by simp [hb])) h3
    exact ⟨e3, by simp [forL, h1, h2, h4], h5⟩
theorem sSeq_nx {f h : FS} {env e1 : FEn} {x x1 : FRow} (a : f env x = some (.nx e1, x1)) : sSeq f h env x = h e1 x1 := by simp [sSeq, a]
theorem rgD_map (n : Nat) : rgD 0 n = (List.range n).map fun (i : Nat) => D.int (i : Int) := by simp [rgD]
theorem enD_map {α : Type} (enc : α → D) (l : List α) : enD (l.map enc) = l.zipIdx.map fun p => D.tuple [.int (p.2 : Int), enc p.1] := by
  unfold enD
  apply List.ext_getElem (by simp)
  intro i h1 h2
  simp
theorem atI_nat {α : Type} {l : List α} {i : Nat} {z : α} (h : l[i]? = some z) : L2.atI l (i : Int) = some z := by
  have hi : i < l.length := by
    by_cases c : i < l.length
    · exact c
    · rw [List.getElem?_eq_none (by omega)] at h; exact absurd h (by simp)
  unfold L2.atI L2.ixN
  rw [if_pos (by omega), if_pos (by omega)]
  simpa using h
theorem atI_int {α : Type} {l : List α} {i : Int} {z : α} (h0 : 0 ≤ i) (h : l[i.toNat]? = some z) : L2.atI l i = some z := by
  rw [show i = ((i.toNat : Nat) : Int) by omega]; exact atI_nat h
theorem atI_z0 {α : Type} {a : α} {l : List α} : L2.atI (a :: l) 0 = some a := atI_nat (i := 0) rfl
theorem atI_z1 {α : Type} {a b : α} {l : List α} : L2.atI (a :: b :: l) 1 = some b := atI_nat (i := 1) rfl
theorem atI_z2 {α : Type} {a b c : α} {l : List α} : L2.atI (a :: b :: c :: l) 2 = some c := atI_nat (i := 2) rfl
/-- plain data, k levels deep -/
def P0 (d : D) : Prop := d = .none ∨ (∃ i, d = .int i) ∨ (∃ b, d = .str b ∧ PyData.strOk b = true) ∨ ∃ b, d = .bool b
def Pt : Nat → D → Prop
  | 0, d => P0 d
  | k + 1, d => P0 d ∨ ∃ ds, (d = .tuple ds ∨ d = .list ds) ∧ ds.length ≤ 1000 ∧ ∀ e ∈ ds, Pt k e
theorem lay_all : ∀ ds : List D, (∀ e ∈ ds, e.py.canLay0 = true) → PyData.canLayAll0 (pyAll ds) = true
  | [], _ => by simp [pyAll, PyData.canLayAll0]
  | d :: ds, h => by
    simp only [pyAll, PyData.canLayAll0, h d (by simp), lay_all ds fun e he => h e (by simp [he])]; rfl
theorem dep_all (k : Nat) : ∀ ds : List D, (∀ e ∈ ds, e.py.depth ≤ k) → PyData.depthAll (pyAll ds) ≤ k
  | [], _ => by simp [pyAll, PyData.depthAll]
  | d :: ds, h => by
    simp only [pyAll, PyData.depthAll]
    have := h d (by simp)
    have := dep_all k ds fun e he => h e (by simp [he])
    omega
theorem eq_all : ∀ ds : List D, (∀ e ∈ ds, PyData.eqv e.py e.py = true) → PyData.eqvAll (pyAll ds) (pyAll ds) = true
  | [], _ => by simp [pyAll, PyData.eqvAll]
  | d :: ds, h => by
    simp only [pyAll, PyData.eqvAll, h d (by simp), eq_all ds fun e he => h e (by simp [he])]; rfl
theorem P0.ok {d : D} (h : P0 d) : d.py.canLay0 = true ∧ d.py.depth = 0 ∧ PyData.eqv d.py d.py = true := by
  rcases h with rfl | ⟨i, rfl⟩ | ⟨b, rfl, hb⟩ | ⟨b, rfl⟩ <;> simp_all [D.py, PyData.canLay0, PyData.depth, PyData.eqv]
theorem Pt.ok : ∀ {k : Nat} {d : D}, Pt k d → d.py.canLay0 = true ∧ d.py.depth ≤ k ∧ PyData.eqv d.py d.py = true
  | 0, d, h => by have := P0.ok h; exact ⟨this.1, by omega, this.2.2⟩
  | k + 1, d, h => by
    rcases h with h | ⟨ds, e, _, h⟩
    · have := P0.ok h; exact ⟨this.1, by omega, this.2.2⟩
    · have h1 := lay_all ds fun e he => (Pt.ok (h e he)).1
      have h2 := dep_all k ds fun e he => (Pt.ok (h e he)).2.1
      have h3 := eq_all ds fun e he => (Pt.ok (h e he)).2.2
      rcases e with rfl | rfl <;> simp [D.py, PyData.canLay0, PyData.depth, PyData.eqv, h1, h2, h3]
theorem Pt.sh {k : Nat} {d : D} (h : Pt k d) (hk : k ≤ 64) : shapedD d = true := by
  have := h.ok
  simp [shapedD, SeqAt.shaped, this.1, Nat.le_trans this.2.1 hk]
theorem Pt.rf {k : Nat} {d : D} (h : Pt k d) (hk : k ≤ 64) : gEq d d = some (.bool true) := by
  simp [gEq, h.sh hk, eqD, h.ok.2.2]
theorem Pt.nrf {k : Nat} {d : D} (h : Pt k d) (hk : k ≤ 64) : gNe d d = some (.bool false) := by
  simp [gNe, h.sh hk, eqD, h.ok.2.2]
theorem Pt.up : ∀ {k : Nat} {d : D}, Pt k d → Pt (k + 1) d
  | 0, d, h => Or.inl h
  | k + 1, d, h => by
    rcases h with h | ⟨ds, e, l, h⟩
    · exact Or.inl h
    · exact Or.inr ⟨ds, e, l, fun z hz => Pt.up (h z hz)⟩
theorem Pt.le {k j : Nat} {d : D} (h : Pt k d) (hj : k ≤ j) : Pt j d := by
  induction j with
  | zero => have : k = 0 := by omega
            subst this; exact h
  | succ j ih =>
    by_cases c : k = j + 1
    · subst c; exact h
    · exact (ih (by omega)).up
theorem sh_int (i : Int) : shapedD (.int i) = true := by simp [shapedD, SeqAt.shaped, D.py, PyData.canLay0, PyData.depth]
theorem sh_bool (i : Bool) : shapedD (.bool i) = true := by simp [shapedD, SeqAt.shaped, D.py, PyData.canLay0, PyData.depth]
theorem sh_ints (l : List Int) : shapedD (.list (l.map .int)) = true := by
  have h1 := lay_all (l.map D.int) (by simp [D.py, PyData.canLay0])
  have h2 := dep_all 0 (l.map D.int) (by simp [D.py, PyData.depth])
  simp only [shapedD, SeqAt.shaped, D.py, PyData.canLay0, PyData.depth, h1, Bool.true_and, decide_eq_true_eq]
  omega
theorem ne_int (i j : Int) : gNe (.int i) (.int j) = some (.bool (!decide (i = j))) := by
  simp [gNe, sh_int, eqD, D.py, PyData.eqv]
  by_cases h : i = j <;> simp [h]
theorem eq_int (i j : Int) : gEq (.int i) (.int j) = some (.bool (decide (i = j))) := by
  simp [gEq, sh_int, eqD, D.py, PyData.eqv]
  by_cases h : i = j <;> simp [h]
theorem ne_bool (i j : Bool) : gNe (.bool i) (.bool j) = some (.bool (i != j)) := by
  cases i <;> cases j <;> simp [gNe, sh_bool, eqD, D.py, PyData.eqv]
theorem eq_bool (i j : Bool) : gEq (.bool i) (.bool j) = some (.bool (i == j)) := by
  cases i <;> cases j <;> simp [gEq, sh_bool, eqD, D.py, PyData.eqv]
theorem ne_nil (l : List Int) : gNe (.list (l.map .int)) (.list []) = some (.bool (!l.isEmpty)) := by
  have h := sh_ints l
  have h0 := sh_ints []
  rw [List.map_nil] at h0
  simp only [gNe, h, h0, Bool.true_and, if_true]
  cases l <;> simp [eqD, D.py, pyAll, PyData.eqv, PyData.eqvAll]
theorem any_int (t : Int) (l : List Int) : ((l.map D.int).any fun z => eqD z (.int t)) = decide (t ∈ l) := by
  induction l with
  | nil => rfl
  | cons a l ih =>
    rw [List.map_cons, List.any_cons, ih]
    simp only [eqD, D.py, PyData.eqv, List.mem_cons]
    by_cases h : a = t
    · simp [h]
    · have : ¬ t = a := fun h2 => h h2.symm
      simp [h, this]
theorem in_ints (t : Int) (l : List Int) : gIn (.int t) (.list (l.map .int)) = some (.bool (decide (t ∈ l))) := by
  have h := sh_ints l
  simp only [gIn, h, sh_int, any_int, Bool.and_self, if_true]
theorem notin_ints (t : Int) (l : List Int) : gNotIn (.int t) (.list (l.map .int)) = some (.bool (!decide (t ∈ l))) := by
  have h := sh_ints l
  simp only [gNotIn, h, sh_int, any_int, Bool.and_self, if_true]
/-- dicts that hold ints as a set -/
def dS (l : List Int) : List (D × D) := l.map fun i => (D.int i, D.bool true)
theorem dS_any (t : Int) (l : List Int) : ((dS l).any fun p => decide (dKey p.1 = some (.inl t))) = decide (t ∈ l) := by
  induction l with
  | nil => rfl
  | cons a l ih =>
    have : dS (a :: l) = (D.int a, D.bool true) :: dS l := rfl
    rw [this, List.any_cons, ih]
    simp only [dKey, List.mem_cons, Option.some.injEq, Sum.inl.injEq]
    by_cases h : a = t
    · simp [h]
    · have : ¬ t = a := fun h2 => h h2.symm
      simp [h, this]
theorem dS_val (t : Int) (l : List Int) : (valD dKey (dS l) (.inl t)).isSome = decide (t ∈ l) := by
  rw [← dS_any]
  simp only [valD, Option.isSome_map, List.isSome_find?]
theorem dS_notin (t : Int) (l : List Int) : gNotInA (.int t) (.dict (dS l)) = some (.bool (!decide (t ∈ l))) := by
  simp only [gNotInA, gDNotIn, gDGet, dKey, dS_val]
theorem dS_put (t : Int) (l : List Int) : putD dKey (dS l) (.int t) (.inl t) (.bool true) = dS (Bf.adds l [t]) := by
  unfold putD
  rw [dS_any, Bf.adds_cons, Bf.adds_nil]
  by_cases h : t ∈ l
  · rw [if_pos (by simpa using h), if_pos h]
    unfold dS
    rw [List.map_map]
    refine List.map_congr_left fun i _ => ?_
    simp only [Function.comp]
    split <;> rfl
  · rw [if_neg (by simpa using h), if_neg h]
    simp [dS]
theorem alike_base {k : Nat} {d : D} (h0 : P0 d) : m_law_alike (k + 1) [d, d] = some (.bool true) := by
  have e := Pt.rf (k := 0) h0 (by omega)
  rcases h0 with rfl | ⟨i, rfl⟩ | ⟨b, rfl, hb⟩ | ⟨b, rfl⟩ <;> simp [m_law_alike, b_law_alike, fVar, fBor, fC, aNil, aCons, fTup, fLst, fBin, fTst, fChain, fAnd, fOr, fNot, fNeg, tAndF, tOrF, tNotF, fTru, fIf, fSl, oNone, oSome, fCall, fCallR, fRow, fRowLen, fRowAt, sSet, sPars, setsE, xVal, xLst, xNew, xDict1, sRet, sNo, sNil, sSeq, sIf, eFrz, sFrz, sUnp, gtName, gtNil, gtCons, gtTup, fSeq, sAug, sDrop, sApp, sExt, sDPut, fOfX, sRow, xsNil, xsCons, fIsi, fIsi2, okRg, fRg1, fRg2, fEn, mkF, mkR, startE, tYesF, OwD.d, sFor, xLc, xDc, wipeE, truD, isNoneD, gIsN, gNotN, isiD, maxLen, gI, gOr, gAdd, gMul, gCatT, gCatL, gLtX, gLt, gLen, gInt, gTupOf, gListOf, gAt, pMod, pDiv, pMul, pPow, e, eq_bool]
theorem lc_eq {f : FA} {gt : FGt} {t : FT} {fe : FE} {vs : List Nat} {env : FEn} {x : FRow} {ds rs : List D} (h1 : f env x = some (ds, x)) (h2 : compL gt t fe (wipeE env vs) ds x = some (rs, x)) (h3 : rs.length < maxLen) : fOfX (xLc f gt t fe vs) env x = some (.list rs, x) := by
  simp [fOfX, xLc, h1, h2, h3, OwD.d]
theorem law_alike_s (k : Nat) (ds : List D) : m_law_alike (k + 1) ds = mkF 3 2 (b_law_alike (m_law_alike k)) ds := by
  rfl
theorem mkF_rt {n k : Nat} {b : FS} {ds : List D} {d : D} {x : FRow} (hk : ds.length = k) (h : b (startE n ds) row0 = some (.rt d, x)) : mkF n k b ds = some d := by
  simp [mkF, hk, h]
theorem rg_ok {n : Nat} (h : n ≤ 1000) : okRg (n : Int) = true := by
  simp only [okRg, decide_eq_true_eq]; omega
theorem alike_step {rec : List D → Option D} {d : D} {ds : List D} (e : d = .tuple ds ∨ d = .list ds) (hl : ds.length ≤ 1000) (h : compL (gtName 2) (tNotF (fTru (fCall rec (aCons (fBin gAt (fBor 0) (fBor 2)) (aCons (fBin gAt (fBor 1) (fBor 2)) aNil))))) (fVar 2) [.va d, .va d, .no] (rgD 0 ds.length) row0 = some ([], row0)) : mkF 3 2 (b_law_alike rec) [d, d] = some (.bool true) := by
  have e0 : gEq (.list []) (.list []) = some (.bool true) := Pt.rf (k := 1) (Or.inr ⟨[], Or.inr rfl, by simp, by simp⟩) (by omega)
  have hk := rg_ok hl
  have h3 : fOfX (xLc (fRg1 (fCall gLen (aCons (fBor 1) aNil))) (gtName 2) (tNotF (fTru (fCall rec (aCons (fBin gAt (fBor 0) (fBor 2)) (aCons (fBin gAt (fBor 1) (fBor 2)) aNil))))) (fVar 2) [2]) [.va d, .va d, .no] row0 = some (.list [], row0) := by
    refine lc_eq (ds := rgD 0 ds.length) ?_ ?_ (by simp [maxLen])
    · rcases e with rfl | rfl <;> simp [fRg1, fCall, fBor, aCons, aNil, gLen, hk]
    · exact h
  have hl0 : fLst aNil [.va d, .va d, .no] row0 = some (.list [], row0) := by simp [fLst, aNil]
  have t1 : fTru (fIsi2 .tuple .list (fBor 1)) [.va d, .va d, .no] row0 = some (true, row0) := by
    rcases e with rfl | rfl <;> simp [fTru, fIsi2, fBor, isiD, truD]
  have t0 : fTru (fIsi2 .tuple .list (fBor 0)) [.va d, .va d, .no] row0 = some (true, row0) := by
    rcases e with rfl | rfl <;> simp [fTru, fIsi2, fBor, isiD, truD]
  have t2 : fTst (fBin gNe (fIsi .list (fBor 0)) (fIsi .list (fBor 1))) [.va d, .va d, .no] row0 = some (false, row0) := by
    rcases e with rfl | rfl <;> simp [fTst, fBin, fIsi, fBor, isiD, ne_bool]
  have t3 : fTst (fBin gNe (fCall gLen (aCons (fBor 0) aNil)) (fCall gLen (aCons (fBor 1) aNil))) [.va d, .va d, .no] row0 = some (false, row0) := by
    rcases e with rfl | rfl <;> simp [fTst, fBin, fCall, aCons, aNil, fBor, gLen, ne_int]
  have t4 : b_law_alike rec [.va d, .va d, .no] row0 = some (.rt (.bool true), row0) := by
    simp only [b_law_alike, sSeq, sIf, tOrF, tNotF, t0, t1, t2, t3, sNil, sRet, fBin, h3, hl0, e0, Bool.not_true]
  exact mkF_rt rfl t4
theorem alike_ok (k : Nat) : ∀ {d : D}, Pt k d → m_law_alike (k + 1) [d, d] = some (.bool true) := by
  induction k with
  | zero => exact fun h => alike_base h
  | succ k ih =>
    intro d h
    rcases h with h | ⟨ds, e, hl, h⟩
    · exact alike_base h
    · have hr : ∀ x : FRow, ∀ d' : D, (d' = .tuple ds ∨ d' = .list ds) → compL (gtName 2) (tNotF (fTru (fCall (m_law_alike (k + 1)) (aCons (fBin gAt (fBor 0) (fBor 2)) (aCons (fBin gAt (fBor 1) (fBor 2)) aNil))))) (fVar 2) [.va d', .va d', .no] (rgD 0 ds.length) x = some ([], x) := by
        intro x d' hd'
        rw [rgD_map]
        rw [compL_gen (fun (i : Nat) => D.int (i : Int)) (fun _ => false) (fun _ => .none) (List.range ds.length)]
        · simp
        · intro i hi
          have hi' : i < ds.length := by simpa using hi
          have hz : ds[i]? = some ds[i] := List.getElem?_eq_getElem hi'
          have ha := atI_nat hz
          have hm := ih (h ds[i] (List.getElem_mem hi'))
          refine ⟨_, rfl, ?_, by simp⟩
          rcases hd' with rfl | rfl <;> simp [fVar, fBor, fC, aNil, aCons, fTup, fLst, fBin, fTst, fChain, fAnd, fOr, fNot, fNeg, tAndF, tOrF, tNotF, fTru, fIf, fSl, oNone, oSome, fCall, fCallR, fRow, fRowLen, fRowAt, sSet, sPars, setsE, xVal, xLst, xNew, xDict1, sRet, sNo, sNil, sSeq, sIf, eFrz, sFrz, sUnp, gtName, gtNil, gtCons, gtTup, fSeq, sAug, sDrop, sApp, sExt, sDPut, fOfX, sRow, xsNil, xsCons, fIsi, fIsi2, okRg, fRg1, fRg2, fEn, mkF, mkR, startE, tYesF, OwD.d, sFor, xLc, xDc, wipeE, truD, isNoneD, gIsN, gNotN, isiD, maxLen, gI, gOr, gAdd, gMul, gCatT, gCatL, gLtX, gLt, gLen, gInt, gTupOf, gListOf, gAt, pMod, pDiv, pMul, pPow, ha, hm]
      rw [law_alike_s]
      exact alike_step e hl (hr row0 d e)
theorem is_number_eq (i a b : Int) : m_is_number [.int i, .int a, .int b] = some (.bool (decide (a ≤ i) && decide (i ≤ b))) := by
  by_cases h1 : a ≤ i <;> by_cases h2 : i ≤ b <;> simp [m_is_number, b_is_number, fVar, fBor, fC, aNil, aCons, fTup, fLst, fBin, fTst, fChain, fAnd, fOr, fNot, fNeg, tAndF, tOrF, tNotF, fTru, fIf, fSl, oNone, oSome, fCall, fCallR, fRow, fRowLen, fRowAt, sSet, sPars, setsE, xVal, xLst, xNew, xDict1, sRet, sNo, sNil, sSeq, sIf, eFrz, sFrz, sUnp, gtName, gtNil, gtCons, gtTup, fSeq, sAug, sDrop, sApp, sExt, sDPut, fOfX, sRow, xsNil, xsCons, fIsi, fIsi2, okRg, fRg1, fRg2, fEn, mkF, mkR, startE, tYesF, OwD.d, sFor, xLc, xDc, wipeE, truD, isNoneD, gIsN, gNotN, isiD, maxLen, gI, gOr, gAdd, gMul, gCatT, gCatL, gLtX, gLt, gLen, gInt, gTupOf, gListOf, gAt, pMod, pDiv, pMul, pPow, h1, h2]
theorem has_items_eq (ds : List D) (a b : Int) : m_has_items [.tuple ds, .int a, .int b] = some (.bool (decide (a ≤ ds.length) && decide ((ds.length : Int) ≤ b))) := by
  by_cases h1 : a ≤ ds.length <;> by_cases h2 : (ds.length : Int) ≤ b <;> simp [m_has_items, b_has_items, fVar, fBor, fC, aNil, aCons, fTup, fLst, fBin, fTst, fChain, fAnd, fOr, fNot, fNeg, tAndF, tOrF, tNotF, fTru, fIf, fSl, oNone, oSome, fCall, fCallR, fRow, fRowLen, fRowAt, sSet, sPars, setsE, xVal, xLst, xNew, xDict1, sRet, sNo, sNil, sSeq, sIf, eFrz, sFrz, sUnp, gtName, gtNil, gtCons, gtTup, fSeq, sAug, sDrop, sApp, sExt, sDPut, fOfX, sRow, xsNil, xsCons, fIsi, fIsi2, okRg, fRg1, fRg2, fEn, mkF, mkR, startE, tYesF, OwD.d, sFor, xLc, xDc, wipeE, truD, isNoneD, gIsN, gNotN, isiD, maxLen, gI, gOr, gAdd, gMul, gCatT, gCatL, gLtX, gLt, gLen, gInt, gTupOf, gListOf, gAt, pMod, pDiv, pMul, pPow, h1, h2]
theorem is_talk_ok {s h w n : Int} (hs : 0 ≤ s ∧ s < n) (hh : 0 ≤ h ∧ h < n) (hn : h ≠ s) (hw : 0 ≤ w ∧ w ≤ 5) : m_is_talk [.tuple [.int s, .int h, .int w], .int n] = some (.bool true) := by
  have e1 : s ≤ n - 1 := by omega
  have e2 : h ≤ n - 1 := by omega
  have e3 : gNe (.int s) (.int h) = some (.bool true) := by
    rw [ne_int]; simp; omega
  simp [m_is_talk, b_is_talk, fVar, fBor, fC, aNil, aCons, fTup, fLst, fBin, fTst, fChain, fAnd, fOr, fNot, fNeg, tAndF, tOrF, tNotF, fTru, fIf, fSl, oNone, oSome, fCall, fCallR, fRow, fRowLen, fRowAt, sSet, sPars, setsE, xVal, xLst, xNew, xDict1, sRet, sNo, sNil, sSeq, sIf, eFrz, sFrz, sUnp, gtName, gtNil, gtCons, gtTup, fSeq, sAug, sDrop, sApp, sExt, sDPut, fOfX, sRow, xsNil, xsCons, fIsi, fIsi2, okRg, fRg1, fRg2, fEn, mkF, mkR, startE, tYesF, OwD.d, sFor, xLc, xDc, wipeE, truD, isNoneD, gIsN, gNotN, isiD, maxLen, gI, gOr, gAdd, gMul, gCatT, gCatL, gLtX, gLt, gLen, gInt, gTupOf, gListOf, gAt, pMod, pDiv, pMul, pPow, has_items_eq, is_number_eq, e1, e2, hs.1, hh.1, hw.1, hw.2, e3]
structure OkB (n : Int) (m : Nat) (s : Int) (b : Br) : Prop where
  h : 0 ≤ b.1 ∧ b.1 < n
  ne : b.1 ≠ s
  w : 0 ≤ b.2.1 ∧ b.2.1 ≤ 5
  t : 0 ≤ b.2.2 ∧ b.2.2 < m
def Two (bs : List Br) : Prop := (∃ b, bs = [b]) ∨ ∃ b c, bs = [b, c] ∧ HT.lexLt [b.1, b.2.1] [c.1, c.2.1] = true
structure Ok (n : Int) (ss : List Sc) : Prop where
  n2 : 2 ≤ n ∧ n ≤ 4
  m : 1 ≤ ss.length ∧ ss.length ≤ 7
  sc : ∀ s bs, some (s, bs) ∈ ss → (0 ≤ s ∧ s < n) ∧ Two bs ∧ ∀ b ∈ bs, OkB n ss.length s b
theorem is_branch_ok {n : Int} {m : Nat} {s : Int} {b : Br} (hs : 0 ≤ s ∧ s < n) (k : OkB n m s b) : m_is_branch [eB b, .int s, .int n, .int m] = some (.bool true) := by
  have e1 : b.2.2 ≤ (m : Int) - 1 := by have := k.t; omega
  simp [m_is_branch, b_is_branch, eB, fVar, fBor, fC, aNil, aCons, fTup, fLst, fBin, fTst, fChain, fAnd, fOr, fNot, fNeg, tAndF, tOrF, tNotF, fTru, fIf, fSl, oNone, oSome, fCall, fCallR, fRow, fRowLen, fRowAt, sSet, sPars, setsE, xVal, xLst, xNew, xDict1, sRet, sNo, sNil, sSeq, sIf, eFrz, sFrz, sUnp, gtName, gtNil, gtCons, gtTup, fSeq, sAug, sDrop, sApp, sExt, sDPut, fOfX, sRow, xsNil, xsCons, fIsi, fIsi2, okRg, fRg1, fRg2, fEn, mkF, mkR, startE, tYesF, OwD.d, sFor, xLc, xDc, wipeE, truD, isNoneD, gIsN, gNotN, isiD, maxLen, gI, gOr, gAdd, gMul, gCatT, gCatL, gLtX, gLt, gLen, gInt, gTupOf, gListOf, gAt, pMod, pDiv, pMul, pPow, has_items_eq, is_number_eq, is_talk_ok hs k.h k.ne k.w, k.t.1, e1]
end Lw

namespace Lw
open PySem RT
theorem mkF_nx {n k : Nat} {b : FS} {ds : List D} {e : FEn} {x : FRow} (hk : ds.length = k) (h : b (startE n ds) row0 = some (.nx e, x)) : mkF n k b ds = some .none := by
  simp [mkF, hk, h]
theorem intsD_map : ∀ l : List Int, intsD (l.map .int) = some l
  | [] => rfl
  | a :: l => by simp [intsD, intsD_map l]
theorem bools_map {α : Type} (f : α → Bool) : ∀ l : List α, bools (l.map fun a => .bool (f a)) = some (l.map f)
  | [] => rfl
  | a :: l => by simp [bools, bools_map f l]
theorem rising1 (b : Br) : m_is_rising [.list [.tuple [.int b.1, .int b.2.1]]] = some (.bool true) := by
  refine mkF_rt (x := row0) rfl ?_
  simp [b_is_rising, fBin, fBor, fVar, fC, fCall, fOfX, xLc, fRg1, okRg, rgD, compL, aCons, aNil, sRet, gLen, gI, gAll, bools, startE, OwD.d, maxLen]
theorem rising2 (b c : Br) (h : HT.lexLt [b.1, b.2.1] [c.1, c.2.1] = true) : m_is_rising [.list [.tuple [.int b.1, .int b.2.1], .tuple [.int c.1, .int c.2.1]]] = some (.bool true) := by
  refine mkF_rt (x := row0) rfl ?_
  simp [b_is_rising, fBin, fBor, fVar, fC, fCall, fOfX, xLc, fRg1, okRg, rgD, compL, aCons, aNil, sRet, gLen, gI, gAll, bools, startE, OwD.d, maxLen, gtName, tYesF, gAt, gLtX, gLt, gOr, gLtT, intsD, atI_z0, atI_z1, gAdd, wipeE, h]
theorem cut2 (b : Br) : cutL [D.int b.1, .int b.2.1, .int b.2.2] none (some 2) = [.int b.1, .int b.2.1] := by
  simp [cutL, HT.sIx]
theorem is_scene_none (n m : Int) : m_is_scene [.none, .int n, .int m] = some (.bool true) := by
  refine mkF_rt (x := row0) rfl ?_
  simp [b_is_scene, sSeq, sIf, fTst, fBin, fBor, fC, gIsN, isNoneD, sRet, startE]
theorem is_scene_ok {n : Int} {m : Nat} {s : Int} {bs : List Br} (hs : 0 ≤ s ∧ s < n) (h2 : Two bs) (hb : ∀ b ∈ bs, OkB n m s b) : m_is_scene [eS (some (s, bs)), .int n, .int m] = some (.bool true) := by
  refine mkF_rt (x := row0) rfl ?_
  have e0 := has_items_eq [.int s, .tuple (bs.map eB)] 2 2
  have c1 : fOfX (xLc (fSeq (fVar 4)) (gtName 5) tYesF (fCall m_is_branch (aCons (fVar 5) (aCons (fVar 3) (aCons (fVar 1) (aCons (fVar 2) aNil))))) [5]) [.va (eS (some (s, bs))), .va (.int n), .va (.int m), .va (.int s), .va (.tuple (bs.map eB)), .no] row0 = some (.list (bs.map fun _ => .bool true), row0) := by
    refine lc_eq (ds := bs.map eB) (by simp [fSeq, fVar]) (compL_map eB _ bs fun b hb' => ⟨_, rfl, rfl, ?_⟩) ?_
    · simp [fCall, aCons, aNil, fVar, wipeE, gtName, is_branch_ok hs (hb b hb')]
    · rcases h2 with ⟨b, rfl⟩ | ⟨b, c, rfl, _⟩ <;> simp [maxLen]
  have c2 : ∀ z, fOfX (xLc (fSeq (fVar 4)) (gtName 5) tYesF (fSl (fBor 5) oNone (oSome (fC (.int 2)))) [5]) [.va (eS (some (s, bs))), .va (.int n), .va (.int m), .va (.int s), .va (.tuple (bs.map eB)), z] row0 = some (.list (bs.map fun b => .tuple [.int b.1, .int b.2.1]), row0) := by
    intro z
    refine lc_eq (ds := bs.map eB) (by simp [fSeq, fVar]) (compL_map eB _ bs fun b hb' => ⟨_, rfl, rfl, ?_⟩) ?_
    · simp [fSl, fBor, oNone, oSome, fC, wipeE, gtName, eB, gSl, cut2]
    · rcases h2 with ⟨b, rfl⟩ | ⟨b, c, rfl, _⟩ <;> simp [maxLen]
  have c3 : m_is_rising [.list (bs.map fun b => .tuple [.int b.1, .int b.2.1])] = some (.bool true) := by
    rcases h2 with ⟨b, rfl⟩ | ⟨b, c, rfl, hl⟩
    · exact rising1 b
    · exact rising2 b c hl
  have c4 : gAll [.list (bs.map fun _ => .bool true)] = some (.bool true) := by
    simp only [gAll, bools_map (fun _ => true)]; simp
  have c5 : (bs.length : Int) ≠ 0 := by rcases h2 with ⟨b, rfl⟩ | ⟨b, c, rfl, _⟩ <;> simp
  have c6 : fTst (fBin gIsN (fBor 0) (fC .none)) [.va (eS (some (s, bs))), .va (.int n), .va (.int m), .no, .no, .no] row0 = some (false, row0) := by
    simp [fTst, fBin, fBor, fC, gIsN, isNoneD, eS]
  have c7 : tNotF (fTru (fCall m_has_items (aCons (fVar 0) (aCons (fC (.int 2)) (aCons (fC (.int 2)) aNil))))) [.va (eS (some (s, bs))), .va (.int n), .va (.int m), .no, .no, .no] row0 = some (false, row0) := by
    simp [tNotF, fTru, fCall, aCons, aNil, fVar, fC, eS, e0, truD]
  have c8 : sUnp (fVar 0) (gtTup 2 (gtCons (gtName 3) (gtCons (gtName 4) gtNil))) [.va (eS (some (s, bs))), .va (.int n), .va (.int m), .no, .no, .no] row0 = some (.nx [.va (eS (some (s, bs))), .va (.int n), .va (.int m), .va (.int s), .va (.tuple (bs.map eB)), .no], row0) := by
    simp [sUnp, fVar, gtTup, gtCons, gtName, gtNil, eS]
  have c9 : tOrF (tNotF (fTru (fIsi .tuple (fBor 4)))) (fTst (fBin gEq (fCall gLen (aCons (fBor 4) aNil)) (fC (.int 0)))) [.va (eS (some (s, bs))), .va (.int n), .va (.int m), .va (.int s), .va (.tuple (bs.map eB)), .no] row0 = some (false, row0) := by
    simp [tOrF, tNotF, fTru, fIsi, fBor, isiD, truD, fTst, fBin, fCall, aCons, aNil, gLen, fC, eq_int, c5]
    intro h; simp [h] at c5
  show b_is_scene [.va (eS (some (s, bs))), .va (.int n), .va (.int m), .no, .no, .no] row0 = _
  simp only [b_is_scene, sSeq, sIf, c6, c7, c8, c9, sNil]
  simp only [fCall, aCons, aNil, c1, c4, tNotF, fTru, truD, Bool.not_true, sRet, c2, c3]
theorem sc_ok {n : Int} {ss : List Sc} (k : Ok n ss) {sc : Sc} (h : sc ∈ ss) : m_is_scene [eS sc, .int n, .int ss.length] = some (.bool true) := by
  cases sc with
  | none => exact is_scene_none n ss.length
  | some p => obtain ⟨h1, h2, h3⟩ := k.sc p.1 p.2 h; exact is_scene_ok h1 h2 h3
theorem form_ok {n : Int} {ss : List Sc} (k : Ok n ss) : m_has_script_form [eX n ss] = some (.bool true) := by
  refine mkF_rt (x := row0) rfl ?_
  have e0 := has_items_eq [.int n, .tuple (ss.map eS)] 2 2
  have e1 := has_items_eq (ss.map eS) 1 8
  have h1 : (1 : Int) ≤ ss.length ∧ (ss.length : Int) ≤ 8 := by have := k.m; omega
  rw [List.length_map] at e1
  have h2 := k.n2
  have h3 := is_number_eq n 2 4
  simp [b_has_script_form, sSeq, sIf, tNotF, fTru, fCall, aCons, aNil, fVar, fC, eX, e0, truD, sNil, sUnp, gtTup, gtCons, gtName, gtNil, sRet, fAnd, e1, h3, startE, h1, h2]
theorem check_ok {n : Int} {ss : List Sc} (k : Ok n ss) : ∃ d, m_check_script [eX n ss] = some d := by
  have hf := form_ok k
  obtain ⟨e2, h4, _⟩ := forL_inv (x := row0) (gt := gtTup 2 (gtCons (gtName 3) (gtCons (gtName 4) gtNil))) (b := sIf (tNotF (fTru (fCall m_is_scene (aCons (fVar 4) (aCons (fVar 1) (aCons (fCall gLen (aCons (fBor 2) aNil)) aNil)))))) sNo sNil) (fun p : Sc × Nat => D.tuple [.int (p.2 : Int), eS p.1]) (fun (_ : Unit) _ => ()) (fun _ env => ∃ z u, env = [.va (eX n ss), .va (.int n), .va (.tuple (ss.map eS)), z, u]) ss.zipIdx () [.va (eX n ss), .va (.int n), .va (.tuple (ss.map eS)), .no, .no] (by
    rintro ⟨sc, i⟩ hp _ env ⟨z, u, rfl⟩
    have hm : sc ∈ ss := by
      have := List.mem_zipIdx hp; rw [this.2.2]; exact List.getElem_mem _
    refine ⟨_, [.va (eX n ss), .va (.int n), .va (.tuple (ss.map eS)), .va (.int i), .va (eS sc)], rfl, ?_, _, _, rfl⟩
    simp [sIf, tNotF, fTru, fCall, aCons, aNil, fVar, fBor, gLen, sc_ok k hm, truD, sNil]) ⟨_, _, rfl⟩
  refine ⟨_, mkF_nx (e := e2) (x := row0) rfl ?_⟩
  have c1 : tNotF (fTru (fCall m_has_script_form (aCons (fVar 0) aNil))) [.va (eX n ss), .no, .no, .no, .no] row0 = some (false, row0) := by
    simp [tNotF, fTru, fCall, aCons, aNil, fVar, hf, truD]
  have c2 : sUnp (fVar 0) (gtTup 2 (gtCons (gtName 1) (gtCons (gtName 2) gtNil))) [.va (eX n ss), .no, .no, .no, .no] row0 = some (.nx [.va (eX n ss), .va (.int n), .va (.tuple (ss.map eS)), .no, .no], row0) := by
    simp [sUnp, fVar, gtTup, gtCons, gtName, gtNil, eX]
  have c3 : fEn (fVar 2) [.va (eX n ss), .va (.int n), .va (.tuple (ss.map eS)), .no, .no] row0 = some (ss.zipIdx.map (fun p : Sc × Nat => D.tuple [.int (p.2 : Int), eS p.1]), row0) := by
    simp only [fEn, fVar]; rw [← enD_map]; rfl
  show b_check_script [.va (eX n ss), .no, .no, .no, .no] row0 = _
  simp only [b_check_script, sSeq, sIf, c1, sNil, c2, sFor, c3]
  exact h4
end Lw

namespace Lw
open PySem RT
theorem whL_inv {t : FT} {b : FS} {x : FRow} (R : Nat → FEn → Prop) (stop : Nat) (h : ∀ k env, R k env → k < stop → t env x = some (true, x) ∧ ∃ e2, b env x = some (.nx e2, x) ∧ R (k + 1) e2) (he : ∀ env, R stop env → t env x = some (false, x)) : ∀ (fuel k : Nat) (env : FEn), R k env → k ≤ stop → stop - k < fuel → ∃ e2, whL t b fuel env x = some (.nx e2, x) ∧ R stop e2
  | 0, _, _, _, _, hf => by omega
  | fuel + 1, k, env, r, hk, hf => by
    by_cases c : k = stop
    · subst c
      exact ⟨env, by simp [whL, he env r], r⟩
    · obtain ⟨h1, e2, h2, h3⟩ := h k env r (by omega)
      obtain ⟨e3, h4, h5⟩ := whL_inv R stop h he fuel (k + 1) e2 h3 (by omega) (by omega)
      exact ⟨e3, by simp [whL, h1, h2, h4], h5⟩
theorem first_ex {P : Nat → Prop} : ∀ N, P N → ∃ k, k ≤ N ∧ P k ∧ ∀ j, j < k → ¬ P j
  | 0, h => ⟨0, by omega, h, fun j hj => by omega⟩
  | N + 1, h => by
    by_cases c : ∃ j, j ≤ N ∧ P j
    · obtain ⟨j, hj, pj⟩ := c
      have : ∀ M, M ≤ N → P M → ∃ k, k ≤ M ∧ P k ∧ ∀ j, j < k → ¬ P j := by
        intro M
        induction M using Nat.strongRecOn with
        | ind M ih =>
          intro hM pM
          by_cases d : ∃ i, i < M ∧ P i
          · obtain ⟨i, hi, pi⟩ := d
            obtain ⟨k, k1, k2, k3⟩ := ih i hi (by omega) pi
            exact ⟨k, by omega, k2, k3⟩
          · exact ⟨M, by omega, pM, fun i hi pi => d ⟨i, hi, pi⟩⟩
      obtain ⟨k, k1, k2, k3⟩ := this j hj pj
      exact ⟨k, by omega, k2, k3⟩
    · exact ⟨N + 1, by omega, h, fun j hj pj => c ⟨j, by omega, pj⟩⟩
def eT (s : Int) (b : Br) : D := .tuple [.tuple [.int s, .int b.1, .int b.2.1], .int b.2.2]
def tk : Sc → List D
  | none => []
  | some (s, bs) => bs.map (eT s)
def scAt (ss : List Sc) (v : Int) : Sc := match ss[v.toNat]? with
  | some sc => sc
  | none => none
def bsOf : Sc → List Br
  | none => []
  | some (_, bs) => bs
def brs (ss : List Sc) (v : Int) : List Br := bsOf (scAt ss v)
def GG (ss : List Sc) (v : Int) : List Int := (brs ss v).map (·.2.2)
theorem Two.len {bs : List Br} (h : Two bs) : 1 ≤ bs.length ∧ bs.length ≤ 2 := by
  rcases h with ⟨b, rfl⟩ | ⟨b, c, rfl, _⟩ <;> simp
theorem Ok.bsl {n : Int} {ss : List Sc} (k : Ok n ss) {sc : Sc} (h : sc ∈ ss) : (bsOf sc).length ≤ 2 := by
  cases sc with
  | none => simp [bsOf]
  | some p => exact (k.sc p.1 p.2 h).2.1.len.2
theorem scAt_mem {ss : List Sc} {v : Int} (h0 : 0 ≤ v) (h1 : v < ss.length) : ss[v.toNat]? = some (scAt ss v) ∧ scAt ss v ∈ ss := by
  have : v.toNat < ss.length := by omega
  have e : ss[v.toNat]? = some ss[v.toNat] := List.getElem?_eq_getElem this
  have e2 : scAt ss v = ss[v.toNat] := by unfold scAt; rw [e]
  rw [e2]; exact ⟨e, List.getElem_mem this⟩
theorem Ok.web {n : Int} {ss : List Sc} (k : Ok n ss) : Bf.Web ss.length (GG ss) where
  le := by have := k.m; omega
  to := by
    intro u hu t ht
    obtain ⟨b, hb, rfl⟩ := List.mem_map.mp ht
    have h := (scAt_mem hu.1 hu.2).2
    unfold brs at hb
    cases e : scAt ss u with
    | none => rw [e] at hb; simp [bsOf] at hb
    | some p =>
      rw [e] at hb h
      exact ((k.sc p.1 p.2 h).2.2 b hb).t
theorem talks_from_eq {sc : Sc} (h : (bsOf sc).length ≤ 2) : m_talks_from [eS sc] = some (.list (tk sc)) := by
  cases sc with
  | none =>
    refine mkF_rt (x := row0) rfl ?_
    simp [b_talks_from, sSeq, sIf, fTst, fBin, fBor, fC, gIsN, isNoneD, sRet, startE, fLst, aNil, maxLen, eS, tk]
  | some p =>
    obtain ⟨s, bs⟩ := p
    refine mkF_rt (x := row0) rfl ?_
    have c1 : fOfX (xLc (fSeq (fVar 2)) (gtTup 3 (gtCons (gtName 3) (gtCons (gtName 4) (gtCons (gtName 5) gtNil)))) tYesF (fTup (aCons (fTup (aCons (fVar 1) (aCons (fVar 3) (aCons (fVar 4) aNil)))) (aCons (fVar 5) aNil))) [3, 4, 5]) [.va (eS (some (s, bs))), .va (.int s), .va (.tuple (bs.map eB)), .no, .no, .no] row0 = some (.list (bs.map (eT s)), row0) := by
      refine lc_eq (ds := bs.map eB) (by simp [fSeq, fVar]) (compL_map eB _ bs fun b hb' => ⟨_, rfl, rfl, ?_⟩) ?_
      · simp [fTup, aCons, aNil, fVar, wipeE, gtName, eT, maxLen]
      · simp only [bsOf] at h; simp only [List.length_map, maxLen]; omega
    have c2 : fTst (fBin gIsN (fBor 0) (fC .none)) [.va (eS (some (s, bs))), .no, .no, .no, .no, .no] row0 = some (false, row0) := by
      simp [fTst, fBin, fBor, fC, gIsN, isNoneD, eS]
    have c3 : sUnp (fVar 0) (gtTup 2 (gtCons (gtName 1) (gtCons (gtName 2) gtNil))) [.va (eS (some (s, bs))), .no, .no, .no, .no, .no] row0 = some (.nx [.va (eS (some (s, bs))), .va (.int s), .va (.tuple (bs.map eB)), .no, .no, .no], row0) := by
      simp [sUnp, fVar, gtTup, gtCons, gtName, gtNil, eS]
    show b_talks_from [.va (eS (some (s, bs))), .no, .no, .no, .no, .no] row0 = _
    simp only [b_talks_from, sSeq, sIf, c2, sNil, c3, sRet, c1, tk]
def webD (ss : List Sc) : D := .list (ss.map fun sc => .list (tk sc))
theorem talk_web_eq {n : Int} {ss : List Sc} (k : Ok n ss) : m_talk_web [eX n ss] = some (webD ss) := by
  refine mkF_rt (x := row0) rfl ?_
  have c1 : fOfX (xLc (fSeq (fBin gAt (fBor 0) (fC (.int 1)))) (gtName 1) tYesF (fCall m_talks_from (aCons (fVar 1) aNil)) [1]) [.va (eX n ss), .no] row0 = some (webD ss, row0) := by
    refine lc_eq (ds := ss.map eS) (by simp [fSeq, fBin, fBor, fC, gAt, eX, atI_z1]) (compL_map eS _ ss fun sc hb' => ⟨_, rfl, rfl, ?_⟩) ?_
    · simp [fCall, aCons, aNil, fVar, wipeE, gtName, talks_from_eq (k.bsl hb')]
    · have := k.m; simp only [List.length_map, maxLen]; omega
  show b_talk_web [.va (eX n ss), .no] row0 = _
  simp only [b_talk_web, sRet, c1]
theorem web_at {ss : List Sc} {v : Int} (h0 : 0 ≤ v) (h1 : v < ss.length) : gAt (webD ss) (.int v) = some (.list (tk (scAt ss v))) := by
  have e := (scAt_mem h0 h1).1
  simp only [webD, gAt]
  exact atI_int h0 (by rw [List.getElem?_map, e]; rfl)
theorem tk_map (sc : Sc) : ∃ s, tk sc = (bsOf sc).map (eT s) := by
  cases sc with
  | none => exact ⟨0, rfl⟩
  | some p => exact ⟨p.1, rfl⟩
theorem adds_fold (bs : List Br) : ∀ acc : List Int, bs.foldl (fun acc b => Bf.adds acc [b.2.2]) acc = Bf.adds acc (bs.map (·.2.2)) := by
  induction bs with
  | nil => intro acc; rfl
  | cons b bs ih => intro acc; rw [List.foldl_cons, ih, List.map_cons, Bf.adds_cons, Bf.adds_cons, Bf.adds_nil]
end Lw

namespace Lw
open PySem RT
variable {n : Int} {ss : List Sc}
theorem eX_at {n : Int} {ss : List Sc} {v : Int} (h0 : 0 ≤ v) (h1 : v < ss.length) : gAt (.tuple (ss.map eS)) (.int v) = some (eS (scAt ss v)) := by
  have e := (scAt_mem h0 h1).1
  simp only [gAt]
  exact atI_int h0 (by rw [List.getElem?_map, e]; rfl)
theorem eX_1 (n : Int) (ss : List Sc) : gAt (eX n ss) (.int 1) = some (.tuple (ss.map eS)) := by simp [gAt, eX, atI_z1]
theorem eX_0 (n : Int) (ss : List Sc) : gAt (eX n ss) (.int 0) = some (.int n) := by simp [gAt, eX, atI_z0]
theorem forL_find {α : Type} {gt : FGt} {b : FS} {x : FRow} (enc : α → D) (p : α → Bool) (d : D) (R : FEn → Prop) : ∀ (l : List α) (env : FEn), (∀ a ∈ l, ∀ env, R env → ∃ e, gt (enc a) env = some e ∧ (p a = true → b e x = some (.rt d, x)) ∧ (p a = false → ∃ e2, b e x = some (.nx e2, x) ∧ R e2)) → R env →
    (l.any p = true → forL gt b (l.map enc) env x = some (.rt d, x)) ∧ (l.any p = false → ∃ e2, forL gt b (l.map enc) env x = some (.nx e2, x) ∧ R e2)
  | [], env, _, r => ⟨by simp, fun _ => ⟨env, rfl, r⟩⟩
  | a :: l, env, h, r => by
    obtain ⟨e, h1, h2, h3⟩ := h a (by simp) env r
    cases hp : p a with
    | true => exact ⟨fun _ => by simp [forL, h1, h2 hp], fun h => by simp [hp] at h⟩
    | false =>
      obtain ⟨e2, h4, h5⟩ := h3 hp
      have ih := forL_find enc p d R l e2 (fun b hb => h b (by simp [hb])) h5
      constructor
      · intro hh
        have := ih.1 (by simpa [hp] using hh)
        simp [forL, h1, h4, this]
      · intro hh
        obtain ⟨e3, h6, h7⟩ := ih.2 (by simpa [hp] using hh)
        exact ⟨e3, by simp [forL, h1, h4, h6], h7⟩
theorem Ok.z (k : Ok n ss) : (0 : Int) ≤ 0 ∧ (0 : Int) < ss.length := by have := k.m; omega
theorem drop_ok (k : Ok n ss) {rest : List FSl} : sDrop (fCall m_check_script (aCons (fVar 0) aNil)) (.va (eX n ss) :: rest) row0 = some (.nx (.va (eX n ss) :: rest), row0) := by
  obtain ⟨d, h⟩ := check_ok k
  simp [sDrop, fCall, aCons, aNil, fVar, h]
def isEnd (ss : List Sc) (v : Int) : Bool := (scAt ss v).isNone
theorem none_eS (sc : Sc) : gIsN (eS sc) .none = some (.bool sc.isNone) := by
  cases sc <;> simp [gIsN, eS, isNoneD]
def spk : Sc → Int
  | none => 0
  | some (s, _) => s
theorem tk_eq (sc : Sc) : tk sc = (bsOf sc).map (eT (spk sc)) := by cases sc <;> rfl
theorem brs_len (k : Ok n ss) {v : Int} (hv : 0 ≤ v ∧ v < ss.length) : (brs ss v).length ≤ 2 := k.bsl (scAt_mem hv.1 hv.2).2
theorem brs_t (k : Ok n ss) {v : Int} (hv : 0 ≤ v ∧ v < ss.length) : ∀ b ∈ brs ss v, 0 ≤ b.2.2 ∧ b.2.2 < (ss.length : Int) := fun b hb => k.web.to v hv b.2.2 (List.mem_map.mpr ⟨b, hb, rfl⟩)
theorem P0i (i : Int) : P0 (.int i) := Or.inr (Or.inl ⟨i, rfl⟩)
theorem pt_ints {l : List Int} (h : l.length ≤ 1000) : Pt 1 (.tuple (l.map .int)) := by
  refine Or.inr ⟨_, Or.inl rfl, by simpa using h, ?_⟩
  intro e he
  obtain ⟨i, _, rfl⟩ := List.mem_map.mp he
  exact P0i i
theorem pt_eX (k : Ok n ss) : Pt 5 (eX n ss) := by
  have hm := k.m
  have b1 : ∀ b : Br, Pt 1 (eB b) := fun b => Or.inr ⟨_, Or.inl rfl, by simp, by
    intro e he
    simp only [List.mem_cons, List.not_mem_nil, or_false] at he
    rcases he with rfl | rfl | rfl <;> exact P0i _⟩
  have s1 : ∀ sc ∈ ss, Pt 3 (eS sc) := by
    intro sc hsc
    have hb := k.bsl hsc
    cases sc with
    | none => exact Or.inl (Or.inl rfl)
    | some p =>
      obtain ⟨s, bs⟩ := p
      simp only [bsOf] at hb
      have hbs : Pt 2 (.tuple (bs.map eB)) := by
        refine Or.inr ⟨_, Or.inl rfl, by simp; omega, ?_⟩
        intro e he
        obtain ⟨b, _, rfl⟩ := List.mem_map.mp he
        exact b1 b
      refine Or.inr ⟨_, Or.inl rfl, by simp, ?_⟩
      intro e he
      simp only [List.mem_cons, List.not_mem_nil, or_false] at he
      rcases he with rfl | rfl
      · exact Pt.le (k := 0) (P0i s) (by omega)
      · exact hbs
  have x1 : Pt 4 (.tuple (ss.map eS)) := by
    refine Or.inr ⟨_, Or.inl rfl, by simp; omega, ?_⟩
    intro e he
    obtain ⟨sc, hsc, rfl⟩ := List.mem_map.mp he
    exact s1 sc hsc
  refine Or.inr ⟨_, Or.inl rfl, by simp, ?_⟩
  intro e he
  simp only [List.mem_cons, List.not_mem_nil, or_false] at he
  rcases he with rfl | rfl
  · exact Pt.le (k := 0) (P0i n) (by omega)
  · exact x1
theorem alike9 {d : D} (h : Pt 5 d) : m_law_alike 9 [d, d] = some (.bool true) := alike_ok 8 (h.le (by omega))
theorem tupOf_ok {F : FE} {env : FEn} {x x1 : FRow} {ds : List D} (h : F env x = some (.list ds, x1)) : fCall gTupOf (aCons F aNil) env x = some (.tuple ds, x1) := by
  simp only [fCall, aCons, aNil, h, gTupOf]
theorem fTup_ok {t : FA} {env : FEn} {x x1 : FRow} {ds : List D} (h : t env x = some (ds, x1)) (hl : ds.length ≤ maxLen) : fTup t env x = some (.tuple ds, x1) := by
  simp only [fTup, h, if_pos hl]
theorem fBin_cat {fa fb : FE} {env : FEn} {x x1 x2 : FRow} {xs ys : List D} (h : fa env x = some (.tuple xs, x1)) (h' : fb env x1 = some (.tuple ys, x2)) (hl : xs.length + ys.length ≤ maxLen) : fBin gAdd fa fb env x = some (.tuple (xs ++ ys), x2) := by
  simp only [fBin, h, h', gAdd, gOr, gI, gCatT, if_pos hl]
theorem aCons2 {fa fb : FE} {env : FEn} {x x1 x2 : FRow} {d e : D} (h : fa env x = some (d, x1)) (h' : fb env x1 = some (e, x2)) : aCons fa (aCons fb aNil) env x = some ([d, e], x2) := by
  simp only [aCons, aNil, h, h']
theorem nob {α : Type} (l : List α) (h : l.length ≤ 100) : l.length < maxLen := by simp only [maxLen]; omega
theorem fLst_ok {t : FA} {env : FEn} {x x1 : FRow} {ds : List D} (h : t env x = some (ds, x1)) (hl : ds.length ≤ maxLen) : fLst t env x = some (.list ds, x1) := by
  simp only [fLst, h, if_pos hl]
theorem ml (k : Nat) (h : k ≤ 1000) : k ≤ maxLen := by simp only [maxLen]; omega
theorem sSet_va {i : Nat} {f : FE} {env : FEn} {x x1 : FRow} {d : D} (h : f env x = some (d, x1)) : sSet i (xVal f) env x = some (.nx (env.set i (.va d)), x1) := by
  simp only [sSet, xVal, h]
theorem fOr_eq {fa fb : FE} {env : FEn} {x : FRow} {a b : Bool} (h : fa env x = some (.bool a, x)) (h' : fb env x = some (.bool b, x)) : fOr fa fb env x = some (.bool (a || b), x) := by
  cases a <;> simp only [fOr, h, h', Bool.true_or, Bool.false_or]
theorem fAnd_eq {fa fb : FE} {env : FEn} {x : FRow} {a b : Bool} (h : fa env x = some (.bool a, x)) (h' : fb env x = some (.bool b, x)) : fAnd fa fb env x = some (.bool (a && b), x) := by
  cases a <;> simp only [fAnd, h, h', Bool.true_and, Bool.false_and]
theorem fBin_eq {gd : D → D → Option D} {fa fb : FE} {env : FEn} {x x1 x2 : FRow} {d e r : D} (h : fa env x = some (d, x1)) (h' : fb env x1 = some (e, x2)) (hg : gd d e = some r) : fBin gd fa fb env x = some (r, x2) := by
  simp only [fBin, h, h', hg]
theorem fCall_eq {m : List D → Option D} {fa : FA} {env : FEn} {x x1 : FRow} {ds : List D} {r : D} (h : fa env x = some (ds, x1)) (hm : m ds = some r) : fCall m fa env x = some (r, x1) := by
  simp only [fCall, h, hm]
theorem aCons1 {fa : FE} {env : FEn} {x x1 : FRow} {d : D} (h : fa env x = some (d, x1)) : aCons fa aNil env x = some ([d], x1) := by
  simp only [aCons, aNil, h]
theorem eB_2 (b : Br) : gAt (eB b) (.int 2) = some (.int b.2.2) := by simp [gAt, eB, atI_z2]
theorem fCallR_eq {i : Nat} {m : List D → FRow → Option (D × FRow)} {fa : FA} {env : FEn} {x x1 x2 : FRow} {ds : List D} {r : D} (he : env[i]? = some .rw) (h : fa env x = some (ds, x1)) (hm : m ds x1 = some (r, x2)) : fCallR i m fa env x = some (r, x2) := by
  simp only [fCallR, he, h, hm]
theorem aCons_eq {f : FE} {t : FA} {env : FEn} {x x1 x2 : FRow} {d : D} {ds : List D} (h : f env x = some (d, x1)) (h' : t env x1 = some (ds, x2)) : aCons f t env x = some (d :: ds, x2) := by
  simp only [aCons, h, h']
theorem alike_c {fa fb : FE} {env : FEn} {x : FRow} {d : D} (h : fa env x = some (d, x)) (h' : fb env x = some (d, x)) (hp : Pt 5 d) : fCall (m_law_alike 9) (aCons fa (aCons fb aNil)) env x = some (.bool true, x) := fCall_eq (aCons2 h h') (alike9 hp)
theorem alike_t {fa fb : FE} {env : FEn} {x : FRow} {d : D} (h : fa env x = some (d, x)) (h' : fb env x = some (d, x)) (hp : Pt 5 d) : tNotF (fTru (fCall (m_law_alike 9) (aCons fa (aCons fb aNil)))) env x = some (false, x) := by
  have := alike_c h h' hp
  simp only [tNotF, fTru, this, truD, Bool.not_true]
theorem if_no {t : FT} {f : FS} {env : FEn} {x : FRow} (h : t env x = some (false, x)) : sIf t f sNil env x = some (.nx env, x) := by
  simp only [sIf, h, sNil]
theorem or_no {t u : FT} {env : FEn} {x : FRow} (h : t env x = some (false, x)) (h' : u env x = some (false, x)) : tOrF t u env x = some (false, x) := by
  simp only [tOrF, h, h']
theorem prog {m : List D → Option D} {i : Nat} {env : FEn} {x : FRow} {d r : D} (h : fVar i env x = some (d, x)) (hm : m [d] = some r) : fCall m (aCons (fVar i) aNil) env x = some (r, x) := fCall_eq (aCons1 h) hm
theorem pt_b (b : Bool) : Pt 5 (.bool b) := Pt.le (k := 0) (Or.inr (Or.inr (Or.inr ⟨b, rfl⟩))) (by omega)
theorem for_eq {f : FA} {gt : FGt} {b : FS} {env : FEn} {x x1 : FRow} {ds : List D} {r : Option (FRs × FRow)} (h : f env x = some (ds, x1)) (hr : forL gt b ds env x1 = r) : sFor f gt b env x = r := by
  simp only [sFor, h, hr]
theorem xLst_ok {t : FA} {env : FEn} {x x1 : FRow} {ds : List D} (h : t env x = some (ds, x1)) (hl : ds.length ≤ maxLen) : xLst t env x = some (.ow (.lst ds), x1) := by
  simp only [xLst, h, if_pos hl]
end Lw

namespace Lw
open PySem RT
theorem taken_ok {x : FRow} {many : Int} (ha : 0 ≤ x.a) (hm : 0 < many) (hs : many < 1073741824) : ∃ r x', m_law_taken [.int many] x = some (.int r, x') ∧ 0 ≤ r ∧ r < many ∧ 0 ≤ x'.a := by
  obtain ⟨ns, a, b, c⟩ := x
  simp only at ha
  have hmod : ∀ z : Int, 0 ≤ z % many ∧ z % many < many := fun z => ⟨Int.emod_nonneg _ (by omega), Int.emod_lt_of_pos _ hm⟩
  simp only [m_law_taken, mkR, startE, b_law_taken]
  by_cases hc : 0 < c
  · refine ⟨c % many, ⟨ns, a, b, c / many⟩, ?_, (hmod c).1, (hmod c).2, ha⟩
    simp [sSeq, sIf, sSet, sRow, sRet, sNil, sAug, fTst, fBin, fRow, fC, fCall, fRowLen, fRowAt, fVar, fBor, xVal, aCons, aNil, gI, gInt, gOr, gAdd, gMul, gAddI, gMulI, pMod, pDiv, pMul, hc, hm, hs]
  · by_cases hl : (ns.length : Int) < a + 1
    · refine ⟨((b * 48271 + 11) % 2147483647 / 7) % many, ⟨ns, a + 1, (b * 48271 + 11) % 2147483647, c⟩, ?_, (hmod _).1, (hmod _).2, by simp only; omega⟩
      simp [sSeq, sIf, sSet, sRow, sRet, sNil, sAug, fTst, fBin, fRow, fC, fCall, fRowLen, fRowAt, fVar, fBor, xVal, aCons, aNil, gI, gInt, gOr, gAdd, gMul, gAddI, gMulI, pMod, pDiv, pMul, hc, hm, hs, hl]
    · have hlt : a.toNat < ns.length := by omega
      have hat : L2.atI ns a = some ns[a.toNat] := atI_int ha (List.getElem?_eq_getElem hlt)
      generalize ns[a.toNat] = f at hat
      by_cases hf : (1000000000000000000 : Int) ≤ f
      · refine ⟨f % many, ⟨ns, a + 1, (b * 48271 + f + 11) % 2147483647, f / many⟩, ?_, (hmod _).1, (hmod _).2, by simp only; omega⟩
        simp [sSeq, sIf, sSet, sRow, sRet, sNil, sAug, fTst, fBin, fRow, fC, fCall, fRowLen, fRowAt, fVar, fBor, xVal, aCons, aNil, gI, gInt, gOr, gAdd, gMul, gAddI, gMulI, pMod, pDiv, pMul, pPow, hc, hm, hs, hl, hat, hf]
      · refine ⟨f % many, ⟨ns, a + 1, (b * 48271 + f + 11) % 2147483647, c⟩, ?_, (hmod _).1, (hmod _).2, by simp only; omega⟩
        simp [sSeq, sIf, sSet, sRow, sRet, sNil, sAug, fTst, fBin, fRow, fC, fCall, fRowLen, fRowAt, fVar, fBor, xVal, aCons, aNil, gI, gInt, gOr, gAdd, gMul, gAddI, gMulI, pMod, pDiv, pMul, pPow, hc, hm, hs, hl, hat, hf]
def kB (b : Br) : D := .tuple [.int b.1, .int b.2.1]
def hd (acc : List Br) : List (D × D) := acc.map fun b => (kB b, .int b.2.2)
theorem kB_key (b : Br) : dKeyT (kB b) = some [.inl b.1, .inl b.2.1] := by simp [kB, dKeyT, dKeys, dKey]
theorem put0 (b : Br) : putD dKeyT (hd []) (kB b) [.inl b.1, .inl b.2.1] (.int b.2.2) = hd [b] := by
  simp [putD, hd]
theorem put1 (a b : Br) : ∃ acc : List Br, putD dKeyT (hd [a]) (kB b) [.inl b.1, .inl b.2.1] (.int b.2.2) = hd acc ∧ ((acc = [(a.1, a.2.1, b.2.2)] ∧ a.1 = b.1 ∧ a.2.1 = b.2.1) ∨ (acc = [a, b] ∧ ¬ (a.1 = b.1 ∧ a.2.1 = b.2.1))) := by
  by_cases c : a.1 = b.1 ∧ a.2.1 = b.2.1
  · refine ⟨[(a.1, a.2.1, b.2.2)], ?_, Or.inl ⟨rfl, c⟩⟩
    simp [putD, hd, kB, dKeyT, dKeys, dKey, c.1, c.2]
  · refine ⟨[a, b], ?_, Or.inr ⟨rfl, c⟩⟩
    have : ¬ (a.1 = b.1 ∧ a.2.1 = b.2.1) := c
    simp [putD, hd, kB, dKeyT, dKeys, dKey, this]
/-- a drawn branch -/
structure Dr (n : Int) (m : Nat) (s : Int) (q : Int → Prop) (b : Br) : Prop extends OkB n m s b where
  w2 : b.2.1 < 2
  qt : q b.2.2
abbrev bTurn : FS := sSeq (sSet 8 (xVal (fBin gModI (fCall gInt (aCons (fBin gAdd (fBin gAdd (fBor 5) (fC (.int 1))) (fCallR 0 m_law_taken (aCons (fBin gSubI (fBor 1) (fC (.int 1))) aNil))) aNil)) (fBor 1))))
    (sSeq (sSet 9 (xVal (fIf (fTru (fBor 4)) (fCallR 0 m_law_taken (aCons (fBin gAdd (fBor 3) (fC (.int 1))) aNil)) (fBin gAdd (fBin gAdd (fBor 2) (fC (.int 1))) (fCallR 0 m_law_taken (aCons (fBin gSubI (fBor 3) (fBor 2)) aNil))))))
    (sDPut 6 (fTup (aCons (fVar 8) (aCons (fCallR 0 m_law_taken (aCons (fC (.int 2)) aNil)) aNil))) (fVar 9)))
theorem other_mod {n s r : Int} (hn : 2 ≤ n ∧ n ≤ 4) (hs : 0 ≤ s ∧ s < n) (hr : 0 ≤ r ∧ r < n - 1) : 0 ≤ (s + 1 + r) % n ∧ (s + 1 + r) % n < n ∧ (s + 1 + r) % n ≠ s := by
  have : n = 2 ∨ n = 3 ∨ n = 4 := by omega
  rcases this with rfl | rfl | rfl <;> omega
def scE (n at' size : Int) (lp : Bool) (s : Int) (acc : List Br) (p q r : FSl) : FEn := [.rw, .va (.int n), .va (.int at'), .va (.int size), .va (.bool lp), .va (.int s), .ow (.dt (hd acc)), p, q, r, .no]
theorem turn_ok {n at' s : Int} {size : Nat} {lp : Bool} (hn : 2 ≤ n ∧ n ≤ 4) (hs : 0 ≤ s ∧ s < n) (hz : 1 ≤ size ∧ size ≤ 6) (ha : 0 ≤ at' ∧ at' < size) (acc : List Br) (hacc : acc.length ≤ 2) (p q r : FSl) {x : FRow} (hx : 0 ≤ x.a) :
    ∃ (b : Br) (x' : FRow) (q' r' : FSl), bTurn (scE n at' size lp s acc p q r) x = some (.nx [.rw, .va (.int n), .va (.int at'), .va (.int size), .va (.bool lp), .va (.int s), .ow (.dt (putD dKeyT (hd acc) (kB b) [.inl b.1, .inl b.2.1] (.int b.2.2))), p, q', r', .no], x') ∧ 0 ≤ x'.a ∧ Dr n (size + 1) s (fun t => lp = false → at' < t) b := by
  obtain ⟨r1, x1, h1, h1a, h1b, hx1⟩ := taken_ok (many := n - 1) hx (by omega) (by omega)
  have ho := other_mod hn hs ⟨h1a, h1b⟩
  have c1 : sSet 8 (xVal (fBin gModI (fCall gInt (aCons (fBin gAdd (fBin gAdd (fBor 5) (fC (.int 1))) (fCallR 0 m_law_taken (aCons (fBin gSubI (fBor 1) (fC (.int 1))) aNil))) aNil)) (fBor 1))) (scE n at' size lp s acc p q r) x = some (.nx (scE n at' size lp s acc p (.va (.int ((s + 1 + r1) % n))) r), x1) := by
    have : 0 < n := by omega
    simp [sSet, xVal, fBin, fCall, aCons, aNil, fBor, fC, fCallR, gAdd, gOr, gI, gInt, pMod, scE, h1, this]
  have ht : ∃ (t : Int) (x2 : FRow), sSet 9 (xVal (fIf (fTru (fBor 4)) (fCallR 0 m_law_taken (aCons (fBin gAdd (fBor 3) (fC (.int 1))) aNil)) (fBin gAdd (fBin gAdd (fBor 2) (fC (.int 1))) (fCallR 0 m_law_taken (aCons (fBin gSubI (fBor 3) (fBor 2)) aNil))))) (scE n at' size lp s acc p (.va (.int ((s + 1 + r1) % n))) r) x1 = some (.nx (scE n at' size lp s acc p (.va (.int ((s + 1 + r1) % n))) (.va (.int t))), x2) ∧ ((0 ≤ t ∧ t < ((size + 1 : Nat) : Int)) ∧ (lp = false → at' < t)) ∧ 0 ≤ x2.a := by
    cases lp with
    | true =>
      obtain ⟨t, x2, h2, h2a, h2b, hx2⟩ := taken_ok (many := (size : Int) + 1) hx1 (by omega) (by omega)
      refine ⟨t, x2, ?_, ⟨⟨h2a, by omega⟩, fun h => nomatch h⟩, hx2⟩
      simp [sSet, xVal, fIf, fTru, truD, fBin, aCons, aNil, fBor, fC, fCallR, gAdd, gOr, gI, scE, h2]
    | false =>
      obtain ⟨t, x2, h2, h2a, h2b, hx2⟩ := taken_ok (many := (size : Int) - at') hx1 (by omega) (by omega)
      refine ⟨at' + 1 + t, x2, ?_, ⟨⟨by omega, by omega⟩, fun _ => by omega⟩, hx2⟩
      simp [sSet, xVal, fIf, fTru, truD, fBin, aCons, aNil, fBor, fC, fCallR, gAdd, gOr, gI, scE, h2]
  obtain ⟨t, x2, c2, ht, hx2⟩ := ht
  obtain ⟨w, x3, h3, h3a, h3b, hx3⟩ := taken_ok (many := 2) hx2 (by omega) (by omega)
  refine ⟨((s + 1 + r1) % n, w, t), x3, .va (.int ((s + 1 + r1) % n)), .va (.int t), ?_, hx3, ⟨⟨⟨ho.1, ho.2.1⟩, ho.2.2, ⟨h3a, by simp only; omega⟩, ht.1⟩, h3b, ht.2⟩⟩
  have hle : (hd acc).length < maxLen := by simp only [hd, List.length_map, maxLen]; omega
  have hk := kB_key ((s + 1 + r1) % n, w, t)
  simp only [kB] at hk
  unfold bTurn
  rw [sSeq_nx c1, sSeq_nx c2]
  simp only [maxLen] at hle
  simp [sDPut, fTup, aCons, aNil, fVar, fC, fCallR, scE, h3, hk, hle, kB, maxLen]
theorem Dr.tup {n : Int} {m : Nat} {s : Int} {q : Int → Prop} {b : Br} (hn : n ≤ 4) (hm : m ≤ 8) (h : Dr n m s q b) : okTup 3 [b.1, b.2.1, b.2.2] = true := by
  have h1 := h.h; have h2 := h.w; have h3 := h.t; have h4 := h.w2
  simp only [okTup, List.length_cons, List.length_nil, List.all_cons, List.all_nil, Bool.and_true, Bool.and_eq_true, decide_eq_true_eq]
  refine ⟨trivial, ⟨h1.1, by omega⟩, ⟨h2.1, by omega⟩, ⟨h3.1, by omega⟩⟩
theorem eB_tup (b : Br) : eB b = tupD [b.1, b.2.1, b.2.2] := rfl
theorem sortX_of {l : List D} {d : D} (h : gSort l = some d) : gSortX l = some d := by simp only [gSortX, cOr, h]
theorem sortB1 {n : Int} {m : Nat} {s : Int} {q : Int → Prop} {a : Br} (hn : n ≤ 4) (hm : m ≤ 8) (h : Dr n m s q a) : gSort [.list [eB a]] = some (.list [eB a]) := by
  have h1 := h.tup hn hm
  simp [gSort, cOr, gSortI, intsD, gSortT, eB, tupsD, h1, sortT, insT, tupD]
theorem code3 (b : Br) : cdT [b.1, b.2.1, b.2.2] = b.1 * 4096 + b.2.1 * 64 + b.2.2 := by
  simp [cdT, TS.code]; omega
theorem sortB2 {n : Int} {m : Nat} {s : Int} {q : Int → Prop} {a b : Br} (hn : n ≤ 4) (hm : m ≤ 8) (h : Dr n m s q a) (h' : Dr n m s q b) (hk : ¬ (a.1 = b.1 ∧ a.2.1 = b.2.1)) : ∃ bs : List Br, gSort [.list [eB a, eB b]] = some (.list (bs.map eB)) ∧ Two bs ∧ ∀ c ∈ bs, c = a ∨ c = b := by
  have h1 := h.tup hn hm
  have h2 := h'.tup hn hm
  have k1 := code3 a
  have k2 := code3 b
  have ha := h.h; have hb := h.w; have hc := h.t
  have ha' := h'.h; have hb' := h'.w; have hc' := h'.t
  by_cases c : cdT [a.1, a.2.1, a.2.2] ≤ cdT [b.1, b.2.1, b.2.2]
  · refine ⟨[a, b], ?_, Or.inr ⟨a, b, rfl, ?_⟩, by simp⟩
    · simp only [gSort, cOr, gSortI, intsD, gSortT, eB, tupsD, List.length_cons, List.length_nil, h1, h2, sortT, insT, if_pos c]
      simp [eB, tupD, h1, h2, sortT, insT, c]
    · rw [k1, k2] at c
      simp only [HT.lexLt]
      split
      · split
        · omega
        · simp only [decide_eq_true_eq]; omega
      · simp only [decide_eq_true_eq]; omega
  · refine ⟨[b, a], ?_, Or.inr ⟨b, a, rfl, ?_⟩, by simp⟩
    · simp only [gSort, cOr, gSortI, intsD, gSortT, eB, tupsD, List.length_cons, List.length_nil, h1, h2, sortT, insT, if_neg c]
      simp [eB, tupD, h1, h2, sortT, insT, c]
    · rw [k1, k2] at c
      simp only [HT.lexLt]
      split
      · split
        · omega
        · simp only [decide_eq_true_eq]; omega
      · simp only [decide_eq_true_eq]; omega
theorem Dr.ok {n : Int} {m : Nat} {s : Int} {q : Int → Prop} {b : Br} (h : Dr n m s q b) : OkB n m s b := h.toOkB
/-- what comes out of the two turns -/
def Acc (n : Int) (m : Nat) (s : Int) (q : Int → Prop) (acc : List Br) : Prop := (∃ a, acc = [a] ∧ Dr n m s q a) ∨ ∃ a b, acc = [a, b] ∧ Dr n m s q a ∧ Dr n m s q b ∧ ¬ (a.1 = b.1 ∧ a.2.1 = b.2.1)
theorem scene_lc {n at' size s : Int} {lp : Bool} {m : Nat} {Q : Int → Prop} {acc : List Br} (h : Acc n m s Q acc) (p q r : FSl) (x : FRow) :
    fOfX (xLc (fSeq (fCall gListOf (aCons (fBor 6) aNil))) (gtName 10) tYesF (fBin gAdd (fBor 10) (fTup (aCons (fBin gAt (fBor 6) (fBor 10)) aNil))) [10]) (scE n at' size lp s acc p q r) x = some (.list (acc.map eB), x) := by
  have hval : ∀ b ∈ acc, valD dKeyT (hd acc) [.inl b.1, .inl b.2.1] = some (.int b.2.2) := by
    rcases h with ⟨a, rfl, _⟩ | ⟨a, b, rfl, _, _, hk⟩
    · intro b hb
      simp only [List.mem_singleton] at hb
      subst hb
      simp [valD, hd, kB, dKeyT, dKeys, dKey]
    · intro c hc
      simp only [List.mem_cons, List.not_mem_nil, or_false] at hc
      rcases hc with rfl | rfl
      · simp [valD, hd, kB, dKeyT, dKeys, dKey]
      · have hk' : ¬ (a.1 = c.1 ∧ a.2.1 = c.2.1) := hk
        simp [valD, hd, kB, dKeyT, dKeys, dKey, List.find?_cons, hk']
  have hl : acc.length ≤ 2 := by rcases h with ⟨a, rfl, _⟩ | ⟨a, b, rfl, _⟩ <;> simp
  refine lc_eq (ds := acc.map kB) ?_ (compL_map kB eB acc fun b hb => ⟨_, rfl, rfl, ?_⟩) ?_
  · simp [fSeq, fCall, aCons, aNil, fBor, scE, OwD.d, gListOf, hd]
  · have hv := hval b hb
    have hk := kB_key b
    simp only [kB] at hk
    simp [fBin, fBor, fTup, aCons, aNil, scE, wipeE, gtName, OwD.d, gAt, gDAt, gDGet, kB, hk, hv, gAdd, gOr, gI, gCatT, maxLen, eB]
  · simp only [List.length_map, maxLen]; omega
theorem scene_ok {n at' : Int} {size : Nat} {lp : Bool} (hn : 2 ≤ n ∧ n ≤ 4) (hz : 1 ≤ size ∧ size ≤ 6) (ha : 0 ≤ at' ∧ at' < size) {x : FRow} (hx : 0 ≤ x.a) :
    ∃ s bs x', m_law_scene [.int n, .int at', .int size, .bool lp] x = some (eS (some (s, bs)), x') ∧ 0 ≤ x'.a ∧ (0 ≤ s ∧ s < n) ∧ Two bs ∧ ∀ b ∈ bs, OkB n (size + 1) s b ∧ (lp = false → at' < b.2.2) := by
  obtain ⟨s, x1, h1, h1a, h1b, hx1⟩ := taken_ok (many := n) hx (by omega) (by omega)
  obtain ⟨t2, x2, h2, h2a, h2b, hx2⟩ := taken_ok (many := 2) hx1 (by omega) (by omega)
  have hs : 0 ≤ s ∧ s < n := ⟨h1a, h1b⟩
  obtain ⟨b1, x3, q1, r1, e1, hx3, d1⟩ := turn_ok (lp := lp) (x := x2) hn hs hz ha [] (by simp) (.va (.int 0)) .no .no hx2
  rw [put0] at e1
  have hloop : ∃ acc x' p q r, forL (gtName 7) bTurn (rgD 0 (1 + t2).toNat) (scE n at' size lp s [] .no .no .no) x2 = some (.nx (scE n at' size lp s acc p q r), x') ∧ 0 ≤ x'.a ∧ Acc n (size + 1) s (fun t => lp = false → at' < t) acc := by
    have ht : t2 = 0 ∨ t2 = 1 := by omega
    rcases ht with rfl | rfl
    · refine ⟨[b1], x3, .va (.int 0), q1, r1, ?_, hx3, Or.inl ⟨b1, rfl, d1⟩⟩
      rw [show rgD 0 ((1 : Int) + 0).toNat = [.int 0] from rfl, forL]
      simp only [gtName]
      rw [show (scE n at' size lp s [] .no .no .no).set 7 (.va (.int 0)) = scE n at' size lp s [] (.va (.int 0)) .no .no from rfl, e1]
      rfl
    · obtain ⟨b2, x4, q2, r2, e2, hx4, d2⟩ := turn_ok (lp := lp) (x := x3) hn hs hz ha [b1] (by simp) (.va (.int 1)) q1 r1 hx3
      obtain ⟨acc, hp, hacc⟩ := put1 b1 b2
      rw [hp] at e2
      refine ⟨acc, x4, .va (.int 1), q2, r2, ?_, hx4, ?_⟩
      · rw [show rgD 0 ((1 : Int) + 1).toNat = [.int 0, .int 1] from rfl, forL]
        simp only [gtName]
        rw [show (scE n at' size lp s [] .no .no .no).set 7 (.va (.int 0)) = scE n at' size lp s [] (.va (.int 0)) .no .no from rfl, e1]
        simp only [forL, gtName]
        rw [show ([FSl.rw, .va (.int n), .va (.int at'), .va (.int size), .va (.bool lp), .va (.int s), .ow (.dt (hd [b1])), .va (.int 0), q1, r1, .no] : FEn).set 7 (.va (.int 1)) = scE n at' size lp s [b1] (.va (.int 1)) q1 r1 from rfl, e2]
        rfl
      · rcases hacc with ⟨rfl, k1, k2⟩ | ⟨rfl, hk⟩
        · exact Or.inl ⟨_, rfl, ⟨⟨d1.h, d1.ne, d1.w, d2.t⟩, d1.w2, d2.qt⟩⟩
        · exact Or.inr ⟨_, _, rfl, d1, d2, hk⟩
  obtain ⟨acc, x', p, q, r, e, hx', hacc⟩ := hloop
  have hsort : ∃ bs : List Br, gSortX [.list (acc.map eB)] = some (.list (bs.map eB)) ∧ Two bs ∧ ∀ b ∈ bs, OkB n (size + 1) s b ∧ (lp = false → at' < b.2.2) := by
    rcases hacc with ⟨a, rfl, ha⟩ | ⟨a, b, rfl, ha, hb, hk⟩
    · exact ⟨[a], sortX_of (sortB1 hn.2 (by omega) ha), Or.inl ⟨a, rfl⟩, by simpa using ⟨ha.ok, ha.qt⟩⟩
    · obtain ⟨bs, h1, h2, h3⟩ := sortB2 hn.2 (by omega) ha hb hk
      refine ⟨bs, sortX_of h1, h2, fun c hc => ?_⟩
      rcases h3 c hc with rfl | rfl
      · exact ⟨ha.ok, ha.qt⟩
      · exact ⟨hb.ok, hb.qt⟩
  obtain ⟨bs, hs1, hs2, hs3⟩ := hsort
  have hlc := scene_lc (n := n) (at' := at') (size := size) (lp := lp) hacc p q r x'
  refine ⟨s, bs, x', ?_, hx', hs, hs2, hs3⟩
  have c1 : sPars [5, 6] (xsCons (xVal (fCallR 0 m_law_taken (aCons (fVar 1) aNil))) (xsCons (xNew (.dt [])) xsNil)) [.rw, .va (.int n), .va (.int at'), .va (.int size), .va (.bool lp), .no, .no, .no, .no, .no, .no] x = some (.nx (scE n at' size lp s [] .no .no .no), x1) := by
    simp [sPars, xsCons, xsNil, xVal, xNew, fCallR, aCons, aNil, fVar, h1, setsE, scE, hd]
  have c2 : fRg1 (fBin gAdd (fC (.int 1)) (fCallR 0 m_law_taken (aCons (fC (.int 2)) aNil))) (scE n at' size lp s [] .no .no .no) x1 = some (rgD 0 (1 + t2).toNat, x2) := by
    have : okRg (1 + t2) = true := by simp only [okRg, decide_eq_true_eq]; omega
    simp [fRg1, fBin, fC, fCallR, aCons, aNil, scE, h2, gAdd, gOr, gI, this]
  have c3 : b_law_scene [.rw, .va (.int n), .va (.int at'), .va (.int size), .va (.bool lp), .no, .no, .no, .no, .no, .no] x = some (.rt (eS (some (s, bs))), x') := by
    unfold b_law_scene
    rw [sSeq_nx c1, sSeq_nx (by simp only [sFor, c2]; exact e)]
    have v5 : fVar 5 (scE n at' size lp s acc p q r) x' = some (.int s, x') := rfl
    simp only [sRet, fTup, fCall, aCons, aNil, v5, hlc, hs1, gTupOf]
    simp [maxLen, eS]
  show mkR 10 4 b_law_scene _ x = _
  simp only [mkR, List.length_cons, List.length_nil, if_true]
  rw [show FSl.rw :: startE 10 [.int n, .int at', .int size, .bool lp] = [.rw, .va (.int n), .va (.int at'), .va (.int size), .va (.bool lp), .no, .no, .no, .no, .no, .no] from rfl, c3]
end Lw

namespace Lw
open PySem RT
theorem compL_row {gt : FGt} {t : FT} {fe : FE} {env : FEn} (Good : Int → Sc → Prop) : ∀ (l : List Int), (∀ a ∈ l, ∀ x : FRow, 0 ≤ x.a → ∃ e sc x', gt (.int a) env = some e ∧ t e x = some (true, x) ∧ fe e x = some (eS sc, x') ∧ 0 ≤ x'.a ∧ Good a sc) → ∀ x : FRow, 0 ≤ x.a → ∃ (scs : List Sc) (x' : FRow), compL gt t fe env (l.map .int) x = some (scs.map eS, x') ∧ 0 ≤ x'.a ∧ scs.length = l.length ∧ ∀ (i : Nat) a sc, l[i]? = some a → scs[i]? = some sc → Good a sc
  | [], _, x, hx => ⟨[], x, rfl, hx, rfl, by simp⟩
  | a :: l, h, x, hx => by
    obtain ⟨e, sc, x1, h1, h2, h3, h4, h5⟩ := h a (by simp) x hx
    obtain ⟨scs, x2, g1, g2, g3, g4⟩ := compL_row Good l (fun b hb => h b (by simp [hb])) x1 h4
    refine ⟨sc :: scs, x2, by simp [compL, h1, h2, h3, g1], g2, by simp [g3], ?_⟩
    intro i b z hb hz
    cases i with
    | zero => simp only [List.getElem?_cons_zero, Option.some.injEq] at hb hz; subst hb; subst hz; exact h5
    | succ i => simp only [List.getElem?_cons_succ] at hb hz; exact g4 i b z hb hz
/-- each branch leads to a later scene -/
def Dag (ss : List Sc) : Prop := ∀ v, 0 ≤ v → v < (ss.length : Int) → ∀ b ∈ brs ss v, v < b.2.2
theorem script_ok {n : Int} {lp : Bool} {most : Int} (hmo : 1 ≤ most ∧ most ≤ 6) (hn : 2 ≤ n ∧ n ≤ 4) {x : FRow} (hx : 0 ≤ x.a) : ∃ ss x', m_law_script [.int n, .int most, .bool lp] x = some (eX n ss, x') ∧ 0 ≤ x'.a ∧ Ok n ss ∧ (lp = false → Dag ss) := by
  obtain ⟨t, x1, h1, h1a, h1b, hx1⟩ := taken_ok (many := most) hx (by omega) (by omega)
  obtain ⟨size, hsz⟩ : ∃ size : Nat, 1 + t = (size : Int) := ⟨(1 + t).toNat, by omega⟩
  have hz : 1 ≤ size ∧ size ≤ 6 := by omega
  have c1 : sSet 4 (xVal (fBin gAdd (fC (.int 1)) (fCallR 0 m_law_taken (aCons (fVar 2) aNil)))) [.rw, .va (.int n), .va (.int most), .va (.bool lp), .no, .no] x = some (.nx [.rw, .va (.int n), .va (.int most), .va (.bool lp), .va (.int size), .no], x1) := by
    simp [sSet, xVal, fBin, fC, fCallR, aCons, aNil, fVar, h1, gAdd, gOr, gI, hsz]
  obtain ⟨scs, x2, g1, g2, g3, g4⟩ := compL_row (gt := gtName 5) (t := tYesF) (fe := fCallR 0 m_law_scene (aCons (fVar 1) (aCons (fVar 5) (aCons (fVar 4) (aCons (fVar 3) aNil))))) (env := [.rw, .va (.int n), .va (.int most), .va (.bool lp), .va (.int size), .no]) (fun a sc => ∃ s bs, sc = some (s, bs) ∧ (0 ≤ s ∧ s < n) ∧ Two bs ∧ ∀ b ∈ bs, OkB n (size + 1) s b ∧ (lp = false → a < b.2.2)) ((List.range size).map fun (i : Nat) => (i : Int)) (by
    intro a ha x hx
    obtain ⟨i, hi, rfl⟩ := List.mem_map.mp ha
    have hi' : i < size := by simpa using hi
    obtain ⟨s, bs, x', e1, e2, e3, e4, e5⟩ := scene_ok (at' := (i : Int)) (lp := lp) hn hz ⟨by omega, by omega⟩ hx
    refine ⟨_, some (s, bs), x', rfl, rfl, ?_, e2, s, bs, rfl, e3, e4, e5⟩
    simp [fCallR, aCons, aNil, fVar, e1]) x1 hx1
  have hlen : scs.length = size := by simpa using g3
  have c2 : fOfX (xLc (fRg1 (fVar 4)) (gtName 5) tYesF (fCallR 0 m_law_scene (aCons (fVar 1) (aCons (fVar 5) (aCons (fVar 4) (aCons (fVar 3) aNil))))) [5]) [.rw, .va (.int n), .va (.int most), .va (.bool lp), .va (.int size), .no] x1 = some (.list (scs.map eS), x2) := by
    have hr : okRg (size : Int) = true := rg_ok (by omega)
    have hrg : fRg1 (fVar 4) [.rw, .va (.int n), .va (.int most), .va (.bool lp), .va (.int size), .no] x1 = some (((List.range size).map fun (i : Nat) => (i : Int)).map D.int, x1) := by
      simp [fRg1, fVar, hr, rgD_map]
    have hm : (scs.map eS).length < maxLen := by simp only [List.length_map, maxLen]; omega
    rw [fOfX, xLc, hrg]
    simp only
    rw [show wipeE [FSl.rw, .va (.int n), .va (.int most), .va (.bool lp), .va (.int size), .no] [5] = [FSl.rw, .va (.int n), .va (.int most), .va (.bool lp), .va (.int size), .no] from rfl, g1]
    simp only [if_pos hm, OwD.d]
  refine ⟨scs ++ [none], x2, ?_, g2, ⟨hn, by simp; omega, ?_⟩, ?_⟩
  · have c3 : b_law_script [.rw, .va (.int n), .va (.int most), .va (.bool lp), .no, .no] x = some (.rt (eX n (scs ++ [none])), x2) := by
      unfold b_law_script
      rw [sSeq_nx c1]
      have hm : (scs.map eS).length + [D.none].length ≤ maxLen := by simp only [List.length_map, List.length_cons, List.length_nil, maxLen]; omega
      have h0 : ([] : List D).length ≤ maxLen := Nat.zero_le _
      have h1 : [D.none].length ≤ maxLen := by simp only [List.length_cons, List.length_nil, maxLen]; omega
      have h2 : [D.int n, .tuple (scs.map eS ++ [.none])].length ≤ maxLen := by simp only [List.length_cons, List.length_nil, maxLen]; omega
      have v1 : fVar 1 [.rw, .va (.int n), .va (.int most), .va (.bool lp), .va (.int size), .no] x1 = some (.int n, x1) := rfl
      have q1 := tupOf_ok c2
      have q2 : fTup (aCons (fC .none) aNil) [.rw, .va (.int n), .va (.int most), .va (.bool lp), .va (.int size), .no] x2 = some (.tuple [.none], x2) := fTup_ok rfl h1
      have q3 := fBin_cat q1 q2 hm
      have q4 := fTup_ok (aCons2 v1 q3) h2
      rw [sRet, q4]
      simp only [eX, List.map_append, List.map_cons, List.map_nil, eS]
    show mkR 5 3 b_law_script _ x = _
    simp only [mkR, List.length_cons, List.length_nil, if_true]
    rw [show FSl.rw :: startE 5 [.int n, .int most, .bool lp] = [.rw, .va (.int n), .va (.int most), .va (.bool lp), .no, .no] from rfl, c3]
  · intro s bs hm
    have hm' : some (s, bs) ∈ scs := by simpa using hm
    obtain ⟨i, hi, ei⟩ := List.mem_iff_getElem.mp hm'
    obtain ⟨s', bs', e, h2, h3, h4⟩ := g4 i i _ (by rw [List.getElem?_map, List.getElem?_range (by omega)]; rfl) (List.getElem?_eq_getElem hi)
    rw [ei] at e
    simp only [Option.some.injEq, Prod.mk.injEq] at e
    obtain ⟨rfl, rfl⟩ := e
    refine ⟨h2, h3, fun b hb => ?_⟩
    have := (h4 b hb).1
    rw [List.length_append, hlen]
    exact this
  · intro hlp v v0 v1 b hb
    have hl : (scs ++ [none]).length = size + 1 := by simp [hlen]
    rw [hl] at v1
    have e := (scAt_mem (ss := scs ++ [none]) v0 (by rw [hl]; exact v1)).1
    unfold brs at hb
    by_cases c : v.toNat < scs.length
    · rw [List.getElem?_append_left c] at e
      obtain ⟨s', bs', e', h2, h3, h4⟩ := g4 v.toNat v _ (by rw [List.getElem?_map, List.getElem?_range (by omega)]; simp; omega) e
      rw [e'] at hb
      exact (h4 b hb).2 hlp
    · rw [List.getElem?_append_right (by omega)] at e
      have : v.toNat - scs.length = 0 := by omega
      rw [this] at e
      simp only [List.getElem?_cons_zero, Option.some.injEq] at e
      rw [← e] at hb
      cases hb
end Lw

namespace Lw
open PySem RT
/-! what grown answers over plain things -/
section
variable {α β : Type} [DecidableEq α]
def addA (th : List α) : List α → List α
  | [] => th
  | t :: r => addA (if t ∈ th then th else th ++ [t]) r
theorem addA_pre : ∀ (r th : List α), th <+: addA th r
  | [], th => ⟨[], by simp [addA]⟩
  | t :: r, th => by
    unfold addA
    refine List.IsPrefix.trans ?_ (addA_pre r _)
    split
    · exact ⟨[], by simp⟩
    · exact ⟨[t], rfl⟩
theorem addA_mem (x : α) : ∀ (r th : List α), x ∈ addA th r ↔ x ∈ th ∨ x ∈ r
  | [], th => by simp [addA]
  | t :: r, th => by
    unfold addA
    rw [addA_mem x r]
    by_cases h : t ∈ th
    · rw [if_pos h, List.mem_cons]
      constructor
      · rintro (h1 | h1)
        · exact .inl h1
        · exact .inr (.inr h1)
      · rintro (h1 | rfl | h1)
        · exact .inl h1
        · exact .inl h
        · exact .inr h1
    · rw [if_neg h, List.mem_append, List.mem_singleton, List.mem_cons, or_assoc]
theorem nd_snoc {th : List α} {t : α} (h : th.Nodup) (n : t ∉ th) : (th ++ [t]).Nodup := by
  rw [List.nodup_append]
  exact ⟨h, by simp, fun a ha b hb e => by
    rw [List.mem_singleton] at hb
    exact n (hb ▸ e ▸ ha)⟩
theorem addA_nd : ∀ (r th : List α), th.Nodup → (addA th r).Nodup
  | [], th, h => by simpa [addA] using h
  | t :: r, th, h => by
    unfold addA
    refine addA_nd r _ ?_
    split
    · exact h
    · rename_i n; exact nd_snoc h n
structure Gr (enc : α → D) (key : α → NestedKey) (P : α → Prop) : Prop where
  kt : ∀ a, P a → keyT (enc a) = some (key a)
  inj : ∀ a b, P a → P b → key a = key b → a = b
variable {enc : α → D} {key : α → NestedKey} {P : α → Prop}
theorem ix_eq (G : Gr enc key P) {a : α} (pa : P a) : ∀ (th : List α) (i : Nat), (∀ b ∈ th, P b) → ixF (key a) (th.map enc) i = if a ∈ th then some (i + th.idxOf a) else none
  | [], i, _ => by simp [ixF]
  | b :: th, i, h => by
    have pb := h b List.mem_cons_self
    have kb := (keyT_ok (G.kt b pb)).1
    rw [List.map_cons, ixF, kb]
    by_cases e : key b = key a
    · have := G.inj b a pb pa e
      subst this
      rw [if_pos rfl, if_pos List.mem_cons_self, List.idxOf_cons_self]; rfl
    · have ne : b ≠ a := fun h => e (by rw [h])
      rw [if_neg (fun h => e (Option.some.inj h)), ix_eq G pa th (i + 1) fun c hc => h c (List.mem_cons_of_mem _ hc)]
      by_cases m : a ∈ th
      · rw [if_pos m, if_pos (List.mem_cons_of_mem _ m), List.idxOf_cons, show (b == a) = false from beq_false_of_ne ne]
        congr 1
        show i + 1 + th.idxOf a = i + (th.idxOf a + 1)
        omega
      · rw [if_neg m, if_neg (fun h => (List.mem_cons.mp h).elim (fun h => ne h.symm) m)]
theorem grAdd_eq (G : Gr enc key P) {most : Option Nat} {B : Nat} (hB : ∀ l : List α, l.Nodup → (∀ a ∈ l, P a) → l.length ≤ B) (hB2 : B < 4000) (hm : ∀ k, most = some k → B ≤ k) (encB : β → D) : ∀ (r : List (β × α)) (th : List α), th.Nodup → (∀ a ∈ th, P a) → (∀ p ∈ r, P p.2) → grAdd most (th.map enc) (r.map fun p => (encB p.1, enc p.2)) = some ((addA th (r.map (·.2))).map enc)
  | [], th, _, _, _ => by simp [grAdd, addA]
  | p :: r, th, hn, ht, hr => by
    have pp := hr p List.mem_cons_self
    rw [List.map_cons, grAdd, G.kt p.2 pp]
    simp only
    rw [ix_eq G pp th 0 ht, List.map_cons, addA]
    by_cases m : p.2 ∈ th
    · rw [if_pos m, if_pos m]
      exact grAdd_eq G hB hB2 hm encB r th hn ht fun q hq => hr q (List.mem_cons_of_mem _ hq)
    · rw [if_neg m, if_neg m]
      have n2 := nd_snoc hn m
      have p2 : ∀ a ∈ th ++ [p.2], P a := fun a ha => by
        rcases List.mem_append.mp ha with h | h
        · exact ht a h
        · rw [List.mem_singleton] at h; exact h ▸ pp
      have hb := hB _ n2 p2
      rw [List.length_append, List.length_singleton] at hb
      simp only
      rw [if_neg (by rw [List.length_map]; intro h; have := hm _ h; omega), if_pos (by rw [List.length_map]; omega)]
      have := grAdd_eq G hB hB2 hm encB r (th ++ [p.2]) n2 p2 fun q hq => hr q (List.mem_cons_of_mem _ hq)
      rw [List.map_append] at this
      exact this
theorem grRow_eq (G : Gr enc key P) (encB : β → D) {th : List α} (ht : ∀ a ∈ th, P a) : ∀ (r : List (β × α)), (∀ p ∈ r, P p.2 ∧ p.2 ∈ th) → grRow (th.map enc) (r.map fun p => (encB p.1, enc p.2)) = some (r.map fun p => .tuple [encB p.1, .int ((th.idxOf p.2 : Nat) : Int)])
  | [], _ => rfl
  | p :: r, hr => by
    obtain ⟨pp, pm⟩ := hr p List.mem_cons_self
    rw [List.map_cons, grRow, G.kt p.2 pp]
    simp only
    rw [ix_eq G pp th 0 ht, if_pos pm]
    simp only
    rw [grRow_eq G encB ht r fun q hq => hr q (List.mem_cons_of_mem _ hq)]
    simp
theorem stepsD_eq (encB : β → D) (enc : α → D) : ∀ (r : List (β × α)), stepsD (r.map fun p => D.tuple [encB p.1, enc p.2]) = some (r.map fun p => (encB p.1, enc p.2))
  | [] => rfl
  | p :: r => by rw [List.map_cons, stepsD, stepsD_eq encB enc r]; rfl
def rowA (nx : α → List (β × α)) (encB : β → D) (th : List α) (a : α) : D := .list ((nx a).map fun p => .tuple [encB p.1, .int ((th.idxOf p.2 : Nat) : Int)])
/-- where a thing stands -/
def posA (th : List α) (a : α) : Int := ((th.idxOf a : Nat) : Int)
structure Grn (a0 : α) (nx : α → List (β × α)) (P : α → Prop) (th : List α) (i : Nat) : Prop where
  nd : th.Nodup
  p : ∀ a ∈ th, P a
  hd : th.head? = some a0
  cl : ∀ j a, j < i → th[j]? = some a → ∀ p ∈ nx a, p.2 ∈ th
  gen : ∀ Q : α → Prop, Q a0 → (∀ a, P a → Q a → ∀ p ∈ nx a, Q p.2) → ∀ a ∈ th, Q a
theorem idx_pre {th th' : List α} (h : th <+: th') {a : α} (m : a ∈ th) : th'.idxOf a = th.idxOf a := by
  obtain ⟨r, rfl⟩ := h
  rw [List.idxOf_append, if_pos m]
theorem grLoop_eq (G : Gr enc key P) {nx : α → List (β × α)} {encB : β → D} {m : List D → Option D} {a0 : α} {most : Option Nat} {B : Nat}
    (hs : ∀ a, P a → m [enc a] = some (.list ((nx a).map fun p => .tuple [encB p.1, enc p.2]))) (hp : ∀ a, P a → ∀ p ∈ nx a, P p.2) (hl : ∀ a, P a → (nx a).length < 100000)
    (hB : ∀ l : List α, l.Nodup → (∀ a ∈ l, P a) → l.length ≤ B) (hB2 : B < 4000) (hm : ∀ k, most = some k → B ≤ k) : ∀ (n i : Nat) (th : List α), n + i = 4000 → i ≤ th.length → Grn a0 nx P th i →
    ∃ th', Grn a0 nx P th' th'.length ∧ grLoop m most n (th.map enc) ((th.take i).map (rowA nx encB th)) = some (th'.map enc, th'.map (rowA nx encB th'))
  | 0, i, th, e, hi, g => by have := hB th g.nd g.p; omega
  | n + 1, i, th, e, hi, g => by
    have hb := hB th g.nd g.p
    rw [grLoop]
    have lw : ((th.take i).map (rowA nx encB th)).length = i := by rw [List.length_map, List.length_take]; omega
    rw [lw, List.length_map]
    by_cases c : i < th.length
    · rw [if_pos c]
      have ea : th[i]? = some th[i] := List.getElem?_eq_getElem c
      have pa : P th[i] := g.p _ (List.getElem_mem c)
      have e1 : (th.map enc)[i]? = some (enc th[i]) := by rw [List.getElem?_map, ea]; rfl
      rw [e1]
      simp only
      rw [hs _ pa]
      simp only [seqD]
      rw [stepsD_eq]
      simp only
      have hpr := hp _ pa
      rw [grAdd_eq G hB hB2 hm encB _ th g.nd g.p hpr]
      simp only
      have n2 := addA_nd ((nx th[i]).map (·.2)) th g.nd
      have p2 : ∀ a ∈ addA th ((nx th[i]).map (·.2)), P a := fun a ha => by
        rcases (addA_mem a _ _).mp ha with h | h
        · exact g.p a h
        · obtain ⟨q, hq, rfl⟩ := List.mem_map.mp h; exact hpr q hq
      have m2 : ∀ q ∈ nx th[i], q.2 ∈ addA th ((nx th[i]).map (·.2)) := fun q hq => (addA_mem _ _ _).mpr (.inr (List.mem_map.mpr ⟨q, hq, rfl⟩))
      rw [grRow_eq G encB p2 _ fun q hq => ⟨hpr q hq, m2 q hq⟩]
      simp only
      rw [if_pos ⟨by rw [List.length_map]; exact hl _ pa, by omega⟩]
      have pre := addA_pre ((nx th[i]).map (·.2)) th
      have g2 : Grn a0 nx P (addA th ((nx th[i]).map (·.2))) (i + 1) := by
        refine ⟨n2, p2, ?_, ?_, ?_⟩
        · obtain ⟨r, er⟩ := pre
          rw [← er]
          cases hth : th with
          | nil => rw [hth] at c; simp at c
          | cons b t => have := g.hd; rw [hth] at this; simpa using this
        · intro j a hj ha q hq
          by_cases cj : j < i
          · have : th[j]? = some a := by
              obtain ⟨r, er⟩ := pre
              rw [← er, List.getElem?_append_left (by omega)] at ha
              exact ha
            exact pre.subset (g.cl j a cj this q hq)
          · have : j = i := by omega
            subst this
            have : a = th[j] := by
              obtain ⟨r, er⟩ := pre
              rw [← er, List.getElem?_append_left c, ea] at ha
              exact (Option.some.inj ha).symm
            subst this
            exact m2 q hq
        · intro Q q0 qs a ha
          rcases (addA_mem a _ _).mp ha with h | h
          · exact g.gen Q q0 qs a h
          · obtain ⟨q, hq, rfl⟩ := List.mem_map.mp h
            exact qs _ pa (g.gen Q q0 qs _ (List.getElem_mem c)) q hq
      have ew : (th.take i).map (rowA nx encB th) ++ [rowA nx encB (addA th ((nx th[i]).map (·.2))) th[i]] = ((addA th ((nx th[i]).map (·.2))).take (i + 1)).map (rowA nx encB (addA th ((nx th[i]).map (·.2)))) := by
        have et : (addA th ((nx th[i]).map (·.2))).take (i + 1) = th.take i ++ [th[i]] := by
          obtain ⟨r, er⟩ := pre
          rw [← er, List.take_append_of_le_length (by omega), List.take_succ, ea]; rfl
        rw [et, List.map_append]
        congr 1
        refine List.map_congr_left fun a ha => ?_
        obtain ⟨j, hj, ej⟩ := List.mem_take_iff_getElem.mp ha
        have hja : th[j]? = some a := by rw [List.getElem?_eq_getElem (by omega), ej]
        unfold rowA
        congr 1
        refine List.map_congr_left fun q hq => ?_
        rw [idx_pre pre (g.cl j a (by omega) hja q hq)]
      have := grLoop_eq G hs hp hl hB hB2 hm n (i + 1) _ (by omega) (by have := pre.length_le; omega) g2
      rw [← ew] at this
      exact this
    · rw [if_neg c]
      have : i = th.length := by omega
      subst this
      exact ⟨th, g, by rw [List.take_length]⟩
theorem grown_eq (G : Gr enc key P) {nx : α → List (β × α)} {encB : β → D} {m : List D → Option D} {a0 : α} {most : Option Nat} {B : Nat} (p0 : P a0)
    (hs : ∀ a, P a → m [enc a] = some (.list ((nx a).map fun p => .tuple [encB p.1, enc p.2]))) (hp : ∀ a, P a → ∀ p ∈ nx a, P p.2) (hl : ∀ a, P a → (nx a).length < 100000)
    (hB : ∀ l : List α, l.Nodup → (∀ a ∈ l, P a) → l.length ≤ B) (hB2 : B < 4000) (hm : ∀ k, most = some k → B ≤ k) {b : D} (hb : mostD b = some most) :
    ∃ th, Grn a0 nx P th th.length ∧ gGrown m (enc a0) b = some (.tuple [.list (th.map enc), .list (th.map (rowA nx encB th))]) := by
  obtain ⟨th, g, e⟩ := grLoop_eq (a0 := a0) G hs hp hl hB hB2 hm 4000 0 [a0] rfl (Nat.zero_le _) ⟨by simp, fun a h => by rw [List.mem_singleton] at h; exact h ▸ p0, rfl, fun j a h => by omega, fun Q q0 _ a h => by rw [List.mem_singleton] at h; exact h ▸ q0⟩
  refine ⟨th, g, ?_⟩
  unfold gGrown
  rw [G.kt a0 p0, hb]
  simp only
  rw [show grLoop m most 4000 [enc a0] [] = _ from e]
theorem nd_len : ∀ {l u : List α}, l.Nodup → (∀ a ∈ l, a ∈ u) → l.length ≤ u.length
  | [], _, _, _ => Nat.zero_le _
  | a :: l, u, h, s => by
    rw [List.nodup_cons] at h
    have := nd_len (l := l) (u := u.erase a) h.2 fun b hb => (List.mem_erase_of_ne (fun (e : b = a) => h.1 (by rw [← e]; exact hb))).mpr (s b (List.mem_cons_of_mem _ hb))
    have hm := s a List.mem_cons_self
    have hp : 0 < u.length := List.length_pos_of_mem hm
    rw [List.length_erase_of_mem hm] at this
    rw [List.length_cons]; omega
end
end Lw

namespace Lw
open PySem RT
variable {n : Int} {ss : List Sc}
/-! moments -/
abbrev Tk := Int × Int × Int
def encT (t : Tk) : D := .tuple [.int t.1, .int t.2.1, .int t.2.2]
def tks (ss : List Sc) (v : Int) : List (Tk × Int) := (brs ss v).map fun b => ((spk (scAt ss v), b.1, b.2.1), b.2.2)
theorem tk_tks (v : Int) : tk (scAt ss v) = (tks ss v).map fun p => D.tuple [encT p.1, .int p.2] := by
  rw [tk_eq, tks, List.map_map]; rfl
abbrev Mo := Int × List Int × List Int
def tI (l : List Int) : D := .tuple (l.map .int)
def eM (m : Mo) : D := .tuple [.int m.1, tI m.2.1, tI m.2.2]
def one (K : List Int) (x : Int) : List Int := setI (K ++ [x])
def Sub (K : List Int) : Prop := K = [0, 1, 2, 3].filter fun x => decide (x ∈ K)
theorem Sub.mem {K : List Int} (h : Sub K) {x : Int} (hx : x ∈ K) : 0 ≤ x ∧ x ≤ 3 := by
  rw [h] at hx
  have := (List.mem_filter.mp hx).1
  simp only [List.mem_cons, List.not_mem_nil, or_false] at this
  omega
theorem mem03 {x : Int} (h : 0 ≤ x ∧ x ≤ 3) : x ∈ ([0, 1, 2, 3] : List Int) := by
  simp only [List.mem_cons, List.not_mem_nil, or_false]; omega
theorem Sub.len {K : List Int} (h : Sub K) : K.length ≤ 4 := by
  rw [h]; exact List.length_filter_le _ _
theorem one_mem (K : List Int) (x k : Int) : k ∈ one K x ↔ k ∈ K ∨ k = x := by
  unfold one; rw [setI_mem, List.mem_append, List.mem_singleton]
theorem Sub.one {K : List Int} (h : Sub K) {x : Int} (hx : 0 ≤ x ∧ x ≤ 3) : Sub (one K x) := by
  refine lt_uniq (setI_lt _) (List.Pairwise.filter _ (by decide)) fun k => ?_
  rw [List.mem_filter, decide_eq_true_eq]
  refine ⟨fun hk => ⟨?_, hk⟩, fun hk => hk.2⟩
  rcases (one_mem K x k).mp hk with h1 | rfl
  · exact mem03 (h.mem h1)
  · exact mem03 hx
def U16 : List (List Int) := [[], [0], [1], [2], [3], [0, 1], [0, 2], [0, 3], [1, 2], [1, 3], [2, 3], [0, 1, 2], [0, 1, 3], [0, 2, 3], [1, 2, 3], [0, 1, 2, 3]]
theorem Sub.in {K : List Int} (h : Sub K) : K ∈ U16 := by
  rw [h]
  by_cases c0 : (0 : Int) ∈ K <;> by_cases c1 : (1 : Int) ∈ K <;> by_cases c2 : (2 : Int) ∈ K <;> by_cases c3 : (3 : Int) ∈ K <;> simp [List.filter_cons, c0, c1, c2, c3, U16]
theorem Sub.nil : Sub [] := rfl
theorem Sub.sg {x : Int} (hx : 0 ≤ x ∧ x ≤ 3) : Sub [x] := by
  have : x = 0 ∨ x = 1 ∨ x = 2 ∨ x = 3 := by omega
  rcases this with rfl | rfl | rfl | rfl <;> (unfold Sub; decide)
theorem in_tup (t : Int) {l : List Int} (h : l.length ≤ 1000) : gInA (.int t) (tI l) = some (.bool (decide (t ∈ l))) := by
  have h1 : shapedD (tI l) = true := (pt_ints h).sh (by omega)
  unfold tI at h1 ⊢
  rw [gInA, gInT, sh_int, h1, any_int]; rfl
theorem notin_tup (t : Int) {l : List Int} (h : l.length ≤ 1000) : gNotInA (.int t) (tI l) = some (.bool (!decide (t ∈ l))) := by
  have h1 : shapedD (tI l) = true := (pt_ints h).sh (by omega)
  unfold tI at h1 ⊢
  rw [gNotInA, gNotInT, sh_int, h1, any_int]; rfl
theorem with_one_eq {K : List Int} (h : K.length ≤ 50) (x : Int) : m_with_one [tI K, .int x] = some (tI (one K x)) := by
  refine mkF_rt (x := row0) rfl ?_
  have e0 : fBin gAdd (fBor 0) (fTup (aCons (fVar 1) aNil)) [.va (tI K), .va (.int x)] row0 = some (tI (K ++ [x]), row0) := by
    have := fBin_cat (fa := fBor 0) (fb := fTup (aCons (fVar 1) aNil)) (env := [.va (tI K), .va (.int x)]) (x := row0) (x1 := row0) (x2 := row0) (xs := K.map .int) (ys := [.int x]) rfl (fTup_ok rfl (ml _ (by simp))) (ml _ (by simp; omega))
    rw [this]; simp [tI]
  have e1 : nSetT (fBin gAdd (fBor 0) (fTup (aCons (fVar 1) aNil))) [.va (tI K), .va (.int x)] row0 = some (K ++ [x], row0) := by
    rw [nSetT, e0]
    simp only [tI, intsD_map]
    rw [if_pos (by rw [List.length_append, List.length_singleton]; omega)]
  have e2 : fSrtS (nSetT (fBin gAdd (fBor 0) (fTup (aCons (fVar 1) aNil)))) [.va (tI K), .va (.int x)] row0 = some (.list ((setI (K ++ [x])).map .int), row0) := by
    rw [fSrtS, e1]
  show b_with_one [.va (tI K), .va (.int x)] row0 = _
  rw [b_with_one, sRet, tupOf_ok e2]; rfl
def nK (K : List Int) (t : Tk) : List Int := if t.1 ∈ K then one K t.2.1 else K
def nT (a : Int) (T : List Int) (t : Tk) : List Int := if t.2.1 = a then one T t.1 else T
def nM (ss : List Sc) (a : Int) (m : Mo) : List (Tk × Mo) := (tks ss m.1).map fun p => (p.1, (p.2, nK m.2.1 p.1, nT a m.2.2 p.1))
abbrev mbBody : FS := sSeq (sUnp (fVar 7) (gtTup 3 (gtCons (gtName 9) (gtCons (gtName 10) (gtCons (gtName 11) gtNil)))))
    (sSeq (sSet 12 (xVal (fIf (fTst (fBin gInA (fBor 9) (fBor 4))) (fCall m_with_one (aCons (fVar 4) (aCons (fVar 10) aNil))) (fVar 4))))
    (sSeq (sSet 13 (xVal (fIf (fTst (fBin gEq (fBor 10) (fBor 2))) (fCall m_with_one (aCons (fVar 5) (aCons (fVar 9) aNil))) (fVar 5))))
    (sApp 6 (fTup (aCons (fVar 7) (aCons (fTup (aCons (fVar 8) (aCons (fVar 12) (aCons (fVar 13) aNil)))) aNil))))))
def mbE (ss : List Sc) (a : Int) (m : Mo) (acc : List D) (p7 p8 p9 p10 p11 p12 p13 : FSl) : FEn := [.va (webD ss), .va (eM m), .va (.int a), .va (.int m.1), .va (tI m.2.1), .va (tI m.2.2), .ow (.lst acc), p7, p8, p9, p10, p11, p12, p13]
def mbR (a : Int) (m : Mo) (p : Tk × Int) : D := .tuple [encT p.1, eM (p.2, nK m.2.1 p.1, nT a m.2.2 p.1)]
theorem mb_body {a : Int} {m : Mo} (hK : m.2.1.length ≤ 50) (hT : m.2.2.length ≤ 50) (p : Tk × Int) (acc : List D) (ha : acc.length ≤ 100) (p9 p10 p11 p12 p13 : FSl) :
    ∃ q9 q10 q11 q12 q13, mbBody (mbE ss a m acc (.va (encT p.1)) (.va (.int p.2)) p9 p10 p11 p12 p13) row0 = some (.nx (mbE ss a m (acc ++ [mbR a m p]) (.va (encT p.1)) (.va (.int p.2)) q9 q10 q11 q12 q13), row0) := by
  obtain ⟨⟨s, h, w⟩, u⟩ := p
  refine ⟨.va (.int s), .va (.int h), .va (.int w), .va (tI (nK m.2.1 (s, h, w))), .va (tI (nT a m.2.2 (s, h, w))), ?_⟩
  have c1 : sUnp (fVar 7) (gtTup 3 (gtCons (gtName 9) (gtCons (gtName 10) (gtCons (gtName 11) gtNil)))) (mbE ss a m acc (.va (encT (s, h, w))) (.va (.int u)) p9 p10 p11 p12 p13) row0 = some (.nx (mbE ss a m acc (.va (encT (s, h, w))) (.va (.int u)) (.va (.int s)) (.va (.int h)) (.va (.int w)) p12 p13), row0) := rfl
  have e2 : fIf (fTst (fBin gInA (fBor 9) (fBor 4))) (fCall m_with_one (aCons (fVar 4) (aCons (fVar 10) aNil))) (fVar 4) (mbE ss a m acc (.va (encT (s, h, w))) (.va (.int u)) (.va (.int s)) (.va (.int h)) (.va (.int w)) p12 p13) row0 = some (tI (nK m.2.1 (s, h, w)), row0) := by
    have t : fTst (fBin gInA (fBor 9) (fBor 4)) (mbE ss a m acc (.va (encT (s, h, w))) (.va (.int u)) (.va (.int s)) (.va (.int h)) (.va (.int w)) p12 p13) row0 = some (decide (s ∈ m.2.1), row0) := by
      rw [fTst, fBin_eq (fa := fBor 9) (fb := fBor 4) (x1 := row0) (x2 := row0) rfl rfl (in_tup s (by omega))]
    rw [fIf, t]
    unfold nK
    by_cases c : s ∈ m.2.1
    · rw [decide_eq_true c, if_pos c]
      exact fCall_eq (fa := aCons (fVar 4) (aCons (fVar 10) aNil)) (x1 := row0) rfl (with_one_eq hK h)
    · rw [decide_eq_false c, if_neg c]; rfl
  have c2 := sSet_va (i := 12) e2
  have e3 : fIf (fTst (fBin gEq (fBor 10) (fBor 2))) (fCall m_with_one (aCons (fVar 5) (aCons (fVar 9) aNil))) (fVar 5) (mbE ss a m acc (.va (encT (s, h, w))) (.va (.int u)) (.va (.int s)) (.va (.int h)) (.va (.int w)) (.va (tI (nK m.2.1 (s, h, w)))) p13) row0 = some (tI (nT a m.2.2 (s, h, w)), row0) := by
    have t : fTst (fBin gEq (fBor 10) (fBor 2)) (mbE ss a m acc (.va (encT (s, h, w))) (.va (.int u)) (.va (.int s)) (.va (.int h)) (.va (.int w)) (.va (tI (nK m.2.1 (s, h, w)))) p13) row0 = some (decide (h = a), row0) := by
      rw [fTst, fBin_eq (fa := fBor 10) (fb := fBor 2) (x1 := row0) (x2 := row0) rfl rfl (eq_int h a)]
    rw [fIf, t]
    unfold nT
    by_cases c : h = a
    · rw [decide_eq_true c, if_pos c]
      exact fCall_eq (fa := aCons (fVar 5) (aCons (fVar 9) aNil)) (x1 := row0) rfl (with_one_eq hT s)
    · rw [decide_eq_false c, if_neg c]; rfl
  have c3 := sSet_va (i := 13) e3
  unfold mbBody
  rw [sSeq_nx c1, sSeq_nx c2]
  rw [show (mbE ss a m acc (.va (encT (s, h, w))) (.va (.int u)) (.va (.int s)) (.va (.int h)) (.va (.int w)) p12 p13).set 12 (.va (tI (nK m.2.1 (s, h, w)))) = mbE ss a m acc (.va (encT (s, h, w))) (.va (.int u)) (.va (.int s)) (.va (.int h)) (.va (.int w)) (.va (tI (nK m.2.1 (s, h, w)))) p13 from rfl, sSeq_nx c3]
  rw [show (mbE ss a m acc (.va (encT (s, h, w))) (.va (.int u)) (.va (.int s)) (.va (.int h)) (.va (.int w)) (.va (tI (nK m.2.1 (s, h, w)))) p13).set 13 (.va (tI (nT a m.2.2 (s, h, w)))) = mbE ss a m acc (.va (encT (s, h, w))) (.va (.int u)) (.va (.int s)) (.va (.int h)) (.va (.int w)) (.va (tI (nK m.2.1 (s, h, w)))) (.va (tI (nT a m.2.2 (s, h, w)))) from rfl]
  have e4 : fTup (aCons (fVar 7) (aCons (fTup (aCons (fVar 8) (aCons (fVar 12) (aCons (fVar 13) aNil)))) aNil)) (mbE ss a m acc (.va (encT (s, h, w))) (.va (.int u)) (.va (.int s)) (.va (.int h)) (.va (.int w)) (.va (tI (nK m.2.1 (s, h, w)))) (.va (tI (nT a m.2.2 (s, h, w))))) row0 = some (mbR a m ((s, h, w), u), row0) := by
    refine fTup_ok (aCons2 rfl (fTup_ok (ds := [.int u, tI (nK m.2.1 (s, h, w)), tI (nT a m.2.2 (s, h, w))]) rfl (ml _ (by simp)))) (ml _ (by simp))
  rw [sApp, e4]
  simp only [mbE, List.getElem?_cons_succ, List.getElem?_cons_zero]
  rw [if_pos (nob acc ha)]; rfl
theorem mb_loop {a : Int} {m : Mo} (hK : m.2.1.length ≤ 50) (hT : m.2.2.length ≤ 50) : ∀ (l : List (Tk × Int)) (acc : List D), acc.length + l.length ≤ 100 → ∀ (p7 p8 p9 p10 p11 p12 p13 : FSl),
    ∃ q7 q8 q9 q10 q11 q12 q13, forL (gtTup 2 (gtCons (gtName 7) (gtCons (gtName 8) gtNil))) mbBody (l.map fun p => D.tuple [encT p.1, .int p.2]) (mbE ss a m acc p7 p8 p9 p10 p11 p12 p13) row0 = some (.nx (mbE ss a m (acc ++ l.map (mbR a m)) q7 q8 q9 q10 q11 q12 q13), row0)
  | [], acc, _, p7, p8, p9, p10, p11, p12, p13 => ⟨p7, p8, p9, p10, p11, p12, p13, by simp [forL]⟩
  | p :: l, acc, hl, p7, p8, p9, p10, p11, p12, p13 => by
    rw [List.length_cons] at hl
    obtain ⟨q9, q10, q11, q12, q13, e⟩ := mb_body (ss := ss) (a := a) hK hT p acc (by omega) p9 p10 p11 p12 p13
    obtain ⟨r7, r8, r9, r10, r11, r12, r13, e2⟩ := mb_loop (a := a) hK hT l (acc ++ [mbR a m p]) (by rw [List.length_append, List.length_singleton]; omega) (.va (encT p.1)) (.va (.int p.2)) q9 q10 q11 q12 q13
    refine ⟨r7, r8, r9, r10, r11, r12, r13, ?_⟩
    rw [List.map_cons, forL]
    rw [show gtTup 2 (gtCons (gtName 7) (gtCons (gtName 8) gtNil)) (D.tuple [encT p.1, .int p.2]) (mbE ss a m acc p7 p8 p9 p10 p11 p12 p13) = some (mbE ss a m acc (.va (encT p.1)) (.va (.int p.2)) p9 p10 p11 p12 p13) from rfl]
    simp only
    rw [e]
    simp only
    rw [e2, List.map_cons, List.append_assoc]; rfl
theorem tks_len (k : Ok n ss) {v : Int} (hv : 0 ≤ v ∧ v < ss.length) : (tks ss v).length ≤ 2 := by rw [tks, List.length_map]; exact brs_len k hv
theorem moments_eq (k : Ok n ss) {a : Int} {m : Mo} (hv : 0 ≤ m.1 ∧ m.1 < ss.length) (hK : m.2.1.length ≤ 50) (hT : m.2.2.length ≤ 50) : m_moments_behind [webD ss, eM m, .int a] = some (.list ((nM ss a m).map fun p => D.tuple [encT p.1, eM p.2])) := by
  refine mkF_rt (x := row0) rfl ?_
  obtain ⟨q7, q8, q9, q10, q11, q12, q13, e⟩ := mb_loop (ss := ss) (a := a) hK hT (tks ss m.1) [] (by have := tks_len k hv; simp only [List.length_nil]; omega) .no .no .no .no .no .no .no
  show b_moments_behind [.va (webD ss), .va (eM m), .va (.int a), .no, .no, .no, .no, .no, .no, .no, .no, .no, .no, .no] row0 = _
  unfold b_moments_behind
  rw [sSeq_nx (e1 := [.va (webD ss), .va (eM m), .va (.int a), .va (.int m.1), .va (tI m.2.1), .va (tI m.2.2), .no, .no, .no, .no, .no, .no, .no, .no]) (x1 := row0) rfl]
  rw [sSeq_nx (e1 := mbE ss a m [] .no .no .no .no .no .no .no) (x1 := row0) (by rw [sSet, xLst_ok (ds := []) rfl (ml _ (by simp))]; rfl)]
  have hf : fSeq (fBin gAt (fBor 0) (fBor 3)) (mbE ss a m [] .no .no .no .no .no .no .no) row0 = some ((tks ss m.1).map fun p => D.tuple [encT p.1, .int p.2], row0) := by
    have : fBin gAt (fBor 0) (fBor 3) (mbE ss a m [] .no .no .no .no .no .no .no) row0 = some (.list (tk (scAt ss m.1)), row0) := fBin_eq (x1 := row0) rfl rfl (web_at hv.1 hv.2)
    rw [fSeq, this, tk_tks]
  rw [sSeq_nx (for_eq hf e)]
  simp only [sFrz, mbE, eFrz, List.getElem?_cons_succ, List.getElem?_cons_zero, List.set_cons_succ, List.set_cons_zero, sRet, fVar, OwD.d, List.nil_append]
  simp only [nM, List.map_map]; rfl
end Lw

namespace Lw
open PySem RT
/-! keys (speaker, word) and their sorting -/
abbrev Ky := Int × Int
def pD (k : Ky) : D := .tuple [.int k.1, .int k.2]
def dK (ks : List Ky) : List (D × D) := ks.map fun k => (pD k, D.bool true)
def KyOk (k : Ky) : Prop := (0 ≤ k.1 ∧ k.1 ≤ 3) ∧ (0 ≤ k.2 ∧ k.2 ≤ 5)
def KU : List Ky := [0, 1, 2, 3].flatMap fun s => [0, 1, 2, 3, 4, 5].map fun w => (s, w)
def cK (k : Ky) : Int := k.1 * 64 + k.2
theorem KU_ok {k : Ky} (h : KyOk k) : k ∈ KU := by
  obtain ⟨s, w⟩ := k
  obtain ⟨h1, h2⟩ := h
  refine List.mem_flatMap.mpr ⟨s, ?_, List.mem_map.mpr ⟨w, ?_, rfl⟩⟩
  · exact mem03 h1
  · simp only [List.mem_cons, List.not_mem_nil, or_false]; simp only at h2; omega
theorem KU_asc : KU.Pairwise fun a b => cK a < cK b := by decide
theorem KU_in {k : Ky} (h : k ∈ KU) : KyOk k := by
  have : ∀ k ∈ KU, (0 ≤ k.1 ∧ k.1 ≤ 3) ∧ (0 ≤ k.2 ∧ k.2 ≤ 5) := by decide
  exact this k h
theorem cK_inj {a b : Ky} (ha : KyOk a) (hb : KyOk b) (h : cK a = cK b) : a = b := by
  obtain ⟨s, w⟩ := a
  obtain ⟨s', w'⟩ := b
  simp only [KyOk, cK] at ha hb h
  rw [Prod.mk.injEq]; omega
theorem ks_len {ks : List Ky} (hn : ks.Nodup) (hk : ∀ k ∈ ks, KyOk k) : ks.length ≤ 24 := nd_len (u := KU) hn fun k h => KU_ok (hk k h)
def can (ks : List Ky) : List Ky := KU.filter fun k => decide (k ∈ ks)
theorem can_mem {ks : List Ky} (hk : ∀ k ∈ ks, KyOk k) (k : Ky) : k ∈ can ks ↔ k ∈ ks := by
  unfold can
  rw [List.mem_filter, decide_eq_true_eq]
  exact ⟨fun h => h.2, fun h => ⟨KU_ok (hk k h), h⟩⟩
theorem can_asc (ks : List Ky) : (can ks).Pairwise fun a b => cK a < cK b := KU_asc.filter _
theorem can_congr {ks ks' : List Ky} (h : ∀ k, k ∈ ks ↔ k ∈ ks') : can ks = can ks' := by
  unfold can
  refine List.filter_congr fun k _ => ?_
  rw [decide_eq_decide]; exact h k
theorem map_inj {α β : Type} {f : α → β} : ∀ {L M : List α}, (∀ a ∈ L, ∀ b ∈ M, f a = f b → a = b) → L.map f = M.map f → L = M
  | [], [], _, _ => rfl
  | a :: L, b :: M, hi, h => by
    rw [List.map_cons, List.map_cons, List.cons.injEq] at h
    rw [hi a List.mem_cons_self b List.mem_cons_self h.1, map_inj (fun x hx y hy => hi x (List.mem_cons_of_mem _ hx) y (List.mem_cons_of_mem _ hy)) h.2]
  | [], _ :: _, _, h => by cases h
  | _ :: _, [], _, h => by cases h
theorem by_code {β : Type} (c : β → Int) {L M : List β} (hi : ∀ a ∈ L, ∀ b ∈ L, c a = c b → a = b) (hL : L.Pairwise fun a b => c a ≤ c b) (hn : L.Nodup) (hM : M.Pairwise fun a b => c a < c b) (hm : ∀ x, x ∈ L ↔ x ∈ M) : L = M := by
  refine map_inj (f := c) (fun a ha b hb e => hi a ha b ((hm b).mpr hb) e) (lt_uniq ?_ ?_ fun k => ?_)
  · rw [List.pairwise_map]
    exact (List.Pairwise.and hL hn).imp_of_mem fun ha hb ⟨h1, h2⟩ => Int.lt_iff_le_and_ne.mpr ⟨h1, fun e => h2 (hi _ ha _ hb e)⟩
  · rw [List.pairwise_map]; exact hM
  · rw [List.mem_map, List.mem_map]
    exact ⟨fun ⟨x, h1, h2⟩ => ⟨x, (hm x).mp h1, h2⟩, fun ⟨x, h1, h2⟩ => ⟨x, (hm x).mpr h1, h2⟩⟩
theorem leD_p (a b : Ky) : leD (pD a) (pD b) = decide (a.1 < b.1 ∨ (a.1 = b.1 ∧ a.2 ≤ b.2)) := by
  unfold leD
  simp only [PySem.W.dataLt, pD, D.py, pyAll, PySem.W.keyToks, PySem.W.keyToksAll, List.cons_append, List.nil_append]
  rw [Bool.eq_iff_iff]
  simp [PyProof.Rows.lexLt, PyProof.Rows.itemLt]
  omega
theorem leD_c {a b : Ky} (ha : KyOk a) (hb : KyOk b) : leD (pD a) (pD b) = decide (cK a ≤ cK b) := by
  rw [leD_p, decide_eq_decide]
  obtain ⟨s, w⟩ := a
  obtain ⟨s', w'⟩ := b
  simp only [KyOk, cK] at ha hb ⊢
  omega
theorem pt_p (k : Ky) : Pt 1 (pD k) := Or.inr ⟨_, Or.inl rfl, by simp, by
  intro e he
  simp only [List.mem_cons, List.not_mem_nil, or_false] at he
  rcases he with rfl | rfl <;> exact P0i _⟩
theorem pt_ps {ks : List Ky} (h : ks.length ≤ 1000) : Pt 2 (.list (ks.map pD)) := Or.inr ⟨_, Or.inr rfl, by simpa using h, by
  intro e he
  obtain ⟨k, _, rfl⟩ := List.mem_map.mp he
  exact pt_p k⟩
theorem pt_pt {ks : List Ky} (h : ks.length ≤ 1000) : Pt 2 (.tuple (ks.map pD)) := Or.inr ⟨_, Or.inl rfl, by simpa using h, by
  intro e he
  obtain ⟨k, _, rfl⟩ := List.mem_map.mp he
  exact pt_p k⟩
theorem srtD {ks : List Ky} (hn : ks.Nodup) (hk : ∀ k ∈ ks, KyOk k) : gSortD [.list (ks.map pD)] = some (.list ((can ks).map pD)) := by
  have hl := ks_len hn hk
  have h1 : shapedD (.list (ks.map pD)) = true := (pt_ps (by omega)).sh (by omega)
  have h2 : sortableB (ks.map pD) = true := by
    unfold sortableB
    rw [List.all_eq_true]
    intro d hd
    obtain ⟨k, _, rfl⟩ := List.mem_map.mp hd
    rfl
  have h3 : alikeB (ks.map pD) = true := by
    unfold alikeB
    rw [List.all_eq_true]
    intro d hd
    obtain ⟨a, ha, rfl⟩ := List.mem_map.mp hd
    rw [List.all_eq_true]
    intro e he
    obtain ⟨b, hb, rfl⟩ := List.mem_map.mp he
    simp [pD, D.py, pyAll, PySem.W.alike, PySem.W.alikeAll]
  have h4 : (ks.map pD).length ≤ maxLen := ml _ (by rw [List.length_map]; omega)
  simp only [gSortD, h1, h2, h3, Bool.and_self, Bool.true_and, decide_eq_true_eq, if_pos h4]
  congr 2
  have e := List.map_mergeSort (r := fun a b => decide (cK a ≤ cK b)) (s := leD) (f := pD) (l := ks) (fun a ha b hb => (leD_c (hk a ha) (hk b hb)).symm)
  rw [← e]
  congr 1
  have pm := List.mergeSort_perm ks fun a b => decide (cK a ≤ cK b)
  refine by_code cK (fun a ha b hb => cK_inj (hk a (pm.mem_iff.mp ha)) (hk b (pm.mem_iff.mp hb))) ?_ (pm.nodup_iff.mpr hn) (can_asc ks) fun k => by rw [pm.mem_iff, can_mem hk]
  have := List.pairwise_mergeSort (le := fun a b => decide (cK a ≤ cK b)) (by intro a b c; simp only [decide_eq_true_eq]; omega) (by intro a b; simp only [Bool.or_eq_true, decide_eq_true_eq]; omega) ks
  exact this.imp fun h => by simpa using h
def kL (k : Ky) : List Int := [k.1, k.2]
theorem tups_p : ∀ {ks : List Ky}, (∀ k ∈ ks, KyOk k) → tupsD 2 (ks.map pD) = some (ks.map kL)
  | [], _ => rfl
  | k :: ks, h => by
    have hk := h k List.mem_cons_self
    have h1 : okTup 2 (kL k) = true := by
      simp only [okTup, kL, List.length_cons, List.length_nil, List.all_cons, List.all_nil, Bool.and_true, Bool.and_eq_true, decide_eq_true_eq]
      obtain ⟨a, b⟩ := hk
      exact ⟨trivial, by omega, by omega⟩
    rw [List.map_cons, pD, tupsD, tups_p fun q hq => h q (List.mem_cons_of_mem _ hq)]
    simp only [intsD]
    rw [show ([k.1, k.2] : List Int) = kL k from rfl, if_pos h1]; rfl
theorem code2 (k : Ky) : cdT (kL k) = cK k := by simp [cdT, TS.code, kL, cK]
theorem srtX {ks : List Ky} (hn : ks.Nodup) (hk : ∀ k ∈ ks, KyOk k) : gSortX [.list (ks.map pD)] = some (.list ((can ks).map pD)) := by
  refine sortX_of ?_
  cases hks : ks with
  | nil => rfl
  | cons k r =>
    rw [← hks]
    have hl := ks_len hn hk
    have e0 : ks.map pD = .tuple [.int k.1, .int k.2] :: r.map pD := by rw [hks]; rfl
    have e1 : gSortI [.list (ks.map pD)] = none := by rw [e0]; rfl
    have e2 : gSortT [.list (ks.map pD)] = some (.list ((sortT (ks.map kL)).map tupD)) := by
      have ht := tups_p hk
      rw [e0] at ht ⊢
      have ht' : tupsD [D.int k.1, D.int k.2].length (.tuple [.int k.1, .int k.2] :: r.map pD) = some (ks.map kL) := ht
      simp only [gSortT, ht']
      rw [if_pos ⟨by simp, by rw [List.length_map]; omega⟩]
    have e3 : sortT (ks.map kL) = (can ks).map kL := by
      have pm := sortT_perm (ks.map kL)
      have inj : ∀ a b : Ky, kL a = kL b → a = b := fun a b h => by
        simp only [kL, List.cons.injEq, and_true] at h
        exact Prod.ext h.1 h.2
      refine by_code cdT (fun a ha b hb e => ?_) (sortT_sorted _) (pm.nodup_iff.mpr ?_) ?_ fun x => ?_
      · obtain ⟨p, hp, rfl⟩ := List.mem_map.mp (pm.mem_iff.mp ha)
        obtain ⟨q, hq, rfl⟩ := List.mem_map.mp (pm.mem_iff.mp hb)
        rw [code2, code2] at e
        rw [cK_inj (hk p hp) (hk q hq) e]
      · unfold List.Nodup
        rw [List.pairwise_map]
        exact List.Pairwise.imp (fun h e => h (inj _ _ e)) hn
      · rw [List.pairwise_map]
        exact (can_asc ks).imp fun h => by rw [code2, code2]; exact h
      · rw [pm.mem_iff, List.mem_map, List.mem_map]
        exact ⟨fun ⟨a, h1, h2⟩ => ⟨a, (can_mem hk a).mpr h1, h2⟩, fun ⟨a, h1, h2⟩ => ⟨a, (can_mem hk a).mp h1, h2⟩⟩
    simp only [gSort, cOr, e1, e2, e3, List.map_map]
    rfl
theorem srtY {ks : List Ky} (hn : ks.Nodup) (hk : ∀ k ∈ ks, KyOk k) : gSortY [.dictT (dK ks)] = some (.list ((can ks).map pD)) := by
  have e : gSortX [.dictT (dK ks)] = none := rfl
  simp only [gSortY, cOr, e, gSortK]
  rw [show keysD (dK ks) = ks.map pD by simp [keysD, dK]]
  exact srtD hn hk
theorem p_key (k : Ky) : dKeyT (pD k) = some [.inl k.1, .inl k.2] := by simp [pD, dKeyT, dKeys, dKey]
theorem dK_any (t : Ky) (l : List Ky) : ((dK l).any fun p => decide (dKeyT p.1 = some [.inl t.1, .inl t.2])) = decide (t ∈ l) := by
  induction l with
  | nil => rfl
  | cons a l ih =>
    have : dK (a :: l) = (pD a, D.bool true) :: dK l := rfl
    rw [this, List.any_cons, ih, p_key]
    simp only [List.mem_cons, Option.some.injEq, List.cons.injEq, Sum.inl.injEq, and_true]
    have : (a.1 = t.1 ∧ a.2 = t.2) ↔ t = a := ⟨fun h => (Prod.ext h.1 h.2).symm, fun h => by rw [h]; exact ⟨rfl, rfl⟩⟩
    by_cases h : t = a
    · simp [this, h]
    · simp [this, h]
theorem dK_put (t : Ky) (l : List Ky) : putD dKeyT (dK l) (pD t) [.inl t.1, .inl t.2] (.bool true) = dK (addA l [t]) := by
  unfold putD
  rw [dK_any]
  unfold addA addA
  by_cases h : t ∈ l
  · rw [if_pos (by simpa using h), if_pos h]
    unfold dK
    rw [List.map_map]
    refine List.map_congr_left fun i _ => ?_
    simp only [Function.comp]
    split <;> rfl
  · rw [if_neg (by simpa using h), if_neg h]
    simp [dK]
end Lw

namespace Lw
open PySem RT
variable {n : Int} {ss : List Sc}
/-! the moments that come -/
def kM (m : Mo) : NestedKey := .tup [.num m.1, .tup (m.2.1.map .num), .tup (m.2.2.map .num)]
theorem nks_ints : ∀ l : List Int, nks (l.map .int) = some (l.map .num)
  | [] => rfl
  | i :: l => by rw [List.map_cons, nks, nks_ints l]; rfl
theorem dep_nums : ∀ l : List Int, NestedKey.depthAll (l.map .num) = 0
  | [] => rfl
  | i :: l => by rw [List.map_cons, NestedKey.depthAll, dep_nums l]; rfl
theorem nk_tI (l : List Int) : nk (tI l) = some (.tup (l.map .num)) := by rw [tI, nk, nks_ints]; rfl
theorem keyT_eM (m : Mo) : keyT (eM m) = some (kM m) := by
  have h : nk (eM m) = some (kM m) := by
    rw [eM, nk, nks, nks, nks, nk_tI, nk_tI]; rfl
  have d : (kM m).depth ≤ 8 := by
    simp only [kM, NestedKey.depth, NestedKey.depthAll, dep_nums]; decide
  unfold keyT
  rw [h]
  simp only
  rw [if_pos ⟨d, rfl⟩]
theorem num_inj {l m : List Int} (h : l.map NestedKey.num = m.map NestedKey.num) : l = m := map_inj (fun a _ b _ e => by cases e; rfl) h
def PM (ss : List Sc) (m : Mo) : Prop := (0 ≤ m.1 ∧ m.1 < (ss.length : Int)) ∧ Sub m.2.1 ∧ Sub m.2.2
theorem gr_mo (ss : List Sc) : Gr eM kM (PM ss) where
  kt a _ := keyT_eM a
  inj a b _ _ h := by
    simp only [kM, NestedKey.tup.injEq, List.cons.injEq, NestedKey.num.injEq, and_true] at h
    obtain ⟨h1, h2, h3⟩ := h
    exact Prod.ext h1 (Prod.ext (num_inj h2) (num_inj h3))
theorem tks_ok (k : Ok n ss) {v : Int} (hv : 0 ≤ v ∧ v < (ss.length : Int)) {p : Tk × Int} (hp : p ∈ tks ss v) : (0 ≤ p.1.1 ∧ p.1.1 < n) ∧ (0 ≤ p.1.2.1 ∧ p.1.2.1 < n) ∧ (0 ≤ p.1.2.2 ∧ p.1.2.2 ≤ 5) ∧ (0 ≤ p.2 ∧ p.2 < (ss.length : Int)) := by
  obtain ⟨b, hb, rfl⟩ := List.mem_map.mp hp
  have h := (scAt_mem hv.1 hv.2).2
  unfold brs at hb
  cases e : scAt ss v with
  | none => rw [e] at hb; simp [bsOf] at hb
  | some q =>
    rw [e] at hb h
    have := k.sc q.1 q.2 h
    have o := this.2.2 b hb
    exact ⟨this.1, o.h, o.w, o.t⟩
theorem n4 (k : Ok n ss) : n ≤ 4 := k.n2.2
theorem nK_sub {K : List Int} (h : Sub K) {t : Tk} (ht : 0 ≤ t.2.1 ∧ t.2.1 ≤ 3) : Sub (nK K t) := by
  unfold nK; split
  · exact h.one ht
  · exact h
theorem nT_sub {a : Int} {T : List Int} (h : Sub T) {t : Tk} (ht : 0 ≤ t.1 ∧ t.1 ≤ 3) : Sub (nT a T t) := by
  unfold nT; split
  · exact h.one ht
  · exact h
theorem pm_next (k : Ok n ss) {a : Int} {m : Mo} (h : PM ss m) : ∀ p ∈ nM ss a m, PM ss p.2 := by
  intro p hp
  obtain ⟨q, hq, rfl⟩ := List.mem_map.mp hp
  obtain ⟨h1, h2, h3, h4⟩ := tks_ok k h.1 hq
  have := n4 k
  exact ⟨h4, nK_sub h.2.1 ⟨h2.1, by omega⟩, nT_sub h.2.2 ⟨h1.1, by omega⟩⟩
theorem flat_len {α β : Type} {f : α → List β} {c : Nat} : ∀ (l : List α), (∀ a ∈ l, (f a).length = c) → (l.flatMap f).length = l.length * c
  | [], _ => by simp
  | a :: l, h => by
    rw [List.flatMap_cons, List.length_append, h a List.mem_cons_self, flat_len l fun b hb => h b (List.mem_cons_of_mem _ hb), List.length_cons, Nat.succ_mul, Nat.add_comm]
def UM (ss : List Sc) : List Mo := (List.range ss.length).flatMap fun (i : Nat) => U16.flatMap fun K => U16.map fun T => ((i : Int), K, T)
theorem um_len (k : Ok n ss) : (UM ss).length ≤ 2048 := by
  have h := k.m
  have : (UM ss).length = (List.range ss.length).length * 256 := flat_len (c := 256) _ fun i _ => rfl
  rw [this, List.length_range]; omega
theorem pm_in {m : Mo} (h : PM ss m) : m ∈ UM ss := by
  obtain ⟨v, K, T⟩ := m
  obtain ⟨h1, h2, h3⟩ := h
  simp only at h1 h2 h3
  refine List.mem_flatMap.mpr ⟨v.toNat, List.mem_range.mpr (by omega), List.mem_flatMap.mpr ⟨K, h2.in, List.mem_map.mpr ⟨T, h3.in, ?_⟩⟩⟩
  rw [show ((v.toNat : Nat) : Int) = v by omega]
theorem mo_bound (k : Ok n ss) {l : List Mo} (h : l.Nodup) (hp : ∀ m ∈ l, PM ss m) : l.length ≤ 2048 := Nat.le_trans (nd_len h fun m hm => pm_in (hp m hm)) (um_len k)
theorem moments_come (k : Ok n ss) {a v : Int} (ha : 0 ≤ a ∧ a < n) (hv : 0 ≤ v ∧ v < (ss.length : Int)) : ∃ th, Grn (v, [a], []) (nM ss a) (PM ss) th th.length ∧
    gGrown (mkG 3 1 [.int a, webD ss] (fCall m_moments_behind (aCons (fVar 2) (aCons (fVar 0) (aCons (fVar 1) aNil))))) (eM (v, [a], [])) .none = some (.tuple [.list (th.map eM), .list (th.map (rowA (nM ss a) encT th))]) := by
  have h4 := n4 k
  refine grown_eq (B := 2048) (most := none) (gr_mo ss) ⟨hv, Sub.sg ⟨ha.1, by omega⟩, Sub.nil⟩ (fun m hm => ?_) (fun m hm => pm_next k hm) (fun m hm => ?_) (fun l h1 h2 => mo_bound k h1 h2) (by omega) (fun j h => nomatch h) rfl
  · have e := moments_eq k (a := a) (m := m) hm.1 (by have := hm.2.1.len; omega) (by have := hm.2.2.len; omega)
    have c : fCall m_moments_behind (aCons (fVar 2) (aCons (fVar 0) (aCons (fVar 1) aNil))) (startG 3 [eM m] [.int a, webD ss]) row0 = some (.list ((nM ss a m).map fun p => D.tuple [encT p.1, eM p.2]), row0) := fCall_eq (ds := [webD ss, eM m, .int a]) (x1 := row0) rfl e
    simp only [mkG, List.length_cons, List.length_nil]
    rw [if_pos trivial, c]
  · rw [nM, List.length_map]; have := tks_len k hm.1; omega
/-! a letter that can be first -/
def lK (K : List Int) (t : Tk) : List Int := if t.1 ∈ K then K ++ [t.2.1] else K
def lS (a : Int) (K S : List Int) (t : Tk) : List Int := if t.1 ∈ K then S else if t.2.1 = a then S ++ [t.1] else S
inductive KeyQ (ss : List Sc) (a : Int) (k : Ky) : Int → List Int → List Int → Prop
  | here {v K S u} : ((k.1, a, k.2), u) ∈ tks ss v → k.1 ∉ K → k.1 ∉ S → KeyQ ss a k v K S
  | next {v K S t u} : (t, u) ∈ tks ss v → KeyQ ss a k u (lK K t) (lS a K S t) → KeyQ ss a k v K S
def Rel (K S : List Int) (m : Mo) : Prop := (∀ x, x ∈ m.2.1 ↔ x ∈ K) ∧ (∀ x, x ∈ S → x ∈ m.2.2) ∧ (∀ x, x ∈ m.2.2 → x ∈ S ∨ x ∈ K)
theorem rel_step {a : Int} {K S : List Int} {m : Mo} (h : Rel K S m) (t : Tk) (u : Int) : Rel (lK K t) (lS a K S t) (u, nK m.2.1 t, nT a m.2.2 t) := by
  obtain ⟨h1, h2, h3⟩ := h
  unfold lK lS nK nT
  by_cases c : t.1 ∈ K
  · have c' := (h1 t.1).mpr c
    simp only [if_pos c, if_pos c']
    refine ⟨fun x => ?_, fun x hx => ?_, fun x hx => ?_⟩
    · rw [one_mem, h1, List.mem_append, List.mem_singleton]
    · split
      · exact (one_mem _ _ _).mpr (.inl (h2 x hx))
      · exact h2 x hx
    · rw [List.mem_append]
      split at hx
      · rcases (one_mem _ _ _).mp hx with h | rfl
        · exact (h3 x h).elim .inl fun h => .inr (.inl h)
        · exact .inr (.inl c)
      · exact (h3 x hx).elim .inl fun h => .inr (.inl h)
  · have c' : t.1 ∉ m.2.1 := fun h => c ((h1 t.1).mp h)
    simp only [if_neg c, if_neg c']
    refine ⟨h1, fun x hx => ?_, fun x hx => ?_⟩
    · split at hx
      · rw [List.mem_append, List.mem_singleton] at hx
        rename_i e
        rw [if_pos e]
        exact (one_mem _ _ _).mpr (hx.imp (h2 x) id)
      · rename_i e
        rw [if_neg e]
        exact h2 x hx
    · split at hx
      · rename_i e
        rw [if_pos e, List.mem_append, List.mem_singleton]
        rcases (one_mem _ _ _).mp hx with h | h
        · exact (h3 x h).elim (fun h => .inl (.inl h)) .inr
        · exact .inl (.inr h)
      · rename_i e
        rw [if_neg e]
        exact h3 x hx
theorem rel0 (v a : Int) : Rel [a] [] (v, [a], []) := ⟨fun x => Iff.rfl, fun x h => (List.not_mem_nil h).elim, fun x h => (List.not_mem_nil h).elim⟩
def hitc (a : Int) (m : Mo) (t : Tk) : Prop := t.2.1 = a ∧ t.1 ∉ m.2.1 ∧ t.1 ∉ m.2.2
instance (a : Int) (m : Mo) (t : Tk) : Decidable (hitc a m t) := by unfold hitc; exact inferInstance
theorem key_sound {a v : Int} {th : List Mo} (g : Grn (v, [a], []) (nM ss a) (PM ss) th th.length) {k : Ky} {m : Mo} (hm : m ∈ th) {p : Tk × Mo} (hp : p ∈ nM ss a m) (hh : hitc a m p.1) (hk : k = (p.1.1, p.1.2.2)) : KeyQ ss a k v [a] [] := by
  have := g.gen (fun m => ∃ K S, Rel K S m ∧ (KeyQ ss a k m.1 K S → KeyQ ss a k v [a] [])) ⟨[a], [], rel0 v a, fun h => h⟩ (fun m _ ⟨K, S, r, f⟩ q hq => by
    obtain ⟨q', hq', rfl⟩ := List.mem_map.mp hq
    exact ⟨_, _, rel_step r q'.1 q'.2, fun h => f (.next hq' h)⟩) m hm
  obtain ⟨K, S, r, f⟩ := this
  obtain ⟨q, hq, rfl⟩ := List.mem_map.mp hp
  obtain ⟨⟨s, h, w⟩, u⟩ := q
  obtain ⟨e1, e2, e3⟩ := hh
  simp only at e1 e2 e3 hk
  subst hk
  subst e1
  exact f (.here hq (fun h => e2 ((r.1 _).mpr h)) fun h => e3 (r.2.1 _ h))
theorem key_come {a v0 : Int} {th : List Mo} (g : Grn (v0, [a], []) (nM ss a) (PM ss) th th.length) {k : Ky} {v : Int} {K S : List Int} (h : KeyQ ss a k v K S) : ∀ m ∈ th, m.1 = v → Rel K S m → ∃ m ∈ th, ∃ p ∈ nM ss a m, hitc a m p.1 ∧ k = (p.1.1, p.1.2.2) := by
  induction h with
  | @here v K S u h1 h2 h3 =>
    intro m hm hv r
    subst hv
    refine ⟨m, hm, _, List.mem_map.mpr ⟨_, h1, rfl⟩, ⟨rfl, fun h => h2 ((r.1 _).mp h), fun h => ?_⟩, rfl⟩
    exact (r.2.2 _ h).elim h3 h2
  | @next v K S t u h1 _ ih =>
    intro m hm hv r
    subst hv
    have hp : (t, (u, nK m.2.1 t, nT a m.2.2 t)) ∈ nM ss a m := List.mem_map.mpr ⟨_, h1, rfl⟩
    obtain ⟨j, hj, ej⟩ := List.mem_iff_getElem.mp hm
    have := g.cl j m hj (by rw [List.getElem?_eq_getElem hj, ej]) _ hp
    exact ih _ this rfl (rel_step r t u)
theorem key_iff {a v : Int} {th : List Mo} (g : Grn (v, [a], []) (nM ss a) (PM ss) th th.length) (k : Ky) : (∃ m ∈ th, ∃ p ∈ nM ss a m, hitc a m p.1 ∧ k = (p.1.1, p.1.2.2)) ↔ KeyQ ss a k v [a] [] := by
  constructor
  · rintro ⟨m, hm, p, hp, hh, hk⟩
    exact key_sound g hm hp hh hk
  · intro h
    have h0 : (v, [a], []) ∈ th := by
      have := g.hd
      cases th with
      | nil => cases this
      | cons b t => simp only [List.head?_cons, Option.some.injEq] at this; rw [← this]; exact List.mem_cons_self
    exact key_come g h _ h0 rfl (rel0 v a)
end Lw

namespace Lw
open PySem RT
variable {n : Int} {ss : List Sc}
/-! letters_from, first_letters -/
def hitS (a : Int) (m : Mo) (ks : List Ky) (p : Tk × Mo) : List Ky := if hitc a m p.1 then addA ks [(p.1.1, p.1.2.2)] else ks
def KsOk (ks : List Ky) : Prop := ks.Nodup ∧ ∀ k ∈ ks, KyOk k
theorem ksok_add {ks : List Ky} (h : KsOk ks) {k : Ky} (hk : KyOk k) : KsOk (addA ks [k]) := ⟨addA_nd _ _ h.1, fun j hj => by
  rcases (addA_mem j _ _).mp hj with h1 | h1
  · exact h.2 j h1
  · rw [List.mem_singleton] at h1; exact h1 ▸ hk⟩
theorem hit_fold {a : Int} {m : Mo} (k : Ky) : ∀ (l : List (Tk × Mo)) (ks : List Ky), k ∈ l.foldl (hitS a m) ks ↔ k ∈ ks ∨ ∃ p ∈ l, hitc a m p.1 ∧ k = (p.1.1, p.1.2.2)
  | [], ks => by simp
  | p :: l, ks => by
    rw [List.foldl_cons, hit_fold k l]
    unfold hitS
    split
    · rename_i c
      rw [addA_mem, List.mem_singleton, or_assoc]
      refine or_congr Iff.rfl ⟨?_, ?_⟩
      · rintro (h | ⟨q, hq, h⟩)
        · exact ⟨p, List.mem_cons_self, c, h⟩
        · exact ⟨q, List.mem_cons_of_mem _ hq, h⟩
      · rintro ⟨q, hq, h⟩
        rcases List.mem_cons.mp hq with rfl | hq
        · exact .inl h.2
        · exact .inr ⟨q, hq, h⟩
    · rename_i c
      refine or_congr Iff.rfl ⟨?_, ?_⟩
      · rintro ⟨q, hq, h⟩
        exact ⟨q, List.mem_cons_of_mem _ hq, h⟩
      · rintro ⟨q, hq, h⟩
        rcases List.mem_cons.mp hq with rfl | hq
        · exact absurd h.1 c
        · exact ⟨q, hq, h⟩
theorem hit_folds {a : Int} (nx : Mo → List (Tk × Mo)) (k : Ky) : ∀ (l : List Mo) (ks : List Ky), k ∈ l.foldl (fun ks m => (nx m).foldl (hitS a m) ks) ks ↔ k ∈ ks ∨ ∃ m ∈ l, ∃ p ∈ nx m, hitc a m p.1 ∧ k = (p.1.1, p.1.2.2)
  | [], ks => by simp
  | m :: l, ks => by
    rw [List.foldl_cons, hit_folds nx k l, hit_fold, or_assoc]
    refine or_congr Iff.rfl ⟨?_, ?_⟩
    · rintro (h | ⟨q, hq, h⟩)
      · exact ⟨m, List.mem_cons_self, h⟩
      · exact ⟨q, List.mem_cons_of_mem _ hq, h⟩
    · rintro ⟨q, hq, h⟩
      rcases List.mem_cons.mp hq with rfl | hq
      · exact .inl h
      · exact .inr ⟨q, hq, h⟩
def lfE (ss : List Sc) (v a : Int) (TH WB : D) (ks : List Ky) (p6 p7 p8 p9 p10 p11 p12 : FSl) : FEn := [.va (webD ss), .va (.int v), .va (.int a), .va TH, .va WB, .ow (.dt (dK ks)), p6, p7, p8, p9, p10, p11, p12]
abbrev lfIf : FS := sIf (tAndF (fTst (fBin gEq (fBor 11) (fBor 2))) (fTst (fBin gNotInA (fBor 10) (fBin gAdd (fBor 7) (fBor 8))))) (sDPut 5 (fTup (aCons (fVar 10) (aCons (fVar 12) aNil))) (fC (.bool true))) sNil
theorem lf_if {v a s h w : Int} {TH WB : D} {K T : List Int} (hK : K.length ≤ 50) (hT : T.length ≤ 50) {ks : List Ky} (hk : KsOk ks) (u : Int) (p6 p9 : FSl) :
    lfIf (lfE ss v a TH WB ks p6 (.va (tI K)) (.va (tI T)) p9 (.va (.int s)) (.va (.int h)) (.va (.int w))) row0 = some (.nx (lfE ss v a TH WB (if hitc a (u, K, T) (s, h, w) then addA ks [(s, w)] else ks) p6 (.va (tI K)) (.va (tI T)) p9 (.va (.int s)) (.va (.int h)) (.va (.int w))), row0) := by
  have t1 : fTst (fBin gEq (fBor 11) (fBor 2)) (lfE ss v a TH WB ks p6 (.va (tI K)) (.va (tI T)) p9 (.va (.int s)) (.va (.int h)) (.va (.int w))) row0 = some (decide (h = a), row0) := by
    rw [fTst, fBin_eq (fa := fBor 11) (fb := fBor 2) (x1 := row0) (x2 := row0) rfl rfl (eq_int h a)]
  have b1 : fBin gAdd (fBor 7) (fBor 8) (lfE ss v a TH WB ks p6 (.va (tI K)) (.va (tI T)) p9 (.va (.int s)) (.va (.int h)) (.va (.int w))) row0 = some (tI (K ++ T), row0) := by
    rw [fBin_cat (fa := fBor 7) (fb := fBor 8) (x1 := row0) (x2 := row0) (xs := K.map .int) (ys := T.map .int) rfl rfl (ml _ (by simp; omega))]
    simp [tI]
  have t2 : fTst (fBin gNotInA (fBor 10) (fBin gAdd (fBor 7) (fBor 8))) (lfE ss v a TH WB ks p6 (.va (tI K)) (.va (tI T)) p9 (.va (.int s)) (.va (.int h)) (.va (.int w))) row0 = some (!decide (s ∈ K ++ T), row0) := by
    rw [fTst, fBin_eq (fa := fBor 10) (x1 := row0) (x2 := row0) rfl b1 (notin_tup s (by rw [List.length_append]; omega))]
  have t3 : tAndF (fTst (fBin gEq (fBor 11) (fBor 2))) (fTst (fBin gNotInA (fBor 10) (fBin gAdd (fBor 7) (fBor 8)))) (lfE ss v a TH WB ks p6 (.va (tI K)) (.va (tI T)) p9 (.va (.int s)) (.va (.int h)) (.va (.int w))) row0 = some (decide (hitc a (u, K, T) (s, h, w)), row0) := by
    rw [tAndF, t1]
    by_cases c : h = a
    · rw [decide_eq_true c]
      simp only
      rw [t2]
      have : (!decide (s ∈ K ++ T)) = decide (hitc a (u, K, T) (s, h, w)) := by
        rw [Bool.eq_iff_iff]
        simp [hitc, c, not_or]
      rw [this]
    · rw [decide_eq_false c, decide_eq_false (fun q => c q.1)]
  rw [lfIf, sIf, t3]
  by_cases c : hitc a (u, K, T) (s, h, w)
  · rw [decide_eq_true c, if_pos c]
    simp only
    have e1 : fTup (aCons (fVar 10) (aCons (fVar 12) aNil)) (lfE ss v a TH WB ks p6 (.va (tI K)) (.va (tI T)) p9 (.va (.int s)) (.va (.int h)) (.va (.int w))) row0 = some (pD (s, w), row0) := fTup_ok (ds := [.int s, .int w]) rfl (ml _ (by simp))
    have hl : (dK ks).length < maxLen := by rw [dK, List.length_map]; exact nob ks (by have := ks_len hk.1 hk.2; omega)
    rw [sDPut]
    simp only [fC]
    rw [e1]
    simp only [lfE, List.getElem?_cons_succ, List.getElem?_cons_zero]
    rw [p_key]
    simp only
    rw [if_pos hl, dK_put]; rfl
  · rw [decide_eq_false c, if_neg c]; rfl
abbrev lfIn : FGt := gtTup 2 (gtCons (gtTup 3 (gtCons (gtName 10) (gtCons (gtName 11) (gtCons (gtName 12) gtNil)))) (gtCons (gtName 6) gtNil))
theorem lf_inner {v a : Int} {TH WB : D} {m : Mo} (hK : m.2.1.length ≤ 50) (hT : m.2.2.length ≤ 50) (ix : Tk × Mo → Int) (p9 : FSl) (l : List (Tk × Mo)) (hl : ∀ p ∈ l, KyOk (p.1.1, p.1.2.2)) (ks : List Ky) (env : FEn)
    (R0 : ∃ p6 p10 p11 p12, env = lfE ss v a TH WB ks p6 (.va (tI m.2.1)) (.va (tI m.2.2)) p9 p10 p11 p12 ∧ KsOk ks) :
    ∃ e2, forL lfIn lfIf (l.map fun p => D.tuple [encT p.1, .int (ix p)]) env row0 = some (.nx e2, row0) ∧ ∃ p6 p10 p11 p12, e2 = lfE ss v a TH WB (l.foldl (hitS a m) ks) p6 (.va (tI m.2.1)) (.va (tI m.2.2)) p9 p10 p11 p12 ∧ KsOk (l.foldl (hitS a m) ks) := by
  refine forL_inv (fun p => D.tuple [encT p.1, .int (ix p)]) (hitS a m) (fun ks env => ∃ p6 p10 p11 p12, env = lfE ss v a TH WB ks p6 (.va (tI m.2.1)) (.va (tI m.2.2)) p9 p10 p11 p12 ∧ KsOk ks) l ks env ?_ R0
  rintro ⟨⟨s, h, w⟩, q⟩ hp ks _ ⟨p6, p10, p11, p12, rfl, ok⟩
  refine ⟨lfE ss v a TH WB ks (.va (.int (ix ((s, h, w), q)))) (.va (tI m.2.1)) (.va (tI m.2.2)) p9 (.va (.int s)) (.va (.int h)) (.va (.int w)), _, rfl, lf_if (ss := ss) hK hT ok m.1 _ _, _, _, _, _, rfl, ?_⟩
  have := hl _ hp
  unfold hitS
  by_cases c : hitc a m (s, h, w)
  · rw [if_pos c]; exact ksok_add ok this
  · rw [if_neg c]; exact ok
theorem nm_ky (k : Ok n ss) {a : Int} {m : Mo} (h : PM ss m) : ∀ p ∈ nM ss a m, KyOk (p.1.1, p.1.2.2) := by
  intro p hp
  obtain ⟨q, hq, rfl⟩ := List.mem_map.mp hp
  obtain ⟨h1, h2, h3, h4⟩ := tks_ok k h.1 hq
  have := n4 k
  exact ⟨⟨h1.1, by simp only; omega⟩, h3⟩
theorem zip_map {α : Type} (f g : α → D) : ∀ l : List α, zipD (l.map f) (l.map g) = l.map fun a => .tuple [f a, g a]
  | [] => rfl
  | a :: l => by
    have := zip_map f g l
    unfold zipD at this ⊢
    rw [List.map_cons, List.map_cons, List.zipWith_cons_cons, this]; rfl
theorem letters_eq (k : Ok n ss) {a v : Int} (ha : 0 ≤ a ∧ a < n) (hv : 0 ≤ v ∧ v < (ss.length : Int)) : ∃ KS, KsOk KS ∧ (∀ j, j ∈ KS ↔ KeyQ ss a j v [a] []) ∧ m_letters_from [webD ss, .int v, .int a] = some (.tuple ((can KS).map pD)) := by
  obtain ⟨th, g, eg⟩ := moments_come k ha hv
  let TH : D := .list (th.map eM)
  let WB : D := .list (th.map (rowA (nM ss a) encT th))
  have R0 : ∃ p6 p7 p8 p9 p10 p11 p12, lfE ss v a TH WB [] .no .no .no .no .no .no .no = lfE ss v a TH WB [] p6 p7 p8 p9 p10 p11 p12 ∧ KsOk [] := ⟨_, _, _, _, _, _, _, rfl, List.nodup_nil, fun k h => (List.not_mem_nil h).elim⟩
  obtain ⟨e2, el, p6, p7, p8, p9, p10, p11, p12, rfl, ok⟩ := forL_inv (gt := gtTup 2 (gtCons (gtTup 3 (gtCons (gtName 6) (gtCons (gtName 7) (gtCons (gtName 8) gtNil)))) (gtCons (gtName 9) gtNil))) (b := sFor (fSeq (fVar 9)) lfIn lfIf) (x := row0) (fun m => D.tuple [eM m, rowA (nM ss a) encT th m]) (fun ks m => (nM ss a m).foldl (hitS a m) ks) (fun ks env => ∃ p6 p7 p8 p9 p10 p11 p12, env = lfE ss v a TH WB ks p6 p7 p8 p9 p10 p11 p12 ∧ KsOk ks) th [] (lfE ss v a TH WB [] .no .no .no .no .no .no .no) (by
    rintro m hm ks _ ⟨p6, p7, p8, p9, p10, p11, p12, rfl, ok⟩
    have pm := g.p m hm
    obtain ⟨e2, h1, h2⟩ := lf_inner (ss := ss) (v := v) (a := a) (TH := TH) (WB := WB) (m := m) (by have := pm.2.1.len; omega) (by have := pm.2.2.len; omega) (fun p => posA th p.2) (.va (rowA (nM ss a) encT th m)) (nM ss a m) (nm_ky k pm) ks (lfE ss v a TH WB ks (.va (.int m.1)) (.va (tI m.2.1)) (.va (tI m.2.2)) (.va (rowA (nM ss a) encT th m)) p10 p11 p12) ⟨_, _, _, _, rfl, ok⟩
    obtain ⟨q6, q10, q11, q12, rfl, ok2⟩ := h2
    exact ⟨lfE ss v a TH WB ks (.va (.int m.1)) (.va (tI m.2.1)) (.va (tI m.2.2)) (.va (rowA (nM ss a) encT th m)) p10 p11 p12, _, rfl, for_eq (x1 := row0) rfl h1, _, _, _, _, _, _, _, rfl, ok2⟩) R0
  refine ⟨_, ok, fun j => ?_, ?_⟩
  · rw [hit_folds, ← key_iff g j]
    exact ⟨fun h => h.elim (fun h => (List.not_mem_nil h).elim) id, .inr⟩
  · refine mkF_rt (x := row0) rfl ?_
    show b_letters_from [.va (webD ss), .va (.int v), .va (.int a), .no, .no, .no, .no, .no, .no, .no, .no, .no, .no] row0 = _
    have c1 : fLam gGrown (fTup (aCons (fVar 1) (aCons (fTup (aCons (fVar 2) aNil)) (aCons (fTup aNil) aNil)))) (fC .none) [2, 0] 3 1 (fCall m_moments_behind (aCons (fVar 2) (aCons (fVar 0) (aCons (fVar 1) aNil)))) [.va (webD ss), .va (.int v), .va (.int a), .no, .no, .no, .no, .no, .no, .no, .no, .no, .no] row0 = some (.tuple [TH, WB], row0) := by
      have e1 : fTup (aCons (fVar 1) (aCons (fTup (aCons (fVar 2) aNil)) (aCons (fTup aNil) aNil))) [.va (webD ss), .va (.int v), .va (.int a), .no, .no, .no, .no, .no, .no, .no, .no, .no, .no] row0 = some (eM (v, [a], []), row0) := by
        refine fTup_ok (aCons_eq (x1 := row0) rfl (aCons_eq (x1 := row0) (fTup_ok (ds := [.int a]) rfl (ml _ (by simp))) (aCons1 (fTup_ok (ds := []) rfl (ml _ (by simp)))))) (ml _ (by simp))
      rw [fLam, e1]
      simp only [capsD, List.getElem?_cons_succ, List.getElem?_cons_zero, fC]
      rw [eg]
    unfold b_letters_from
    rw [sSeq_nx (e1 := [.va (webD ss), .va (.int v), .va (.int a), .va TH, .va WB, .no, .no, .no, .no, .no, .no, .no, .no]) (x1 := row0) (by rw [sUnp, c1]; rfl)]
    rw [sSeq_nx (e1 := lfE ss v a TH WB [] .no .no .no .no .no .no .no) (x1 := row0) rfl]
    have c3 : fZip (fVar 3) (fVar 4) (lfE ss v a TH WB [] .no .no .no .no .no .no .no) row0 = some (th.map fun m => D.tuple [eM m, rowA (nM ss a) encT th m], row0) := by
      rw [← zip_map]; rfl
    rw [sSeq_nx (for_eq c3 el)]
    have c4 : fCall gSortY (aCons (fBor 5) aNil) (lfE ss v a TH WB (th.foldl (fun ks m => (nM ss a m).foldl (hitS a m) ks) []) p6 p7 p8 p9 p10 p11 p12) row0 = some (.list ((can (th.foldl (fun ks m => (nM ss a m).foldl (hitS a m) ks) [])).map pD), row0) := fCall_eq (aCons1 (x1 := row0) rfl) (srtY ok.1 ok.2)
    rw [sRet, tupOf_ok c4]
theorem first_letters_eq (k : Ok n ss) {a v : Int} (ha : 0 ≤ a ∧ a < n) (hv : 0 ≤ v ∧ v < (ss.length : Int)) : ∃ KS, KsOk KS ∧ (∀ j, j ∈ KS ↔ KeyQ ss a j v [a] []) ∧ m_first_letters [eX n ss, .int v, .int a] = some (.tuple ((can KS).map pD)) := by
  obtain ⟨KS, h1, h2, h3⟩ := letters_eq k ha hv
  refine ⟨KS, h1, h2, mkF_rt (x := row0) rfl ?_⟩
  have c2 : m_check_scene [.int v, eX n ss] = some .none := by
    refine mkF_nx (x := row0) rfl (e := [.va (.int v), .va (eX n ss)]) ?_
    have e0 : fBin gSubI (fCall gLen (aCons (fBin gAt (fBor 1) (fC (.int 1))) aNil)) (fC (.int 1)) [.va (.int v), .va (eX n ss)] row0 = some (.int ((ss.length : Int) - 1), row0) := by
      have e1 : fBin gAt (fBor 1) (fC (.int 1)) [.va (.int v), .va (eX n ss)] row0 = some (.tuple (ss.map eS), row0) := fBin_eq (x1 := row0) rfl rfl (eX_1 n ss)
      have e2 : fCall gLen (aCons (fBin gAt (fBor 1) (fC (.int 1))) aNil) [.va (.int v), .va (eX n ss)] row0 = some (.int (ss.length : Int), row0) := fCall_eq (aCons1 e1) (by simp [gLen])
      exact fBin_eq (x1 := row0) e2 rfl rfl
    have e3 : fCall m_is_number (aCons (fVar 0) (aCons (fC (.int 0)) (aCons (fBin gSubI (fCall gLen (aCons (fBin gAt (fBor 1) (fC (.int 1))) aNil)) (fC (.int 1))) aNil))) [.va (.int v), .va (eX n ss)] row0 = some (.bool true, row0) := by
      refine fCall_eq (aCons_eq (x1 := row0) rfl (aCons_eq (x1 := row0) rfl (aCons1 e0))) ?_
      rw [is_number_eq]
      rw [decide_eq_true hv.1, decide_eq_true (by omega)]; rfl
    show b_check_scene [.va (.int v), .va (eX n ss)] row0 = _
    rw [b_check_scene]
    exact if_no (by simp only [tNotF, fTru, e3, truD, Bool.not_true])
  have c3 : m_check_actor [.int a, .int n] = some .none := by
    refine mkF_nx (x := row0) rfl (e := [.va (.int a), .va (.int n)]) ?_
    have e3 : fCall m_is_number (aCons (fVar 0) (aCons (fC (.int 0)) (aCons (fBin gSubI (fBor 1) (fC (.int 1))) aNil))) [.va (.int a), .va (.int n)] row0 = some (.bool true, row0) := by
      refine fCall_eq (ds := [.int a, .int 0, .int (n - 1)]) rfl ?_
      rw [is_number_eq]
      rw [decide_eq_true ha.1, decide_eq_true (by omega)]; rfl
    show b_check_actor [.va (.int a), .va (.int n)] row0 = _
    rw [b_check_actor]
    exact if_no (by simp only [tNotF, fTru, e3, truD, Bool.not_true])
  show b_first_letters [.va (eX n ss), .va (.int v), .va (.int a)] row0 = _
  unfold b_first_letters
  rw [sSeq_nx (drop_ok k)]
  rw [sSeq_nx (e1 := [.va (eX n ss), .va (.int v), .va (.int a)]) (x1 := row0) (by rw [sDrop, fCall_eq (ds := [.int v, eX n ss]) (x1 := row0) rfl c2])]
  rw [sSeq_nx (e1 := [.va (eX n ss), .va (.int v), .va (.int a)]) (x1 := row0) (by
    have : fBin gAt (fBor 0) (fC (.int 0)) [.va (eX n ss), .va (.int v), .va (.int a)] row0 = some (.int n, row0) := fBin_eq (x1 := row0) rfl rfl (eX_0 n ss)
    rw [sDrop, fCall_eq (aCons_eq (x1 := row0) rfl (aCons1 this)) c3])]
  have c4 : fCall m_talk_web (aCons (fVar 0) aNil) [.va (eX n ss), .va (.int v), .va (.int a)] row0 = some (webD ss, row0) := fCall_eq (aCons1 (x1 := row0) rfl) (talk_web_eq k)
  rw [sRet, fCall_eq (aCons_eq c4 (aCons_eq (x1 := row0) rfl (aCons1 (x1 := row0) rfl))) h3]
end Lw

namespace Lw
open PySem RT
variable {n : Int} {ss : List Sc}
/-! the law's lines -/
def lines (ss : List Sc) : Nat → Int → List (List Tk)
  | 0, _ => []
  | f + 1, v => if isEnd ss v then [[]] else (tks ss v).flatMap fun p => (lines ss f p.2).map (p.1 :: ·)
def OnL (a : Int) (k : Ky) : List Int → List Int → List Tk → Prop
  | _, _, [] => False
  | K, S, t :: L => (t.1 ∉ K ∧ t.2.1 = a ∧ t.1 ∉ S ∧ k = (t.1, t.2.2)) ∨ OnL a k (lK K t) (lS a K S t) L
theorem end_tks {v : Int} (h : isEnd ss v = true) : tks ss v = [] := by
  unfold isEnd at h
  unfold tks brs
  cases e : scAt ss v with
  | none => rfl
  | some p => rw [e] at h; cases h
theorem go_tks (k : Ok n ss) {v : Int} (hv : 0 ≤ v ∧ v < (ss.length : Int)) (h : isEnd ss v = false) : ∃ p, p ∈ tks ss v := by
  unfold isEnd at h
  cases e : scAt ss v with
  | none => rw [e] at h; cases h
  | some p =>
    have hm := (scAt_mem hv.1 hv.2).2
    rw [e] at hm
    have := (k.sc p.1 p.2 hm).2.1.len.1
    unfold tks brs
    rw [e]
    cases hp : p.2 with
    | nil => rw [hp] at this; simp at this
    | cons b r => exact ⟨_, List.mem_map.mpr ⟨b, by simp [bsOf, hp], rfl⟩⟩
theorem tks_up (d : Dag ss) {v : Int} (hv : 0 ≤ v ∧ v < (ss.length : Int)) {p : Tk × Int} (hp : p ∈ tks ss v) : v < p.2 := by
  obtain ⟨b, hb, rfl⟩ := List.mem_map.mp hp
  exact d v hv.1 hv.2 b hb
theorem lines_ne (k : Ok n ss) (d : Dag ss) : ∀ (f : Nat) (v : Int), 0 ≤ v ∧ v < (ss.length : Int) → (ss.length : Int) ≤ v + f → ∃ L, L ∈ lines ss f v
  | 0, v, hv, h => by omega
  | f + 1, v, hv, h => by
    unfold lines
    by_cases c : isEnd ss v = true
    · rw [if_pos c]; exact ⟨[], List.mem_cons_self⟩
    · rw [if_neg c]
      obtain ⟨p, hp⟩ := go_tks k hv (by simpa using c)
      have up := tks_up d hv hp
      have := (tks_ok k hv hp).2.2.2
      obtain ⟨L, hL⟩ := lines_ne k d f p.2 this (by omega)
      exact ⟨p.1 :: L, List.mem_flatMap.mpr ⟨p, hp, List.mem_map.mpr ⟨L, hL, rfl⟩⟩⟩
theorem line_key {a : Int} {k : Ky} : ∀ (f : Nat) (v : Int) (K S : List Int) (L : List Tk), L ∈ lines ss f v → OnL a k K S L → KeyQ ss a k v K S
  | 0, _, _, _, _, h, _ => by cases h
  | f + 1, v, K, S, L, h, o => by
    unfold lines at h
    split at h
    · rw [List.mem_singleton] at h; subst h; exact o.elim
    · obtain ⟨p, hp, h⟩ := List.mem_flatMap.mp h
      obtain ⟨L', hL, rfl⟩ := List.mem_map.mp h
      obtain ⟨⟨s, h', w⟩, u⟩ := p
      rcases o with ⟨o1, o2, o3, rfl⟩ | o
      · simp only at o2; subst o2
        exact .here hp o1 o3
      · exact .next hp (line_key f u _ _ L' hL o)
theorem key_line (ok : Ok n ss) (d : Dag ss) {a : Int} {k : Ky} {v : Int} {K S : List Int} (h : KeyQ ss a k v K S) : 0 ≤ v ∧ v < (ss.length : Int) → ∀ f : Nat, (ss.length : Int) ≤ v + f → ∃ L ∈ lines ss f v, OnL a k K S L := by
  have mk : ∀ {v : Int} {f : Nat} {p : Tk × Int} {L : List Tk}, p ∈ tks ss v → L ∈ lines ss f p.2 → p.1 :: L ∈ lines ss (f + 1) v := fun {v f p L} hp hL => by
    unfold lines
    by_cases c : isEnd ss v = true
    · rw [end_tks c] at hp; cases hp
    · rw [if_neg c]
      exact List.mem_flatMap.mpr ⟨p, hp, List.mem_map.mpr ⟨L, hL, rfl⟩⟩
  induction h with
  | @here v K S u h1 h2 h3 =>
    intro hv f hf
    cases f with
    | zero => omega
    | succ f =>
      have up := tks_up d hv h1
      have hu := (tks_ok ok hv h1).2.2.2
      obtain ⟨L, hL⟩ := lines_ne ok d f u hu (by simp only at up; omega)
      exact ⟨_, mk h1 hL, .inl ⟨h2, rfl, h3, rfl⟩⟩
  | @next v K S t u h1 _ ih =>
    intro hv f hf
    cases f with
    | zero => omega
    | succ f =>
      have up := tks_up d hv h1
      have hu := (tks_ok ok hv h1).2.2.2
      obtain ⟨L, hL, o⟩ := ih hu f (by simp only at up; omega)
      exact ⟨_, mk h1 hL, .inr o⟩
theorem lines_iff (ok : Ok n ss) (d : Dag ss) {a : Int} {k : Ky} {v : Int} (hv : 0 ≤ v ∧ v < (ss.length : Int)) {f : Nat} (hf : (ss.length : Int) ≤ v + f) (K S : List Int) : (∃ L ∈ lines ss f v, OnL a k K S L) ↔ KeyQ ss a k v K S :=
  ⟨fun ⟨L, h1, h2⟩ => line_key f v K S L h1 h2, fun h => key_line ok d h hv f hf⟩
/-! how _law_lines makes them -/
def rowT (L : List Tk) : D := .tuple (L.map encT)
theorem flat_le {α β : Type} {f : α → List β} {c : Nat} : ∀ (l : List α), (∀ a ∈ l, (f a).length ≤ c) → (l.flatMap f).length ≤ l.length * c
  | [], _ => by simp
  | a :: l, h => by
    have := flat_le l fun b hb => h b (List.mem_cons_of_mem _ hb)
    have := h a List.mem_cons_self
    rw [List.flatMap_cons, List.length_append, List.length_cons, Nat.succ_mul]; omega
theorem lines_len (k : Ok n ss) : ∀ (f : Nat) (v : Int), 0 ≤ v ∧ v < (ss.length : Int) → (lines ss f v).length ≤ 2 ^ f ∧ ∀ L ∈ lines ss f v, L.length ≤ f
  | 0, v, _ => ⟨by simp [lines], fun L h => by cases h⟩
  | f + 1, v, hv => by
    unfold lines
    by_cases c : isEnd ss v = true
    · rw [if_pos c]
      exact ⟨by rw [List.length_singleton]; exact Nat.one_le_two_pow, fun L h => by rw [List.mem_singleton] at h; subst h; exact Nat.zero_le _⟩
    · rw [if_neg c]
      constructor
      · have := flat_le (f := fun p : Tk × Int => (lines ss f p.2).map (p.1 :: ·)) (c := 2 ^ f) (tks ss v) fun p hp => by rw [List.length_map]; exact (lines_len k f p.2 (tks_ok k hv hp).2.2.2).1
        have h2 := tks_len k hv
        have : (tks ss v).length * 2 ^ f ≤ 2 * 2 ^ f := Nat.mul_le_mul_right _ h2
        rw [Nat.pow_succ]; omega
      · intro L h
        obtain ⟨p, hp, h⟩ := List.mem_flatMap.mp h
        obtain ⟨L', hL, rfl⟩ := List.mem_map.mp h
        have := (lines_len k f p.2 (tks_ok k hv hp).2.2.2).2 L' hL
        rw [List.length_cons]; omega
def llE (n : Int) (ss : List Sc) (v : Int) (acc : List D) (p3 p4 : FSl) : FEn := [.va (eX n ss), .va (.int v), .va (.list acc), p3, p4]
abbrev llEl : FE := fBin gAdd (fTup (aCons (fBin gAdd (fTup (aCons (fBin gAt (fBin gAt (fBin gAt (fBor 0) (fC (.int 1))) (fBor 1)) (fC (.int 0))) aNil)) (fSl (fBor 3) oNone (oSome (fC (.int 2))))) aNil)) (fBor 4)
abbrev llLc (rec : List D → Option D) : FE := fOfX (xLc (fSeq (fCall rec (aCons (fVar 0) (aCons (fBin gAt (fBor 3) (fC (.int 2))) aNil)))) (gtName 4) tYesF llEl [4])
abbrev llBody (rec : List D → Option D) : FS := sSet 2 (xVal (fBin gAdd (fBor 2) (llLc rec)))
theorem sl_eq {f : FE} {env : FEn} {x : FRow} {b : Br} (h : f env x = some (eB b, x)) : fSl f oNone (oSome (fC (.int 2))) env x = some (.tuple [.int b.1, .int b.2.1], x) := by
  have := cut2 b
  simp only [fSl, h, oNone, oSome, fC, eB, gSl, this]
theorem ll_step {rec : List D → Option D} {v : Int} (hv : 0 ≤ v ∧ v < (ss.length : Int)) {p : Int × List Br} (hp : scAt ss v = some p) {b : Br} {F : List (List Tk)} (hr : rec [eX n ss, .int b.2.2] = some (.list (F.map rowT))) (hF : F.length ≤ 600) (hL : ∀ L ∈ F, L.length ≤ 50) (acc : List D) (ha : acc.length ≤ 5000) (p4 : FSl) :
    llBody rec (llE n ss v acc (.va (eB b)) p4) row0 = some (.nx (llE n ss v (acc ++ (F.map ((p.1, b.1, b.2.1) :: ·)).map rowT) (.va (eB b)) p4), row0) := by
  have e1 : fSeq (fCall rec (aCons (fVar 0) (aCons (fBin gAt (fBor 3) (fC (.int 2))) aNil))) (llE n ss v acc (.va (eB b)) p4) row0 = some (F.map rowT, row0) := by
    have q : fBin gAt (fBor 3) (fC (.int 2)) (llE n ss v acc (.va (eB b)) p4) row0 = some (.int b.2.2, row0) := fBin_eq (x1 := row0) rfl rfl (eB_2 b)
    rw [fSeq, fCall_eq (aCons_eq (x1 := row0) rfl (aCons1 q)) hr]
  have e2 : compL (gtName 4) tYesF llEl (wipeE (llE n ss v acc (.va (eB b)) p4) [4]) (F.map rowT) row0 = some (F.map (fun L => rowT ((p.1, b.1, b.2.1) :: L)), row0) := by
    refine compL_map rowT _ F fun L hLF => ⟨llE n ss v acc (.va (eB b)) (.va (rowT L)), rfl, rfl, ?_⟩
    have q1 : fBin gAt (fBor 0) (fC (.int 1)) (llE n ss v acc (.va (eB b)) (.va (rowT L))) row0 = some (.tuple (ss.map eS), row0) := fBin_eq (x1 := row0) rfl rfl (eX_1 n ss)
    have q2 : fBin gAt (fBin gAt (fBor 0) (fC (.int 1))) (fBor 1) (llE n ss v acc (.va (eB b)) (.va (rowT L))) row0 = some (eS (scAt ss v), row0) := fBin_eq (x1 := row0) q1 rfl (eX_at (n := n) hv.1 hv.2)
    have q3 : fBin gAt (fBin gAt (fBin gAt (fBor 0) (fC (.int 1))) (fBor 1)) (fC (.int 0)) (llE n ss v acc (.va (eB b)) (.va (rowT L))) row0 = some (.int p.1, row0) := fBin_eq (x1 := row0) q2 rfl (by rw [hp]; simp only [eS, gAt, atI_z0])
    have q4 := fTup_ok (aCons1 q3) (ml _ (by simp))
    have q5 := sl_eq (f := fBor 3) (env := llE n ss v acc (.va (eB b)) (.va (rowT L))) (x := row0) (b := b) rfl
    have q6 := fBin_cat q4 q5 (ml _ (by simp))
    have q7 := fTup_ok (aCons1 q6) (ml _ (by simp))
    have := hL L hLF
    have q8 := fBin_cat (fb := fBor 4) (x2 := row0) (ys := L.map encT) q7 rfl (ml _ (by simp; omega))
    rw [llEl, q8]; rfl
  have e3 := lc_eq (vs := [4]) e1 e2 (by rw [List.length_map, maxLen]; omega)
  have e4 : fBin gAdd (fBor 2) (llLc rec) (llE n ss v acc (.va (eB b)) p4) row0 = some (.list (acc ++ F.map (fun L => rowT ((p.1, b.1, b.2.1) :: L))), row0) := by
    refine fBin_eq (x1 := row0) rfl e3 ?_
    have : acc.length + (F.map (fun L => rowT ((p.1, b.1, b.2.1) :: L))).length ≤ maxLen := by rw [List.length_map, maxLen]; omega
    simp only [gAdd, gOr, gI, gCatT, gCatL, OwD.d, if_pos this]
  rw [llBody, sSet_va e4, List.map_map]; rfl
theorem ll_loop {rec : List D → Option D} {v : Int} (hv : 0 ≤ v ∧ v < (ss.length : Int)) {p : Int × List Br} (hp : scAt ss v = some p) {F : Int → List (List Tk)} (hF : ∀ b ∈ p.2, (F b.2.2).length ≤ 600 ∧ ∀ L ∈ F b.2.2, L.length ≤ 50) (hr : ∀ b ∈ p.2, rec [eX n ss, .int b.2.2] = some (.list ((F b.2.2).map rowT))) : ∀ (bs : List Br), (∀ b ∈ bs, b ∈ p.2) → ∀ (acc : List D), acc.length + bs.length * 600 ≤ 5000 → ∀ p3 p4 : FSl,
    ∃ q3 q4, forL (gtName 3) (llBody rec) (bs.map eB) (llE n ss v acc p3 p4) row0 = some (.nx (llE n ss v (acc ++ (bs.flatMap fun b => (F b.2.2).map ((p.1, b.1, b.2.1) :: ·)).map rowT) q3 q4), row0)
  | [], _, acc, _, p3, p4 => ⟨p3, p4, by simp [forL]⟩
  | b :: bs, hb, acc, ha, p3, p4 => by
    have hb1 := hb b List.mem_cons_self
    rw [List.length_cons, Nat.succ_mul] at ha
    have s := ll_step (n := n) hv hp (hr b hb1) (hF b hb1).1 (hF b hb1).2 acc (by omega) p4
    have hl : (acc ++ ((F b.2.2).map ((p.1, b.1, b.2.1) :: ·)).map rowT).length + bs.length * 600 ≤ 5000 := by
      have := (hF b hb1).1
      rw [List.length_append, List.length_map, List.length_map]; omega
    obtain ⟨q3, q4, e⟩ := ll_loop hv hp hF hr bs (fun c hc => hb c (List.mem_cons_of_mem _ hc)) _ hl (.va (eB b)) p4
    refine ⟨q3, q4, ?_⟩
    rw [List.map_cons, forL]
    rw [show gtName 3 (eB b) (llE n ss v acc p3 p4) = some (llE n ss v acc (.va (eB b)) p4) from rfl]
    simp only
    rw [s]
    simp only
    rw [e, List.flatMap_cons, List.map_append, List.append_assoc]
theorem law_lines_eq (k : Ok n ss) (d : Dag ss) : ∀ (f : Nat) (v : Int), f ≤ 9 → 0 ≤ v ∧ v < (ss.length : Int) → (ss.length : Int) ≤ v + f → m_law_lines f [eX n ss, .int v] = some (.list ((lines ss f v).map rowT))
  | 0, v, _, hv, h => by omega
  | f + 1, v, hf9, hv, h => by
    show mkF 5 2 (b_law_lines (m_law_lines f)) _ = _
    refine mkF_rt (x := row0) rfl ?_
    show b_law_lines (m_law_lines f) [.va (eX n ss), .va (.int v), .no, .no, .no] row0 = _
    have q1 : fBin gAt (fBor 0) (fC (.int 1)) [.va (eX n ss), .va (.int v), .no, .no, .no] row0 = some (.tuple (ss.map eS), row0) := fBin_eq (x1 := row0) rfl rfl (eX_1 n ss)
    have q2 : fBin gAt (fBin gAt (fBor 0) (fC (.int 1))) (fBor 1) [.va (eX n ss), .va (.int v), .no, .no, .no] row0 = some (eS (scAt ss v), row0) := fBin_eq (x1 := row0) q1 rfl (eX_at (n := n) hv.1 hv.2)
    have q3 : fTst (fBin gIsN (fBin gAt (fBin gAt (fBor 0) (fC (.int 1))) (fBor 1)) (fC .none)) [.va (eX n ss), .va (.int v), .no, .no, .no] row0 = some (isEnd ss v, row0) := by
      rw [fTst, fBin_eq q2 (x2 := row0) rfl (none_eS _)]; rfl
    unfold b_law_lines lines
    cases hp : scAt ss v with
    | none =>
      have he : isEnd ss v = true := by unfold isEnd; rw [hp]; rfl
      rw [he] at q3
      rw [sSeq, sIf, q3, if_pos he]
      have : fLst (aCons (fTup aNil) aNil) [.va (eX n ss), .va (.int v), .no, .no, .no] row0 = some (.list [.tuple []], row0) := fLst_ok (aCons1 (fTup_ok (ds := []) rfl (ml _ (by simp)))) (ml _ (by simp))
      simp only [sRet, this]; rfl
    | some p =>
      have he : isEnd ss v = false := by unfold isEnd; rw [hp]; rfl
      rw [he] at q3
      rw [sSeq_nx (if_no q3), if_neg (by rw [he]; decide)]
      rw [sSeq_nx (e1 := llE n ss v [] .no .no) (x1 := row0) (by rw [sSet_va (fLst_ok (ds := []) rfl (ml _ (by simp)))]; rfl)]
      have hm : some (p.1, p.2) ∈ ss := by
        have := (scAt_mem hv.1 hv.2).2
        rw [hp] at this; exact this
      have bsc := k.sc p.1 p.2 hm
      have hb2 := bsc.2.1.len.2
      have brp : brs ss v = p.2 := by unfold brs; rw [hp]; rfl
      have bin : ∀ b ∈ p.2, (0 ≤ b.2.2 ∧ b.2.2 < (ss.length : Int)) ∧ v < b.2.2 := fun b hb => ⟨(bsc.2.2 b hb).t, d v hv.1 hv.2 b (by rw [brp]; exact hb)⟩
      have h2f : 2 ^ f ≤ 2 ^ 8 := Nat.pow_le_pow_right (by omega) (by omega)
      obtain ⟨q3, q4, e⟩ := ll_loop (n := n) (rec := m_law_lines f) hv hp (F := lines ss f) (fun b hb => ⟨by have := (lines_len k f b.2.2 (bin b hb).1).1; omega, fun L hL => by have := (lines_len k f b.2.2 (bin b hb).1).2 L hL; omega⟩) (fun b hb => law_lines_eq k d f b.2.2 (by omega) (bin b hb).1 (by have := (bin b hb).2; omega)) p.2 (fun b hb => hb) [] (by rw [List.length_nil]; omega) .no .no
      have qs : fSeq (fBin gAt (fBin gAt (fBin gAt (fBor 0) (fC (.int 1))) (fBor 1)) (fC (.int 1))) (llE n ss v [] .no .no) row0 = some (p.2.map eB, row0) := by
        have r1 : fBin gAt (fBor 0) (fC (.int 1)) (llE n ss v [] .no .no) row0 = some (.tuple (ss.map eS), row0) := fBin_eq (x1 := row0) rfl rfl (eX_1 n ss)
        have r2 : fBin gAt (fBin gAt (fBor 0) (fC (.int 1))) (fBor 1) (llE n ss v [] .no .no) row0 = some (eS (scAt ss v), row0) := fBin_eq (x1 := row0) r1 rfl (eX_at (n := n) hv.1 hv.2)
        rw [hp] at r2
        have r3 : fBin gAt (fBin gAt (fBin gAt (fBor 0) (fC (.int 1))) (fBor 1)) (fC (.int 1)) (llE n ss v [] .no .no) row0 = some (.tuple (p.2.map eB), row0) := fBin_eq (x1 := row0) r2 rfl (by simp only [eS, gAt, atI_z1])
        rw [fSeq, r3]
      rw [sSeq_nx (for_eq qs e)]
      have et : (p.2.flatMap fun b => (lines ss f b.2.2).map ((p.1, b.1, b.2.1) :: ·)) = (tks ss v).flatMap fun q => (lines ss f q.2).map (q.1 :: ·) := by
        unfold tks
        rw [brp, hp, List.flatMap_map]; rfl
      rw [← et, List.nil_append]; rfl
end Lw

namespace Lw
open PySem RT
variable {n : Int} {ss : List Sc}
/-! the law -/
def oI (l : List Int) : FSl := .ow (.lst (l.map .int))
def lwE (n : Int) (ss : List Sc) (v a : Int) (ks : List Ky) (p6 p7 p8 p9 p10 p11 : FSl) : FEn := [.no, .rw, .va (eX n ss), .va (.int v), .va (.int a), .ow (.dt (dK ks)), p6, p7, p8, p9, p10, p11]
abbrev lnBody : FS := sIf (fTst (fBin gInA (fBor 9) (fBor 7))) (sApp 7 (fVar 10)) (sIf (fTst (fBin gEq (fBor 10) (fBor 4))) (sSeq (sIf (fTst (fBin gNotInA (fBor 9) (fBor 8))) (sDPut 5 (fTup (aCons (fVar 9) (aCons (fVar 11) aNil))) (fC (.bool true))) sNil)
    (sApp 8 (fVar 9))) sNil)
def onK (a : Int) (K S : List Int) (t : Tk) (ks : List Ky) : List Ky := if t.1 ∉ K ∧ t.2.1 = a ∧ t.1 ∉ S then addA ks [(t.1, t.2.2)] else ks
theorem ln_step {v a : Int} {K S : List Int} (hK : K.length ≤ 100) (hS : S.length ≤ 100) {ks : List Ky} (hk : KsOk ks) (t : Tk) (p6 : FSl) (x : FRow) :
    lnBody (lwE n ss v a ks p6 (oI K) (oI S) (.va (.int t.1)) (.va (.int t.2.1)) (.va (.int t.2.2))) x = some (.nx (lwE n ss v a (onK a K S t ks) p6 (oI (lK K t)) (oI (lS a K S t)) (.va (.int t.1)) (.va (.int t.2.1)) (.va (.int t.2.2))), x) := by
  obtain ⟨s, h, w⟩ := t
  have t1 : fTst (fBin gInA (fBor 9) (fBor 7)) (lwE n ss v a ks p6 (oI K) (oI S) (.va (.int s)) (.va (.int h)) (.va (.int w))) x = some (decide (s ∈ K), x) := by
    rw [fTst, fBin_eq (fa := fBor 9) (fb := fBor 7) (x1 := x) (x2 := x) rfl rfl (show gInA (.int s) (.list (K.map .int)) = _ from in_ints s K)]
  have t2 : fTst (fBin gEq (fBor 10) (fBor 4)) (lwE n ss v a ks p6 (oI K) (oI S) (.va (.int s)) (.va (.int h)) (.va (.int w))) x = some (decide (h = a), x) := by
    rw [fTst, fBin_eq (fa := fBor 10) (fb := fBor 4) (x1 := x) (x2 := x) rfl rfl (eq_int h a)]
  have t3 : fTst (fBin gNotInA (fBor 9) (fBor 8)) (lwE n ss v a ks p6 (oI K) (oI S) (.va (.int s)) (.va (.int h)) (.va (.int w))) x = some (!decide (s ∈ S), x) := by
    rw [fTst, fBin_eq (fa := fBor 9) (fb := fBor 8) (x1 := x) (x2 := x) rfl rfl (show gNotInA (.int s) (.list (S.map .int)) = _ from notin_ints s S)]
  unfold lnBody onK lK lS
  rw [sIf, t1]
  by_cases c1 : s ∈ K
  · rw [decide_eq_true c1]
    simp only [if_pos c1]
    rw [if_neg (fun q => q.1 c1)]
    have hl : (K.map D.int).length < maxLen := by rw [List.length_map]; exact nob K hK
    simp only [sApp, fVar, lwE, oI, List.getElem?_cons_succ, List.getElem?_cons_zero, if_pos hl, List.set_cons_succ, List.set_cons_zero, List.map_append, List.map_cons, List.map_nil]
  · rw [decide_eq_false c1]
    simp only [if_neg c1]
    rw [sIf, t2]
    by_cases c2 : h = a
    · rw [decide_eq_true c2]
      simp only [if_pos c2]
      have hl : (S.map D.int).length < maxLen := by rw [List.length_map]; exact nob S hS
      have d1 : sIf (fTst (fBin gNotInA (fBor 9) (fBor 8))) (sDPut 5 (fTup (aCons (fVar 9) (aCons (fVar 11) aNil))) (fC (.bool true))) sNil (lwE n ss v a ks p6 (oI K) (oI S) (.va (.int s)) (.va (.int h)) (.va (.int w))) x = some (.nx (lwE n ss v a (if s ∉ K ∧ h = a ∧ s ∉ S then addA ks [(s, w)] else ks) p6 (oI K) (oI S) (.va (.int s)) (.va (.int h)) (.va (.int w))), x) := by
        rw [sIf, t3]
        by_cases c3 : s ∈ S
        · rw [decide_eq_true c3, if_neg (fun q => q.2.2 c3)]; rfl
        · rw [decide_eq_false c3, if_pos ⟨c1, c2, c3⟩]
          simp only [Bool.not_false]
          have e1 : fTup (aCons (fVar 9) (aCons (fVar 11) aNil)) (lwE n ss v a ks p6 (oI K) (oI S) (.va (.int s)) (.va (.int h)) (.va (.int w))) x = some (pD (s, w), x) := fTup_ok (ds := [.int s, .int w]) rfl (ml _ (by simp))
          have hd : (dK ks).length < maxLen := by rw [dK, List.length_map]; exact nob ks (by have := ks_len hk.1 hk.2; omega)
          rw [sDPut]
          simp only [fC]
          rw [e1]
          simp only [lwE, List.getElem?_cons_succ, List.getElem?_cons_zero]
          rw [p_key]
          simp only
          rw [if_pos hd, dK_put]; rfl
      rw [sSeq_nx d1]
      simp only [sApp, fVar, lwE, oI, List.getElem?_cons_succ, List.getElem?_cons_zero, if_pos hl, List.set_cons_succ, List.set_cons_zero, List.map_append, List.map_cons, List.map_nil]
    · rw [decide_eq_false c2]
      simp only [if_neg c2]
      rw [if_neg (fun q => c2 q.2.1)]; rfl
def TOk (t : Tk) : Prop := KyOk (t.1, t.2.2)
abbrev gT3 : FGt := gtTup 3 (gtCons (gtName 9) (gtCons (gtName 10) (gtCons (gtName 11) gtNil)))
theorem ln_loop {v a : Int} (p6 : FSl) (x : FRow) : ∀ (L : List Tk) (K S : List Int) (ks : List Ky) (p9 p10 p11 : FSl), (∀ t ∈ L, TOk t) → K.length + L.length ≤ 100 → S.length + L.length ≤ 100 → KsOk ks →
    ∃ K' S' ks' q9 q10 q11, forL gT3 lnBody (L.map encT) (lwE n ss v a ks p6 (oI K) (oI S) p9 p10 p11) x = some (.nx (lwE n ss v a ks' p6 (oI K') (oI S') q9 q10 q11), x) ∧ KsOk ks' ∧ ∀ k, k ∈ ks' ↔ k ∈ ks ∨ OnL a k K S L
  | [], K, S, ks, p9, p10, p11, _, _, _, hk => ⟨K, S, ks, p9, p10, p11, rfl, hk, fun k => by simp [OnL]⟩
  | t :: L, K, S, ks, p9, p10, p11, ht, hK, hS, hk => by
    rw [List.length_cons] at hK hS
    have st := ln_step (n := n) (ss := ss) (v := v) (a := a) (K := K) (S := S) (by omega) (by omega) hk t p6 x
    have lk : (lK K t).length ≤ K.length + 1 := by unfold lK; split <;> simp
    have ls : (lS a K S t).length ≤ S.length + 1 := by unfold lS; split <;> (try split) <;> simp
    have ok2 : KsOk (onK a K S t ks) := by
      unfold onK; split
      · exact ksok_add hk (ht t List.mem_cons_self)
      · exact hk
    obtain ⟨K', S', ks', q9, q10, q11, e, ok3, hm⟩ := ln_loop p6 x L (lK K t) (lS a K S t) (onK a K S t ks) (.va (.int t.1)) (.va (.int t.2.1)) (.va (.int t.2.2)) (fun u hu => ht u (List.mem_cons_of_mem _ hu)) (by omega) (by omega) ok2
    refine ⟨K', S', ks', q9, q10, q11, ?_, ok3, fun k => ?_⟩
    · rw [List.map_cons, forL]
      rw [show gT3 (encT t) (lwE n ss v a ks p6 (oI K) (oI S) p9 p10 p11) = some (lwE n ss v a ks p6 (oI K) (oI S) (.va (.int t.1)) (.va (.int t.2.1)) (.va (.int t.2.2))) from rfl]
      simp only
      rw [st]
      simp only
      rw [e]
    · rw [hm, OnL, ← or_assoc]
      refine or_congr ?_ Iff.rfl
      unfold onK
      split
      · rename_i c
        rw [addA_mem, List.mem_singleton]
        exact or_congr Iff.rfl ⟨fun h => ⟨c.1, c.2.1, c.2.2, h⟩, fun h => h.2.2.2⟩
      · rename_i c
        exact ⟨.inl, fun h => h.elim id fun h => absurd ⟨h.1, h.2.1, h.2.2.1⟩ c⟩
abbrev lsBody : FS := sSeq (sPars [7, 8] (xsCons (xLst (aCons (fVar 4) aNil)) (xsCons (xLst aNil) xsNil)))
    (sFor (fSeq (fVar 6)) gT3 lnBody)
theorem ls_loop {v a : Int} (x : FRow) : ∀ (Ls : List (List Tk)) (ks : List Ky) (p6 p7 p8 p9 p10 p11 : FSl), (∀ L ∈ Ls, L.length ≤ 50 ∧ ∀ t ∈ L, TOk t) → KsOk ks →
    ∃ ks' q6 q7 q8 q9 q10 q11, forL (gtName 6) lsBody (Ls.map rowT) (lwE n ss v a ks p6 p7 p8 p9 p10 p11) x = some (.nx (lwE n ss v a ks' q6 q7 q8 q9 q10 q11), x) ∧ KsOk ks' ∧ ∀ k, k ∈ ks' ↔ k ∈ ks ∨ ∃ L ∈ Ls, OnL a k [a] [] L
  | [], ks, p6, p7, p8, p9, p10, p11, _, hk => ⟨ks, p6, p7, p8, p9, p10, p11, rfl, hk, fun k => by simp⟩
  | L :: Ls, ks, p6, p7, p8, p9, p10, p11, hL, hk => by
    obtain ⟨l1, l2⟩ := hL L List.mem_cons_self
    obtain ⟨K', S', ks1, r9, r10, r11, e1, ok1, hm1⟩ := ln_loop (n := n) (ss := ss) (v := v) (a := a) (.va (rowT L)) x L [a] [] ks p9 p10 p11 l2 (by rw [List.length_singleton]; omega) (by rw [List.length_nil]; omega) hk
    obtain ⟨ks', q6, q7, q8, q9, q10, q11, e2, ok2, hm2⟩ := ls_loop x Ls ks1 (.va (rowT L)) (oI K') (oI S') r9 r10 r11 (fun M hM => hL M (List.mem_cons_of_mem _ hM)) ok1
    refine ⟨ks', q6, q7, q8, q9, q10, q11, ?_, ok2, fun k => ?_⟩
    · rw [List.map_cons, forL]
      rw [show gtName 6 (rowT L) (lwE n ss v a ks p6 p7 p8 p9 p10 p11) = some (lwE n ss v a ks (.va (rowT L)) p7 p8 p9 p10 p11) from rfl]
      simp only
      have c1 : sPars [7, 8] (xsCons (xLst (aCons (fVar 4) aNil)) (xsCons (xLst aNil) xsNil)) (lwE n ss v a ks (.va (rowT L)) p7 p8 p9 p10 p11) x = some (.nx (lwE n ss v a ks (.va (rowT L)) (oI [a]) (oI []) p9 p10 p11), x) := by
        have h1 : xLst (aCons (fVar 4) aNil) (lwE n ss v a ks (.va (rowT L)) p7 p8 p9 p10 p11) x = some (oI [a], x) := xLst_ok (ds := [.int a]) rfl (ml _ (by simp))
        have h2 : xLst aNil (lwE n ss v a ks (.va (rowT L)) p7 p8 p9 p10 p11) x = some (oI [], x) := xLst_ok (ds := []) rfl (ml _ (by simp))
        simp only [sPars, xsCons, xsNil, h1, h2]
        rfl
      have c2 : lsBody (lwE n ss v a ks (.va (rowT L)) p7 p8 p9 p10 p11) x = some (.nx (lwE n ss v a ks1 (.va (rowT L)) (oI K') (oI S') r9 r10 r11), x) := by
        unfold lsBody
        rw [sSeq_nx c1]
        exact for_eq (x1 := x) rfl e1
      rw [c2]
      simp only
      rw [e2]
    · rw [hm2, hm1, or_assoc]
      refine or_congr Iff.rfl ⟨?_, ?_⟩
      · rintro (h | ⟨M, hM, h⟩)
        · exact ⟨L, List.mem_cons_self, h⟩
        · exact ⟨M, List.mem_cons_of_mem _ hM, h⟩
      · rintro ⟨M, hM, h⟩
        rcases List.mem_cons.mp hM with rfl | hM
        · exact .inl h
        · exact .inr ⟨M, hM, h⟩
theorem lines_tok (k : Ok n ss) : ∀ (f : Nat) (v : Int), 0 ≤ v ∧ v < (ss.length : Int) → ∀ L ∈ lines ss f v, ∀ t ∈ L, TOk t
  | 0, _, _, L, h => by cases h
  | f + 1, v, hv, L, h => by
    unfold lines at h
    split at h
    · rw [List.mem_singleton] at h; subst h; intro t ht; cases ht
    · obtain ⟨p, hp, h⟩ := List.mem_flatMap.mp h
      obtain ⟨L', hL, rfl⟩ := List.mem_map.mp h
      obtain ⟨h1, h2, h3, h4⟩ := tks_ok k hv hp
      intro t ht
      rcases List.mem_cons.mp ht with rfl | ht
      · have := n4 k
        exact ⟨⟨h1.1, by simp only; omega⟩, h3⟩
      · exact lines_tok k f p.2 h4 L' hL t ht
abbrev acBody : FS := sSeq (sSet 5 (xNew (.dt [])))
    (sSeq (sFor (fSeq (fCall (m_law_lines 9) (aCons (fVar 2) (aCons (fVar 3) aNil)))) (gtName 6) lsBody)
    (sIf (tNotF (fTru (fCall (m_law_alike 9) (aCons (fCall m_first_letters (aCons (fVar 2) (aCons (fVar 3) (aCons (fVar 4) aNil)))) (aCons (fCall gTupOf (aCons (fCall gSortX (aCons (fCall gListOf (aCons (fBor 5) aNil)) aNil)) aNil)) aNil))))) (sRet (fC (.bool false))) sNil))
def lv0 (n : Int) (ss : List Sc) (v : Int) (p4 p5 p6 p7 p8 p9 p10 p11 : FSl) : FEn := [.no, .rw, .va (eX n ss), .va (.int v), p4, p5, p6, p7, p8, p9, p10, p11]
theorem ac_step (k : Ok n ss) (d : Dag ss) {a v : Int} (ha : 0 ≤ a ∧ a < n) (hv : 0 ≤ v ∧ v < (ss.length : Int)) (p5 p6 p7 p8 p9 p10 p11 : FSl) (x : FRow) :
    ∃ q5 q6 q7 q8 q9 q10 q11, acBody (lv0 n ss v (.va (.int a)) p5 p6 p7 p8 p9 p10 p11) x = some (.nx (lv0 n ss v (.va (.int a)) q5 q6 q7 q8 q9 q10 q11), x) := by
  have hm := k.m
  have hlen := lines_len k 9 v hv
  obtain ⟨ks, q6, q7, q8, q9, q10, q11, e1, ok1, hm1⟩ := ls_loop (n := n) (ss := ss) (v := v) (a := a) x (lines ss 9 v) [] p6 p7 p8 p9 p10 p11 (fun L hL => ⟨by have := hlen.2 L hL; omega, lines_tok k 9 v hv L hL⟩) ⟨List.nodup_nil, fun k h => (List.not_mem_nil h).elim⟩
  obtain ⟨KS, ok2, hm2, e2⟩ := first_letters_eq k ha hv
  have same : can KS = can ks := can_congr fun j => by
    rw [hm2, hm1, lines_iff k d hv (by omega) [a] []]
    exact ⟨.inr, fun h => h.elim (fun h => (List.not_mem_nil h).elim) id⟩
  refine ⟨.ow (.dt (dK ks)), q6, q7, q8, q9, q10, q11, ?_⟩
  unfold acBody
  rw [sSeq_nx (e1 := lwE n ss v a [] p6 p7 p8 p9 p10 p11) (x1 := x) rfl]
  have c1 : fSeq (fCall (m_law_lines 9) (aCons (fVar 2) (aCons (fVar 3) aNil))) (lwE n ss v a [] p6 p7 p8 p9 p10 p11) x = some ((lines ss 9 v).map rowT, x) := by
    rw [fSeq, fCall_eq (aCons2 (x1 := x) (x2 := x) rfl rfl) (law_lines_eq k d 9 v (by omega) hv (by omega))]
  rw [sSeq_nx (for_eq c1 e1)]
  have d1 : fCall m_first_letters (aCons (fVar 2) (aCons (fVar 3) (aCons (fVar 4) aNil))) (lwE n ss v a ks q6 q7 q8 q9 q10 q11) x = some (.tuple ((can KS).map pD), x) := fCall_eq (ds := [eX n ss, .int v, .int a]) rfl e2
  have d2 : fCall gListOf (aCons (fBor 5) aNil) (lwE n ss v a ks q6 q7 q8 q9 q10 q11) x = some (.list (ks.map pD), x) := by
    refine fCall_eq (aCons1 (x1 := x) rfl) ?_
    show some (D.list ((dK ks).map (·.1))) = _
    rw [dK, List.map_map]; rfl
  have d3 : fCall gTupOf (aCons (fCall gSortX (aCons (fCall gListOf (aCons (fBor 5) aNil)) aNil)) aNil) (lwE n ss v a ks q6 q7 q8 q9 q10 q11) x = some (.tuple ((can KS).map pD), x) := by
    rw [same]
    exact tupOf_ok (fCall_eq (aCons1 d2) (srtX ok1.1 ok1.2))
  have hl : (can KS).length ≤ 1000 := by
    unfold can
    have := List.length_filter_le (fun k => decide (k ∈ KS)) KU
    have : KU.length = 24 := by decide
    omega
  have d4 := alike_t d1 d3 ((pt_pt hl).le (by omega))
  exact if_no d4
theorem ac_loop (k : Ok n ss) (d : Dag ss) {v : Int} (hv : 0 ≤ v ∧ v < (ss.length : Int)) (x : FRow) : ∀ (as : List Int), (∀ a ∈ as, 0 ≤ a ∧ a < n) → ∀ (p4 p5 p6 p7 p8 p9 p10 p11 : FSl),
    ∃ q4 q5 q6 q7 q8 q9 q10 q11, forL (gtName 4) acBody (as.map .int) (lv0 n ss v p4 p5 p6 p7 p8 p9 p10 p11) x = some (.nx (lv0 n ss v q4 q5 q6 q7 q8 q9 q10 q11), x)
  | [], _, p4, p5, p6, p7, p8, p9, p10, p11 => ⟨p4, p5, p6, p7, p8, p9, p10, p11, rfl⟩
  | a :: as, h, p4, p5, p6, p7, p8, p9, p10, p11 => by
    obtain ⟨q5, q6, q7, q8, q9, q10, q11, e⟩ := ac_step k d (h a List.mem_cons_self) hv p5 p6 p7 p8 p9 p10 p11 x
    obtain ⟨r4, r5, r6, r7, r8, r9, r10, r11, e2⟩ := ac_loop k d hv x as (fun b hb => h b (List.mem_cons_of_mem _ hb)) (.va (.int a)) q5 q6 q7 q8 q9 q10 q11
    refine ⟨r4, r5, r6, r7, r8, r9, r10, r11, ?_⟩
    rw [List.map_cons, forL]
    rw [show gtName 4 (.int a) (lv0 n ss v p4 p5 p6 p7 p8 p9 p10 p11) = some (lv0 n ss v (.va (.int a)) p5 p6 p7 p8 p9 p10 p11) from rfl]
    simp only
    rw [e]
    simp only
    rw [e2]
def lw0 (n : Int) (ss : List Sc) (p3 p4 p5 p6 p7 p8 p9 p10 p11 : FSl) : FEn := [.no, .rw, .va (eX n ss), p3, p4, p5, p6, p7, p8, p9, p10, p11]
abbrev scBody : FS := sFor (fRg1 (fBin gAt (fBor 2) (fC (.int 0)))) (gtName 4) acBody
theorem sc_loop (k : Ok n ss) (d : Dag ss) (x : FRow) : ∀ (vs : List Int), (∀ v ∈ vs, 0 ≤ v ∧ v < (ss.length : Int)) → ∀ (p3 p4 p5 p6 p7 p8 p9 p10 p11 : FSl),
    ∃ q3 q4 q5 q6 q7 q8 q9 q10 q11, forL (gtName 3) scBody (vs.map .int) (lw0 n ss p3 p4 p5 p6 p7 p8 p9 p10 p11) x = some (.nx (lw0 n ss q3 q4 q5 q6 q7 q8 q9 q10 q11), x)
  | [], _, p3, p4, p5, p6, p7, p8, p9, p10, p11 => ⟨p3, p4, p5, p6, p7, p8, p9, p10, p11, rfl⟩
  | v :: vs, h, p3, p4, p5, p6, p7, p8, p9, p10, p11 => by
    obtain ⟨N, hN⟩ : ∃ N : Nat, n = (N : Int) := ⟨n.toNat, by have := k.n2; omega⟩
    have hn2 := k.n2
    obtain ⟨q4, q5, q6, q7, q8, q9, q10, q11, e⟩ := ac_loop k d (h v List.mem_cons_self) x ((List.range N).map fun (i : Nat) => (i : Int)) (fun a ha => by
      obtain ⟨i, hi, rfl⟩ := List.mem_map.mp ha
      rw [List.mem_range] at hi
      omega) p4 p5 p6 p7 p8 p9 p10 p11
    obtain ⟨r3, r4, r5, r6, r7, r8, r9, r10, r11, e2⟩ := sc_loop k d x vs (fun b hb => h b (List.mem_cons_of_mem _ hb)) (.va (.int v)) q4 q5 q6 q7 q8 q9 q10 q11
    refine ⟨r3, r4, r5, r6, r7, r8, r9, r10, r11, ?_⟩
    have q1 : fBin gAt (fBor 2) (fC (.int 0)) (lv0 n ss v p4 p5 p6 p7 p8 p9 p10 p11) x = some (.int n, x) := fBin_eq (x1 := x) rfl rfl (eX_0 n ss)
    have q2 : fRg1 (fBin gAt (fBor 2) (fC (.int 0))) (lv0 n ss v p4 p5 p6 p7 p8 p9 p10 p11) x = some (((List.range N).map fun (i : Nat) => (i : Int)).map D.int, x) := by
      have ok : okRg n = true := by rw [hN]; exact rg_ok (by omega)
      rw [fRg1, q1]
      simp only [ok, if_true]
      rw [List.map_map, hN, Int.toNat_natCast, rgD_map]; rfl
    rw [List.map_cons, forL]
    rw [show gtName 3 (.int v) (lw0 n ss p3 p4 p5 p6 p7 p8 p9 p10 p11) = some (lv0 n ss v p4 p5 p6 p7 p8 p9 p10 p11) from rfl]
    simp only
    rw [show scBody (lv0 n ss v p4 p5 p6 p7 p8 p9 p10 p11) x = _ from for_eq q2 e]
    exact e2
theorem law_run {x0 : FRow} (h0 : 0 ≤ x0.a) : ∃ x', b_law (.no :: .rw :: List.replicate 10 .no) x0 = some (.rt (.bool true), x') := by
  obtain ⟨r1, x1, t1, ta, tb, hx1⟩ := taken_ok (many := 3) h0 (by omega) (by omega)
  obtain ⟨ss, x, sc, hx, k, dag⟩ := script_ok (n := 2 + r1) (lp := false) (most := 5) (by omega) (by omega) hx1
  have d := dag rfl
  have hm := k.m
  have a0 : fBin gAdd (fC (.int 2)) (fCallR 1 m_law_taken (aCons (fC (.int 3)) aNil)) (.no :: .rw :: List.replicate 10 .no) x0 = some (.int (2 + r1), x1) :=
    fBin_eq rfl (fCallR_eq rfl (aCons1 rfl) t1) rfl
  generalize 2 + r1 = n at sc k a0
  have c1 : sSet 2 (xVal (fCallR 1 m_law_script (aCons (fBin gAdd (fC (.int 2)) (fCallR 1 m_law_taken (aCons (fC (.int 3)) aNil))) (aCons (fC (.int 5)) (aCons (fC (.bool false)) aNil))))) (.no :: .rw :: List.replicate 10 .no) x0 = some (.nx (lw0 n ss .no .no .no .no .no .no .no .no .no), x) := by
    rw [sSet_va (fCallR_eq (i := 1) (env := .no :: .rw :: List.replicate 10 .no) rfl (aCons_eq a0 (aCons_eq (f := fC (.int 5)) (x1 := x1) rfl (aCons1 (x1 := x1) rfl))) sc)]
    rfl
  obtain ⟨q3, q4, q5, q6, q7, q8, q9, q10, q11, e⟩ := sc_loop k d x ((List.range ss.length).map fun (i : Nat) => (i : Int)) (fun a ha => by
      obtain ⟨i, hi, rfl⟩ := List.mem_map.mp ha
      rw [List.mem_range] at hi
      omega) .no .no .no .no .no .no .no .no .no
  have c2 : fRg1 (fCall gLen (aCons (fBin gAt (fBor 2) (fC (.int 1))) aNil)) (lw0 n ss .no .no .no .no .no .no .no .no .no) x = some (((List.range ss.length).map fun (i : Nat) => (i : Int)).map D.int, x) := by
    have q1 : fBin gAt (fBor 2) (fC (.int 1)) (lw0 n ss .no .no .no .no .no .no .no .no .no) x = some (.tuple (ss.map eS), x) := fBin_eq (x1 := x) rfl rfl (eX_1 n ss)
    have q2 : fCall gLen (aCons (fBin gAt (fBor 2) (fC (.int 1))) aNil) (lw0 n ss .no .no .no .no .no .no .no .no .no) x = some (.int (ss.length : Int), x) := fCall_eq (aCons1 q1) (by simp [gLen])
    have ok : okRg (ss.length : Int) = true := rg_ok (by omega)
    rw [fRg1, q2]
    simp only [ok, if_true]
    rw [List.map_map, Int.toNat_natCast, rgD_map]; rfl
  refine ⟨x, ?_⟩
  unfold b_law
  rw [sSeq_nx c1, sSeq_nx (for_eq c2 e)]
  rfl
theorem main (ns : List Int) (h : ns.length ≤ 63) : ∃ x', b_law (.no :: .rw :: List.replicate 10 .no) ⟨ns, 0, 10108, 0⟩ = some (.rt (.bool true), x') :=
  law_run (by simp)
end Lw

namespace Lw
open PySem PySem.Spec PyProof.Rows L2 RT
section
theorem all_mk {l : PySem.W.OpenLaw} {w : World} {K : PySem.W.Frag} {h : Heap} {mg : Str → Option Value} {fa : Addr} (X : K.In h) (G : h.Ns mainGlobals mg) (hfa : mg "law" = some (.ref fa))
    {od_law_taken an_law_taken : Option Addr} {sl_law_taken : Array (Option Value)} {oc_law_taken kV_law_taken dc_law_taken pm_law_taken cd_law_taken ct_law_taken : Value} {f_law_taken : Addr}
    (a_law_taken : PySem.W.nsIn K mainGlobals "_law_taken" = some (some (.ref f_law_taken))) (l_law_taken : K.lookup f_law_taken = some ⟨oc_law_taken, od_law_taken, .func (PySem.W.fnOf "_law_taken" "_law_taken" (defArgs s_law_taken) (defBody s_law_taken) (defScope s_law_taken) .none kV_law_taken dc_law_taken pm_law_taken an_law_taken cd_law_taken ct_law_taken), sl_law_taken⟩) (c_law_taken : PySem.W.codeIn K cd_law_taken "_law_taken" = true) (k_law_taken : PySem.W.keepIn K (.ref f_law_taken) = true)
    {od_law_scene an_law_scene : Option Addr} {sl_law_scene : Array (Option Value)} {oc_law_scene kV_law_scene dc_law_scene pm_law_scene cd_law_scene ct_law_scene : Value} {f_law_scene : Addr}
    (a_law_scene : PySem.W.nsIn K mainGlobals "_law_scene" = some (some (.ref f_law_scene))) (l_law_scene : K.lookup f_law_scene = some ⟨oc_law_scene, od_law_scene, .func (PySem.W.fnOf "_law_scene" "_law_scene" (defArgs s_law_scene) (defBody s_law_scene) (defScope s_law_scene) .none kV_law_scene dc_law_scene pm_law_scene an_law_scene cd_law_scene ct_law_scene), sl_law_scene⟩) (c_law_scene : PySem.W.codeIn K cd_law_scene "_law_scene" = true) (k_law_scene : PySem.W.keepIn K (.ref f_law_scene) = true)
    {od_law_script an_law_script : Option Addr} {sl_law_script : Array (Option Value)} {oc_law_script kV_law_script dc_law_script pm_law_script cd_law_script ct_law_script : Value} {f_law_script : Addr}
    (a_law_script : PySem.W.nsIn K mainGlobals "_law_script" = some (some (.ref f_law_script))) (l_law_script : K.lookup f_law_script = some ⟨oc_law_script, od_law_script, .func (PySem.W.fnOf "_law_script" "_law_script" (defArgs s_law_script) (defBody s_law_script) (defScope s_law_script) .none kV_law_script dc_law_script pm_law_script an_law_script cd_law_script ct_law_script), sl_law_script⟩) (c_law_script : PySem.W.codeIn K cd_law_script "_law_script" = true) (k_law_script : PySem.W.keepIn K (.ref f_law_script) = true)
    {od_law_lines an_law_lines : Option Addr} {sl_law_lines : Array (Option Value)} {oc_law_lines kV_law_lines dc_law_lines pm_law_lines cd_law_lines ct_law_lines : Value} {f_law_lines : Addr}
    (a_law_lines : PySem.W.nsIn K mainGlobals "_law_lines" = some (some (.ref f_law_lines))) (l_law_lines : K.lookup f_law_lines = some ⟨oc_law_lines, od_law_lines, .func (PySem.W.fnOf "_law_lines" "_law_lines" (defArgs s_law_lines) (defBody s_law_lines) (defScope s_law_lines) .none kV_law_lines dc_law_lines pm_law_lines an_law_lines cd_law_lines ct_law_lines), sl_law_lines⟩) (c_law_lines : PySem.W.codeIn K cd_law_lines "_law_lines" = true) (k_law_lines : PySem.W.keepIn K (.ref f_law_lines) = true)
    {od_law_alike an_law_alike : Option Addr} {sl_law_alike : Array (Option Value)} {oc_law_alike kV_law_alike dc_law_alike pm_law_alike cd_law_alike ct_law_alike : Value} {f_law_alike : Addr}
    (a_law_alike : PySem.W.nsIn K mainGlobals "_law_alike" = some (some (.ref f_law_alike))) (l_law_alike : K.lookup f_law_alike = some ⟨oc_law_alike, od_law_alike, .func (PySem.W.fnOf "_law_alike" "_law_alike" (defArgs s_law_alike) (defBody s_law_alike) (defScope s_law_alike) .none kV_law_alike dc_law_alike pm_law_alike an_law_alike cd_law_alike ct_law_alike), sl_law_alike⟩) (c_law_alike : PySem.W.codeIn K cd_law_alike "_law_alike" = true) (k_law_alike : PySem.W.keepIn K (.ref f_law_alike) = true)
    {od_has_items an_has_items : Option Addr} {sl_has_items : Array (Option Value)} {oc_has_items kV_has_items dc_has_items pm_has_items cd_has_items ct_has_items : Value} {f_has_items : Addr}
    (a_has_items : PySem.W.nsIn K mainGlobals "has_items" = some (some (.ref f_has_items))) (l_has_items : K.lookup f_has_items = some ⟨oc_has_items, od_has_items, .func (PySem.W.fnOf "has_items" "has_items" (defArgs s_has_items) (defBody s_has_items) (defScope s_has_items) .none kV_has_items dc_has_items pm_has_items an_has_items cd_has_items ct_has_items), sl_has_items⟩) (c_has_items : PySem.W.codeIn K cd_has_items "has_items" = true) (k_has_items : PySem.W.keepIn K (.ref f_has_items) = true)
    {od_is_number an_is_number : Option Addr} {sl_is_number : Array (Option Value)} {oc_is_number kV_is_number dc_is_number pm_is_number cd_is_number ct_is_number : Value} {f_is_number : Addr}
    (a_is_number : PySem.W.nsIn K mainGlobals "is_number" = some (some (.ref f_is_number))) (l_is_number : K.lookup f_is_number = some ⟨oc_is_number, od_is_number, .func (PySem.W.fnOf "is_number" "is_number" (defArgs s_is_number) (defBody s_is_number) (defScope s_is_number) .none kV_is_number dc_is_number pm_is_number an_is_number cd_is_number ct_is_number), sl_is_number⟩) (c_is_number : PySem.W.codeIn K cd_is_number "is_number" = true) (k_is_number : PySem.W.keepIn K (.ref f_is_number) = true)
    {od_has_script_form an_has_script_form : Option Addr} {sl_has_script_form : Array (Option Value)} {oc_has_script_form kV_has_script_form dc_has_script_form pm_has_script_form cd_has_script_form ct_has_script_form : Value} {f_has_script_form : Addr}
    (a_has_script_form : PySem.W.nsIn K mainGlobals "has_script_form" = some (some (.ref f_has_script_form))) (l_has_script_form : K.lookup f_has_script_form = some ⟨oc_has_script_form, od_has_script_form, .func (PySem.W.fnOf "has_script_form" "has_script_form" (defArgs s_has_script_form) (defBody s_has_script_form) (defScope s_has_script_form) .none kV_has_script_form dc_has_script_form pm_has_script_form an_has_script_form cd_has_script_form ct_has_script_form), sl_has_script_form⟩) (c_has_script_form : PySem.W.codeIn K cd_has_script_form "has_script_form" = true) (k_has_script_form : PySem.W.keepIn K (.ref f_has_script_form) = true)
    {od_is_rising an_is_rising : Option Addr} {sl_is_rising : Array (Option Value)} {oc_is_rising kV_is_rising dc_is_rising pm_is_rising cd_is_rising ct_is_rising : Value} {f_is_rising : Addr}
    (a_is_rising : PySem.W.nsIn K mainGlobals "is_rising" = some (some (.ref f_is_rising))) (l_is_rising : K.lookup f_is_rising = some ⟨oc_is_rising, od_is_rising, .func (PySem.W.fnOf "is_rising" "is_rising" (defArgs s_is_rising) (defBody s_is_rising) (defScope s_is_rising) .none kV_is_rising dc_is_rising pm_is_rising an_is_rising cd_is_rising ct_is_rising), sl_is_rising⟩) (c_is_rising : PySem.W.codeIn K cd_is_rising "is_rising" = true) (k_is_rising : PySem.W.keepIn K (.ref f_is_rising) = true)
    {od_is_talk an_is_talk : Option Addr} {sl_is_talk : Array (Option Value)} {oc_is_talk kV_is_talk dc_is_talk pm_is_talk cd_is_talk ct_is_talk : Value} {f_is_talk : Addr}
    (a_is_talk : PySem.W.nsIn K mainGlobals "is_talk" = some (some (.ref f_is_talk))) (l_is_talk : K.lookup f_is_talk = some ⟨oc_is_talk, od_is_talk, .func (PySem.W.fnOf "is_talk" "is_talk" (defArgs s_is_talk) (defBody s_is_talk) (defScope s_is_talk) .none kV_is_talk dc_is_talk pm_is_talk an_is_talk cd_is_talk ct_is_talk), sl_is_talk⟩) (c_is_talk : PySem.W.codeIn K cd_is_talk "is_talk" = true) (k_is_talk : PySem.W.keepIn K (.ref f_is_talk) = true)
    {od_is_branch an_is_branch : Option Addr} {sl_is_branch : Array (Option Value)} {oc_is_branch kV_is_branch dc_is_branch pm_is_branch cd_is_branch ct_is_branch : Value} {f_is_branch : Addr}
    (a_is_branch : PySem.W.nsIn K mainGlobals "is_branch" = some (some (.ref f_is_branch))) (l_is_branch : K.lookup f_is_branch = some ⟨oc_is_branch, od_is_branch, .func (PySem.W.fnOf "is_branch" "is_branch" (defArgs s_is_branch) (defBody s_is_branch) (defScope s_is_branch) .none kV_is_branch dc_is_branch pm_is_branch an_is_branch cd_is_branch ct_is_branch), sl_is_branch⟩) (c_is_branch : PySem.W.codeIn K cd_is_branch "is_branch" = true) (k_is_branch : PySem.W.keepIn K (.ref f_is_branch) = true)
    {od_is_scene an_is_scene : Option Addr} {sl_is_scene : Array (Option Value)} {oc_is_scene kV_is_scene dc_is_scene pm_is_scene cd_is_scene ct_is_scene : Value} {f_is_scene : Addr}
    (a_is_scene : PySem.W.nsIn K mainGlobals "is_scene" = some (some (.ref f_is_scene))) (l_is_scene : K.lookup f_is_scene = some ⟨oc_is_scene, od_is_scene, .func (PySem.W.fnOf "is_scene" "is_scene" (defArgs s_is_scene) (defBody s_is_scene) (defScope s_is_scene) .none kV_is_scene dc_is_scene pm_is_scene an_is_scene cd_is_scene ct_is_scene), sl_is_scene⟩) (c_is_scene : PySem.W.codeIn K cd_is_scene "is_scene" = true) (k_is_scene : PySem.W.keepIn K (.ref f_is_scene) = true)
    {od_check_script an_check_script : Option Addr} {sl_check_script : Array (Option Value)} {oc_check_script kV_check_script dc_check_script pm_check_script cd_check_script ct_check_script : Value} {f_check_script : Addr}
    (a_check_script : PySem.W.nsIn K mainGlobals "check_script" = some (some (.ref f_check_script))) (l_check_script : K.lookup f_check_script = some ⟨oc_check_script, od_check_script, .func (PySem.W.fnOf "check_script" "check_script" (defArgs s_check_script) (defBody s_check_script) (defScope s_check_script) .none kV_check_script dc_check_script pm_check_script an_check_script cd_check_script ct_check_script), sl_check_script⟩) (c_check_script : PySem.W.codeIn K cd_check_script "check_script" = true) (k_check_script : PySem.W.keepIn K (.ref f_check_script) = true)
    {od_check_scene an_check_scene : Option Addr} {sl_check_scene : Array (Option Value)} {oc_check_scene kV_check_scene dc_check_scene pm_check_scene cd_check_scene ct_check_scene : Value} {f_check_scene : Addr}
    (a_check_scene : PySem.W.nsIn K mainGlobals "check_scene" = some (some (.ref f_check_scene))) (l_check_scene : K.lookup f_check_scene = some ⟨oc_check_scene, od_check_scene, .func (PySem.W.fnOf "check_scene" "check_scene" (defArgs s_check_scene) (defBody s_check_scene) (defScope s_check_scene) .none kV_check_scene dc_check_scene pm_check_scene an_check_scene cd_check_scene ct_check_scene), sl_check_scene⟩) (c_check_scene : PySem.W.codeIn K cd_check_scene "check_scene" = true) (k_check_scene : PySem.W.keepIn K (.ref f_check_scene) = true)
    {od_check_actor an_check_actor : Option Addr} {sl_check_actor : Array (Option Value)} {oc_check_actor kV_check_actor dc_check_actor pm_check_actor cd_check_actor ct_check_actor : Value} {f_check_actor : Addr}
    (a_check_actor : PySem.W.nsIn K mainGlobals "check_actor" = some (some (.ref f_check_actor))) (l_check_actor : K.lookup f_check_actor = some ⟨oc_check_actor, od_check_actor, .func (PySem.W.fnOf "check_actor" "check_actor" (defArgs s_check_actor) (defBody s_check_actor) (defScope s_check_actor) .none kV_check_actor dc_check_actor pm_check_actor an_check_actor cd_check_actor ct_check_actor), sl_check_actor⟩) (c_check_actor : PySem.W.codeIn K cd_check_actor "check_actor" = true) (k_check_actor : PySem.W.keepIn K (.ref f_check_actor) = true)
    {od_grown an_grown : Option Addr} {sl_grown : Array (Option Value)} {oc_grown kV_grown dc_grown pm_grown cd_grown ct_grown : Value} {f_grown : Addr}
    (a_grown : PySem.W.nsIn K mainGlobals "grown" = some (some (.ref f_grown))) (l_grown : K.lookup f_grown = some ⟨oc_grown, od_grown, .func (PySem.W.fnOf "grown" "grown" (defArgs s_grown) (defBody s_grown) (defScope s_grown) .none kV_grown dc_grown pm_grown an_grown cd_grown ct_grown), sl_grown⟩) (c_grown : PySem.W.codeIn K cd_grown "grown" = true) (k_grown : PySem.W.keepIn K (.ref f_grown) = true)
    {od_with_one an_with_one : Option Addr} {sl_with_one : Array (Option Value)} {oc_with_one kV_with_one dc_with_one pm_with_one cd_with_one ct_with_one : Value} {f_with_one : Addr}
    (a_with_one : PySem.W.nsIn K mainGlobals "with_one" = some (some (.ref f_with_one))) (l_with_one : K.lookup f_with_one = some ⟨oc_with_one, od_with_one, .func (PySem.W.fnOf "with_one" "with_one" (defArgs s_with_one) (defBody s_with_one) (defScope s_with_one) .none kV_with_one dc_with_one pm_with_one an_with_one cd_with_one ct_with_one), sl_with_one⟩) (c_with_one : PySem.W.codeIn K cd_with_one "with_one" = true) (k_with_one : PySem.W.keepIn K (.ref f_with_one) = true)
    {od_moments_behind an_moments_behind : Option Addr} {sl_moments_behind : Array (Option Value)} {oc_moments_behind kV_moments_behind dc_moments_behind pm_moments_behind cd_moments_behind ct_moments_behind : Value} {f_moments_behind : Addr}
    (a_moments_behind : PySem.W.nsIn K mainGlobals "moments_behind" = some (some (.ref f_moments_behind))) (l_moments_behind : K.lookup f_moments_behind = some ⟨oc_moments_behind, od_moments_behind, .func (PySem.W.fnOf "moments_behind" "moments_behind" (defArgs s_moments_behind) (defBody s_moments_behind) (defScope s_moments_behind) .none kV_moments_behind dc_moments_behind pm_moments_behind an_moments_behind cd_moments_behind ct_moments_behind), sl_moments_behind⟩) (c_moments_behind : PySem.W.codeIn K cd_moments_behind "moments_behind" = true) (k_moments_behind : PySem.W.keepIn K (.ref f_moments_behind) = true)
    {od_letters_from an_letters_from : Option Addr} {sl_letters_from : Array (Option Value)} {oc_letters_from kV_letters_from dc_letters_from pm_letters_from cd_letters_from ct_letters_from : Value} {f_letters_from : Addr}
    (a_letters_from : PySem.W.nsIn K mainGlobals "letters_from" = some (some (.ref f_letters_from))) (l_letters_from : K.lookup f_letters_from = some ⟨oc_letters_from, od_letters_from, .func (PySem.W.fnOf "letters_from" "letters_from" (defArgs s_letters_from) (defBody s_letters_from) (defScope s_letters_from) .none kV_letters_from dc_letters_from pm_letters_from an_letters_from cd_letters_from ct_letters_from), sl_letters_from⟩) (c_letters_from : PySem.W.codeIn K cd_letters_from "letters_from" = true) (k_letters_from : PySem.W.keepIn K (.ref f_letters_from) = true)
    {od_talks_from an_talks_from : Option Addr} {sl_talks_from : Array (Option Value)} {oc_talks_from kV_talks_from dc_talks_from pm_talks_from cd_talks_from ct_talks_from : Value} {f_talks_from : Addr}
    (a_talks_from : PySem.W.nsIn K mainGlobals "talks_from" = some (some (.ref f_talks_from))) (l_talks_from : K.lookup f_talks_from = some ⟨oc_talks_from, od_talks_from, .func (PySem.W.fnOf "talks_from" "talks_from" (defArgs s_talks_from) (defBody s_talks_from) (defScope s_talks_from) .none kV_talks_from dc_talks_from pm_talks_from an_talks_from cd_talks_from ct_talks_from), sl_talks_from⟩) (c_talks_from : PySem.W.codeIn K cd_talks_from "talks_from" = true) (k_talks_from : PySem.W.keepIn K (.ref f_talks_from) = true)
    {od_talk_web an_talk_web : Option Addr} {sl_talk_web : Array (Option Value)} {oc_talk_web kV_talk_web dc_talk_web pm_talk_web cd_talk_web ct_talk_web : Value} {f_talk_web : Addr}
    (a_talk_web : PySem.W.nsIn K mainGlobals "talk_web" = some (some (.ref f_talk_web))) (l_talk_web : K.lookup f_talk_web = some ⟨oc_talk_web, od_talk_web, .func (PySem.W.fnOf "talk_web" "talk_web" (defArgs s_talk_web) (defBody s_talk_web) (defScope s_talk_web) .none kV_talk_web dc_talk_web pm_talk_web an_talk_web cd_talk_web ct_talk_web), sl_talk_web⟩) (c_talk_web : PySem.W.codeIn K cd_talk_web "talk_web" = true) (k_talk_web : PySem.W.keepIn K (.ref f_talk_web) = true)
    {od_first_letters an_first_letters : Option Addr} {sl_first_letters : Array (Option Value)} {oc_first_letters kV_first_letters dc_first_letters pm_first_letters cd_first_letters ct_first_letters : Value} {f_first_letters : Addr}
    (a_first_letters : PySem.W.nsIn K mainGlobals "first_letters" = some (some (.ref f_first_letters))) (l_first_letters : K.lookup f_first_letters = some ⟨oc_first_letters, od_first_letters, .func (PySem.W.fnOf "first_letters" "first_letters" (defArgs s_first_letters) (defBody s_first_letters) (defScope s_first_letters) .none kV_first_letters dc_first_letters pm_first_letters an_first_letters cd_first_letters ct_first_letters), sl_first_letters⟩) (c_first_letters : PySem.W.codeIn K cd_first_letters "first_letters" = true) (k_first_letters : PySem.W.keepIn K (.ref f_first_letters) = true)
    {od_law an_law : Option Addr} {sl_law : Array (Option Value)} {oc_law kV_law dc_law pm_law cd_law ct_law : Value} {f_law : Addr}
    (a_law : PySem.W.nsIn K mainGlobals "law" = some (some (.ref f_law))) (l_law : K.lookup f_law = some ⟨oc_law, od_law, .func (PySem.W.fnOf "law" "law" (defArgs s_law) (defBody s_law) (defScope s_law) .none kV_law dc_law pm_law an_law cd_law ct_law), sl_law⟩) (c_law : PySem.W.codeIn K cd_law "law" = true) (k_law : PySem.W.keepIn K (.ref f_law) = true)
    (z_all : PySem.W.nsIn K mainGlobals "all" = some none)
    (z_bool : PySem.W.nsIn K mainGlobals "bool" = some none)
    (z_enumerate : PySem.W.nsIn K mainGlobals "enumerate" = some none)
    (z_int : PySem.W.nsIn K mainGlobals "int" = some none)
    (z_isinstance : PySem.W.nsIn K mainGlobals "isinstance" = some none)
    (z_len : PySem.W.nsIn K mainGlobals "len" = some none)
    (z_list : PySem.W.nsIn K mainGlobals "list" = some none)
    (z_range : PySem.W.nsIn K mainGlobals "range" = some none)
    (z_set : PySem.W.nsIn K mainGlobals "set" = some none)
    (z_sorted : PySem.W.nsIn K mainGlobals "sorted" = some none)
    (z_str : PySem.W.nsIn K mainGlobals "str" = some none)
    (z_tuple : PySem.W.nsIn K mainGlobals "tuple" = some none)
    (z_zip : PySem.W.nsIn K mainGlobals "zip" = some none)
    {t_LAST_WORD : Tok} (q_LAST_WORD : PySem.W.nsIn K mainGlobals "LAST_WORD" = some (some (.int 5 t_LAST_WORD)))
    {t_LEAST_ACTORS : Tok} (q_LEAST_ACTORS : PySem.W.nsIn K mainGlobals "LEAST_ACTORS" = some (some (.int 2 t_LEAST_ACTORS)))
    {t_MOST_ACTORS : Tok} (q_MOST_ACTORS : PySem.W.nsIn K mainGlobals "MOST_ACTORS" = some (some (.int 4 t_MOST_ACTORS)))
    {t_MOST_SCENES : Tok} (q_MOST_SCENES : PySem.W.nsIn K mainGlobals "MOST_SCENES" = some (some (.int 8 t_MOST_SCENES)))
    {cc_letters_from pp_letters_from : Addr} (ti_letters_from : PySem.W.tabIn K "letters_from" = some (cc_letters_from, pp_letters_from)) :
    ∃ fd : FuncData, (∀ (s : Shared) (v : Value), BindsTo s fd ⟨[v], []⟩ [("script", v)]) ∧ ∀ base : Heap, K.In base → base.Ns mainGlobals mg → (∀ p ∈ ([(cc_letters_from, pp_letters_from)] : List (Addr × Addr)), LamX.TabB base mg p.1 p.2) → FnOk l.prog w K mg base CX0 11 fa fd ["script"] (spLaw K b_law 10 10108) := by
  have e := hfa.symm.trans (PySem.W.mg_of X G a_law)
  cases e
  have F_law_taken := fun_mk (st := s_law_taken) l_law_taken c_law_taken k_law_taken
  have F_law_scene := fun_mk (st := s_law_scene) l_law_scene c_law_scene k_law_scene
  have F_law_script := fun_mk (st := s_law_script) l_law_script c_law_script k_law_script
  have F_law_lines := fun_mk (st := s_law_lines) l_law_lines c_law_lines k_law_lines
  have F_law_alike := fun_mk (st := s_law_alike) l_law_alike c_law_alike k_law_alike
  have F_has_items := fun_mk (st := s_has_items) l_has_items c_has_items k_has_items
  have F_is_number := fun_mk (st := s_is_number) l_is_number c_is_number k_is_number
  have F_has_script_form := fun_mk (st := s_has_script_form) l_has_script_form c_has_script_form k_has_script_form
  have F_is_rising := fun_mk (st := s_is_rising) l_is_rising c_is_rising k_is_rising
  have F_is_talk := fun_mk (st := s_is_talk) l_is_talk c_is_talk k_is_talk
  have F_is_branch := fun_mk (st := s_is_branch) l_is_branch c_is_branch k_is_branch
  have F_is_scene := fun_mk (st := s_is_scene) l_is_scene c_is_scene k_is_scene
  have F_check_script := fun_mk (st := s_check_script) l_check_script c_check_script k_check_script
  have F_check_scene := fun_mk (st := s_check_scene) l_check_scene c_check_scene k_check_scene
  have F_check_actor := fun_mk (st := s_check_actor) l_check_actor c_check_actor k_check_actor
  have F_grown := fun_mk (st := s_grown) l_grown c_grown k_grown
  have F_with_one := fun_mk (st := s_with_one) l_with_one c_with_one k_with_one
  have F_moments_behind := fun_mk (st := s_moments_behind) l_moments_behind c_moments_behind k_moments_behind
  have F_letters_from := fun_mk (st := s_letters_from) l_letters_from c_letters_from k_letters_from
  have F_talks_from := fun_mk (st := s_talks_from) l_talks_from c_talks_from k_talks_from
  have F_talk_web := fun_mk (st := s_talk_web) l_talk_web c_talk_web k_talk_web
  have F_first_letters := fun_mk (st := s_first_letters) l_first_letters c_first_letters k_first_letters
  have F_law := fun_mk (st := s_law) l_law c_law k_law
  have b_law_taken := F_law_taken.binds (ps := ["row", "many"]) fun _ _ _ _ _ _ us hl => match us, hl with | [_, _], _ => rfl
  have C_law_taken : ∀ base : Heap, (∀ p ∈ ([(cc_letters_from, pp_letters_from)] : List (Addr × Addr)), LamX.TabB base mg p.1 p.2) → Callee l.prog w K mg base 1 "_law_taken" (spR K m_law_taken) := fun base tbs => ⟨f_law_taken, _, _, ok_law_taken (k := 0) F_law_taken (PySem.W.mg_none_of X G z_int) (PySem.W.mg_none_of X G z_len), PySem.W.mg_of X G a_law_taken, k_law_taken, b_law_taken⟩
  have b_law_scene := F_law_scene.binds (ps := ["row", "actors", "at", "size", "loops"]) fun _ _ _ _ _ _ us hl => match us, hl with | [_, _, _, _, _], _ => rfl
  have C_law_scene : ∀ base : Heap, (∀ p ∈ ([(cc_letters_from, pp_letters_from)] : List (Addr × Addr)), LamX.TabB base mg p.1 p.2) → Callee l.prog w K mg base 2 "_law_scene" (spR K m_law_scene) := fun base tbs => ⟨f_law_scene, _, _, ok_law_scene (k := 1) F_law_scene ((C_law_taken base tbs).mono (by decide)) (PySem.W.mg_none_of X G z_tuple) (PySem.W.mg_none_of X G z_sorted) (PySem.W.mg_none_of X G z_list) (PySem.W.mg_none_of X G z_range) (PySem.W.mg_none_of X G z_int), PySem.W.mg_of X G a_law_scene, k_law_scene, b_law_scene⟩
  have b_law_script := F_law_script.binds (ps := ["row", "actors", "most", "loops"]) fun _ _ _ _ _ _ us hl => match us, hl with | [_, _, _, _], _ => rfl
  have C_law_script : ∀ base : Heap, (∀ p ∈ ([(cc_letters_from, pp_letters_from)] : List (Addr × Addr)), LamX.TabB base mg p.1 p.2) → Callee l.prog w K mg base 3 "_law_script" (spR K m_law_script) := fun base tbs => ⟨f_law_script, _, _, ok_law_script (k := 2) F_law_script ((C_law_scene base tbs).mono (by decide)) ((C_law_taken base tbs).mono (by decide)) (PySem.W.mg_none_of X G z_tuple) (PySem.W.mg_none_of X G z_range), PySem.W.mg_of X G a_law_script, k_law_script, b_law_script⟩
  have b_law_lines := F_law_lines.binds (ps := ["play", "scene"]) fun _ _ _ _ _ _ us hl => match us, hl with | [_, _], _ => rfl
  have C_law_lines : ∀ base : Heap, (∀ p ∈ ([(cc_letters_from, pp_letters_from)] : List (Addr × Addr)), LamX.TabB base mg p.1 p.2) → Callee l.prog w K mg base 10 "_law_lines" (spF K (m_law_lines 9)) := fun base tbs => ⟨f_law_lines, _, _, ok_law_lines (k := 1) F_law_lines (PySem.W.mg_of X G a_law_lines) b_law_lines 9, PySem.W.mg_of X G a_law_lines, k_law_lines, b_law_lines⟩
  have b_law_alike := F_law_alike.binds (ps := ["found", "due"]) fun _ _ _ _ _ _ us hl => match us, hl with | [_, _], _ => rfl
  have C_law_alike : ∀ base : Heap, (∀ p ∈ ([(cc_letters_from, pp_letters_from)] : List (Addr × Addr)), LamX.TabB base mg p.1 p.2) → Callee l.prog w K mg base 10 "_law_alike" (spF K (m_law_alike 9)) := fun base tbs => ⟨f_law_alike, _, _, ok_law_alike (k := 1) F_law_alike (PySem.W.mg_of X G a_law_alike) b_law_alike (PySem.W.mg_none_of X G z_isinstance) (PySem.W.mg_none_of X G z_bool) (PySem.W.mg_none_of X G z_int) (PySem.W.mg_none_of X G z_str) (PySem.W.mg_none_of X G z_tuple) (PySem.W.mg_none_of X G z_list) (PySem.W.mg_none_of X G z_range) (PySem.W.mg_none_of X G z_len) 9, PySem.W.mg_of X G a_law_alike, k_law_alike, b_law_alike⟩
  have b_has_items := F_has_items.binds (ps := ["value", "least", "most"]) fun _ _ _ _ _ _ us hl => match us, hl with | [_, _, _], _ => rfl
  have C_has_items : ∀ base : Heap, (∀ p ∈ ([(cc_letters_from, pp_letters_from)] : List (Addr × Addr)), LamX.TabB base mg p.1 p.2) → Callee l.prog w K mg base 1 "has_items" (spF K m_has_items) := fun base tbs => ⟨f_has_items, _, _, ok_has_items (k := 0) F_has_items (PySem.W.mg_none_of X G z_len) (PySem.W.mg_none_of X G z_isinstance) (PySem.W.mg_none_of X G z_tuple), PySem.W.mg_of X G a_has_items, k_has_items, b_has_items⟩
  have b_is_number := F_is_number.binds (ps := ["value", "least", "most"]) fun _ _ _ _ _ _ us hl => match us, hl with | [_, _, _], _ => rfl
  have C_is_number : ∀ base : Heap, (∀ p ∈ ([(cc_letters_from, pp_letters_from)] : List (Addr × Addr)), LamX.TabB base mg p.1 p.2) → Callee l.prog w K mg base 1 "is_number" (spF K m_is_number) := fun base tbs => ⟨f_is_number, _, _, ok_is_number (k := 0) F_is_number (PySem.W.mg_none_of X G z_isinstance) (PySem.W.mg_none_of X G z_bool) (PySem.W.mg_none_of X G z_int), PySem.W.mg_of X G a_is_number, k_is_number, b_is_number⟩
  have b_has_script_form := F_has_script_form.binds (ps := ["value"]) fun _ _ _ _ _ _ us hl => match us, hl with | [_], _ => rfl
  have C_has_script_form : ∀ base : Heap, (∀ p ∈ ([(cc_letters_from, pp_letters_from)] : List (Addr × Addr)), LamX.TabB base mg p.1 p.2) → Callee l.prog w K mg base 2 "has_script_form" (spF K m_has_script_form) := fun base tbs => ⟨f_has_script_form, _, _, ok_has_script_form (k := 1) F_has_script_form ((C_has_items base tbs).mono (by decide)) ((C_is_number base tbs).mono (by decide)) (PySem.W.mg_of X G q_MOST_SCENES) (PySem.W.mg_of X G q_MOST_ACTORS) (PySem.W.mg_of X G q_LEAST_ACTORS), PySem.W.mg_of X G a_has_script_form, k_has_script_form, b_has_script_form⟩
  have b_is_rising := F_is_rising.binds (ps := ["values"]) fun _ _ _ _ _ _ us hl => match us, hl with | [_], _ => rfl
  have C_is_rising : ∀ base : Heap, (∀ p ∈ ([(cc_letters_from, pp_letters_from)] : List (Addr × Addr)), LamX.TabB base mg p.1 p.2) → Callee l.prog w K mg base 1 "is_rising" (spF K m_is_rising) := fun base tbs => ⟨f_is_rising, _, _, ok_is_rising (k := 0) F_is_rising (PySem.W.mg_none_of X G z_all) (PySem.W.mg_none_of X G z_range) (PySem.W.mg_none_of X G z_len), PySem.W.mg_of X G a_is_rising, k_is_rising, b_is_rising⟩
  have b_is_talk := F_is_talk.binds (ps := ["value", "actors"]) fun _ _ _ _ _ _ us hl => match us, hl with | [_, _], _ => rfl
  have C_is_talk : ∀ base : Heap, (∀ p ∈ ([(cc_letters_from, pp_letters_from)] : List (Addr × Addr)), LamX.TabB base mg p.1 p.2) → Callee l.prog w K mg base 2 "is_talk" (spF K m_is_talk) := fun base tbs => ⟨f_is_talk, _, _, ok_is_talk (k := 1) F_is_talk ((C_is_number base tbs).mono (by decide)) ((C_has_items base tbs).mono (by decide)) (PySem.W.mg_of X G q_LAST_WORD), PySem.W.mg_of X G a_is_talk, k_is_talk, b_is_talk⟩
  have b_is_branch := F_is_branch.binds (ps := ["value", "speaker", "actors", "many"]) fun _ _ _ _ _ _ us hl => match us, hl with | [_, _, _, _], _ => rfl
  have C_is_branch : ∀ base : Heap, (∀ p ∈ ([(cc_letters_from, pp_letters_from)] : List (Addr × Addr)), LamX.TabB base mg p.1 p.2) → Callee l.prog w K mg base 3 "is_branch" (spF K m_is_branch) := fun base tbs => ⟨f_is_branch, _, _, ok_is_branch (k := 2) F_is_branch ((C_is_number base tbs).mono (by decide)) ((C_is_talk base tbs).mono (by decide)) ((C_has_items base tbs).mono (by decide)), PySem.W.mg_of X G a_is_branch, k_is_branch, b_is_branch⟩
  have b_is_scene := F_is_scene.binds (ps := ["value", "actors", "many"]) fun _ _ _ _ _ _ us hl => match us, hl with | [_, _, _], _ => rfl
  have C_is_scene : ∀ base : Heap, (∀ p ∈ ([(cc_letters_from, pp_letters_from)] : List (Addr × Addr)), LamX.TabB base mg p.1 p.2) → Callee l.prog w K mg base 4 "is_scene" (spF K m_is_scene) := fun base tbs => ⟨f_is_scene, _, _, ok_is_scene (k := 3) F_is_scene ((C_is_rising base tbs).mono (by decide)) ((C_is_branch base tbs).mono (by decide)) ((C_has_items base tbs).mono (by decide)) (PySem.W.mg_none_of X G z_all) (PySem.W.mg_none_of X G z_len) (PySem.W.mg_none_of X G z_isinstance) (PySem.W.mg_none_of X G z_tuple), PySem.W.mg_of X G a_is_scene, k_is_scene, b_is_scene⟩
  have b_check_script := F_check_script.binds (ps := ["script"]) fun _ _ _ _ _ _ us hl => match us, hl with | [_], _ => rfl
  have C_check_script : ∀ base : Heap, (∀ p ∈ ([(cc_letters_from, pp_letters_from)] : List (Addr × Addr)), LamX.TabB base mg p.1 p.2) → Callee l.prog w K mg base 5 "check_script" (spF K m_check_script) := fun base tbs => ⟨f_check_script, _, _, ok_check_script (k := 4) F_check_script ((C_is_scene base tbs).mono (by decide)) ((C_has_script_form base tbs).mono (by decide)) (PySem.W.mg_none_of X G z_enumerate) (PySem.W.mg_none_of X G z_len), PySem.W.mg_of X G a_check_script, k_check_script, b_check_script⟩
  have b_check_scene := F_check_scene.binds (ps := ["scene", "script"]) fun _ _ _ _ _ _ us hl => match us, hl with | [_, _], _ => rfl
  have C_check_scene : ∀ base : Heap, (∀ p ∈ ([(cc_letters_from, pp_letters_from)] : List (Addr × Addr)), LamX.TabB base mg p.1 p.2) → Callee l.prog w K mg base 2 "check_scene" (spF K m_check_scene) := fun base tbs => ⟨f_check_scene, _, _, ok_check_scene (k := 1) F_check_scene ((C_is_number base tbs).mono (by decide)) (PySem.W.mg_none_of X G z_len), PySem.W.mg_of X G a_check_scene, k_check_scene, b_check_scene⟩
  have b_check_actor := F_check_actor.binds (ps := ["value", "actors"]) fun _ _ _ _ _ _ us hl => match us, hl with | [_, _], _ => rfl
  have C_check_actor : ∀ base : Heap, (∀ p ∈ ([(cc_letters_from, pp_letters_from)] : List (Addr × Addr)), LamX.TabB base mg p.1 p.2) → Callee l.prog w K mg base 2 "check_actor" (spF K m_check_actor) := fun base tbs => ⟨f_check_actor, _, _, ok_check_actor (k := 1) F_check_actor ((C_is_number base tbs).mono (by decide)), PySem.W.mg_of X G a_check_actor, k_check_actor, b_check_actor⟩
  have b_grown := F_grown.binds (ps := ["start", "steps_from", "most"]) fun _ _ _ _ _ _ us hl => match us, hl with | [_, _, _], _ => rfl
  have C_grown : ∀ (base : Heap) (j : Nat), CalleeG l.prog w K mg base j "grown" N_grown ["start", "steps_from", "most"] gGrown := fun base j => ok_grown (k := j) F_grown b_grown (PySem.W.mg_of X G a_grown) (PySem.W.mg_none_of X G z_len)
  have b_with_one := F_with_one.binds (ps := ["actors", "actor"]) fun _ _ _ _ _ _ us hl => match us, hl with | [_, _], _ => rfl
  have C_with_one : ∀ base : Heap, (∀ p ∈ ([(cc_letters_from, pp_letters_from)] : List (Addr × Addr)), LamX.TabB base mg p.1 p.2) → Callee l.prog w K mg base 1 "with_one" (spF K m_with_one) := fun base tbs => ⟨f_with_one, _, _, ok_with_one (k := 0) F_with_one (PySem.W.mg_none_of X G z_tuple) (PySem.W.mg_none_of X G z_sorted) (PySem.W.mg_none_of X G z_set), PySem.W.mg_of X G a_with_one, k_with_one, b_with_one⟩
  have b_moments_behind := F_moments_behind.binds (ps := ["web", "moment", "actor"]) fun _ _ _ _ _ _ us hl => match us, hl with | [_, _, _], _ => rfl
  have C_moments_behind : ∀ base : Heap, (∀ p ∈ ([(cc_letters_from, pp_letters_from)] : List (Addr × Addr)), LamX.TabB base mg p.1 p.2) → Callee l.prog w K mg base 2 "moments_behind" (spF K m_moments_behind) := fun base tbs => ⟨f_moments_behind, _, _, ok_moments_behind (k := 1) F_moments_behind ((C_with_one base tbs).mono (by decide)), PySem.W.mg_of X G a_moments_behind, k_moments_behind, b_moments_behind⟩
  have b_letters_from := F_letters_from.binds (ps := ["web", "scene", "actor"]) fun _ _ _ _ _ _ us hl => match us, hl with | [_, _, _], _ => rfl
  have C_letters_from : ∀ base : Heap, (∀ p ∈ ([(cc_letters_from, pp_letters_from)] : List (Addr × Addr)), LamX.TabB base mg p.1 p.2) → Callee l.prog w K mg base 5 "letters_from" (spF K m_letters_from) := fun base tbs => ⟨f_letters_from, _, _, ok_letters_from (k := 2) F_letters_from ((C_moments_behind base tbs).mono (by decide)) (C_grown base _) a_letters_from ti_letters_from (tbs (cc_letters_from, pp_letters_from) (by simp only [List.mem_cons, true_or, or_true])) (PySem.W.mg_none_of X G z_tuple) (PySem.W.mg_none_of X G z_sorted) (PySem.W.mg_none_of X G z_zip), PySem.W.mg_of X G a_letters_from, k_letters_from, b_letters_from⟩
  have b_talks_from := F_talks_from.binds (ps := ["scene"]) fun _ _ _ _ _ _ us hl => match us, hl with | [_], _ => rfl
  have C_talks_from : ∀ base : Heap, (∀ p ∈ ([(cc_letters_from, pp_letters_from)] : List (Addr × Addr)), LamX.TabB base mg p.1 p.2) → Callee l.prog w K mg base 1 "talks_from" (spF K m_talks_from) := fun base tbs => ⟨f_talks_from, _, _, ok_talks_from (k := 0) F_talks_from, PySem.W.mg_of X G a_talks_from, k_talks_from, b_talks_from⟩
  have b_talk_web := F_talk_web.binds (ps := ["script"]) fun _ _ _ _ _ _ us hl => match us, hl with | [_], _ => rfl
  have C_talk_web : ∀ base : Heap, (∀ p ∈ ([(cc_letters_from, pp_letters_from)] : List (Addr × Addr)), LamX.TabB base mg p.1 p.2) → Callee l.prog w K mg base 2 "talk_web" (spF K m_talk_web) := fun base tbs => ⟨f_talk_web, _, _, ok_talk_web (k := 1) F_talk_web ((C_talks_from base tbs).mono (by decide)), PySem.W.mg_of X G a_talk_web, k_talk_web, b_talk_web⟩
  have b_first_letters := F_first_letters.binds (ps := ["script", "scene", "actor"]) fun _ _ _ _ _ _ us hl => match us, hl with | [_, _, _], _ => rfl
  have C_first_letters : ∀ base : Heap, (∀ p ∈ ([(cc_letters_from, pp_letters_from)] : List (Addr × Addr)), LamX.TabB base mg p.1 p.2) → Callee l.prog w K mg base 6 "first_letters" (spF K m_first_letters) := fun base tbs => ⟨f_first_letters, _, _, ok_first_letters (k := 5) F_first_letters ((C_letters_from base tbs).mono (by decide)) ((C_talk_web base tbs).mono (by decide)) ((C_check_actor base tbs).mono (by decide)) ((C_check_scene base tbs).mono (by decide)) ((C_check_script base tbs).mono (by decide)), PySem.W.mg_of X G a_first_letters, k_first_letters, b_first_letters⟩
  exact ⟨_, fun s v => .of_eq rfl, fun base _ _ tbs => ok_law (k := 10) F_law ((C_law_alike base tbs).mono (by decide)) ((C_first_letters base tbs).mono (by decide)) ((C_law_lines base tbs).mono (by decide)) ((C_law_script base tbs).mono (by decide)) ((C_law_taken base tbs).mono (by decide)) (PySem.W.mg_none_of X G z_range) (PySem.W.mg_none_of X G z_len) (PySem.W.mg_none_of X G z_tuple) (PySem.W.mg_none_of X G z_sorted) (PySem.W.mg_none_of X G z_list)⟩
theorem only_seq {K : PySem.W.Frag} {H : Hp} {a : Addr} {xs : List V} (hO : Only H) (h : SqL K H a xs) : (∃ o, H a = some (.frz o (.lst xs))) ∨ SqL K (fun _ => none) a xs := by
  rcases h with (h | ⟨o, h⟩) | h
  · rcases hO a with q | ⟨o, ys, q⟩
    · rw [q] at h; cases h
    · rw [q] at h; cases h
  · exact .inl ⟨o, h⟩
  · exact .inr (.inr h)
end
end Lw
open PySem PySem.W PyProof.Rows
set_option maxHeartbeats 0 in
theorem PySem.Challenge.cw_roletalks_k08_whole_first_letters_holds : PySem.Challenge.rw_roletalks_k08_whole_first_letters.Holds := by
  w_on; o_law; k_head; (case hw => w_witness2)
  k_fill
  refine LamX.walk_ofTs (l := PySem.Challenge.rw_roletalks_k08_whole_first_letters) (n := 63) (k := 11) (x := "script") (CX := fun _ => L2.CX0) rfl (by decide) rfl ⟨rfl, by decide, by decide⟩ (fun w h Y => PySem.W.km_in_of Y) ?F (fun _ _ _ _ _ h => h)
  case F =>
    intro w mg fa h Y KX G hmg
    have hT8 := PySem.W.km_tabs_of Y
    have ti_letters_from : PySem.W.tabIn (L2.KOf KX) "letters_from" = some (_, _) := rfl
    refine' Exists.elim (Lw.all_mk KX G hmg ?a_law_taken ?l_law_taken ?c_law_taken ?k_law_taken ?a_law_scene ?l_law_scene ?c_law_scene ?k_law_scene ?a_law_script ?l_law_script ?c_law_script ?k_law_script ?a_law_lines ?l_law_lines ?c_law_lines ?k_law_lines ?a_law_alike ?l_law_alike ?c_law_alike ?k_law_alike ?a_has_items ?l_has_items ?c_has_items ?k_has_items ?a_is_number ?l_is_number ?c_is_number ?k_is_number ?a_has_script_form ?l_has_script_form ?c_has_script_form ?k_has_script_form ?a_is_rising ?l_is_rising ?c_is_rising ?k_is_rising ?a_is_talk ?l_is_talk ?c_is_talk ?k_is_talk ?a_is_branch ?l_is_branch ?c_is_branch ?k_is_branch ?a_is_scene ?l_is_scene ?c_is_scene ?k_is_scene ?a_check_script ?l_check_script ?c_check_script ?k_check_script ?a_check_scene ?l_check_scene ?c_check_scene ?k_check_scene ?a_check_actor ?l_check_actor ?c_check_actor ?k_check_actor ?a_grown ?l_grown ?c_grown ?k_grown ?a_with_one ?l_with_one ?c_with_one ?k_with_one ?a_moments_behind ?l_moments_behind ?c_moments_behind ?k_moments_behind ?a_letters_from ?l_letters_from ?c_letters_from ?k_letters_from ?a_talks_from ?l_talks_from ?c_talks_from ?k_talks_from ?a_talk_web ?l_talk_web ?c_talk_web ?k_talk_web ?a_first_letters ?l_first_letters ?c_first_letters ?k_first_letters ?a_law ?l_law ?c_law ?k_law ?z_all ?z_bool ?z_enumerate ?z_int ?z_isinstance ?z_len ?z_list ?z_range ?z_set ?z_sorted ?z_str ?z_tuple ?z_zip ?q_LAST_WORD ?q_LEAST_ACTORS ?q_MOST_ACTORS ?q_MOST_SCENES ti_letters_from) (fun fd hall => ?mgoal)
    (case a_law_taken => k_is); (case l_law_taken => k_is); (case c_law_taken => k_is); (case k_law_taken => k_is); (case a_law_scene => k_is); (case l_law_scene => k_is); (case c_law_scene => k_is); (case k_law_scene => k_is); (case a_law_script => k_is); (case l_law_script => k_is); (case c_law_script => k_is); (case k_law_script => k_is); (case a_law_lines => k_is); (case l_law_lines => k_is); (case c_law_lines => k_is); (case k_law_lines => k_is); (case a_law_alike => k_is); (case l_law_alike => k_is); (case c_law_alike => k_is); (case k_law_alike => k_is); (case a_has_items => k_is); (case l_has_items => k_is); (case c_has_items => k_is); (case k_has_items => k_is); (case a_is_number => k_is); (case l_is_number => k_is); (case c_is_number => k_is); (case k_is_number => k_is); (case a_has_script_form => k_is); (case l_has_script_form => k_is); (case c_has_script_form => k_is); (case k_has_script_form => k_is); (case a_is_rising => k_is); (case l_is_rising => k_is); (case c_is_rising => k_is); (case k_is_rising => k_is); (case a_is_talk => k_is); (case l_is_talk => k_is); (case c_is_talk => k_is); (case k_is_talk => k_is); (case a_is_branch => k_is); (case l_is_branch => k_is); (case c_is_branch => k_is); (case k_is_branch => k_is); (case a_is_scene => k_is); (case l_is_scene => k_is); (case c_is_scene => k_is); (case k_is_scene => k_is); (case a_check_script => k_is); (case l_check_script => k_is); (case c_check_script => k_is); (case k_check_script => k_is); (case a_check_scene => k_is); (case l_check_scene => k_is); (case c_check_scene => k_is); (case k_check_scene => k_is); (case a_check_actor => k_is); (case l_check_actor => k_is); (case c_check_actor => k_is); (case k_check_actor => k_is); (case a_grown => k_is); (case l_grown => k_is); (case c_grown => k_is); (case k_grown => k_is); (case a_with_one => k_is); (case l_with_one => k_is); (case c_with_one => k_is); (case k_with_one => k_is); (case a_moments_behind => k_is); (case l_moments_behind => k_is); (case c_moments_behind => k_is); (case k_moments_behind => k_is); (case a_letters_from => k_is); (case l_letters_from => k_is); (case c_letters_from => k_is); (case k_letters_from => k_is); (case a_talks_from => k_is); (case l_talks_from => k_is); (case c_talks_from => k_is); (case k_talks_from => k_is); (case a_talk_web => k_is); (case l_talk_web => k_is); (case c_talk_web => k_is); (case k_talk_web => k_is); (case a_first_letters => k_is); (case l_first_letters => k_is); (case c_first_letters => k_is); (case k_first_letters => k_is); (case a_law => k_is); (case l_law => k_is); (case c_law => k_is); (case k_law => k_is); (case z_all => k_is); (case z_bool => k_is); (case z_enumerate => k_is); (case z_int => k_is); (case z_isinstance => k_is); (case z_len => k_is); (case z_list => k_is); (case z_range => k_is); (case z_set => k_is); (case z_sorted => k_is); (case z_str => k_is); (case z_tuple => k_is); (case z_zip => k_is); (case q_LAST_WORD => k_is); (case q_LEAST_ACTORS => k_is); (case q_MOST_ACTORS => k_is); (case q_MOST_SCENES => k_is)
    case mgoal =>
      obtain ⟨hb, hF⟩ := hall
      refine ⟨fd, _, RT.spLaw _ Lw.b_law 10 10108, ?hT, ?nT, ?hC, hb, fun H a ns hl _ hH hS => ?_, hF⟩
      case hT => exact (List.forall_mem_cons.mpr ⟨hT8 _ (by k_mem), (fun _ h => nomatch h)⟩)
      case nT => exact (List.forall_mem_cons.mpr ⟨by rfl, (fun _ h => nomatch h)⟩)
      case hC => exact (List.forall_mem_cons.mpr ⟨PySem.W.codeHd_of_K KX (by kernel_rfl), (fun _ h => nomatch h)⟩)
      · obtain ⟨x', e⟩ := Lw.main ns hl
        exact ⟨_, a, ns, x', RT.tok_of (L := [("letters_from", 0, _)]) (by rfl) (by decide), (List.forall_mem_cons.mpr ⟨LamX.TabS.nil (hH (_, _) List.mem_cons_self), (fun _ h => nomatch h)⟩), rfl, hS, e, fun _ => rfl⟩
