import PyProof.Rows.All
import Wide.All
import OpenK.AllK
import Wide.FinOn
import HandS.ForMost
import HandS.Deep
import HandS.DictComp
import HandS.TupAny
import HandS.IsInst
import KE.KDictKeyed
import HandS.Lambda
import HandS.EndTab
import HandS.Conv
import HandS.TupLen
import HandS.SortInts
import KE.GoesEnum
import HandS.SetBool
import HandS.TupSets
import HandS.Style
import HandS.RevRange
import KE.KDictPairs
import KE.SortData
import HandS.SortRule
import KE.KDictDisplayH
import HandS.Zip
import HandS.SetFor
import HandS.Nested
import HandS.SetKeys
import KE.KDictSum
import HandS.ExcValue
import KE.DataMinMax
import PyProof.DictTruth
import HandS.Records
import PyProof.AutoSeq1
import HandS.Strs
import HandS.Flow
import HandS.TupMul
import HandS.DictSubView
import KE.KDictCopyH
import HandS.SortKw
import HandS.WordsExc
import HandS.ExcOwn
import HandS.ExcIs
import KE.KExcIs
import HandS.ExcInit
import HandS.FStr
import PyProof.FString2
import PyProof.Rows.RegStrFacts
import PySem.Challenge.RW_roletalks_k20_whole_changes
set_option Elab.async false
set_option linter.all false
set_option maxRecDepth 100000
set_option maxHeartbeats 4000000
/-! A layer over the hand layer: expressions and statements as functions on plain data. -/
namespace RT
open PySem PySem.Spec PyProof.Rows L2
inductive D where
  | none
  | bool (b : Bool)
  | int (i : Int)
  | str (x : Str)
  | list (xs : List D)
  | tuple (xs : List D)
  | dict (kvs : List (D × D))
  | dictT (kvs : List (D × D))
  | sets (ns : List Int)
mutual
def D.py : D → PyData
  | .none => .none
  | .bool b => .bool b
  | .int i => .int i
  | .str x => .str x
  | .list xs => .list (pyAll xs)
  | .tuple xs => .tuple (pyAll xs)
  | .dict _ => .dict []
  | .dictT _ => .dict []
  | .sets _ => .dict []
def pyAll : List D → List PyData
  | [] => []
  | x :: xs => D.py x :: pyAll xs
end
def shapedD (d : D) : Bool := SeqAt.shaped d.py
def eqD (d e : D) : Bool := PyData.eqv d.py e.py
structure FRow where
  ns : List Int
  a : Int
  b : Int
  c : Int
inductive OwD where
  | lst (ds : List D) | dk (ds : List (D × D)) | dt (ds : List (D × D))
def OwD.d : OwD → D
  | .lst ds => .list ds
  | .dk ds => .dict ds
  | .dt ds => .dictT ds
inductive FSl where
  | no | va (d : D) | ow (d : OwD) | rw
  /-- an owned dict with keys of any kind -/
  | da (ds : List (D × D))
  /-- an owned list or dict of owned lists -/
  | nd (d : OwD)
  /-- a function made here: its object, its code object, that one's name, what it captured -/
  | fn (f c : Addr) (q : Str) (gs : List (V × D))
  /-- an object that keeps what it has found: its class, what it asks, its cast, its size -/
  | sg (C : Addr) (mst : List D → Option D) (cd zd : D)
abbrev FEn := List FSl
inductive FRs where
  | nx (e : FEn) | rt (d : D) | bk (e : FEn) | ct (e : FEn)
abbrev FE := FEn → FRow → Option (D × FRow)
abbrev FT := FEn → FRow → Option (Bool × FRow)
abbrev FA := FEn → FRow → Option (List D × FRow)
abbrev FS := FEn → FRow → Option (FRs × FRow)
def keyD : L2.Key → D
  | .inl i => .int i
  | .inr x => .str x
mutual
inductive Rp (K : PySem.W.Frag) (O : Addr → Prop) (H : Hp) : V → D → Prop
  | non : Rp K O H .non .none
  | bl (b : Bool) : Rp K O H (.bl b) (.bool b)
  | int (i : Int) : Rp K O H (.int i) (.int i)
  | str (x : Str) : Rp K O H (.str x) (.str x)
  | lst {a : Addr} {xs : List V} {ds : List D} : ¬ O a → H a = some (.lst xs) → RpA K O H xs ds → Rp K O H (.ref a) (.list ds)
  | tup {a : Addr} {xs : List V} {ds : List D} : ¬ O a → H a = some (.tup xs) → RpA K O H xs ds → Rp K O H (.ref a) (.tuple ds)
  | dK {a : Addr} {kvs : List (L2.Key × V)} {ds : List (D × D)} : ¬ O a → L2.Rd H a (.dK kvs) → RpK K O H kvs ds → Rp K O H (.ref a) (.dict ds)
  | dT {a : Addr} {kvs : List (List L2.Key × V)} {ds : List (D × D)} : ¬ O a → L2.Rd H a (.dT kvs) → RpT K O H kvs ds → Rp K O H (.ref a) (.dictT ds)
inductive RpA (K : PySem.W.Frag) (O : Addr → Prop) (H : Hp) : List V → List D → Prop
  | nil : RpA K O H [] []
  | cons {v : V} {vs : List V} {d : D} {ds : List D} : Rp K O H v d → RpA K O H vs ds → RpA K O H (v :: vs) (d :: ds)
inductive RpK (K : PySem.W.Frag) (O : Addr → Prop) (H : Hp) : List (L2.Key × V) → List (D × D) → Prop
  | nil : RpK K O H [] []
  | cons {k : L2.Key} {v : V} {vs : List (L2.Key × V)} {d : D} {ds : List (D × D)} : Rp K O H v d → RpK K O H vs ds → RpK K O H ((k, v) :: vs) ((keyD k, d) :: ds)
inductive RpT (K : PySem.W.Frag) (O : Addr → Prop) (H : Hp) : List (List L2.Key × V) → List (D × D) → Prop
  | nil : RpT K O H [] []
  | cons {k : List L2.Key} {v : V} {vs : List (List L2.Key × V)} {d : D} {ds : List (D × D)} : Rp K O H v d → RpT K O H vs ds → RpT K O H ((k, v) :: vs) ((.tuple (k.map keyD), d) :: ds)
end
/-- the defs in which functions are made -/
def makers : List Str := ["set_web", "letters_from", "scenes_behind", "position_web", "why_not", "met", "shake_web", "law", "_law_parts", "_law_rest", "_law_more"]
def lamq (x : Str) : Str := x ++ ".<locals>." ++ "<lambda>"
/-- the tables of the makers' code objects, each with the name of its functions -/
def TOK (K : PySem.W.Frag) (T : List (Addr × Str)) : Prop := ∀ x ∈ makers, ∀ c P, PySem.W.tabIn K x = some (c, P) → (P, lamq x) ∈ T ∧ ∀ p ∈ T, p.1 = P → p.2 = lamq x
def isNT : HO → Bool
  | .tbl _ => false
  | _ => true
theorem isNT.ne {o : HO} (h : isNT o = true) (ps : Array Value) : o ≠ .tbl ps := fun e => by rw [e] at h; cases h
/-- a code object -/
def IsC (o : HO) : Prop := ∃ c q, o = LamX.CodeO c q
/-- what may be owned -/
def MutC : Option HO → Prop
  | some (.lst _) => True
  | some (.dK _) => True
  | some (.dT _) => True
  | some (.ext φ) => ¬ IsC (.ext φ)
  | _ => False
theorem mut_nt {o : HO} (h : MutC (some o)) : isNT o = true := by cases o <;> first | rfl | exact h.elim
theorem notC_lst {xs : List V} : ¬ IsC (.lst xs) := fun ⟨_, _, e⟩ => by unfold LamX.CodeO at e; cases e
theorem notC_dK {xs : List (L2.Key × V)} : ¬ IsC (.dK xs) := fun ⟨_, _, e⟩ => by unfold LamX.CodeO at e; cases e
theorem notC_dT {xs : List (List L2.Key × V)} : ¬ IsC (.dT xs) := fun ⟨_, _, e⟩ => by unfold LamX.CodeO at e; cases e
theorem MutC.mut {o : HO} (h : MutC (some o)) : Mut (some o) := by cases o <;> first | trivial | exact h.elim
section
variable {ω : World} {K : PySem.W.Frag} {O O' : Addr → Prop} {H H' : Hp}
/-- what is not to change stays, but for the tables of code objects -/
def Keep (O : Addr → Prop) (H H' : Hp) : Prop := ∀ a o, ¬ O a → H a = some o → isNT o = true → H' a = some o
/-- all stays, but for the tables -/
def SameT (T : List (Addr × Str)) (H H' : Hp) : Prop := (∀ a o, H a = some o → isNT o = true → H' a = some o) ∧ LamX.Tabs T H'
theorem SameT.of {T : List (Addr × Str)} (t : LamX.Tabs T H) (h : Same H H') : SameT T H H' := ⟨fun a o e _ => h a o e, t.ext h⟩
/-- nothing is there, or a table -/
def Gone (H : Hp) (p : Addr) : Prop := ∀ o, H p = some o → isNT o = false
theorem Gone.of {p : Addr} (h : H p = none) : Gone H p := fun o e => by rw [h] at e; cases e
theorem Gone.no {p : Addr} {o : HO} (h : Gone H p) (e : H p = some o) (t : isNT o = true) : False := by have := h o e; rw [t] at this; cases this
def Wid (O O' : Addr → Prop) (H : Hp) : Prop := ∀ a, O' a → O a ∨ Gone H a
theorem Wid.no (w : Wid O O' H) {a : Addr} {o : HO} (h : ¬ O a) (e : H a = some o) (t : isNT o = true := by rfl) : ¬ O' a := fun z => by
  rcases w a z with q | q
  · exact h q
  · exact q.no e t
theorem Wid.noR (w : Wid O O' H) {a : Addr} {o : HO} (h : ¬ O a) (e : L2.Rd H a o) (t : isNT o = true := by rfl) : ¬ O' a := e.elim (fun e => w.no h e t) fun ⟨_, e⟩ => w.no h e
theorem Keep.rd (k : Keep O H H') {a : Addr} {o : HO} (h : ¬ O a) (e : L2.Rd H a o) (n : isNT o = true := by rfl) : L2.Rd H' a o := e.elim (fun e => .inl (k _ _ h e n)) fun ⟨q, e⟩ => .inr ⟨q, k _ _ h e rfl⟩
/-- what is read stays to be read -/
structure Kq (O : Addr → Prop) (H H' : Hp) : Prop where
  l : ∀ a xs, ¬ O a → H a = some (.lst xs) → H' a = some (.lst xs)
  t : ∀ a xs, ¬ O a → H a = some (.tup xs) → H' a = some (.tup xs)
  d : ∀ a xs, ¬ O a → L2.Rd H a (.dT xs) → L2.Rd H' a (.dT xs)
  k : ∀ a xs, ¬ O a → L2.Rd H a (.dK xs) → L2.Rd H' a (.dK xs)
mutual
theorem Rp.mv (k : Kq O H H') : ∀ {v : V} {d : D}, Rp K O H v d → Rp K O H' v d
  | _, _, .non => .non
  | _, _, .bl b => .bl b
  | _, _, .int i => .int i
  | _, _, .str x => .str x
  | _, _, .lst h e r => .lst h (k.l _ _ h e) (RpA.mv k r)
  | _, _, .tup h e r => .tup h (k.t _ _ h e) (RpA.mv k r)
  | _, _, .dK h e r => .dK h (k.k _ _ h e) (RpK.mv k r)
  | _, _, .dT h e r => .dT h (k.d _ _ h e) (RpT.mv k r)
theorem RpA.mv (k : Kq O H H') : ∀ {v : List V} {d : List D}, RpA K O H v d → RpA K O H' v d
  | _, _, .nil => .nil
  | _, _, .cons a b => .cons (Rp.mv k a) (RpA.mv k b)
theorem RpK.mv (k : Kq O H H') : ∀ {v : List (L2.Key × V)} {d : List (D × D)}, RpK K O H v d → RpK K O H' v d
  | _, _, .nil => .nil
  | _, _, .cons a b => .cons (Rp.mv k a) (RpK.mv k b)
theorem RpT.mv (k : Kq O H H') : ∀ {v : List (List L2.Key × V)} {d : List (D × D)}, RpT K O H v d → RpT K O H' v d
  | _, _, .nil => .nil
  | _, _, .cons a b => .cons (Rp.mv k a) (RpT.mv k b)
end
mutual
theorem Rp.move (k : Keep O H H') (w : Wid O O' H) : ∀ {v : V} {d : D}, Rp K O H v d → Rp K O' H' v d
  | _, _, .non => .non
  | _, _, .bl b => .bl b
  | _, _, .int i => .int i
  | _, _, .str x => .str x
  | _, _, .lst h e r => .lst (w.no h e) (k _ _ h e rfl) (RpA.move k w r)
  | _, _, .tup h e r => .tup (w.no h e) (k _ _ h e rfl) (RpA.move k w r)
  | _, _, .dK h e r => .dK (w.noR h e) (k.rd h e) (RpK.move k w r)
  | _, _, .dT h e r => .dT (w.noR h e) (k.rd h e) (RpT.move k w r)
theorem RpA.move (k : Keep O H H') (w : Wid O O' H) : ∀ {v : List V} {d : List D}, RpA K O H v d → RpA K O' H' v d
  | _, _, .nil => .nil
  | _, _, .cons a b => .cons (Rp.move k w a) (RpA.move k w b)
theorem RpK.move (k : Keep O H H') (w : Wid O O' H) : ∀ {v : List (L2.Key × V)} {d : List (D × D)}, RpK K O H v d → RpK K O' H' v d
  | _, _, .nil => .nil
  | _, _, .cons a b => .cons (Rp.move k w a) (RpK.move k w b)
theorem RpT.move (k : Keep O H H') (w : Wid O O' H) : ∀ {v : List (List L2.Key × V)} {d : List (D × D)}, RpT K O H v d → RpT K O' H' v d
  | _, _, .nil => .nil
  | _, _, .cons a b => .cons (Rp.move k w a) (RpT.move k w b)
end
theorem Wid.refl : Wid O O H := fun _ h => .inl h
theorem Keep.of (h : Same H H') : Keep O H H' := fun a o _ e _ => h a o e
theorem Keep.ofT {T : List (Addr × Str)} (h : SameT T H H') : Keep O H H' := fun a o _ e n => h.1 a o e n
theorem RpA.length : ∀ {v : List V} {d : List D}, RpA K O H v d → v.length = d.length
  | _, _, .nil => rfl
  | _, _, .cons _ b => by rw [List.length_cons, List.length_cons, RpA.length b]
theorem RpA.app : ∀ {v w : List V} {d e : List D}, RpA K O H v d → RpA K O H w e → RpA K O H (v ++ w) (d ++ e)
  | _, _, _, _, .nil, h => h
  | _, _, _, _, .cons a b, h => .cons a (RpA.app b h)
theorem RpA.get : ∀ {v : List V} {d : List D} {i : Nat} {x : D}, RpA K O H v d → d[i]? = some x → ∃ y, v[i]? = some y ∧ Rp K O H y x
  | _, _, _, _, .nil, h => by simp at h
  | _, _, 0, _, .cons a b, h => by simp at h; subst h; exact ⟨_, rfl, a⟩
  | _, _, i + 1, _, .cons a b, h => by
    obtain ⟨y, e, r⟩ := RpA.get (i := i) b (by simpa using h)
    exact ⟨y, by simpa using e, r⟩
theorem RpA.get' : ∀ {v : List V} {d : List D} {i : Nat} {y : V}, RpA K O H v d → v[i]? = some y → ∃ x, d[i]? = some x ∧ Rp K O H y x
  | _, _, _, _, .nil, h => by simp at h
  | _, _, 0, _, .cons a b, h => by simp at h; subst h; exact ⟨_, rfl, a⟩
  | _, _, i + 1, _, .cons a b, h => by
    obtain ⟨y, e, r⟩ := RpA.get' (i := i) b (by simpa using h)
    exact ⟨y, by simpa using e, r⟩
theorem RpA.take : ∀ {v : List V} {d : List D} (n : Nat), RpA K O H v d → RpA K O H (v.take n) (d.take n)
  | _, _, 0, _ => by simp; exact .nil
  | _, _, _ + 1, .nil => .nil
  | _, _, n + 1, .cons a b => .cons a (RpA.take n b)
theorem RpA.drop : ∀ {v : List V} {d : List D} (n : Nat), RpA K O H v d → RpA K O H (v.drop n) (d.drop n)
  | _, _, 0, h => h
  | _, _, _ + 1, .nil => .nil
  | _, _, n + 1, .cons a b => RpA.drop n b
theorem RpA.ints : ∀ {v : List V} {ns : List Int}, RpA K O H v (ns.map .int) → v = ns.map V.int
  | _, [], h => by cases h; rfl
  | _, n :: ns, h => by
    cases h with
    | cons a b => cases a; rw [RpA.ints b]; rfl
theorem RpA.ofInts : ∀ (ns : List Int), RpA K O H (ns.map V.int) (ns.map .int)
  | [] => .nil
  | n :: ns => .cons (.int n) (RpA.ofInts ns)
theorem RpA.bls : ∀ {v : List V} {ns : List Bool}, RpA K O H v (ns.map .bool) → v = ns.map V.bl
  | _, [], h => by cases h; rfl
  | _, n :: ns, h => by
    cases h with
    | cons a b => cases a; rw [RpA.bls b]; rfl
mutual
theorem Rp.dp : ∀ {v : V} {d : D}, Rp K O H v d → d.py.canLay0 = true → Dp K H v d.py
  | _, _, .non, _ => by simp only [D.py]; exact .non
  | _, _, .bl b, _ => by simp only [D.py]; exact .bl b
  | _, _, .int i, _ => by simp only [D.py]; exact .int i
  | _, _, .str x, _ => by simp only [D.py]; exact .str x
  | _, _, .lst h e r, s => by simp only [D.py] at s ⊢; exact .lst (.inl (.inl e)) (RpA.dp r (by simpa [PyData.canLay0] using s))
  | _, _, .tup h e r, s => by simp only [D.py] at s ⊢; exact .tup (.inl (.inl e)) (RpA.dp r (by simpa [PyData.canLay0] using s))
  | _, _, .dK _ _ _, s => by simp [D.py, PyData.canLay0] at s
  | _, _, .dT _ _ _, s => by simp [D.py, PyData.canLay0] at s
theorem RpA.dp : ∀ {v : List V} {d : List D}, RpA K O H v d → PyData.canLayAll0 (pyAll d) = true → DpAll K H v (pyAll d)
  | _, _, .nil, _ => by simp only [pyAll]; exact .nil
  | _, _, .cons a b, h => by
    simp only [pyAll] at h ⊢
    rw [PyData.canLayAll0, Bool.and_eq_true] at h
    exact .cons (Rp.dp a h.1) (RpA.dp b h.2)
end
theorem Rp.seqT {a : Addr} {ds : List D} (h : Rp K O H (.ref a) (.tuple ds)) : ∃ xs, SqT K H a xs ∧ RpA K O H xs ds := by
  cases h with
  | tup n e r => exact ⟨_, .inl (.inl e), r⟩
theorem Rp.tupAt {v : V} {ds : List D} (h : Rp K O H v (.tuple ds)) : ∃ a xs, v = .ref a ∧ H a = some (.tup xs) ∧ RpA K O H xs ds := by
  cases h with
  | tup n e r => exact ⟨_, _, rfl, e, r⟩
theorem Rp.isRef {v : V} {ds : List D} (h : Rp K O H v (.tuple ds)) : ∃ a, v = .ref a := by cases h <;> exact ⟨_, rfl⟩
end
/-! ### the state -/
structure FG where
  O0 : Addr → Prop
  H0 : Hp
  R : Option Addr
  gs : List (V × D)
  T : List (Addr × Str)
  w : World
  /-- what the memo tells -/
  F : Option (D → Option D)
def Le (g : FG) (H H' : Hp) : Prop := ∀ a o, g.R ≠ some a → H a = some o → isNT o = true → H' a = some o
theorem Le.refl (g : FG) (H : Hp) : Le g H H := fun _ _ _ h _ => h
theorem Le.trans {g : FG} {H H1 H2 : Hp} (a : Le g H H1) (b : Le g H1 H2) : Le g H H2 := fun c o n h t => b c o n (a c o n h t) t
theorem Le.of {g : FG} {H H' : Hp} (h : Same H H') : Le g H H' := fun a o _ e _ => h a o e
theorem Le.ofT {g : FG} {T : List (Addr × Str)} {H H' : Hp} (h : SameT T H H') : Le g H H' := fun a o _ e n => h.1 a o e n
theorem Le.ofN {g : FG} {H H' : Hp} (h : LamX.ExtN H H') : Le g H H' := fun a o _ e n => h a o e (isNT.ne n)
/-- all but the tables -/
def noT (H : Hp) : Hp := fun a => match H a with
  | some o => if isNT o then some o else none
  | none => none
theorem noT_some {H : Hp} {a : Addr} {o : HO} (h : noT H a = some o) : H a = some o ∧ isNT o = true := by
  unfold noT at h
  split at h
  · split at h
    · rename_i e t; cases h; exact ⟨e, t⟩
    · cases h
  · cases h
theorem noT_of {H : Hp} {a : Addr} {o : HO} (h : H a = some o) (t : isNT o = true) : noT H a = some o := by
  unfold noT; rw [h]; simp only [t, if_true]
/-- the script -/
def RowL (K : PySem.W.Frag) (O : Addr → Prop) (H : Hp) (a0 : Addr) (ns : List Int) : Prop := (¬ O a0 ∧ L2.Rd H a0 (.lst (ns.map V.int))) ∨ SqL K (fun _ => none) a0 (ns.map V.int)
def RowAt (K : PySem.W.Frag) (O : Addr → Prop) (H : Hp) (r : Addr) (x : FRow) : Prop := ∃ a0, H r = some (.lst [.ref a0, .int x.a, .int x.b, .int x.c]) ∧ RowL K O H a0 x.ns
theorem RowL.to {K : PySem.W.Frag} {O O' : Addr → Prop} {H H' : Hp} {a0 : Addr} {ns : List Int} (q : RowL K O H a0 ns) (f : ¬ O a0 → ¬ O' a0 ∧ ∀ o, H a0 = some o → isNT o = true → H' a0 = some o) : RowL K O' H' a0 ns := by
  rcases q with ⟨n, q⟩ | q
  · obtain ⟨f1, f2⟩ := f n
    rcases q with q | ⟨o, q⟩
    · exact .inl ⟨f1, .inl (f2 _ q rfl)⟩
    · exact .inl ⟨f1, .inr ⟨o, f2 _ q rfl⟩⟩
  · exact .inr q
theorem RowL.updO {K : PySem.W.Frag} {O : Addr → Prop} {H : Hp} {a0 p : Addr} {o : HO} {ns : List Int} (q : RowL K O H a0 ns) (op : O p) : RowL K O (upd H p o) a0 ns :=
  q.to fun n => ⟨n, fun u e _ => by rw [upd_ne (show a0 ≠ p from fun z => n (z ▸ op))]; exact e⟩
theorem RowL.seq {K : PySem.W.Frag} {O : Addr → Prop} {H : Hp} {a0 : Addr} {ns : List Int} (q : RowL K O H a0 ns) : SqL K H a0 (ns.map V.int) := by
  rcases q with ⟨_, q⟩ | q
  · exact .inl q
  · rcases q with (q | ⟨o, q⟩) | q
    · cases q
    · cases q
    · exact .inr q
def OwAt (K : PySem.W.Frag) (O : Addr → Prop) (H : Hp) (a : Addr) : OwD → Prop
  | .lst ds => ∃ xs, H a = some (.lst xs) ∧ RpA K O H xs ds
  | .dk ds => ∃ kvs, H a = some (.dK kvs) ∧ RpK K O H kvs ds
  | .dt ds => ∃ kvs, H a = some (.dT kvs) ∧ RpT K O H kvs ds
/-! dicts with keys of any kind -/
mutual
def nk : D → Option NestedKey
  | .none => some .none
  | .bool b => some (.num (if b = true then 1 else 0))
  | .int i => some (.num i)
  | .str x => some (.text x)
  | .tuple xs => (nks xs).map .tup
  | _ => none
def nks : List D → Option (List NestedKey)
  | [] => some []
  | d :: ds => match nk d, nks ds with
    | some k, some ks => some (k :: ks)
    | _, _ => none
end
abbrev DaX := NestedKey × Value × Value
def RawD (w : World) (a : Addr) (xs : List DaX) (h : Heap) : Prop :=
  (a == sysModules) = false ∧ ∃ o es ep, h.get? a = some o ∧ o.ExactDict ∧ o.data = .dict es ep ∧ es.toList = xs.map (fun x => (⟨x.1.hash w, x.2.1, x.2.2⟩ : DictEntry)) ∧ (xs.map (·.1)).Nodup
def isTupD : D → Bool
  | .tuple _ => true
  | _ => false
mutual
/-- no truth value in it -/
def noB : D → Bool
  | .none => true
  | .int _ => true
  | .str _ => true
  | .tuple xs => noBs xs
  | _ => false
def noBs : List D → Bool
  | [] => true
  | d :: ds => noB d && noBs ds
end
def keyC (d : D) : Bool := isTupD d && noB d
def lf : D → Option Leaf
  | .none => some .none
  | .bool b => some (.num (if b = true then 1 else 0))
  | .int i => some (.num i)
  | .str x => some (.text x)
  | _ => none
structure DaR (K : PySem.W.Frag) (O : Addr → Prop) (H : Hp) (x : DaX) (p : D × D) : Prop where
  k : nk p.1 = some x.1
  dp : x.1.depth ≤ 8
  u : isTupD p.1 = true → ∃ v, L2.RelV v x.2.1 ∧ Rp K O H v p.1
  l : ∀ l, lf p.1 = some l → Leaf.isOf l x.2.1 = true
  v : ∃ v, L2.RelV v x.2.2 ∧ Rp K O H v p.2
def DaAt (K : PySem.W.Frag) (O : Addr → Prop) (H : Hp) (a : Addr) (w : World) (ds : List (D × D)) : Prop :=
  ∃ xs, H a = some (.ext (RawD w a xs)) ∧ Paired (DaR K O H) xs ds
theorem DaR.mv {K : PySem.W.Frag} {O O' : Addr → Prop} {H H' : Hp} {x : DaX} {p : D × D} (f : ∀ v d, Rp K O H v d → Rp K O' H' v d) (r : DaR K O H x p) : DaR K O' H' x p :=
  ⟨r.k, r.dp, fun t => let ⟨v, a, b⟩ := r.u t; ⟨v, a, f _ _ b⟩, r.l, let ⟨v, a, b⟩ := r.v; ⟨v, a, f _ _ b⟩⟩
theorem DaAt.mv {K : PySem.W.Frag} {O O' : Addr → Prop} {H H' : Hp} {a : Addr} {w : World} {ds : List (D × D)} (h : DaAt K O H a w ds) (e : ∀ o, H a = some o → isNT o = true → H' a = some o) (f : ∀ v d, Rp K O H v d → Rp K O' H' v d) : DaAt K O' H' a w ds :=
  let ⟨xs, q, r⟩ := h; ⟨xs, e _ q rfl, L2.Paired.mapP r fun _ _ => DaR.mv f⟩
/-- the list at b is a value of an owned thing -/
def Inn (H : Hp) (a b : Addr) : Prop := (∃ xs, H a = some (.lst xs) ∧ V.ref b ∈ xs) ∨ ∃ (kvs : List (List L2.Key × V)) (k : List L2.Key), H a = some (.dT kvs) ∧ (k, V.ref b) ∈ kvs
theorem Inn.of {H H' : Hp} {a b : Addr} (h : Inn H' a b) (e : H' a = H a) : Inn H a b := by unfold Inn at h ⊢; rw [← e]; exact h
def Nr (K : PySem.W.Frag) (g : FG) (O : Addr → Prop) (H : Hp) (v : V) (d : D) : Prop := ∃ (b : Addr) (es : List D) (ys : List V), v = .ref b ∧ d = .list es ∧ O b ∧ ¬ g.O0 b ∧ g.R ≠ some b ∧ H b = some (.lst ys) ∧ RpA K O H ys es
def NdAt (K : PySem.W.Frag) (g : FG) (O : Addr → Prop) (H : Hp) (a : Addr) : OwD → Prop
  | .lst ds => ∃ xs, H a = some (.lst xs) ∧ Paired (Nr K g O H) xs ds ∧ xs.Nodup ∧ V.ref a ∉ xs
  | .dt ds => ∃ kvs : List (List L2.Key × V), H a = some (.dT kvs) ∧ Paired (fun kv p => p.1 = .tuple (kv.1.map keyD) ∧ Nr K g O H kv.2 p.2) kvs ds ∧ (kvs.map (·.2)).Nodup
  | .dk _ => False
theorem NdAt.tk {K : PySem.W.Frag} {g : FG} {O : Addr → Prop} {H : Hp} {a : Addr} {d : OwD} (h : NdAt K g O H a d) : ∃ o, H a = some o ∧ isNT o = true := by
  cases d with
  | lst ds => obtain ⟨xs, e, _⟩ := h; exact ⟨_, e, rfl⟩
  | dt ds => obtain ⟨xs, e, _⟩ := h; exact ⟨_, e, rfl⟩
  | dk ds => exact h.elim
theorem paired_mem {α β : Type} {F : α → β → Prop} {a : α} : ∀ {l : List α} {m : List β}, Paired F l m → a ∈ l → ∃ b ∈ m, F a b
  | _, _, .nil, h => nomatch h
  | _, _, .cons r t, h => by
    rcases List.mem_cons.mp h with rfl | h
    · exact ⟨_, List.mem_cons_self, r⟩
    · obtain ⟨b, hb, q⟩ := paired_mem t h
      exact ⟨b, List.mem_cons_of_mem _ hb, q⟩
theorem NdAt.inn {K : PySem.W.Frag} {g : FG} {O : Addr → Prop} {H : Hp} {a b : Addr} {d : OwD} (h : NdAt K g O H a d) (i : Inn H a b) : O b ∧ ¬ g.O0 b ∧ g.R ≠ some b ∧ ∃ ys, H b = some (.lst ys) := by
  cases d with
  | lst ds =>
    obtain ⟨xs, e, r, _⟩ := h
    rcases i with ⟨zs, e2, m⟩ | ⟨zs, k, e2, m⟩
    · rw [e] at e2; cases e2
      obtain ⟨_, _, c, es, ys, rfl', _, q1, q2, q3, q4, _⟩ := paired_mem r m
      cases rfl'
      exact ⟨q1, q2, q3, _, q4⟩
    · rw [e] at e2; cases e2
  | dt ds =>
    obtain ⟨xs, e, r, _⟩ := h
    rcases i with ⟨zs, e2, m⟩ | ⟨zs, k, e2, m⟩
    · rw [e] at e2; cases e2
    · rw [e] at e2; cases e2
      obtain ⟨_, _, _, c, es, ys, rfl', _, q1, q2, q3, q4, _⟩ := paired_mem r m
      have rfl' : V.ref b = V.ref c := rfl'
      cases rfl'
      exact ⟨q1, q2, q3, _, q4⟩
  | dk ds => exact h.elim
theorem paired_imp {α β : Type} {F G : α → β → Prop} : ∀ {l : List α} {m : List β}, Paired F l m → (∀ a b, a ∈ l → F a b → G a b) → Paired G l m
  | _, _, .nil, _ => .nil
  | _, _, .cons r t, f => .cons (f _ _ List.mem_cons_self r) (paired_imp t fun a b h => f a b (List.mem_cons_of_mem _ h))
/-- nothing of an owned thing of lists changes -/
theorem NdAt.mv {K : PySem.W.Frag} {g g' : FG} {O O' : Addr → Prop} {H H' : Hp} {a : Addr} {d : OwD} (h : NdAt K g O H a d) (ea : H' a = H a) (ei : ∀ b, Inn H a b → H' b = H b) (f : ∀ v d, Rp K O H v d → Rp K O' H' v d) (fa : ∀ v d, RpA K O H v d → RpA K O' H' v d)
    (fo : ∀ b, Inn H a b → O b → ¬ g.O0 b → g.R ≠ some b → O' b ∧ ¬ g'.O0 b ∧ g'.R ≠ some b) : NdAt K g' O' H' a d := by
  cases d with
  | lst ds =>
    obtain ⟨xs, e, r, n, n2⟩ := h
    refine ⟨xs, by rw [ea]; exact e, paired_imp r fun v p m q => ?_, n, n2⟩
    obtain ⟨b, es, ys, rfl, e1, q1, q2, q3, q4, q5⟩ := q
    have i : Inn H a b := .inl ⟨xs, e, m⟩
    obtain ⟨o1, o2, o3⟩ := fo b i q1 q2 q3
    exact ⟨b, es, ys, rfl, e1, o1, o2, o3, by rw [ei b i]; exact q4, fa _ _ q5⟩
  | dt ds =>
    obtain ⟨xs, e, r, n⟩ := h
    refine ⟨xs, by rw [ea]; exact e, paired_imp r fun v p m q => ?_, n⟩
    obtain ⟨k, b, es, ys, e0, e1, q1, q2, q3, q4, q5⟩ := q
    have i : Inn H a b := .inr ⟨xs, v.1, e, by rw [← e0]; exact m⟩
    obtain ⟨o1, o2, o3⟩ := fo b i q1 q2 q3
    exact ⟨k, b, es, ys, e0, e1, o1, o2, o3, by rw [ei b i]; exact q4, fa _ _ q5⟩
  | dk ds => exact h.elim
/-- the memo: each position that it holds has its steps -/
def MemoAt (K : PySem.W.Frag) (O : Addr → Prop) (H : Hp) (a : Addr) (w : World) (F : D → Option D) (x : FRow) : Prop := ∃ ds, DaAt K O H a w ds ∧ (∀ p ∈ ds, F p.1 = some p.2 ∧ keyC p.1 = true) ∧ (ds.length : Int) ≤ x.a
def RowG (K : PySem.W.Frag) (g : FG) (O : Addr → Prop) (H : Hp) (r : Addr) (x : FRow) : Prop := match g.F with
  | none => RowAt K O H r x
  | some F => MemoAt K O H r g.w F x
theorem not_code {φ : Heap → Prop} (h : ∀ (hp : Heap), φ hp → ∃ (a : Addr) (o : Obj), hp.get? a = some o ∧ ∀ vs, o.data ≠ .fields vs) : ¬ IsC (.ext φ) := fun ⟨c, q, e⟩ => by
  have e' : φ = fun h => ∃ (oc : Obj) (vs : Array Value) (t : Tok), h.get? c = some oc ∧ oc.data = .fields vs ∧ vs[1]? = some (.str q t) := by unfold LamX.CodeO at e; injection e
  have g : ∀ n a o, Heap.get? ⟨Array.replicate n ⟨.none, none, .fields #[.none, .str q default], #[]⟩, {}⟩ a = some o → o = ⟨.none, none, .fields #[.none, .str q default], #[]⟩ := fun n a o z => by
    unfold Heap.get? at z
    rw [Array.getElem?_replicate] at z
    split at z
    · cases z
    · split at z
      · exact (Option.some.inj z).symm
      · cases z
  have k : φ ⟨Array.replicate (c + 1) ⟨.none, none, .fields #[.none, .str q default], #[]⟩, {}⟩ := by
    rw [e']
    refine ⟨⟨.none, none, .fields #[.none, .str q default], #[]⟩, #[.none, .str q default], default, ?_, rfl, rfl⟩
    unfold Heap.get?
    rw [Array.getElem?_replicate, if_pos (Nat.lt_succ_self c)]
  obtain ⟨a, o, ho, hd⟩ := h _ k
  rw [g _ _ _ ho] at hd
  exact hd _ rfl
theorem notC_raw {w : World} {a : Addr} {xs : List DaX} : ¬ IsC (.ext (RawD w a xs)) := not_code fun h R => by
  obtain ⟨_, o, es, ep, ho, _, hd, _⟩ := R
  exact ⟨a, o, ho, fun vs z => by rw [z] at hd; cases hd⟩
section
variable {K : PySem.W.Frag} {g : FG} {O O' : Addr → Prop} {H H' : Hp} {r : Addr} {x : FRow}
theorem RowG.row (q : RowG K g O H r x) (h : g.F = none) : RowAt K O H r x := by unfold RowG at q; rw [h] at q; exact q
theorem RowG.of (q : RowAt K O H r x) (h : g.F = none) : RowG K g O H r x := by unfold RowG; rw [h]; exact q
theorem RowG.memo {F : D → Option D} (q : RowG K g O H r x) (h : g.F = some F) : MemoAt K O H r g.w F x := by unfold RowG at q; rw [h] at q; exact q
theorem RowG.ofM {F : D → Option D} (q : MemoAt K O H r g.w F x) (h : g.F = some F) : RowG K g O H r x := by unfold RowG; rw [h]; exact q
theorem RowG.to (q : RowG K g O H r x) (hr : ∀ o, H r = some o → isNT o = true → H' r = some o) (f : ∀ a0, ¬ O a0 → ¬ O' a0 ∧ ∀ o, H a0 = some o → isNT o = true → H' a0 = some o) : RowG K g O' H' r x := by
  cases hF : g.F with
  | none =>
    refine .of ?_ hF
    obtain ⟨a0, e, q⟩ := q.row hF
    exact ⟨a0, hr _ e rfl, q.to (f a0)⟩
  | some F =>
    refine .ofM ?_ hF
    obtain ⟨ds, d, c, l⟩ := q.memo hF
    have kp : Keep O H H' := fun a o n e t => (f a n).2 o e t
    have wd : Wid O O' H := fun a h => .inl (Classical.byContradiction fun n => (f a n).1 h)
    exact ⟨ds, d.mv hr fun v e r => r.move kp wd, c, l⟩
theorem RowG.mv (q : RowG K g O H r x) (hr : ∀ o, H r = some o → isNT o = true → H' r = some o) (kp : Keep O H H') (wd : Wid O O' H) : RowG K g O' H' r x := by
  cases hF : g.F with
  | none =>
    refine .of ?_ hF
    obtain ⟨a0, e, q⟩ := q.row hF
    refine ⟨a0, hr _ e rfl, ?_⟩
    rcases q with ⟨n, q⟩ | q
    · exact .inl ⟨wd.noR n q, kp.rd n q⟩
    · exact .inr q
  | some F =>
    refine .ofM ?_ hF
    obtain ⟨ds, d, c, l⟩ := q.memo hF
    exact ⟨ds, d.mv hr fun v e r => r.move kp wd, c, l⟩
theorem RowG.mut (q : RowG K g O H r x) : MutC (H r) := by
  cases hF : g.F with
  | none => obtain ⟨a0, e, _⟩ := q.row hF; rw [e]; exact True.intro
  | some F => obtain ⟨ds, ⟨xs, e, _⟩, _⟩ := q.memo hF; rw [e]; exact notC_raw
theorem RowG.same (h : Same H H') (q : RowG K g O H r x) : RowG K g O H' r x := q.to (fun o e _ => h _ _ e) fun a0 n => ⟨n, fun o e _ => h _ _ e⟩
theorem RowG.sameT {T : List (Addr × Str)} (h : SameT T H H') (q : RowG K g O H r x) : RowG K g O H' r x := q.to (fun o e t => h.1 _ _ e t) fun a0 n => ⟨n, fun o e t => h.1 _ _ e t⟩
theorem RowG.ext (h : LamX.ExtN H H') (q : RowG K g O H r x) : RowG K g O H' r x := q.to (fun o e t => h _ _ e (isNT.ne t)) fun a0 n => ⟨n, fun o e t => h _ _ e (isNT.ne t)⟩
theorem RowG.sub (q : RowG K g O' H r x) (h : ∀ a, O a → O' a) : RowG K g O H r x := q.to (fun o e _ => e) fun a0 n => ⟨fun z => n (h _ z), fun o e _ => e⟩
theorem RowG.updO {p : Addr} {o : HO} (q : RowG K g O H r x) (op : O p) (ne : r ≠ p) : RowG K g O (upd H p o) r x := q.to (fun u e _ => by rw [upd_ne ne]; exact e) fun a0 n => ⟨n, fun u e _ => by rw [upd_ne (show a0 ≠ p from fun z => n (z ▸ op))]; exact e⟩
theorem RowG.new {p : Addr} {o : HO} (q : RowG K g O H r x) (hp : H p = none) : RowG K g O (upd H p o) r x := q.to (fun u e _ => by rw [upd_ne (ne_of_none e hp)]; exact e) fun a0 n => ⟨n, fun u e _ => by rw [upd_ne (ne_of_none e hp)]; exact e⟩
theorem RowG.chg (q : RowG K g O H r x) {g' : FG} (h : g'.F = g.F) (h2 : g'.w = g.w) : RowG K g' O H r x := by
  unfold RowG at q ⊢
  rw [h, h2]; exact q
end
inductive SlOk (K : PySem.W.Frag) (g : FG) (O : Addr → Prop) (H : Hp) : Option V → FSl → Prop
  | no (s : Option V) : SlOk K g O H s .no
  | va {v : V} {d : D} : Rp K O H v d → SlOk K g O H (some v) (.va d)
  | ow {a : Addr} {d : OwD} : O a → ¬ g.O0 a → g.R ≠ some a → OwAt K O H a d → SlOk K g O H (some (.ref a)) (.ow d)
  | rw {r : Addr} : g.R = some r ∧ g.F = none → SlOk K g O H (some (.ref r)) .rw
  | da {a : Addr} {ds : List (D × D)} : O a → ¬ g.O0 a → g.R ≠ some a → DaAt K O H a g.w ds → SlOk K g O H (some (.ref a)) (.da ds)
  | nd {a : Addr} {d : OwD} : O a → ¬ g.O0 a → g.R ≠ some a → NdAt K g O H a d → SlOk K g O H (some (.ref a)) (.nd d)
  | fn {f c : Addr} {q : Str} {gs : List (V × D)} : ¬ O c → H c = some (LamX.CodeO c q) → (∀ p ∈ gs, Rp K O H p.1 p.2) → SlOk K g O H (some (.ref f)) (.fn f c q gs)
  | sg {s C C0 dx d : Addr} {mst : List D → Option D} {vc vz : V} {cd zd : D} : ¬ O s → H s = some (.ins C dx [("cast", vc), ("size", vz), ("known", .ref d)]) → (∀ p ∈ [(vc, cd), (vz, zd)], Rp K O H p.1 p.2) → ((g.R = some d ∧ g.F = some fun p => mst [cd, zd, p]) ∧ PySem.W.nsIn K mainGlobals "Stage" = some (some (.ref C))) → SlOk K g O H (some (.ref s)) (.sg C0 mst cd zd)
structure FSt (ω : World) (K : PySem.W.Frag) (g : FG) (O : Addr → Prop) (σ : L2.St) (H : Hp) (env : FEn) (x : FRow) : Prop where
  sub : ∀ a, g.O0 a → O a
  new : ∀ a, O a → g.O0 a ∨ g.H0 a = none
  dom : ∀ a, O a → MutC (H a)
  le : Le g g.H0 H
  row : ∀ r, g.R = some r → g.O0 r ∧ g.H0 r ≠ none ∧ RowG K g O H r x
  len : σ.length = env.length
  sl : ∀ (i : Nat) s e, σ[i]? = some s → env[i]? = some e → SlOk K g O H s e
  dis : ∀ (i j : Nat) d d' a b, i ≠ j → env[i]? = some (.ow d) → env[j]? = some (.ow d') → σ[i]? = some (some (.ref a)) → σ[j]? = some (some (.ref b)) → a ≠ b
  /-- owned things of lists stand apart from the other ones, and there is one at most -/
  din : ∀ (i j : Nat) d d' a b, env[i]? = some (.nd d) → env[j]? = some (.ow d') → σ[i]? = some (some (.ref a)) → σ[j]? = some (some (.ref b)) → b ≠ a ∧ ¬ Inn H a b
  nn : ∀ (i j : Nat) d d', env[i]? = some (.nd d) → env[j]? = some (.nd d') → i = j
  gh : ∀ p ∈ g.gs, Rp K O H p.1 p.2
  tb : LamX.Tabs g.T H
  tk : TOK K g.T
  nt0 : ∀ a o, g.H0 a = some o → isNT o = true
  ww : g.w = ω
section
variable {ω : World} {K : PySem.W.Frag} {g : FG} {O : Addr → Prop} {σ : L2.St} {H H' : Hp} {env : FEn} {x x' : FRow}
theorem OwAt.move {O' : Addr → Prop} {a : Addr} {d : OwD} (h : OwAt K O H a d) (e : ∀ o, H a = some o → isNT o = true → H' a = some o) (k : Keep O H H') (w : Wid O O' H) : OwAt K O' H' a d := by
  cases d with
  | lst ds => obtain ⟨xs, q, r⟩ := h; exact ⟨xs, e _ q rfl, r.move k w⟩
  | dk ds => obtain ⟨xs, q, r⟩ := h; exact ⟨xs, e _ q rfl, r.move k w⟩
  | dt ds => obtain ⟨xs, q, r⟩ := h; exact ⟨xs, e _ q rfl, r.move k w⟩
theorem FSt.keep (S : FSt ω K g O σ H env x) (h : Le g H H') : Keep O H H' := fun a o n e t => h a o (fun z => n (S.sub a (S.row a z).1)) e t
/-- an expression went by: what is not the row's stays -/
theorem FSt.step (S : FSt ω K g O σ H env x) (h : Le g H H') (ht : LamX.Tabs g.T H') (hr : ∀ r, g.R = some r → RowG K g O H' r x') : FSt ω K g O σ H' env x' where
  tb := ht
  tk := S.tk
  nt0 := S.nt0
  ww := S.ww
  sub := S.sub
  new := S.new
  dom := fun a ha => by
    have z := S.dom a ha
    cases q : H a with
    | none => rw [q] at z; exact z.elim
    | some o =>
      by_cases hR : g.R = some a
      · exact (hr a hR).mut
      · rw [h a o hR q (mut_nt (by rw [q] at z; exact z)), ← q]; exact z
  le := S.le.trans h
  row := fun r e => ⟨(S.row r e).1, (S.row r e).2.1, hr r e⟩
  len := S.len
  sl := fun i s e h1 h2 => by
    have k := S.keep h
    cases S.sl i s e h1 h2 with
    | no => exact .no _
    | va r => exact .va (r.move k .refl)
    | ow a b c d => exact .ow a b c (d.move (fun o q t => h _ o c q t) k .refl)
    | rw e => exact .rw e
    | da a b c d => exact .da a b c (d.mv (fun o q t => h _ o c q t) fun _ _ r => r.move k .refl)
    | nd a b c d => exact .nd a b c (d.mv (by obtain ⟨o, q, t⟩ := d.tk; rw [q]; exact h _ o c q t) (fun b i => by obtain ⟨_, _, r, ys, q⟩ := d.inn i; rw [q]; exact h _ _ r q rfl) (fun _ _ r => r.move k .refl) (fun _ _ r => r.move k .refl) fun _ _ x y z => ⟨x, y, z⟩)
    | fn a b c => exact .fn a (k _ _ a b rfl) fun p hp => (c p hp).move k .refl
    | sg a b c zz => exact .sg a (k _ _ a b rfl) (fun p hp => (c p hp).move k .refl) zz
  dis := S.dis
  din := fun i j d d' a b h1 h2 h3 h4 => by
    have q := S.sl i _ _ h3 h1
    cases q with
    | nd _ _ c n =>
      obtain ⟨o, q, t⟩ := n.tk
      exact ⟨(S.din i j d d' a b h1 h2 h3 h4).1, fun z => (S.din i j d d' a b h1 h2 h3 h4).2 (z.of (by rw [q]; exact h _ o c q t))⟩
  nn := S.nn
  gh := fun p hp => (S.gh p hp).move (S.keep h) .refl
theorem RowAt.to {O' : Addr → Prop} {r : Addr} (q : RowAt K O H r x) (hr : ∀ o, H r = some o → isNT o = true → H' r = some o) (f : ∀ a0, ¬ O a0 → ¬ O' a0 ∧ ∀ o, H a0 = some o → isNT o = true → H' a0 = some o) : RowAt K O' H' r x := by
  obtain ⟨a0, e, q⟩ := q
  exact ⟨a0, hr _ e rfl, q.to (f a0)⟩
theorem RowAt.same {r : Addr} (h : Same H H') (q : RowAt K O H r x) : RowAt K O H' r x := q.to (fun o e _ => h _ _ e) fun a0 n => ⟨n, fun o e _ => h _ _ e⟩
theorem RowAt.sameT {T : List (Addr × Str)} {r : Addr} (h : SameT T H H') (q : RowAt K O H r x) : RowAt K O H' r x := q.to (fun o e t => h.1 _ _ e t) fun a0 n => ⟨n, fun o e t => h.1 _ _ e t⟩
theorem RowAt.ext {r : Addr} (h : LamX.ExtN H H') (q : RowAt K O H r x) : RowAt K O H' r x := q.to (fun o e t => h _ _ e (isNT.ne t)) fun a0 n => ⟨n, fun o e t => h _ _ e (isNT.ne t)⟩
theorem RowAt.sub {O' : Addr → Prop} {r : Addr} (q : RowAt K O' H r x) (h : ∀ a, O a → O' a) : RowAt K O H r x := q.to (fun o e _ => e) fun a0 n => ⟨fun z => n (h _ z), fun o e _ => e⟩
theorem FSt.same (S : FSt ω K g O σ H env x) (h : Same H H') : FSt ω K g O σ H' env x := S.step (.of h) (S.tb.ext h) fun r e => (S.row r e).2.2.same h
theorem FSt.sameT (S : FSt ω K g O σ H env x) (h : SameT g.T H H') : FSt ω K g O σ H' env x := S.step (.ofT h) h.2 fun r e => (S.row r e).2.2.sameT h
theorem notC_ow {O : Addr → Prop} {a : Addr} {d : OwD} {o : HO} (h : OwAt K O H a d) (e : H a = some o) : ¬ IsC o := by
  cases d with
  | lst ds => obtain ⟨xs, q, _⟩ := h; rw [q] at e; cases e; exact notC_lst
  | dk ds => obtain ⟨xs, q, _⟩ := h; rw [q] at e; cases e; exact notC_dK
  | dt ds => obtain ⟨xs, q, _⟩ := h; rw [q] at e; cases e; exact notC_dT
theorem tabs_upd {T : List (Addr × Str)} {a : Addr} {o o' : HO} (t : LamX.Tabs T H) (h : H a = some o) (n : isNT o = true) (c : ¬ IsC o) : LamX.Tabs T (upd H a o') := fun p hp => by
  obtain ⟨ps, h1, h2, h3⟩ := t p hp
  refine ⟨ps, by rw [upd_ne (fun z => by rw [z, h] at h1; cases h1; cases n)]; exact h1, h2, fun pos cv hc => ?_⟩
  obtain ⟨b, e1, e2⟩ := h3 pos cv hc
  exact ⟨b, e1, by rw [upd_ne (fun z => by rw [z, h] at e2; cases e2; exact c ⟨_, _, rfl⟩)]; exact e2⟩
theorem same_upd {p : Addr} {o : HO} (h : H p = none) : Same H (upd H p o) := fun b x e => by
  rw [upd_ne (ne_of_none e h)]
  exact e
theorem FSt.notO (S : FSt ω K g O σ H env x) {p : Addr} (h : H p = none) : ¬ O p := fun z => by
  have q := S.dom p z
  rw [h] at q
  exact q
end
/-! ### readings -/
def tE (ω : World) (K : PySem.W.Frag) (f : FE) : TE := fun σ H Q => ∃ g O env x d x', FSt ω K g O σ H env x ∧ f env x = some (d, x') ∧
  ∀ v H', FSt ω K g O σ H' env x' → Le g H H' → Rp K O H' v d → Q v H'
/-- borrowed: what an owned name holds, too -/
def RpB (K : PySem.W.Frag) (g : FG) (O : Addr → Prop) (H : Hp) (v : V) (d : D) : Prop := Rp K O H v d ∨ ∃ a w, v = .ref a ∧ d = OwD.d w ∧ O a ∧ g.R ≠ some a ∧ OwAt K O H a w
def tB (ω : World) (K : PySem.W.Frag) (f : FE) : TE := fun σ H Q => ∃ g O env x d x', FSt ω K g O σ H env x ∧ f env x = some (d, x') ∧
  ∀ v H', FSt ω K g O σ H' env x' → Le g H H' → RpB K g O H' v d → Q v H'
def tT (ω : World) (K : PySem.W.Frag) (f : FT) : TT := fun σ H Q => ∃ g O env x d x', FSt ω K g O σ H env x ∧ f env x = some (d, x') ∧
  ∀ H', FSt ω K g O σ H' env x' → Le g H H' → Q d H'
def tA (ω : World) (K : PySem.W.Frag) (f : FA) : TA := fun σ H Q => ∃ g O env x d x', FSt ω K g O σ H env x ∧ f env x = some (d, x') ∧
  ∀ v H', FSt ω K g O σ H' env x' → Le g H H' → RpA K O H' v d → Q v H'
def tS (ω : World) (K : PySem.W.Frag) (f : FS) : TS := fun Dn σ H => ∃ g O env x r x', FSt ω K g O σ H env x ∧ f env x = some (r, x') ∧
  match r with
  | .nx env' => ∀ O' σ' H', FSt ω K g O' σ' H' env' x' → Dn.nx σ' H'
  | .bk env' => ∀ O' σ' H', FSt ω K g O' σ' H' env' x' → Dn.bk σ' H'
  | .ct env' => ∀ O' σ' H', FSt ω K g O' σ' H' env' x' → Dn.ct σ' H'
  | .rt d => ∀ O' σ' H' v env', FSt ω K g O' σ' H' env' x' → Rp K O' H' v d → Dn.rt v H'
structure SE (X : Cx) (e : Expr) (f : FE) : Prop where
  out : PE X e (tE X.w X.K f)
structure SB (X : Cx) (e : Expr) (f : FE) : Prop where
  out : PE X e (tB X.w X.K f)
structure ST (X : Cx) (e : Expr) (f : FT) : Prop where
  out : PT X e (tT X.w X.K f)
structure SA (X : Cx) (e : List Expr) (f : FA) : Prop where
  out : PA X e (tA X.w X.K f)
structure SS (X : Cx) (e : Stmt) (f : FS) : Prop where
  out : PS X e (tS X.w X.K f)
structure SSs (X : Cx) (e : List Stmt) (f : FS) : Prop where
  out : PSs X e (tS X.w X.K f)
section
variable {X : Cx} {e : Expr} {t t' : TE}
theorem PEw (h : PE X e t) (q : ∀ σ H Q, t' σ H Q → t σ H Q) : PE X e t' := ⟨fun pins s σ H Q I z => h.run pins s σ H Q I (q _ _ _ z)⟩
theorem PTw {t t' : TT} (h : PT X e t) (q : ∀ σ H Q, t' σ H Q → t σ H Q) : PT X e t' := ⟨fun pins s σ H Q I z => h.run pins s σ H Q I (q _ _ _ z)⟩
theorem PAw {e : List Expr} {t t' : TA} (h : PA X e t) (q : ∀ σ H Q, t' σ H Q → t σ H Q) : PA X e t' := ⟨fun p pins s σ H Q I z => h.run p pins s σ H Q I (q _ _ _ z)⟩
theorem PSw {e : Stmt} {t t' : TS} (h : PS X e t) (q : ∀ σ H Q, t' σ H Q → t σ H Q) : PS X e t' := ⟨fun pins s σ H Q I z => h.run pins s σ H Q I (q _ _ _ z)⟩
theorem PSsw {e : List Stmt} {t t' : TS} (h : PSs X e t) (q : ∀ σ H Q, t' σ H Q → t σ H Q) : PSs X e t' := ⟨fun pins s σ H Q I z => h.run pins s σ H Q I (q _ _ _ z)⟩
end
/-! ### names, constants -/
section
variable {X : Cx}
def fVar (i : Nat) : FE := fun env x => match env[i]? with
  | some (.va d) => some (d, x)
  | _ => none
def fBor (i : Nat) : FE := fun env x => match env[i]? with
  | some (.va d) => some (d, x)
  | some (.ow d) => some (d.d, x)
  | _ => none
def fC (d : D) : FE := fun _ x => some (d, x)
theorem FSt.at {ω : World} {K : PySem.W.Frag} {g : FG} {O : Addr → Prop} {σ : L2.St} {H : Hp} {env : FEn} {x : FRow} (S : FSt ω K g O σ H env x) {i : Nat} {e : FSl} (h : env[i]? = some e) : ∃ s, σ[i]? = some s ∧ SlOk K g O H s e := by
  have hi : i < σ.length := by rw [S.len]; exact (List.getElem?_eq_some_iff.mp h).1
  exact ⟨_, List.getElem?_eq_getElem hi, S.sl i _ e (List.getElem?_eq_getElem hi) h⟩
theorem se_var (i : Nat) {n : Str} {pos : Pos} (hN : X.N[i]? = some n := by rfl) (hv : Vis X.env.scope n := by first | exact Or.inl rfl | exact Or.inr (Or.inl rfl) | exact Or.inr (Or.inr rfl)) (hd : (n == ("__debug__" : Str)) = false := by decide)
    (hcd : (n == ("__classdict__" : Str)) = false := by decide) : SE X (.Name n pos) (fVar i) := by
  refine ⟨PEw (pe_var hN hv hd hcd) fun σ H Q h => ?_⟩
  obtain ⟨g, O, env, x, d, x', S, e, k⟩ := h
  unfold fVar at e
  split at e
  · rename_i q
    cases e
    obtain ⟨s, e1, q1⟩ := S.at q
    cases q1 with
    | va r => exact ⟨_, e1, k _ _ S (Le.refl _ _) r⟩
  · cases e
theorem sb_var (i : Nat) {n : Str} {pos : Pos} (hN : X.N[i]? = some n := by rfl) (hv : Vis X.env.scope n := by first | exact Or.inl rfl | exact Or.inr (Or.inl rfl) | exact Or.inr (Or.inr rfl)) (hd : (n == ("__debug__" : Str)) = false := by decide)
    (hcd : (n == ("__classdict__" : Str)) = false := by decide) : SB X (.Name n pos) (fBor i) := by
  refine ⟨PEw (pe_var hN hv hd hcd) fun σ H Q h => ?_⟩
  obtain ⟨g, O, env, x, d, x', S, e, k⟩ := h
  unfold fBor at e
  split at e
  · rename_i q
    cases e
    obtain ⟨s, e1, q1⟩ := S.at q
    cases q1 with
    | va r => exact ⟨_, e1, k _ _ S (Le.refl _ _) (.inl r)⟩
  · rename_i q
    cases e
    obtain ⟨s, e1, q1⟩ := S.at q
    cases q1 with
    | ow a b c r => exact ⟨_, e1, k _ _ S (Le.refl _ _) (.inr ⟨_, _, rfl, rfl, a, c, r⟩)⟩
  · cases e
theorem sb_of {e : Expr} {f : FE} (h : SE X e f) : SB X e f := by
  refine ⟨PEw h.out fun σ H Q h => ?_⟩
  obtain ⟨g, O, env, x, d, x', S, e, k⟩ := h
  exact ⟨g, O, env, x, d, x', S, e, fun v H' S' l r => k v H' S' l (.inl r)⟩
theorem se_c {e : Expr} {v : V} {d : D} (h : PE X e (tC v)) (r : ∀ K O H, Rp K O H v d) : SE X e (fC d) := by
  refine ⟨PEw h fun σ H Q h => ?_⟩
  obtain ⟨g, O, env, x, d, x', S, e, k⟩ := h
  cases e
  exact k _ _ S (Le.refl _ _) (r _ _ _)
theorem se_int {i j pos} : SE X (.Constant (.int i) j pos) (fC (.int i)) := se_c pe_int fun _ _ _ => .int i
theorem se_bl {i j pos} : SE X (.Constant (.bool i) j pos) (fC (.bool i)) := se_c pe_bl fun _ _ _ => .bl i
theorem se_str {i j pos} : SE X (.Constant (.str i) j pos) (fC (.str i)) := se_c pe_str fun _ _ _ => .str i
theorem se_non {j pos} : SE X (.Constant .none j pos) (fC .none) := se_c pe_non fun _ _ _ => .non
/-- a constant of the module -/
theorem se_glob {n : Str} {v : V} {d : D} {u : Value} {pos : Pos} (hg : Gl X n) (hm : X.mg n = some u) (r : RelV v u) (q : ∀ K O H, Rp K O H v d) (hd : (n == ("__debug__" : Str)) = false := by decide) : SE X (.Name n pos) (fC d) := se_c (pe_glob hg hm r hd) q
/-! ### argument lists, displays -/
def aNil : FA := fun _ x => some ([], x)
def aCons (f : FE) (t : FA) : FA := fun env x => match f env x with
  | some (d, x1) => match t env x1 with
    | some (ds, x2) => some (d :: ds, x2)
    | none => none
  | none => none
theorem sa_nil : SA X [] aNil := by
  refine ⟨PAw pa_nil fun σ H Q h => ?_⟩
  obtain ⟨g, O, env, x, d, x', S, e, k⟩ := h
  cases e
  exact k _ _ S (Le.refl _ _) .nil
theorem sa_cons {e : Expr} {es : List Expr} {f : FE} {t : FA} (h : SE X e f) (ht : SA X es t) (hs : starEach (e :: es) X.env = (false, eval e X.env) :: starEach es X.env := by rfl) : SA X (e :: es) (aCons f t) := by
  refine ⟨PAw (pa_cons h.out ht.out hs) fun σ H Q h => ?_⟩
  obtain ⟨g, O, env, x, d, x', S, e, k⟩ := h
  unfold aCons at e
  split at e
  · rename_i d1 x1 e1
    split at e
    · rename_i ds x2 e2
      cases e
      refine ⟨g, O, env, x, d1, x1, S, e1, fun v H1 S1 l1 r1 => ?_⟩
      refine ⟨g, O, env, x1, ds, x', S1, e2, fun vs H2 S2 l2 r2 => ?_⟩
      exact k _ _ S2 (l1.trans l2) (.cons (r1.move (S1.keep l2) .refl) r2)
    · cases e
  · cases e
def maxLen : Nat := 1000000
theorem maxLen_ok {n : Nat} (h : n ≤ maxLen) : n ≤ sizeLine := Nat.le_trans h (by rw [sizeLine_eq]; decide)
def fTup (t : FA) : FE := fun env x => match t env x with
  | some (ds, x1) => if ds.length ≤ maxLen then some (.tuple ds, x1) else none
  | none => none
def fLst (t : FA) : FE := fun env x => match t env x with
  | some (ds, x1) => if ds.length ≤ maxLen then some (.list ds, x1) else none
  | none => none
theorem se_tup {es : List Expr} {f : FA} {k : Nat} {pos : Pos} (h : SA X es f) : SE X (.Tuple es k pos) (fTup f) := by
  refine ⟨PEw (pe_tup h.out) fun σ H Q h => ?_⟩
  obtain ⟨g, O, env, x, d, x', S, e, k⟩ := h
  unfold fTup at e
  split at e
  · rename_i ds x1 e1
    split at e
    · rename_i hl
      cases e
      refine ⟨g, O, env, x, ds, x', S, e1, fun v H1 S1 l1 r1 => ⟨by rw [r1.length]; exact maxLen_ok hl, fun p hp => ?_⟩⟩
      have sm := same_upd (o := .tup v) hp
      exact k _ _ (S1.same sm) (l1.trans (.of sm)) (.tup (S1.notO hp) upd_same (r1.move (.of sm) .refl))
    · cases e
  · cases e
theorem se_lst {es : List Expr} {f : FA} {pos : Pos} (h : SA X es f) : SE X (.List es pos) (fLst f) := by
  refine ⟨PEw (pe_lst h.out) fun σ H Q h => ?_⟩
  obtain ⟨g, O, env, x, d, x', S, e, k⟩ := h
  unfold fLst at e
  split at e
  · rename_i ds x1 e1
    split at e
    · rename_i hl
      cases e
      refine ⟨g, O, env, x, ds, x', S, e1, fun v H1 S1 l1 r1 => ⟨by rw [r1.length]; exact maxLen_ok hl, fun p hp => ?_⟩⟩
      have sm := same_upd (o := .lst v) hp
      exact k _ _ (S1.same sm) (l1.trans (.of sm)) (.lst (S1.notO hp) upd_same (r1.move (.of sm) .refl))
    · cases e
  · cases e
end
end RT
namespace RT
open PySem PySem.Spec PyProof.Rows L2
section
variable {ω : World} {K : PySem.W.Frag} {g : FG} {O O' : Addr → Prop} {σ : L2.St} {H H' : Hp} {env : FEn} {x x' : FRow}
theorem RpB.step {v : V} {d : D} (S : FSt ω K g O σ H env x) (h : Le g H H') (r : RpB K g O H v d) : RpB K g O H' v d := by
  rcases r with r | ⟨a, w, rfl, rfl, ha, hr, z⟩
  · exact .inl (r.move (S.keep h) .refl)
  · exact .inr ⟨a, w, rfl, rfl, ha, hr, z.move (fun o q t => h a o hr q t) (S.keep h) .refl⟩
theorem Rp.step {v : V} {d : D} (S : FSt ω K g O σ H env x) (h : Le g H H') (r : Rp K O H v d) : Rp K O H' v d := r.move (S.keep h) .refl
theorem RpA.step {v : List V} {d : List D} (S : FSt ω K g O σ H env x) (h : Le g H H') (r : RpA K O H v d) : RpA K O H' v d := r.move (S.keep h) .refl
/-- what is borrowed and no list, no dict is plain -/
theorem RpB.tup {v : V} {ds : List D} (r : RpB K g O H v (.tuple ds)) : Rp K O H v (.tuple ds) := by
  rcases r with r | ⟨a, w, rfl, e, ha, hr, z⟩
  · exact r
  · cases w <;> cases e
theorem RpB.int {v : V} {i : Int} (r : RpB K g O H v (.int i)) : v = .int i := by
  rcases r with r | ⟨a, w, rfl, e, ha, hr, z⟩
  · cases r; rfl
  · cases w <;> cases e
theorem RpB.bl {v : V} {i : Bool} (r : RpB K g O H v (.bool i)) : v = .bl i := by
  rcases r with r | ⟨a, w, rfl, e, ha, hr, z⟩
  · cases r; rfl
  · cases w <;> cases e
theorem RpB.str {v : V} {i : Str} (r : RpB K g O H v (.str i)) : v = .str i := by
  rcases r with r | ⟨a, w, rfl, e, ha, hr, z⟩
  · cases r; rfl
  · cases w <;> cases e
theorem RpB.non {v : V} (r : RpB K g O H v .none) : v = .non := by
  rcases r with r | ⟨a, w, rfl, e, ha, hr, z⟩
  · cases r; rfl
  · cases w <;> cases e
theorem RpB.lst {v : V} {ds : List D} (r : RpB K g O H v (.list ds)) : ∃ a xs, v = .ref a ∧ H a = some (.lst xs) ∧ RpA K O H xs ds := by
  rcases r with r | ⟨a, w, rfl, e, ha, hr, z⟩
  · cases r with
    | lst n e r => exact ⟨_, _, rfl, e, r⟩
  · cases w with
    | lst ds' =>
      cases e
      obtain ⟨xs, e, r⟩ := z
      exact ⟨_, _, rfl, e, r⟩
    | _ => cases e
theorem RpB.seq {v : V} {ds : List D} {d : D} (h : d = .list ds ∨ d = .tuple ds) (r : RpB K g O H v d) : ∃ a xs, v = .ref a ∧ (SqL K H a xs ∨ SqT K H a xs) ∧ RpA K O H xs ds := by
  rcases h with rfl | rfl
  · obtain ⟨a, xs, e, q, r⟩ := r.lst
    exact ⟨a, xs, e, .inl (.of q), r⟩
  · have r := r.tup
    obtain ⟨a, rfl⟩ := r.isRef
    obtain ⟨xs, q, r⟩ := r.seqT
    exact ⟨a, xs, rfl, .inr q, r⟩
theorem RpB.dct {v : V} {ds : List (D × D)} (r : RpB K g O H v (.dict ds)) : ∃ a kvs, v = .ref a ∧ L2.Rd H a (.dK kvs) ∧ RpK K O H kvs ds := by
  rcases r with r | ⟨a, w, rfl, e, ha, hr, z⟩
  · cases r with
    | dK n e r => exact ⟨_, _, rfl, e, r⟩
  · cases w with
    | dk ds' =>
      cases e
      obtain ⟨kvs, e, r⟩ := z
      exact ⟨_, _, rfl, .inl e, r⟩
    | _ => cases e
theorem RpB.dcT {v : V} {ds : List (D × D)} (r : RpB K g O H v (.dictT ds)) : ∃ a kvs, v = .ref a ∧ L2.Rd H a (.dT kvs) ∧ RpT K O H kvs ds := by
  rcases r with r | ⟨a, w, rfl, e, ha, hr, z⟩
  · cases r with
    | dT n e r => exact ⟨_, _, rfl, e, r⟩
  · cases w with
    | dt ds' =>
      cases e
      obtain ⟨kvs, e, r⟩ := z
      exact ⟨_, _, rfl, .inl e, r⟩
    | _ => cases e
theorem RpB.dp {v : V} {d : D} (r : RpB K g O H v d) (s : shapedD d = true) : Dp K H v d.py := by
  have s := SeqAt.canLay_of_shaped s
  rcases r with r | ⟨a, w, rfl, e, ha, hr, z⟩
  · exact r.dp s
  · cases w with
    | lst ds' =>
      subst e
      obtain ⟨xs, e, r⟩ := z
      simp only [OwD.d, D.py] at s ⊢
      exact .lst (.of e) (r.dp (by simpa [PyData.canLay0] using s))
    | _ => subst e; simp [OwD.d, D.py, PyData.canLay0] at s
/-- two expressions in a row -/
theorem two {fa fb : FE} {R : V → V → Hp → Prop} {d e : D} {x1 x2 : FRow} (S : FSt ω K g O σ H env x) (h1 : fa env x = some (d, x1)) (h2 : fb env x1 = some (e, x2))
    (k : ∀ v w H', FSt ω K g O σ H' env x2 → Le g H H' → RpB K g O H' v d → RpB K g O H' w e → R v w H') : tB ω K fa σ H fun v H1 => tB ω K fb σ H1 fun w H2 => R v w H2 :=
  ⟨g, O, env, x, d, x1, S, h1, fun v H1 S1 l1 r1 => ⟨g, O, env, x1, e, x2, S1, h2, fun w H2 S2 l2 r2 => k v w H2 S2 (l1.trans l2) (r1.step S1 l2) r2⟩⟩
end
/-! ### operators -/
def OpD (X : Cx) (fop : Value → Value → Sem Value) (gd : D → D → Option D) : Prop :=
  OpR X fop fun v w H Q => ∃ g O σ env x d e r, FSt X.w X.K g O σ H env x ∧ RpB X.K g O H v d ∧ RpB X.K g O H w e ∧ gd d e = some r ∧ ∀ u H', Same H H' → Rp X.K O H' u r → Q u H'
def fBin (gd : D → D → Option D) (fa fb : FE) : FE := fun env x => match fa env x with
  | some (d, x1) => match fb env x1 with
    | some (e, x2) => match gd d e with
      | some r => some (r, x2)
      | none => none
    | none => none
  | none => none
theorem fBin_some {gd : D → D → Option D} {fa fb : FE} {env : FEn} {x : FRow} {p : D × FRow} (h : fBin gd fa fb env x = some p) : ∃ d x1 e r, fa env x = some (d, x1) ∧ fb env x1 = some (e, p.2) ∧ gd d e = some r ∧ r = p.1 := by
  unfold fBin at h
  split at h
  · split at h
    · split at h
      · cases h
        exact ⟨_, _, _, _, by assumption, by assumption, by assumption, rfl⟩
      · cases h
    · cases h
  · cases h
section
variable {X : Cx} {a b : Expr} {fa fb : FE} {pos : Pos}
theorem se_op {op : Operator} {gd : D → D → Option D} (ho : OpD X (binaryOp op) gd) (ha : SB X a fa) (hb : SB X b fb) : SE X (.BinOp a op b pos) (fBin gd fa fb) := by
  refine ⟨PEw (pe_op ho ha.out hb.out) fun σ H Q h => ?_⟩
  obtain ⟨g, O, env, x, d, x', S, e, k⟩ := h
  obtain ⟨da, x1, db, r, e1, e2, e3, rfl⟩ := fBin_some e
  exact two S e1 e2 fun v w H' S' l rv rw => ⟨g, O, σ, env, x', da, db, _, S', rv, rw, e3, fun u H2 sm q => k u H2 (S'.same sm) (l.trans (.of sm)) q⟩
theorem se_cmp {op : CmpOp} {gd : D → D → Option D} (ho : OpD X (compareOp op) gd) (ha : SB X a fa) (hb : SB X b fb) (hm : behindInMarks op b = false) : SE X (.Compare a [op] [b] pos) (fBin gd fa fb) := by
  refine ⟨PEw (pe_cmpR ho ha.out hb.out hm) fun σ H Q h => ?_⟩
  obtain ⟨g, O, env, x, d, x', S, e, k⟩ := h
  obtain ⟨da, x1, db, r, e1, e2, e3, rfl⟩ := fBin_some e
  exact two S e1 e2 fun v w H' S' l rv rw => ⟨g, O, σ, env, x', da, db, _, S', rv, rw, e3, fun u H2 sm q => k u H2 (S'.same sm) (l.trans (.of sm)) q⟩
/-- a test whose value is a bool -/
def fTst (f : FE) : FT := fun env x => match f env x with
  | some (.bool b, x1) => some (b, x1)
  | _ => none
theorem fTst_some {f : FE} {env : FEn} {x : FRow} {p : Bool × FRow} (h : fTst f env x = some p) : f env x = some (.bool p.1, p.2) := by
  unfold fTst at h
  split at h
  · cases h; assumption
  · cases h
theorem st_cmp {op : CmpOp} {gd : D → D → Option D} (ho : OpD X (compareOp op) gd) (ha : SB X a fa) (hb : SB X b fb) (hm : behindInMarks op b = false) : ST X (.Compare a [op] [b] pos) (fTst (fBin gd fa fb)) := by
  refine ⟨PTw (pt_cmpR ho ha.out hb.out hm) fun σ H Q h => ?_⟩
  obtain ⟨g, O, env, x, d, x', S, e, k⟩ := h
  obtain ⟨da, x1, db, r, e1, e2, e3, e4⟩ := fBin_some (fTst_some e)
  refine two S e1 e2 fun v w H' S' l rv rw => ⟨g, O, σ, env, x', da, db, _, S', rv, rw, e3, fun u H2 sm q => ?_⟩
  simp only at e4
  rw [e4] at q
  cases q
  exact ⟨_, rfl, k H2 (S'.same sm) (l.trans (.of sm))⟩
def gOr (g1 g2 : D → D → Option D) : D → D → Option D := fun d e => match g1 d e with
  | some r => some r
  | none => g2 d e
theorem OpD.or {f : Value → Value → Sem Value} {g1 g2 : D → D → Option D} (h1 : OpD X f g1) (h2 : OpD X f g2) : OpD X f (gOr g1 g2) := by
  intro pins s σ H x y v u Q I rx ry h
  obtain ⟨g, O, σ', env, x, d, e, r, S, rv, rw, q, k⟩ := h
  unfold gOr at q
  split at q
  · rename_i r' q'
    cases q
    exact h1 pins s σ H _ _ v u Q I rx ry ⟨g, O, σ', env, x, d, e, r, S, rv, rw, q', k⟩
  · exact h2 pins s σ H _ _ v u Q I rx ry ⟨g, O, σ', env, x, d, e, r, S, rv, rw, q, k⟩
/-- from a rule of the layer -/
theorem OpD.by {f : Value → Value → Sem Value} {r : R2} {gd : D → D → Option D} (h : OpR X f r)
    (q : ∀ g O σ env x d e z H v w Q, FSt X.w X.K g O σ H env x → RpB X.K g O H v d → RpB X.K g O H w e → gd d e = some z → (∀ u H', Same H H' → Rp X.K O H' u z → Q u H') → r v w H Q) : OpD X f gd := by
  intro pins s σ H x y v u Q I rx ry h2
  obtain ⟨g, O, σ', env, x, d, e, r, S, rv, rw, q', k⟩ := h2
  exact h pins s σ H _ _ v u Q I rx ry (q _ _ _ _ _ _ _ _ _ _ _ _ S rv rw q' k)
def gI (p : Int → Int → Bool) (c : Int → Int → D) : D → D → Option D
  | .int i, .int j => if p i j then some (c i j) else none
  | _, _ => none
theorem gI_some {p : Int → Int → Bool} {c : Int → Int → D} {d e z : D} (h : gI p c d e = some z) : ∃ i j, d = .int i ∧ e = .int j ∧ p i j = true ∧ z = c i j := by
  unfold gI at h
  split at h
  · split at h
    · cases h; exact ⟨_, _, rfl, rfl, by assumption, rfl⟩
    · cases h
  · cases h
abbrev yes2 : Int → Int → Bool := fun _ _ => true
theorem od_int0 {f : Value → Value → Sem Value} {c : Int → Int → Int} (h : OpR X f (rI0 fun i j => .int (c i j))) : OpD X f (gI yes2 fun i j => .int (c i j)) := by
  refine OpD.by h fun g O σ env x d e z H v w Q S rv rw q k => ?_
  obtain ⟨i, j, rfl, rfl, _, rfl⟩ := gI_some q
  exact ⟨i, j, rv.int, rw.int, k _ _ (Same.refl _) (.int _)⟩
theorem od_bool0 {f : Value → Value → Sem Value} {c : Int → Int → Bool} (h : OpR X f (rI0 fun i j => .bl (c i j))) : OpD X f (gI yes2 fun i j => .bool (c i j)) := by
  refine OpD.by h fun g O σ env x d e z H v w Q S rv rw q k => ?_
  obtain ⟨i, j, rfl, rfl, _, rfl⟩ := gI_some q
  exact ⟨i, j, rv.int, rw.int, k _ _ (Same.refl _) (.bl _)⟩
theorem od_intC {f : Value → Value → Sem Value} {C : Int → Int → Prop} {p : Int → Int → Bool} {c : Int → Int → Int} (h : OpR X f (rI C fun i j => .int (c i j))) (hp : ∀ i j, p i j = true → C i j) : OpD X f (gI p fun i j => .int (c i j)) := by
  refine OpD.by h fun g O σ env x d e z H v w Q S rv rw q k => ?_
  obtain ⟨i, j, rfl, rfl, hq, rfl⟩ := gI_some q
  exact ⟨i, j, rv.int, rw.int, hp _ _ hq, k _ _ (Same.refl _) (.int _)⟩
abbrev gAddI := gI yes2 fun i j => .int (i + j)
abbrev gSubI := gI yes2 fun i j => .int (i - j)
def pMul (i j : Int) : Bool := decide (-(2 ^ 64) < i ∧ i < 2 ^ 64) || decide (-(2 ^ 64) < j ∧ j < 2 ^ 64)
def pDiv (_ j : Int) : Bool := decide (0 < j ∧ j < 1073741824)
def pMod (_ j : Int) : Bool := decide (0 < j)
def pPow (i j : Int) : Bool := decide (0 ≤ j ∧ j ≤ 1000000 ∧ i.natAbs < 2 ^ 64)
abbrev gMulI := gI pMul fun i j => .int (i * j)
abbrev gDivI := gI pDiv fun i j => .int (i / j)
abbrev gModI := gI pMod fun i j => .int (i % j)
abbrev gPowI := gI pPow fun i j => .int (i ^ j.toNat)
theorem od_add : OpD X (binaryOp .Add) gAddI := od_int0 op_add
theorem od_sub : OpD X (binaryOp .Sub) gSubI := od_int0 op_sub
theorem od_mul : OpD X (binaryOp .Mult) gMulI := od_intC op_mul fun i j h => by
  rcases Bool.or_eq_true_iff.mp h with h | h
  · exact .inl (of_decide_eq_true h)
  · exact .inr (of_decide_eq_true h)
theorem od_div : OpD X (binaryOp .FloorDiv) gDivI := od_intC op_fdiv fun i j h => (show 0 < j ∧ j < 1073741824 from of_decide_eq_true h)
theorem od_mod : OpD X (binaryOp .Mod) gModI := od_intC op_mod fun i j h => of_decide_eq_true h
theorem od_pow : OpD X (binaryOp .Pow) gPowI := od_intC op_pow fun i j h => (show 0 ≤ j ∧ j ≤ 1000000 ∧ i.natAbs < 2 ^ 64 from of_decide_eq_true h)
theorem od_lt : OpD X (compareOp .Lt) (gI yes2 fun i j => .bool (decide (i < j))) := od_bool0 op_lt
theorem od_le : OpD X (compareOp .LtE) (gI yes2 fun i j => .bool (decide (i ≤ j))) := od_bool0 op_le
theorem od_gt : OpD X (compareOp .Gt) (gI yes2 fun i j => .bool (decide (j < i))) := od_bool0 op_gt
theorem od_ge : OpD X (compareOp .GtE) (gI yes2 fun i j => .bool (decide (j ≤ i))) := od_bool0 op_ge
/-- tuple + tuple, list + list -/
def gCatT : D → D → Option D
  | .tuple xs, .tuple ys => if xs.length + ys.length ≤ maxLen then some (.tuple (xs ++ ys)) else none
  | _, _ => none
def gCatL : D → D → Option D
  | .list xs, .list ys => if xs.length + ys.length ≤ maxLen then some (.list (xs ++ ys)) else none
  | _, _ => none
theorem od_catT : OpD X (binaryOp .Add) gCatT := by
  refine OpD.by op_catA fun g O σ env x d e z H v w Q S rv rw q k => ?_
  unfold gCatT at q
  split at q
  · rename_i ds es
    split at q
    · rename_i hl
      cases q
      have rv := rv.tup
      have rw := rw.tup
      obtain ⟨p1, rfl⟩ := rv.isRef
      obtain ⟨p2, rfl⟩ := rw.isRef
      obtain ⟨xs, q1, r1⟩ := rv.seqT
      obtain ⟨ys, q2, r2⟩ := rw.seqT
      refine ⟨p1, p2, xs, ys, rfl, rfl, q1, q2, by rw [r1.length, r2.length]; exact maxLen_ok hl, fun e => ?_, fun _ e => ?_, fun _ _ p hp => ?_⟩
      · subst e
        cases r1
        exact k _ _ (Same.refl _) rw
      · subst e
        cases r2
        rw [List.append_nil] at k
        exact k _ _ (Same.refl _) rv
      · have sm := same_upd (o := .tup (xs ++ ys)) hp
        exact k _ _ sm (.tup (S.notO hp) upd_same ((r1.app r2).move (.of sm) .refl))
    · cases q
  · cases q
theorem od_catL : OpD X (binaryOp .Add) gCatL := by
  refine OpD.by op_cat fun g O σ env x d e z H v w Q S rv rw q k => ?_
  unfold gCatL at q
  split at q
  · rename_i ds es
    split at q
    · rename_i hl
      cases q
      obtain ⟨p1, xs, rfl, q1, r1⟩ := rv.lst
      obtain ⟨p2, ys, rfl, q2, r2⟩ := rw.lst
      refine ⟨p1, p2, xs, ys, rfl, rfl, q1, q2, by rw [r1.length, r2.length]; exact maxLen_ok hl, fun p hp => ?_⟩
      have sm := same_upd (o := .lst (xs ++ ys)) hp
      exact k _ _ sm (.lst (S.notO hp) upd_same ((r1.app r2).move (.of sm) .refl))
    · cases q
  · cases q
theorem RpA.rep {K : PySem.W.Frag} {O : Addr → Prop} {H : Hp} {xs : List V} {ds : List D} (r : RpA K O H xs ds) : ∀ k : Nat, RpA K O H (List.replicate k xs).flatten (List.replicate k ds).flatten
  | 0 => .nil
  | k + 1 => by
    rw [List.replicate_succ, List.replicate_succ, List.flatten_cons, List.flatten_cons]
    exact r.app (RpA.rep r k)
/-- list * int -/
def gRepL : D → D → Option D
  | .list xs, .int k => if 0 ≤ k ∧ k ≤ 1000 ∧ xs.length ≤ 1000 then some (.list (List.replicate k.toNat xs).flatten) else none
  | _, _ => none
theorem od_repL : OpD X (binaryOp .Mult) gRepL := by
  refine OpD.by op_rep fun g O σ env x d e z H v w Q S rv rw q k => ?_
  unfold gRepL at q
  split at q
  · rename_i ds j
    split at q
    · rename_i hl
      cases q
      obtain ⟨p1, xs, rfl, q1, r1⟩ := rv.lst
      have lx : xs.length * j.toNat ≤ 1000000 := by
        rw [r1.length]
        exact Nat.le_trans (Nat.mul_le_mul hl.2.2 (show j.toNat ≤ 1000 by omega)) (by decide)
      refine ⟨p1, j, xs, rfl, rw.int, q1, by omega, by omega, maxLen_ok lx, fun p hp => ?_⟩
      have sm := same_upd (o := .lst (List.replicate j.toNat xs).flatten) hp
      exact k _ _ sm (.lst (S.notO hp) upd_same ((r1.rep _).move (.of sm) .refl))
    · cases q
  · cases q
/-- ==, != of data -/
def gEq : D → D → Option D := fun d e => if shapedD d && shapedD e then some (.bool (eqD d e)) else none
def gNe : D → D → Option D := fun d e => if shapedD d && shapedD e then some (.bool (!eqD d e)) else none
theorem od_eq (hu : X.A.units + 64 < cLine) : OpD X (compareOp .Eq) gEq := by
  refine OpD.by (op_eqD hu) fun g O σ env x d e z H v w Q S rv rw q k => ?_
  unfold gEq at q
  split at q
  · rename_i h
    cases q
    obtain ⟨h1, h2⟩ := Bool.and_eq_true_iff.mp h
    exact ⟨d.py, e.py, rv.dp h1, rw.dp h2, h1, h2, k _ _ (Same.refl _) (.bl _)⟩
  · cases q
theorem od_ne (hu : X.A.units + 64 < cLine) : OpD X (compareOp .NotEq) gNe := by
  refine OpD.by (op_neD hu) fun g O σ env x d e z H v w Q S rv rw q k => ?_
  unfold gNe at q
  split at q
  · rename_i h
    cases q
    obtain ⟨h1, h2⟩ := Bool.and_eq_true_iff.mp h
    exact ⟨d.py, e.py, rv.dp h1, rw.dp h2, h1, h2, k _ _ (Same.refl _) (.bl _)⟩
  · cases q
/-- is None -/
def isNoneD : D → Bool
  | .none => true
  | _ => false
def gIsN : D → D → Option D := fun d e => match e with
  | .none => some (.bool (isNoneD d))
  | _ => none
def gNotN : D → D → Option D := fun d e => match e with
  | .none => some (.bool (!isNoneD d))
  | _ => none
theorem isNone_ok {K : PySem.W.Frag} {g : FG} {O : Addr → Prop} {H : Hp} {v : V} {d : D} (r : RpB K g O H v d) : decide (v = .non) = isNoneD d := by
  rcases r with r | ⟨a, w, rfl, rfl, ha, hr, z⟩
  · cases r <;> first | rfl | simp [isNoneD]
  · cases w <;> simp [isNoneD, OwD.d]
theorem od_isN : OpD X (compareOp .Is) gIsN := by
  refine OpD.by op_isN fun g O σ env x d e z H v w Q S rv rw q k => ?_
  unfold gIsN at q
  split at q
  · cases q
    refine ⟨rw.non, ?_⟩
    rw [isNone_ok rv]
    exact k _ _ (Same.refl _) (.bl _)
  · cases q
theorem od_notN : OpD X (compareOp .IsNot) gNotN := by
  refine OpD.by op_notN fun g O σ env x d e z H v w Q S rv rw q k => ?_
  unfold gNotN at q
  split at q
  · cases q
    refine ⟨rw.non, ?_⟩
    rw [isNone_ok rv]
    exact k _ _ (Same.refl _) (.bl _)
  · cases q
theorem any_py (d : D) : ∀ ds : List D, ((pyAll ds).any fun z => PyData.eqv z d.py) = ds.any fun z => eqD z d
  | [] => by simp only [pyAll, List.any_nil]
  | x :: xs => by simp only [pyAll, List.any_cons, any_py d xs, eqD]
/-- x in list -/
def gIn : D → D → Option D := fun d e => match e with
  | .list ds => if shapedD d && shapedD (.list ds) then some (.bool (ds.any fun z => eqD z d)) else none
  | _ => none
theorem od_in (hu : X.A.units + 65 < cLine) : OpD X (compareOp .In) gIn := by
  refine OpD.by (op_inD hu) fun g O σ env x d e z H v w Q S rv rw q k => ?_
  unfold gIn at q
  split at q
  · rename_i ds
    split at q
    · rename_i h
      cases q
      obtain ⟨h1, h2⟩ := Bool.and_eq_true_iff.mp h
      have h3 := rw.dp h2
      simp only [shapedD, D.py] at h1 h2 h3
      refine ⟨d.py, pyAll ds, rv.dp h1, h3, h1, h2, ?_⟩
      rw [any_py]
      exact k _ _ (Same.refl _) (.bl _)
    · cases q
  · cases q
end
end RT
namespace RT
open PySem PySem.Spec PyProof.Rows L2
section
variable {X : Cx} {a b c e : Expr} {es : List Expr} {fa fb fc f : FE} {pos : Pos}
/-! ### chains, and, or, not, if -/
def fChain (g1 g2 : D → D → Option D) (fa fb fc : FE) : FE := fun env x => match fa env x with
  | some (d, x1) => match fb env x1 with
    | some (e, x2) => match g1 d e with
      | some (.bool true) => match fc env x2 with
        | some (h, x3) => match g2 e h with
          | some (.bool r) => some (.bool r, x3)
          | _ => none
        | none => none
      | some (.bool false) => some (.bool false, x2)
      | _ => none
    | none => none
  | none => none
theorem se_chain {op op' : CmpOp} {g1 g2 : D → D → Option D} (ho : OpD X (compareOp op) g1) (ho' : OpD X (compareOp op') g2) (ha : SB X a fa) (hb : SB X b fb) (hc : SB X c fc)
    (hm : lastMarks [op, op'] [b, c] = false := by with_unfolding_all rfl) : SE X (.Compare a [op, op'] [b, c] pos) (fChain g1 g2 fa fb fc) := by
  refine ⟨PEw (pe_chain ho ho' ha.out hb.out hc.out hm) fun σ H Q h => ?_⟩
  obtain ⟨g, O, env, x, d, x', S, e, k⟩ := h
  unfold fChain at e
  split at e
  · rename_i da x1 e1
    split at e
    · rename_i db x2 e2
      split at e
      · rename_i e3
        split at e
        · rename_i dc x3 e4
          split at e
          · rename_i r e5
            cases e
            refine two S e1 e2 fun v w H' S' l rv rw => ⟨g, O, σ, env, x2, da, db, _, S', rv, rw, e3, fun u H2 sm q => ?_⟩
            cases q
            refine ⟨true, rfl, ?_⟩
            refine iteT ?_
            refine ⟨g, O, env, x2, dc, x', S'.same sm, e4, fun y H3 S3 l3 r3 => ⟨g, O, σ, env, x', db, dc, _, S3, RpB.step (S'.same sm) l3 (RpB.step S' (.of sm) rw), r3, e5, fun u H4 sm4 q => k u H4 (S3.same sm4) (((l.trans (.of sm)).trans l3).trans (.of sm4)) q⟩⟩
          · cases e
        · cases e
      · rename_i e3
        cases e
        refine two S e1 e2 fun v w H' S' l rv rw => ⟨g, O, σ, env, x', da, db, _, S', rv, rw, e3, fun u H2 sm q => ?_⟩
        cases q
        refine ⟨false, rfl, ?_⟩
        refine iteF ?_
        exact k _ _ (S'.same sm) (l.trans (.of sm)) (.bl false)
      · cases e
    · cases e
  · cases e
def fAnd (fa fb : FE) : FE := fun env x => match fa env x with
  | some (.bool true, x1) => fb env x1
  | some (.bool false, x1) => some (.bool false, x1)
  | _ => none
def fOr (fa fb : FE) : FE := fun env x => match fa env x with
  | some (.bool true, x1) => some (.bool true, x1)
  | some (.bool false, x1) => fb env x1
  | _ => none
theorem se_one {op : BoolOp} (h : SE X a fa) : SE X (.BoolOp op [a] pos) fa := ⟨pe_one h.out⟩
theorem se_and {rest : List Expr} (ha : SE X a fa) (hb : SE X (.BoolOp .And (b :: rest) pos) fb) : SE X (.BoolOp .And (a :: b :: rest) pos) (fAnd fa fb) := by
  refine ⟨PEw (pe_and ha.out hb.out) fun σ H Q h => ?_⟩
  obtain ⟨g, O, env, x, d, x', S, e, k⟩ := h
  unfold fAnd at e
  split at e
  · rename_i x1 e1
    refine ⟨g, O, env, x, _, x1, S, e1, fun v H1 S1 l1 r1 => ?_⟩
    cases r1
    refine ⟨true, rfl, ?_⟩
    refine iteT ?_
    exact ⟨g, O, env, x1, d, x', S1, e, fun v H2 S2 l2 r2 => k v H2 S2 (l1.trans l2) r2⟩
  · rename_i x1 e1
    cases e
    refine ⟨g, O, env, x, _, x', S, e1, fun v H1 S1 l1 r1 => ?_⟩
    cases r1
    refine ⟨false, rfl, ?_⟩
    refine iteF ?_
    exact k _ _ S1 l1 (.bl false)
  · cases e
def fNot (fa : FE) : FE := fun env x => match fa env x with
  | some (.bool b, x1) => some (.bool (!b), x1)
  | _ => none
theorem se_not (ha : SE X a fa) : SE X (.UnaryOp .Not a pos) (fNot fa) := by
  refine ⟨PEw (pe_not ha.out) fun σ H Q h => ?_⟩
  obtain ⟨g, O, env, x, d, x', S, e, k⟩ := h
  unfold fNot at e
  split at e
  · rename_i bb x1 e1
    cases e
    refine ⟨g, O, env, x, _, x', S, e1, fun v H1 S1 l1 r1 => ?_⟩
    cases r1
    exact ⟨bb, rfl, k _ _ S1 l1 (.bl _)⟩
  · cases e
def fNeg (fa : FE) : FE := fun env x => match fa env x with
  | some (.int i, x1) => some (.int (-i), x1)
  | _ => none
/-! ### tests -/
structure SW (X : Cx) (e : Expr) (f : FT) : Prop where
  out : PW X e (tT X.w X.K f)
theorem PWw {t t' : TT} (h : PW X e t) (q : ∀ σ H Q, t' σ H Q → t σ H Q) : PW X e t' := ⟨fun wh pins s σ H Q I z => h.run wh pins s σ H Q I (q _ _ _ z)⟩
theorem st_w {f : FT} (h : SW X e f) : ST X e f := ⟨h.out.pt⟩
variable {ta tb tc : FT}
def tAndF (fa fb : FT) : FT := fun env x => match fa env x with
  | some (true, x1) => fb env x1
  | some (false, x1) => some (false, x1)
  | none => none
def tOrF (fa fb : FT) : FT := fun env x => match fa env x with
  | some (true, x1) => some (true, x1)
  | some (false, x1) => fb env x1
  | none => none
theorem sw_or1 (h : ST X a ta) : SW X (.BoolOp .Or [a] pos) ta := ⟨pw_or1 h.out⟩
theorem sw_or {rest : List Expr} (ha : ST X a ta) (hb : SW X (.BoolOp .Or (b :: rest) pos) tb) : SW X (.BoolOp .Or (a :: b :: rest) pos) (tOrF ta tb) := by
  refine ⟨PWw (pw_or ha.out hb.out) fun σ H Q h => ?_⟩
  obtain ⟨g, O, env, x, d, x', S, e, k⟩ := h
  unfold tOrF at e
  split at e
  · rename_i x1 e1
    cases e
    refine ⟨g, O, env, x, _, x', S, e1, fun H1 S1 l1 => ?_⟩
    refine iteT ?_
    exact k _ S1 l1
  · rename_i x1 e1
    refine ⟨g, O, env, x, _, x1, S, e1, fun H1 S1 l1 => ?_⟩
    refine iteF ?_
    exact ⟨g, O, env, x1, d, x', S1, e, fun H2 S2 l2 => k H2 S2 (l1.trans l2)⟩
  · cases e
def tNotF (fa : FT) : FT := fun env x => match fa env x with
  | some (b, x1) => some (!b, x1)
  | none => none
theorem st_not (ha : ST X a ta) : ST X (.UnaryOp .Not a pos) (tNotF ta) := by
  refine ⟨PTw (pt_not ha.out) fun σ H Q h => ?_⟩
  obtain ⟨g, O, env, x, d, x', S, e, k⟩ := h
  unfold tNotF at e
  split at e
  · rename_i bb x1 e1
    cases e
    exact ⟨g, O, env, x, _, x', S, e1, fun H1 S1 l1 => k H1 S1 l1⟩
  · cases e
/-- truth of a value -/
def truD : D → Option Bool
  | .none => some false
  | .bool b => some b
  | .int i => some (i != 0)
  | .list ds => some (!ds.isEmpty)
  | .tuple ds => some (!ds.isEmpty)
  | _ => none
def fTru (f : FE) : FT := fun env x => match f env x with
  | some (d, x1) => match truD d with
    | some b => some (b, x1)
    | none => none
  | none => none
theorem RpA.emp {K : PySem.W.Frag} {O : Addr → Prop} {H : Hp} {xs : List V} {ds : List D} (r : RpA K O H xs ds) : xs.isEmpty = ds.isEmpty := by cases r <;> rfl
theorem st_tru (ha : SB X a fa) (he : ∀ whole, isTrue a X.env whole = (do let v ← whole; standAt a.pos; holding [v] (truthy v)) := by intro _; rfl) : ST X a (fTru fa) := by
  refine ⟨PTw (pt_truth ha.out he) fun σ H Q h => ?_⟩
  obtain ⟨g, O, env, x, d, x', S, e, k⟩ := h
  unfold fTru at e
  split at e
  · rename_i dd x1 e1
    split at e
    · rename_i bb e2
      cases e
      refine ⟨g, O, env, x, _, x', S, e1, fun v H1 S1 l1 r1 => ⟨d, ?_, k H1 S1 l1⟩⟩
      unfold truD at e2
      split at e2
      · cases e2; rw [r1.non]; exact rfl
      · cases e2; rw [r1.bl]; exact rfl
      · cases e2; rw [r1.int]; exact rfl
      · cases e2
        obtain ⟨p, xs, rfl, q, r⟩ := r1.lst
        exact .inl ⟨xs, .of q, by rw [r.emp]⟩
      · cases e2
        have r := r1.tup
        obtain ⟨p, rfl⟩ := r.isRef
        obtain ⟨xs, q, r⟩ := r.seqT
        exact .inr (.inl ⟨xs, q, by rw [r.emp]⟩)
      · cases e2
    · cases e
  · cases e
def fIf (t : FT) (fa fb : FE) : FE := fun env x => match t env x with
  | some (true, x1) => fa env x1
  | some (false, x1) => fb env x1
  | none => none
theorem se_if {t : FT} (hc : ST X c t) (ha : SE X a fa) (hb : SE X b fb) : SE X (.IfExp c a b pos) (fIf t fa fb) := by
  refine ⟨PEw (pe_ifExp hc.out ha.out hb.out) fun σ H Q h => ?_⟩
  obtain ⟨g, O, env, x, d, x', S, e, k⟩ := h
  unfold fIf at e
  split at e
  · rename_i x1 e1
    refine ⟨g, O, env, x, _, x1, S, e1, fun H1 S1 l1 => ?_⟩
    refine iteT ?_
    exact ⟨g, O, env, x1, d, x', S1, e, fun v H2 S2 l2 r2 => k v H2 S2 (l1.trans l2) r2⟩
  · rename_i x1 e1
    refine ⟨g, O, env, x, _, x1, S, e1, fun H1 S1 l1 => ?_⟩
    refine iteF ?_
    exact ⟨g, O, env, x1, d, x', S1, e, fun v H2 S2 l2 r2 => k v H2 S2 (l1.trans l2) r2⟩
  · cases e
/-! ### subscripts, slices -/
def gIx : D → D → Option D
  | .list ds, .int i => atI ds i
  | .tuple ds, .int i => atI ds i
  | _, _ => none
theorem atI_rp {K : PySem.W.Frag} {O : Addr → Prop} {H : Hp} {xs : List V} {ds : List D} {i : Int} {d : D} (r : RpA K O H xs ds) (h : atI ds i = some d) : ∃ v, atI xs i = some v ∧ Rp K O H v d := by
  unfold atI at h ⊢
  rw [r.length]
  cases q : ixN ds.length i with
  | none => rw [q] at h; cases h
  | some j =>
    rw [q] at h
    exact r.get h
theorem se_ix (ha : SB X a fa) (hb : SB X b fb) (hs : PlainIx b := by exact fun _ _ => rfl) : SE X (.Subscript a b pos) (fBin gIx fa fb) := by
  refine ⟨PEw (pe_ix (ix_list.or ix_tup) ha.out hb.out hs) fun σ H Q h => ?_⟩
  obtain ⟨g, O, env, x, d, x', S, e, k⟩ := h
  obtain ⟨da, x1, db, r, e1, e2, e3, rfl⟩ := fBin_some e
  refine two S e1 e2 fun v w H' S' l rv rw => ?_
  unfold gIx at e3
  split at e3
  · obtain ⟨p, xs, rfl, q, r⟩ := rv.lst
    obtain ⟨u, e4, r4⟩ := atI_rp r e3
    exact .inl ⟨p, xs, _, u, rfl, rw.int, .of q, e4, k _ _ S' l r4⟩
  · have r := rv.tup
    obtain ⟨p, rfl⟩ := r.isRef
    obtain ⟨xs, q, r⟩ := r.seqT
    obtain ⟨u, e4, r4⟩ := atI_rp r e3
    exact .inr ⟨p, xs, _, u, rfl, rw.int, q, e4, k _ _ S' l r4⟩
  · cases e3
abbrev FO := FEn → FRow → Option (Option Int × FRow)
def tO (ω : World) (K : PySem.W.Frag) (f : FO) : TO := fun σ H Q => ∃ g O env x d x', FSt ω K g O σ H env x ∧ f env x = some (d, x') ∧ ∀ H', FSt ω K g O σ H' env x' → Le g H H' → Q d H'
structure SO (X : Cx) (o : Option Expr) (f : FO) : Prop where
  out : PO X o (tO X.w X.K f)
theorem POw {o : Option Expr} {t t' : TO} (h : PO X o t) (q : ∀ σ H Q, t' σ H Q → t σ H Q) : PO X o t' := ⟨fun pins s σ H Q I z => h.run pins s σ H Q I (q _ _ _ z)⟩
def oNone : FO := fun _ x => some (none, x)
def oSome (f : FE) : FO := fun env x => match f env x with
  | some (.int i, x1) => some (some i, x1)
  | _ => none
theorem so_none : SO X none oNone := by
  refine ⟨POw po_none fun σ H Q h => ?_⟩
  obtain ⟨g, O, env, x, d, x', S, e, k⟩ := h
  cases e
  exact k _ S (Le.refl _ _)
theorem so_some (ha : SE X a fa) : SO X (some a) (oSome fa) := by
  refine ⟨POw (po_some ha.out) fun σ H Q h => ?_⟩
  obtain ⟨g, O, env, x, d, x', S, e, k⟩ := h
  unfold oSome at e
  split at e
  · rename_i i x1 e1
    cases e
    refine ⟨g, O, env, x, _, x', S, e1, fun v H1 S1 l1 r1 => ?_⟩
    cases r1
    exact ⟨i, rfl, k _ S1 l1⟩
  · cases e
def cutL {α : Type} (xs : List α) (lo hi : Option Int) : List α := (xs.drop (HT.sIx xs.length 0 lo)).take (HT.sIx xs.length xs.length hi - HT.sIx xs.length 0 lo)
def gSl : D → Option Int → Option Int → Option D
  | .list ds, lo, hi => some (.list (cutL ds lo hi))
  | .tuple ds, lo, hi => some (.tuple (cutL ds lo hi))
  | _, _, _ => none
theorem cut_rp {K : PySem.W.Frag} {O : Addr → Prop} {H : Hp} {xs : List V} {ds : List D} {lo hi : Option Int} (r : RpA K O H xs ds) : RpA K O H (cutV xs lo hi) (cutL ds lo hi) := by
  unfold cutV cutL
  rw [r.length]
  exact (r.drop _).take _
def fSl (f : FE) (o p : FO) : FE := fun env x => match f env x with
  | some (d, x1) => match o env x1 with
    | some (lo, x2) => match p env x2 with
      | some (hi, x3) => match gSl d lo hi with
        | some r => some (r, x3)
        | none => none
      | none => none
    | none => none
  | none => none
theorem cut_all {α : Type} {xs : List α} {lo hi : Option Int} (h : HT.sIx xs.length 0 lo = 0 ∧ HT.sIx xs.length xs.length hi = xs.length) : cutL xs lo hi = xs := by
  unfold cutL
  rw [h.1, h.2]
  simp
theorem se_sl {lo hi : Option Expr} {fl fh : FO} {p2 : Pos} (ha : SB X a fa) (hl : SO X lo fl) (hh : SO X hi fh) : SE X (.Subscript a (.Slice lo hi none p2) pos) (fSl fa fl fh) := by
  refine ⟨PEw (pe_slice (sl_list.or sl_tupA) ha.out hl.out hh.out) fun σ H Q h => ?_⟩
  obtain ⟨g, O, env, x, d, x', S, e, k⟩ := h
  unfold fSl at e
  split at e
  · rename_i da x1 e1
    split at e
    · rename_i lo x2 e2
      split at e
      · rename_i hi x3 e3
        split at e
        · rename_i r e4
          cases e
          refine ⟨g, O, env, x, da, x1, S, e1, fun v H1 S1 l1 r1 => ⟨g, O, env, x1, lo, x2, S1, e2, fun H2 S2 l2 => ⟨g, O, env, x2, hi, x', S2, e3, fun H3 S3 l3 => ?_⟩⟩⟩
          have rv := RpB.step S2 l3 (RpB.step S1 l2 r1)
          unfold gSl at e4
          split at e4
          · rename_i ds
            cases e4
            obtain ⟨p, xs, rfl, q, r⟩ := rv.lst
            refine .inl ⟨p, xs, rfl, .of q, fun p hp => ?_⟩
            have sm := same_upd (o := .lst (cutV xs lo hi)) hp
            exact k _ _ (S3.same sm) (((l1.trans l2).trans l3).trans (.of sm)) (.lst (S3.notO hp) upd_same ((cut_rp r).move (.of sm) .refl))
          · rename_i ds
            cases e4
            have r := rv.tup
            obtain ⟨p, rfl⟩ := r.isRef
            obtain ⟨xs, q, r2⟩ := r.seqT
            refine .inr ⟨p, xs, rfl, q, fun hh => ?_, fun _ p hp => ?_⟩
            · rw [r2.length] at hh
              rw [cut_all hh] at k
              exact k _ _ S3 ((l1.trans l2).trans l3) r
            · have sm := same_upd (o := .tup (cutV xs lo hi)) hp
              exact k _ _ (S3.same sm) (((l1.trans l2).trans l3).trans (.of sm)) (.tup (S3.notO hp) upd_same ((cut_rp r2).move (.of sm) .refl))
          · cases e4
        · cases e
      · cases e
    · cases e
  · cases e
end
end RT
namespace RT
open PySem PySem.Spec PyProof.Rows L2
/-! ### stores -/
section
variable {ω : World} {K : PySem.W.Frag} {g : FG} {O O' : Addr → Prop} {σ : L2.St} {H H' : Hp} {env : FEn} {x x' : FRow}
theorem set_at {α : Type} {l : List α} {i j : Nat} {a b : α} (h : (l.set i a)[j]? = some b) : (i = j ∧ b = a) ∨ (i ≠ j ∧ l[j]? = some b) := by
  by_cases e : i = j
  · subst e
    by_cases hl : i < l.length
    · rw [List.getElem?_set_self hl] at h
      exact .inl ⟨rfl, (Option.some.inj h).symm⟩
    · rw [List.getElem?_eq_none (by simpa using hl)] at h
      cases h
  · rw [List.getElem?_set_ne e] at h
    exact .inr ⟨e, h⟩
theorem OwAt.mut {a : Addr} {d : OwD} (h : OwAt K O H a d) : MutC (H a) := by
  cases d <;> (obtain ⟨xs, e, _⟩ := h; rw [e]; exact True.intro)
theorem OwAt.some {a : Addr} {d : OwD} (h : OwAt K O H a d) : ∃ o, H a = some o := by
  have z := h.mut
  cases q : H a with
  | none => rw [q] at z; exact z.elim
  | some o => exact ⟨o, rfl⟩
theorem OwAt.live {a p : Addr} {d : OwD} (h : OwAt K O H a d) (n : Gone H p) : a ≠ p := fun z => by
  obtain ⟨u, q⟩ := h.some
  have m := h.mut
  rw [q] at m
  rw [z] at q
  exact n.no q (mut_nt m)
theorem NdAt.updO {a p : Addr} {d : OwD} {o : HO} (h : NdAt K g O H a d) (na : a ≠ p) (ni : ¬ Inn H a p) (kp : Keep O H (upd H p o)) : NdAt K g O (upd H p o) a d :=
  h.mv (upd_ne na) (fun b i => upd_ne fun z => ni (z ▸ i)) (fun _ _ r => r.move kp .refl) (fun _ _ r => r.move kp .refl) fun _ _ x y z => ⟨x, y, z⟩
theorem FSt.ndAt (S : FSt ω K g O σ H env x) {i : Nat} {a : Addr} {d : OwD} (h1 : env[i]? = some (.nd d)) (h2 : σ[i]? = some (some (.ref a))) : O a ∧ ¬ g.O0 a ∧ g.R ≠ some a ∧ NdAt K g O H a d := by
  have q := S.sl i _ _ h2 h1
  cases q with
  | nd p q r s => exact ⟨p, q, r, s⟩
/-- a new thing is no part of an owned thing of lists -/
theorem FSt.ndNew (S : FSt ω K g O σ H env x) {p : Addr} (hp : Gone H p) {j : Nat} {d : OwD} {b : Addr} (h1 : env[j]? = some (.nd d)) (h2 : σ[j]? = some (some (.ref b))) : p ≠ b ∧ ¬ Inn H b p := by
  obtain ⟨_, _, _, n⟩ := S.ndAt h1 h2
  refine ⟨fun z => ?_, fun z => ?_⟩
  · obtain ⟨o, q, t⟩ := n.tk
    rw [z] at hp; exact hp.no q t
  · obtain ⟨_, _, _, ys, q⟩ := n.inn z
    exact hp.no q rfl
/-- a slot gets a value -/
theorem FSt.setv (S : FSt ω K g O σ H env x) {v : V} {e : FSl} (i : Nat) (r : SlOk K g O H (some v) e) (n : ∀ d, e = .ow d → ∃ p, v = .ref p ∧ ∀ (j : Nat) d' b, env[j]? = some (.ow d') → σ[j]? = some (some (.ref b)) → b ≠ p)
    (m : (∀ d, e ≠ .nd d) := by intro _ z; cases z) (m2 : ∀ d, e = .ow d → ∀ p, v = .ref p → ∀ (j : Nat) d' b, env[j]? = some (.nd d') → σ[j]? = some (some (.ref b)) → p ≠ b ∧ ¬ Inn H b p := by intro _ z; cases z) : FSt ω K g O (σ.set i (some v)) H (env.set i e) x where
  sub := S.sub
  new := S.new
  dom := S.dom
  le := S.le
  row := S.row
  len := by rw [List.length_set, List.length_set]; exact S.len
  sl := fun j s e' h1 h2 => by
    rcases set_at h1 with ⟨e1, e2⟩ | ⟨e1, e2⟩
    · rcases set_at h2 with ⟨e3, e4⟩ | ⟨e3, e4⟩
      · subst e2; subst e4; exact r
      · exact absurd e1 e3
    · rcases set_at h2 with ⟨e3, e4⟩ | ⟨e3, e4⟩
      · exact absurd e3 e1
      · exact S.sl j s e' e2 e4
  dis := fun j k d d' a b ne h1 h2 h3 h4 => by
    rcases set_at h1 with ⟨e1, e2⟩ | ⟨e1, e2⟩
    · rcases set_at h3 with ⟨e3, e4⟩ | ⟨e3, e4⟩
      · rcases set_at h2 with ⟨e5, e6⟩ | ⟨e5, e6⟩
        · exact absurd (e1.symm.trans e5) ne
        · rcases set_at h4 with ⟨e7, e8⟩ | ⟨e7, e8⟩
          · exact absurd e7 e5
          · obtain ⟨p, e9, q⟩ := n d e2.symm
            have e4' : V.ref a = v := Option.some.inj e4
            rw [e9] at e4'
            cases e4'
            exact fun z => q k d' b e6 e8 z.symm
      · exact absurd e1 e3
    · rcases set_at h3 with ⟨e3, e4⟩ | ⟨e3, e4⟩
      · exact absurd e3 e1
      · rcases set_at h2 with ⟨e5, e6⟩ | ⟨e5, e6⟩
        · rcases set_at h4 with ⟨e7, e8⟩ | ⟨e7, e8⟩
          · obtain ⟨p, e9, q⟩ := n d' e6.symm
            have e8' : V.ref b = v := Option.some.inj e8
            rw [e9] at e8'
            cases e8'
            exact q j d a e2 e4
          · exact absurd e5 e7
        · rcases set_at h4 with ⟨e7, e8⟩ | ⟨e7, e8⟩
          · exact absurd e7 e5
          · exact S.dis j k d d' a b ne e2 e6 e4 e8
  din := fun j k d d' a b h1 h2 h3 h4 => by
    rcases set_at h1 with ⟨e1, e2⟩ | ⟨e1, e2⟩
    · exact absurd e2.symm (m d)
    · rcases set_at h3 with ⟨e3, e4⟩ | ⟨e3, e4⟩
      · exact absurd e3 e1
      · rcases set_at h2 with ⟨e5, e6⟩ | ⟨e5, e6⟩
        · rcases set_at h4 with ⟨e7, e8⟩ | ⟨e7, e8⟩
          · exact m2 d' e6.symm b (Option.some.inj e8).symm j d a e2 e4
          · exact absurd e5 e7
        · rcases set_at h4 with ⟨e7, e8⟩ | ⟨e7, e8⟩
          · exact absurd e7 e5
          · exact S.din j k d d' a b e2 e6 e4 e8
  nn := fun j k d d' h1 h2 => by
    rcases set_at h1 with ⟨e1, e2⟩ | ⟨e1, e2⟩
    · exact absurd e2.symm (m d)
    · rcases set_at h2 with ⟨e5, e6⟩ | ⟨e5, e6⟩
      · exact absurd e6.symm (m d')
      · exact S.nn j k d d' e2 e6
  gh := S.gh
  tb := S.tb
  tk := S.tk
  nt0 := S.nt0
  ww := S.ww
/-- an owned thing changes -/
theorem FSt.put (S : FSt ω K g O σ H env x) {i : Nat} {a : Addr} {d d' : OwD} {o : HO} (h1 : env[i]? = some (.ow d)) (h2 : σ[i]? = some (some (.ref a))) (mu : MutC (some o)) (w : OwAt K O (upd H a o) a d') :
    FSt ω K g O σ (upd H a o) (env.set i (.ow d')) x := by
  have q := S.sl i _ _ h2 h1
  obtain ⟨oa, noa, nr⟩ : O a ∧ ¬ g.O0 a ∧ g.R ≠ some a := by
    cases q with
    | ow p q r s => exact ⟨p, q, r⟩
  have n0 : g.H0 a = none := by
    rcases S.new a oa with z | z
    · exact absurd z noa
    · exact z
  have kp : Keep O H (upd H a o) := fun b u n e _ => by
    rw [upd_ne (show b ≠ a from fun z => n (z ▸ oa))]
    exact e
  have ma := S.dom a oa
  have owa : OwAt K O H a d := by
    cases q with
    | ow p q r s => exact s
  obtain ⟨oo, hoo⟩ := owa.some
  refine ⟨S.sub, S.new, fun b hb => ?_, fun b u hR e tn => ?_, fun r e => ?_, by rw [List.length_set]; exact S.len, fun j s e' e1 e2 => ?_, fun j k e e' b c ne e1 e2 e3 e4 => ?_, fun j k e e' b c e1 e2 e3 e4 => ?_, fun j k e e' e1 e2 => ?_, fun p hp => (S.gh p hp).move kp .refl, tabs_upd S.tb hoo (mut_nt (by rw [← hoo]; exact ma)) (notC_ow owa hoo), S.tk, S.nt0, S.ww⟩
  · by_cases z : b = a
    · subst z; rw [upd_same]; exact mu
    · rw [upd_ne z]; exact S.dom b hb
  · have z : b ≠ a := fun z => by rw [z, n0] at e; cases e
    rw [upd_ne z]
    exact S.le b u hR e tn
  · obtain ⟨q1, q2, q3⟩ := S.row r e
    exact ⟨q1, q2, q3.updO oa (fun z => nr (z ▸ e))⟩
  · rcases set_at e2 with ⟨z1, z2⟩ | ⟨z1, z2⟩
    · subst z1
      subst z2
      rw [h2] at e1
      cases e1
      exact .ow oa noa nr w
    · cases S.sl j s e' e1 z2 with
      | no => exact .no _
      | va r => exact .va (r.move kp .refl)
      | @ow b d2 p q r t => exact .ow p q r (t.move (fun u eu _ => by rw [upd_ne (S.dis j i _ _ _ _ (Ne.symm z1) z2 h1 e1 h2)]; exact eu) kp .refl)
      | rw e => exact .rw e
      | @da b ds p q r t =>
        have nb : b ≠ a := fun z => by
          subst z
          obtain ⟨_, e, _⟩ := t
          have t0 := S.sl i _ _ h2 h1
          cases t0 with
          | ow _ _ _ t0 => cases d <;> (obtain ⟨_, e0, _⟩ := t0; rw [e] at e0; cases e0)
        exact .da p q r (t.mv (fun u eu _ => by rw [upd_ne nb]; exact eu) fun _ _ r => r.move kp .refl)
      | nd p q r t =>
        obtain ⟨n1, n2⟩ := S.din j i _ _ _ _ z2 h1 e1 h2
        exact .nd p q r (t.updO (Ne.symm n1) n2 kp)
      | fn n e r => exact .fn n (kp _ _ n e rfl) fun p hp => (r p hp).move kp .refl
      | sg n e r zz => exact .sg n (kp _ _ n e rfl) (fun p hp => (r p hp).move kp .refl) zz
  · have at1 : ∀ {j : Nat} {d2 : OwD}, (env.set i (.ow d'))[j]? = some (.ow d2) → ∃ d3, env[j]? = some (.ow d3) := fun {j d2} z => by
      rcases set_at z with ⟨z1, z2⟩ | ⟨z1, z2⟩
      · subst z1; exact ⟨_, h1⟩
      · exact ⟨_, z2⟩
    obtain ⟨d3, e1⟩ := at1 e1
    obtain ⟨d4, e2⟩ := at1 e2
    exact S.dis j k _ _ b c ne e1 e2 e3 e4
  · rcases set_at e1 with ⟨z1, z2⟩ | ⟨z1, z2⟩
    · cases z2
    · obtain ⟨n1, _⟩ := S.din j i _ _ _ _ z2 h1 e3 h2
      have ib : upd H a o b = H b := upd_ne (Ne.symm n1)
      rcases set_at e2 with ⟨z3, z4⟩ | ⟨z3, z4⟩
      · subst z3
        rw [h2] at e4
        cases e4
        exact ⟨n1, fun z => (S.din j _ _ _ _ _ z2 h1 e3 h2).2 (z.of ib)⟩
      · exact ⟨(S.din j k _ _ _ _ z2 z4 e3 e4).1, fun z => (S.din j k _ _ _ _ z2 z4 e3 e4).2 (z.of ib)⟩
  · rcases set_at e1 with ⟨z1, z2⟩ | ⟨z1, z2⟩
    · cases z2
    · rcases set_at e2 with ⟨z3, z4⟩ | ⟨z3, z4⟩
      · cases z4
      · exact S.nn j k _ _ z2 z4
/-- a new thing, owned -/
def oAdd (O : Addr → Prop) (p : Addr) : Addr → Prop := fun a => O a ∨ a = p
theorem wid_add {p : Addr} (h : H p = none) : Wid O (oAdd O p) H := fun a z => z.elim .inl fun e => .inr (e ▸ .of h)
theorem RowG.own {r p : Addr} {o : HO} (q : RowG K g O H r x) (hp : H p = none) : RowG K g (oAdd O p) (upd H p o) r x :=
  q.mv (fun u e _ => by rw [upd_ne (ne_of_none e hp)]; exact e) (.of (same_upd hp)) (wid_add hp)
theorem FSt.own (S : FSt ω K g O σ H env x) {p : Addr} {o : HO} (hp : H p = none) (mu : MutC (some o)) : FSt ω K g (oAdd O p) σ (upd H p o) env x := by
  have sm := same_upd (o := o) hp
  have S1 := S.same sm
  have h0 : g.H0 p = none := by
    cases q : g.H0 p with
    | none => rfl
    | some u =>
      by_cases hR : g.R = some p
      · have z := S.dom p (S.sub p (S.row p hR).1)
        rw [hp] at z
        exact z.elim
      · rw [S.le p u hR q (S.nt0 _ _ q)] at hp; cases hp
  have wd : Wid O (oAdd O p) H := wid_add hp
  refine ⟨fun a h => .inl (S.sub a h), fun a h => ?_, fun a h => ?_, S1.le, (fun r e => ⟨(S.row r e).1, (S.row r e).2.1, (S.row r e).2.2.own hp⟩), S.len, fun j s e' e1 e2 => ?_, S.dis, S1.din, S.nn, fun q hq => (S.gh q hq).move (.of sm) wd, S1.tb, S1.tk, S1.nt0, S1.ww⟩
  · rcases h with h | rfl
    · exact S.new a h
    · exact .inr h0
  · rcases h with h | rfl
    · exact S1.dom a h
    · rw [upd_same]; exact mu
  · cases S.sl j s e' e1 e2 with
    | no => exact .no _
    | va r => exact .va (r.move (.of sm) wd)
    | ow p q r t => exact .ow (.inl p) q r (t.move (fun u eu _ => sm _ _ eu) (.of sm) wd)
    | rw e => exact .rw e
    | da p q r t => exact .da (.inl p) q r (t.mv (fun u eu _ => sm _ _ eu) fun _ _ r => r.move (.of sm) wd)
    | nd a b c d => exact .nd (.inl a) b c (d.mv (by obtain ⟨o, q, t⟩ := d.tk; rw [q]; exact sm _ _ q) (fun b i => by obtain ⟨_, _, r, ys, q⟩ := d.inn i; rw [q]; exact sm _ _ q) (fun _ _ r => r.move (.of sm) wd) (fun _ _ r => r.move (.of sm) wd) fun _ _ x y z => ⟨.inl x, y, z⟩)
    | fn n e r => exact .fn (wd.no n e) (sm _ _ e) fun p hp => (r p hp).move (.of sm) wd
    | sg n e r zz => exact .sg (wd.no n e) (sm _ _ e) (fun p hp => (r p hp).move (.of sm) wd) zz
theorem FSt.newp (S : FSt ω K g O σ H env x) {p : Addr} (hp : H p = none) : ¬ g.O0 p ∧ g.R ≠ some p := by
  refine ⟨fun z => S.notO hp (S.sub p z), fun z => S.notO hp (S.sub p (S.row p z).1)⟩
theorem own_nd (S : FSt ω K g O σ H env x) (l : Le g H H') {p : Addr} (hp : Gone H p) {j : Nat} {d : OwD} {b : Addr} (h1 : env[j]? = some (.nd d)) (h2 : σ[j]? = some (some (.ref b))) : p ≠ b ∧ ¬ Inn H' b p := by
  obtain ⟨n1, n2⟩ := S.ndNew hp h1 h2
  obtain ⟨_, _, r, n⟩ := S.ndAt h1 h2
  obtain ⟨o, q, t⟩ := n.tk
  exact ⟨n1, fun z => n2 (z.of (by rw [q]; exact l _ o r q t))⟩
/-- of what is stored: an owned thing is new, and it is no thing of lists -/
def NwO (H : Hp) (v : V) : FSl → Prop
  | .ow _ => ∃ p, v = .ref p ∧ Gone H p
  | .nd _ => False
  | _ => True
theorem NwO.ow {v : V} {sl : FSl} (h : NwO H v sl) (d : OwD) (e : sl = .ow d) : ∃ p, v = .ref p ∧ Gone H p := by subst e; exact h
theorem NwO.nn {v : V} {sl : FSl} (h : NwO H v sl) (d : OwD) : sl ≠ .nd d := fun e => by subst e; exact h
end
/-! ### what is stored in a name: a value, or a new owned thing -/
abbrev FX := FEn → FRow → Option (FSl × FRow)
def tX (ω : World) (K : PySem.W.Frag) (f : FX) : TE := fun σ H Q => ∃ g O env x sl x', FSt ω K g O σ H env x ∧ f env x = some (sl, x') ∧
  ∀ O' v H', FSt ω K g O' σ H' env x' → Le g H H' → Wid O O' H → (∀ a, O a → O' a) → SlOk K g O' H' (some v) sl → NwO H v sl → Q v H'
structure SX (X : Cx) (e : Expr) (f : FX) : Prop where
  out : PE X e (tX X.w X.K f)
section
variable {X : Cx} {a b c e : Expr} {es : List Expr} {fa fb fc f : FE} {pos : Pos}
def xVal (f : FE) : FX := fun env x => match f env x with
  | some (d, x1) => some (.va d, x1)
  | none => none
theorem sx_of (h : SE X e f) : SX X e (xVal f) := by
  refine ⟨PEw h.out fun σ H Q h => ?_⟩
  obtain ⟨g, O, env, x, sl, x', S, e, k⟩ := h
  unfold xVal at e
  split at e
  · rename_i d x1 e1
    cases e
    exact ⟨g, O, env, x, d, x', S, e1, fun v H1 S1 l1 r1 => k O v H1 S1 l1 .refl (fun _ h => h) (.va r1) True.intro⟩
  · cases e
def xLst (t : FA) : FX := fun env x => match t env x with
  | some (ds, x1) => if ds.length ≤ maxLen then some (.ow (.lst ds), x1) else none
  | none => none
theorem Le.gone {g : FG} {H H' : Hp} {p : Addr} {ω : World} {K : PySem.W.Frag} {O' : Addr → Prop} {σ' : L2.St} {env' : FEn} {x' : FRow} (l : Le g H H') (h : Gone H' p) (S' : FSt ω K g O' σ' H' env' x') : Gone H p := fun u q => by
  cases t : isNT u with
  | false => rfl
  | true =>
    by_cases hR : g.R = some p
    · exact absurd (S'.sub p (S'.row p hR).1) fun z => by
        have d := S'.dom p z
        cases q' : H' p with
        | none => rw [q'] at d; exact d
        | some o => exact h.no q' (mut_nt (by rw [← q']; exact d))
    · exact (h.no (l p u hR q t) t).elim
theorem sx_lst {t : FA} (h : SA X es t) : SX X (.List es pos) (xLst t) := by
  refine ⟨PEw (pe_lst h.out) fun σ H Q h => ?_⟩
  obtain ⟨g, O, env, x, d, x', S, e, k⟩ := h
  unfold xLst at e
  split at e
  · rename_i ds x1 e1
    split at e
    · rename_i hl
      cases e
      refine ⟨g, O, env, x, ds, x', S, e1, fun v H1 S1 l1 r1 => ⟨by rw [r1.length]; exact maxLen_ok hl, fun p hp => ?_⟩⟩
      have sm := same_upd (o := .lst v) hp
      have n1 := S1.newp hp
      have S2 := S1.own (o := .lst v) hp True.intro
      have hp0 := Le.gone l1 (.of hp) S1
      refine k _ _ _ S2 (l1.trans (.of sm)) (fun a z => z.elim .inl fun e => .inr (e ▸ hp0)) (fun a z => .inl z) (.ow (.inr rfl) n1.1 n1.2 ⟨v, upd_same, r1.move (.of sm) (wid_add hp)⟩) ⟨p, rfl, hp0⟩
    · cases e
  · cases e
def xNew (d : OwD) : FX := fun _ x => some (.ow d, x)
theorem sx_dT : SX X (.Dict [] [] pos) (xNew (.dt [])) := by
  refine ⟨PEw pe_dnewT fun σ H Q h => ?_⟩
  obtain ⟨g, O, env, x, d, x', S, e, k⟩ := h
  cases e
  intro p hp
  have n1 := S.newp hp
  exact k _ _ _ (S.own (o := .dT []) hp True.intro) (.of (same_upd hp)) (wid_add hp) (fun a z => .inl z) (.ow (.inr rfl) n1.1 n1.2 ⟨[], upd_same, .nil⟩) ⟨p, rfl, .of hp⟩
/-- {k: v} -/
def dKey : D → Option L2.Key
  | .int i => some (.inl i)
  | .str s => some (.inr s)
  | _ => none
theorem dKey_ok {d : D} {k : L2.Key} (h : dKey d = some k) : d = keyD k := by
  cases d <;> simp [dKey] at h <;> subst h <;> rfl
theorem dKey_rp {K : PySem.W.Frag} {O : Addr → Prop} {H : Hp} {v : V} {d : D} {k : L2.Key} (h : dKey d = some k) (r : Rp K O H v d) : v = kV k := by
  cases d <;> simp [dKey] at h <;> subst h <;> cases r <;> rfl
def xDict1 (fk fv : FE) : FX := fun env x => match fk env x with
  | some (k, x1) => match dKey k with
    | some _ => match fv env x1 with
      | some (v, x2) => some (.ow (.dk [(k, v)]), x2)
      | none => none
    | none => none
  | none => none
/-! ### statements -/
def sSet (i : Nat) (f : FX) : FS := fun env x => match f env x with
  | some (sl, x1) => some (.nx (env.set i sl), x1)
  | none => none
theorem own_ne {ω : World} {K : PySem.W.Frag} {g : FG} {O : Addr → Prop} {σ : L2.St} {H : Hp} {env : FEn} {x : FRow} (S : FSt ω K g O σ H env x) {p : Addr} (hp : Gone H p) {j : Nat} {d : OwD} {b : Addr} (h1 : env[j]? = some (.ow d)) (h2 : σ[j]? = some (some (.ref b))) : b ≠ p := fun z => by
  have q := S.sl j _ _ h2 h1
  cases q with
  | ow _ _ _ t =>
    exact t.live hp z
def isOwn : FSl → Bool
  | .ow _ => true
  | .da _ => true
  | .nd _ => true
  | _ => false
theorem own_ne2 {ω : World} {K : PySem.W.Frag} {g : FG} {O : Addr → Prop} {σ : L2.St} {H : Hp} {env : FEn} {x : FRow} (S : FSt ω K g O σ H env x) {p : Addr} (hp : Gone H p) {j : Nat} {e : FSl} {b : Addr} (h1 : env[j]? = some e) (h0 : isOwn e = true) (h2 : σ[j]? = some (some (.ref b))) : b ≠ p := fun z => by
  have q := S.sl j _ _ h2 h1
  cases q with
  | ow _ _ _ t =>
    exact t.live hp z
  | da _ _ _ t =>
    obtain ⟨u, q, _⟩ := t
    rw [z] at q; exact hp.no q rfl
  | nd _ _ _ t =>
    obtain ⟨o, q, tn⟩ := t.tk
    rw [z] at q; exact hp.no q tn
  | _ => cases h0
theorem ss_set {i : Nat} {n : Str} {f : FX} {pos' : Pos} (hN : X.N.Nodup) (hi : X.N[i]? = some n) (hx : Loc X.env.scope n) (he : SX X e f) (hs : swapsWith e (some (.Name n pos')) pos.line X.env = pure false := by rfl)
    (hf : X.fn n = true ∨ X.env.scope.names.lookup n = some .local := by first | exact .inl rfl | exact .inr rfl | assumption) : SS X (.Assign [.Name n pos'] e pos) (sSet i f) := by
  refine ⟨PSw (ps_set hN hi hx he.out hs hf) fun Dn σ H h => ?_⟩
  obtain ⟨g, O, env, x, r, x', S, e, k⟩ := h
  unfold sSet at e
  split at e
  · rename_i sl x1 e1
    cases e
    exact ⟨g, O, env, x, sl, x', S, e1, fun O' v H' S' l w sub r nw => k O' _ H' (S'.setv i r (fun d z => by
      obtain ⟨p, e2, hp⟩ := nw.ow d z
      exact ⟨p, e2, fun j d' b h1 h2 => own_ne S hp h1 h2⟩) nw.nn fun d z p ep j d' b h1 h2 => by
      obtain ⟨q, e2, hp⟩ := nw.ow d z
      rw [ep] at e2; cases e2
      exact own_nd S l hp h1 h2)⟩
  · cases e
theorem sl_move {ω : World} {K : PySem.W.Frag} {g : FG} {O O' : Addr → Prop} {σ : L2.St} {H H' : Hp} {env : FEn} {x : FRow} {v : V} {sl : FSl} (S : FSt ω K g O σ H env x) (l : Le g H H') (w : Wid O O' H) (sub : ∀ a, O a → O' a) (r : SlOk K g O H (some v) sl) : SlOk K g O' H' (some v) sl := by
  cases r with
  | no => exact .no _
  | va r => exact .va (r.move (S.keep l) w)
  | ow p q r t => exact .ow (sub _ p) q r (t.move (fun o e t => l _ o r e t) (S.keep l) w)
  | rw e => exact .rw e
  | da p q r t => exact .da (sub _ p) q r (t.mv (fun o e t => l _ o r e t) fun _ _ r => r.move (S.keep l) w)
  | nd a b c d => exact .nd (sub _ a) b c (d.mv (by obtain ⟨o, q, t⟩ := d.tk; rw [q]; exact l _ o c q t) (fun b i => by obtain ⟨_, _, r, ys, q⟩ := d.inn i; rw [q]; exact l _ _ r q rfl) (fun _ _ r => r.move (S.keep l) w) (fun _ _ r => r.move (S.keep l) w) fun _ _ x y z => ⟨sub _ x, y, z⟩)
  | fn n e r => exact .fn (w.no n e) (S.keep l _ _ n e rfl) fun p hp => (r p hp).move (S.keep l) w
  | sg n e r zz => exact .sg (w.no n e) (S.keep l _ _ n e rfl) (fun p hp => (r p hp).move (S.keep l) w) zz
def sRet (f : FE) : FS := fun env x => match f env x with
  | some (d, x1) => some (.rt d, x1)
  | none => none
theorem ss_ret (h : SE X e f) : SS X (.Return (some e) pos) (sRet f) := by
  refine ⟨PSw (ps_ret h.out) fun Dn σ H h => ?_⟩
  obtain ⟨g, O, env, x, r, x', S, e, k⟩ := h
  unfold sRet at e
  split at e
  · rename_i d x1 e1
    cases e
    exact ⟨g, O, env, x, d, x', S, e1, fun v H' S' l r => k O σ H' v env S' r⟩
  · cases e
def sNo : FS := fun _ _ => none
theorem ss_no {st : Stmt} : SS X st sNo := ⟨PSw ps_never fun Dn σ H h => by
  obtain ⟨g, O, env, x, r, x', S, e, k⟩ := h
  cases e⟩
def sNil : FS := fun env x => some (.nx env, x)
def sSeq (f h : FS) : FS := fun env x => match f env x with
  | some (.nx e1, x1) => h e1 x1
  | some (.rt d, x1) => some (.rt d, x1)
  | some (.bk e1, x1) => some (.bk e1, x1)
  | some (.ct e1, x1) => some (.ct e1, x1)
  | none => none
theorem sss_nil : SSs X [] sNil := ⟨PSsw pss_nil fun Dn σ H h => by
  obtain ⟨g, O, env, x, r, x', S, e, k⟩ := h
  cases e
  exact k O σ H S⟩
theorem sss_cons {st : Stmt} {rest : List Stmt} {f h : FS} (h1 : SS X st f) (h2 : SSs X rest h) : SSs X (st :: rest) (sSeq f h) := by
  refine ⟨PSsw (pss_cons h1.out h2.out) fun Dn σ H h => ?_⟩
  obtain ⟨g, O, env, x, r, x', S, e, k⟩ := h
  unfold sSeq at e
  split at e
  · rename_i e1 x1 q
    exact ⟨g, O, env, x, _, x1, S, q, fun O' σ' H' S' => ⟨g, O', e1, x1, r, x', S', e, k⟩⟩
  · rename_i d x1 q
    cases e
    exact ⟨g, O, env, x, _, x', S, q, k⟩
  · rename_i d x1 q
    cases e
    exact ⟨g, O, env, x, _, x', S, q, k⟩
  · rename_i d x1 q
    cases e
    exact ⟨g, O, env, x, _, x', S, q, k⟩
  · cases e
theorem sss_one {st : Stmt} {f : FS} (h1 : SS X st f) : SSs X [st] f := ⟨pss_one h1.out⟩
def sIf (t : FT) (f h : FS) : FS := fun env x => match t env x with
  | some (true, x1) => f env x1
  | some (false, x1) => h env x1
  | none => none
theorem ss_if {t : FT} {p q : List Stmt} {f h : FS} (ht : ST X c t) (h1 : SSs X p f) (h2 : SSs X q h) : SS X (.If c p q pos) (sIf t f h) := by
  refine ⟨PSw (ps_if ht.out h1.out h2.out) fun Dn σ H h => ?_⟩
  obtain ⟨g, O, env, x, r, x', S, e, k⟩ := h
  unfold sIf at e
  split at e
  · rename_i x1 e1
    refine ⟨g, O, env, x, _, x1, S, e1, fun H' S' l => ?_⟩
    refine iteT ?_
    exact ⟨g, O, env, x1, r, x', S', e, k⟩
  · rename_i x1 e1
    refine ⟨g, O, env, x, _, x1, S, e1, fun H' S' l => ?_⟩
    refine iteF ?_
    exact ⟨g, O, env, x1, r, x', S', e, k⟩
  · cases e
/-- an owned name is given up ahead of a statement -/
def eFrz (i : Nat) (env : FEn) : FEn := match env[i]? with
  | some (.ow d) => env.set i (.va d.d)
  | _ => env
def sFrz (i : Nat) (f : FS) : FS := fun env x => f (eFrz i env) x
end
end RT
namespace RT
open PySem PySem.Spec PyProof.Rows L2
/-! ### dicts -/
def dKeys : List D → Option (List L2.Key)
  | [] => some []
  | d :: ds => match dKey d, dKeys ds with
    | some k, some ks => some (k :: ks)
    | _, _ => none
theorem dKeys_ok : ∀ {ds : List D} {ks : List L2.Key}, dKeys ds = some ks → ds = ks.map keyD
  | [], ks, h => by simp [dKeys] at h; subst h; rfl
  | d :: ds, ks, h => by
    unfold dKeys at h
    split at h
    · rename_i k ks' h1 h2
      cases h
      rw [dKey_ok h1, dKeys_ok h2]
      rfl
    · cases h
theorem dKeys_map : ∀ ks : List L2.Key, dKeys (ks.map keyD) = some ks
  | [] => rfl
  | k :: ks => by
    have h : dKey (keyD k) = some k := by cases k <;> rfl
    simp only [List.map_cons, dKeys, h, dKeys_map ks]
theorem dKey_key (k : L2.Key) : dKey (keyD k) = some k := by cases k <;> rfl
theorem rp_keys {K : PySem.W.Frag} {O : Addr → Prop} {H : Hp} : ∀ {xs : List V} {ks : List L2.Key}, RpA K O H xs (ks.map keyD) → xs = ks.map kV
  | _, [], h => by cases h; rfl
  | _, k :: ks, h => by
    cases h with
    | cons a b => rw [dKey_rp (dKey_key k) a, rp_keys b]; rfl
def dKeyT : D → Option (List L2.Key)
  | .tuple ds => dKeys ds
  | _ => none
theorem dKeyT_ok {d : D} {ks : List L2.Key} (h : dKeyT d = some ks) : d = .tuple (ks.map keyD) := by
  cases d <;> simp [dKeyT] at h
  rw [dKeys_ok h]
theorem dKeyT_key (ks : List L2.Key) : dKeyT (.tuple (ks.map keyD)) = some ks := dKeys_map ks
section
variable {κ : Type} [DecidableEq κ]
/-- look up, put: by a reading of keys -/
def valD (kf : D → Option κ) (kvs : List (D × D)) (k : κ) : Option D := (kvs.find? fun p => decide (kf p.1 = some k)).map (·.2)
def putD (kf : D → Option κ) (kvs : List (D × D)) (kd : D) (k : κ) (v : D) : List (D × D) :=
  if (kvs.any fun p => decide (kf p.1 = some k)) then kvs.map fun p => if kf p.1 = some k then (p.1, v) else p else kvs ++ [(kd, v)]
end
section
variable {ω : World} {K : PySem.W.Frag} {O : Addr → Prop} {H : Hp}
theorem RpK.val {k : L2.Key} : ∀ {kvs : List (L2.Key × V)} {ds : List (D × D)}, RpK K O H kvs ds → (valV kvs k = none ∧ valD dKey ds k = none) ∨ ∃ v d, valV kvs k = some v ∧ valD dKey ds k = some d ∧ Rp K O H v d
  | _, _, .nil => .inl ⟨rfl, rfl⟩
  | _, _, .cons (k := k') (v := v) (d := d) (vs := vs) (ds := ds) a b => by
    by_cases e : k' = k
    · refine .inr ⟨v, d, valV_pos e, ?_, a⟩
      simp [valD, dKey_key, e]
    · rw [valV_neg (p := (k', v)) e]
      have h : valD dKey ((keyD k', d) :: ds) k = valD dKey ds k := by simp [valD, dKey_key, e]
      rw [h]
      exact RpK.val b
theorem RpK.any {k : L2.Key} : ∀ {kvs : List (L2.Key × V)} {ds : List (D × D)}, RpK K O H kvs ds → (kvs.any fun kv => decide (kv.1 = k)) = ds.any fun p => decide (dKey p.1 = some k)
  | _, _, .nil => rfl
  | _, _, .cons (k := k') a b => by
    rw [List.any_cons, List.any_cons, RpK.any b, dKey_key]
    simp
theorem RpK.repl {k : L2.Key} {v : V} {d : D} (r : Rp K O H v d) : ∀ {kvs : List (L2.Key × V)} {ds : List (D × D)}, RpK K O H kvs ds → RpK K O H (kvs.map fun kv => if kv.1 = k then (kv.1, v) else kv) (ds.map fun p => if dKey p.1 = some k then (p.1, d) else p)
  | _, _, .nil => .nil
  | _, _, .cons (k := k') a b => by
    rw [List.map_cons, List.map_cons]
    by_cases e : k' = k
    · subst e
      rw [if_pos rfl, if_pos (dKey_key k')]
      exact .cons r (RpK.repl r b)
    · rw [if_neg e, if_neg (by rw [dKey_key]; exact fun z => e (Option.some.inj z))]
      exact .cons a (RpK.repl r b)
theorem RpK.app : ∀ {a c : List (L2.Key × V)} {b d : List (D × D)}, RpK K O H a b → RpK K O H c d → RpK K O H (a ++ c) (b ++ d)
  | _, _, _, _, .nil, h => h
  | _, _, _, _, .cons p q, h => .cons p (RpK.app q h)
theorem RpK.length : ∀ {a : List (L2.Key × V)} {b : List (D × D)}, RpK K O H a b → a.length = b.length
  | _, _, .nil => rfl
  | _, _, .cons _ q => by rw [List.length_cons, List.length_cons, RpK.length q]
theorem RpK.put {k : L2.Key} {v : V} {d : D} {kvs : List (L2.Key × V)} {ds : List (D × D)} (q : RpK K O H kvs ds) (r : Rp K O H v d) : RpK K O H (putK kvs k v) (putD dKey ds (keyD k) k d) := by
  unfold putK putD
  rw [q.any]
  split
  · exact q.repl r
  · exact q.app (.cons r .nil)
theorem RpT.val {k : List L2.Key} : ∀ {kvs : List (List L2.Key × V)} {ds : List (D × D)}, RpT K O H kvs ds → (valV kvs k = none ∧ valD dKeyT ds k = none) ∨ ∃ v d, valV kvs k = some v ∧ valD dKeyT ds k = some d ∧ Rp K O H v d
  | _, _, .nil => .inl ⟨rfl, rfl⟩
  | _, _, .cons (k := k') (v := v) (d := d) (vs := vs) (ds := ds) a b => by
    by_cases e : k' = k
    · refine .inr ⟨v, d, valV_pos e, ?_, a⟩
      simp [valD, dKeyT_key, e]
    · rw [valV_neg (p := (k', v)) e]
      have h : valD dKeyT ((.tuple (k'.map keyD), d) :: ds) k = valD dKeyT ds k := by simp [valD, dKeyT_key, e]
      rw [h]
      exact RpT.val b
theorem RpT.any {k : List L2.Key} : ∀ {kvs : List (List L2.Key × V)} {ds : List (D × D)}, RpT K O H kvs ds → (kvs.any fun kv => decide (kv.1 = k)) = ds.any fun p => decide (dKeyT p.1 = some k)
  | _, _, .nil => rfl
  | _, _, .cons (k := k') a b => by
    rw [List.any_cons, List.any_cons, RpT.any b, dKeyT_key]
    simp
theorem RpT.repl {k : List L2.Key} {v : V} {d : D} (r : Rp K O H v d) : ∀ {kvs : List (List L2.Key × V)} {ds : List (D × D)}, RpT K O H kvs ds → RpT K O H (kvs.map fun kv => if kv.1 = k then (kv.1, v) else kv) (ds.map fun p => if dKeyT p.1 = some k then (p.1, d) else p)
  | _, _, .nil => .nil
  | _, _, .cons (k := k') a b => by
    rw [List.map_cons, List.map_cons]
    by_cases e : k' = k
    · subst e
      rw [if_pos rfl, if_pos (dKeyT_key k')]
      exact .cons r (RpT.repl r b)
    · rw [if_neg e, if_neg (by rw [dKeyT_key]; exact fun z => e (Option.some.inj z))]
      exact .cons a (RpT.repl r b)
theorem RpT.app : ∀ {a c : List (List L2.Key × V)} {b d : List (D × D)}, RpT K O H a b → RpT K O H c d → RpT K O H (a ++ c) (b ++ d)
  | _, _, _, _, .nil, h => h
  | _, _, _, _, .cons p q, h => .cons p (RpT.app q h)
theorem RpT.length : ∀ {a : List (List L2.Key × V)} {b : List (D × D)}, RpT K O H a b → a.length = b.length
  | _, _, .nil => rfl
  | _, _, .cons _ q => by rw [List.length_cons, List.length_cons, RpT.length q]
theorem RpT.put {k : List L2.Key} {v : V} {d : D} {kvs : List (List L2.Key × V)} {ds : List (D × D)} (q : RpT K O H kvs ds) (r : Rp K O H v d) : RpT K O H (putK kvs k v) (putD dKeyT ds (.tuple (k.map keyD)) k d) := by
  unfold putK putD
  rw [q.any]
  split
  · exact q.repl r
  · exact q.app (.cons r .nil)
end
/-- d[k] as data -/
def gDGet : D → D → Option (Option D)
  | .dict kvs, k => match dKey k with
    | some q => some (valD dKey kvs q)
    | none => none
  | .dictT kvs, k => match dKeyT k with
    | some q => some (valD dKeyT kvs q)
    | none => none
  | _, _ => none
theorem dget_ok {K : PySem.W.Frag} {g : FG} {O : Addr → Prop} {H : Hp} {v w : V} {d k : D} {r : Option D} (h : gDGet d k = some r) (rv : RpB K g O H v d) (rk : RpB K g O H w k) :
    ∃ a o, v = .ref a ∧ DGet H a w o ∧ ((o = none ∧ r = none) ∨ ∃ y z, o = some y ∧ r = some z ∧ Rp K O H y z) := by
  unfold gDGet at h
  split at h
  · split at h
    · rename_i kvs q e
      cases h
      obtain ⟨a, vs, rfl, hH, hr⟩ := rv.dct
      have ew : w = kV q := by
        rw [dKey_ok e] at rk
        cases q with
        | inl i => exact rk.int
        | inr s => exact rk.str
      subst ew
      refine ⟨a, _, rfl, .inl ⟨_, _, hH, rfl, rfl⟩, ?_⟩
      rcases hr.val (k := q) with ⟨h1, h2⟩ | ⟨y, z, h1, h2, h3⟩
      · exact .inl ⟨h1, h2⟩
      · exact .inr ⟨y, z, h1, h2, h3⟩
    · cases h
  · split at h
    · rename_i kvs q e
      cases h
      obtain ⟨a, vs, rfl, hH, hr⟩ := rv.dcT
      rw [dKeyT_ok e] at rk
      obtain ⟨b, xs, rfl, hb, hx⟩ := rk.tup.tupAt
      rw [rp_keys hx] at hb
      refine ⟨a, _, rfl, .inr ⟨_, _, _, hH, rfl, hb, rfl⟩, ?_⟩
      rcases hr.val (k := q) with ⟨h1, h2⟩ | ⟨y, z, h1, h2, h3⟩
      · exact .inl ⟨h1, h2⟩
      · exact .inr ⟨y, z, h1, h2, h3⟩
    · cases h
  · cases h
section
variable {X : Cx} {a b c e : Expr} {es : List Expr} {fa fb fc f : FE} {pos : Pos}
def gDAt : D → D → Option D := fun d k => match gDGet d k with
  | some (some r) => some r
  | _ => none
theorem se_dget (hu : X.A.units + 1 < cLine) (ha : SB X a fa) (hb : SB X b fb) (hs : NoSl b := by exact fun _ _ => rfl) : SE X (.Subscript a b pos) (fBin gDAt fa fb) := by
  refine ⟨PEw (pe_dget hu ha.out hb.out hs) fun σ H Q h => ?_⟩
  obtain ⟨g, O, env, x, d, x', S, e, k⟩ := h
  obtain ⟨da, x1, db, r, e1, e2, e3, rfl⟩ := fBin_some e
  refine two S e1 e2 fun v w H' S' l rv rw => ?_
  unfold gDAt at e3
  split at e3
  · rename_i z q
    cases e3
    obtain ⟨p, o, rfl, hd, h | ⟨y, z', rfl, h2, h3⟩⟩ := dget_ok q rv rw
    · cases h.2
    · cases h2
      exact ⟨p, y, rfl, hd, k _ _ S' l h3⟩
  · cases e3
def gDIn : D → D → Option D := fun k d => match gDGet d k with
  | some o => some (.bool o.isSome)
  | _ => none
theorem isSome_of {o : Option V} {r : Option D} {K : PySem.W.Frag} {O : Addr → Prop} {H : Hp} (h : (o = none ∧ r = none) ∨ ∃ y z, o = some y ∧ r = some z ∧ Rp K O H y z) : o.isSome = r.isSome := by
  rcases h with ⟨rfl, rfl⟩ | ⟨y, z, rfl, rfl, _⟩ <;> rfl
theorem pc_dinB (hu : X.A.units + 1 < cLine) (ha : SB X a fa) (hb : SB X b fb) : PC X .In a b (tE X.w X.K (fBin gDIn fa fb)) := by
  refine ⟨fun pins s σ H Q I h => (pc_din hu ha.out hb.out).run pins s σ H Q I ?_⟩
  obtain ⟨g, O, env, x, d, x', S, e, k⟩ := h
  obtain ⟨da, x1, db, r, e1, e2, e3, rfl⟩ := fBin_some e
  refine two S e1 e2 fun v w H' S' l rv rw => ?_
  unfold gDIn at e3
  split at e3
  · rename_i z q
    cases e3
    obtain ⟨p, o, rfl, hd, h⟩ := dget_ok q rw rv
    refine ⟨p, o, rfl, hd, ?_⟩
    rw [isSome_of h]
    exact k _ _ S' l (.bl _)
  · cases e3
theorem tB_of {f : FE} {σ : L2.St} {H : Hp} {Q : Bool → Hp → Prop} (h : tT X.w X.K (fTst f) σ H Q) : L2.tB (tE X.w X.K f) σ H Q := by
  obtain ⟨g, O, env, x, d, x', S, e, k⟩ := h
  refine ⟨g, O, env, x, _, x', S, fTst_some e, fun v H' S' l r => ?_⟩
  cases r
  exact ⟨d, rfl, k H' S' l⟩
theorem st_din (hu : X.A.units + 1 < cLine) (ha : SB X a fa) (hb : SB X b fb) (hm : behindInMarks .In b = false := by rfl) : ST X (.Compare a [.In] [b] pos) (fTst (fBin gDIn fa fb)) := ⟨PTw (pt_cmp (pc_dinB hu ha hb) hm) fun _ _ _ h => tB_of h⟩
/-! ### owned things change -/
/-- d[k] = v: value first, then the dict's name, then the key -/
def sDPut (i : Nat) (fk fv : FE) : FS := fun env x => match fv env x with
  | some (v, x1) => match fk env x1 with
    | some (k, x2) => match env[i]? with
      | some (.ow (.dk kvs)) => match dKey k with
        | some q => if kvs.length < maxLen then some (.nx (env.set i (.ow (.dk (putD dKey kvs k q v)))), x2) else none
        | none => none
      | some (.ow (.dt kvs)) => match dKeyT k with
        | some q => if kvs.length < maxLen then some (.nx (env.set i (.ow (.dt (putD dKeyT kvs k q v)))), x2) else none
        | none => none
      | _ => none
    | none => none
  | none => none
theorem maxLen_lt {n : Nat} (h : n < maxLen) : n < sizeLine := Nat.lt_of_lt_of_le h (maxLen_ok (Nat.le_refl _))
theorem keep_own {ω : World} {K : PySem.W.Frag} {g : FG} {O : Addr → Prop} {σ : L2.St} {H : Hp} {env : FEn} {x : FRow} (S : FSt ω K g O σ H env x) {p : Addr} {o : HO} (hp : O p) : Keep O H (upd H p o) := fun b u n e _ => by
  rw [upd_ne (show b ≠ p from fun z => n (z ▸ hp))]; exact e
theorem ss_dput {i : Nat} {n : Str} {fk fv : FE} {p0 pos' : Pos} (hu : X.A.units + 1 < cLine) (hv : SE X c fv) (hk : SE X b fk) (hs : swapsWith c (some (.Subscript (.Name n p0) b pos')) pos.line X.env = pure false := by rfl)
    (hN : X.N[i]? = some n := by rfl) (hvis : Vis X.env.scope n := by first | exact Or.inl rfl | exact Or.inr (Or.inl rfl) | exact Or.inr (Or.inr rfl)) (hd : (n == ("__debug__" : Str)) = false := by decide)
    (hcd : (n == ("__classdict__" : Str)) = false := by decide) : SS X (.Assign [.Subscript (.Name n p0) b pos'] c pos) (sDPut i fk fv) := by
  refine ⟨PSw (ps_dput hu (pe_var hN hvis hd hcd) hk.out hv.out hs) fun Dn σ H h => ?_⟩
  obtain ⟨g, O, env, x, r, x', S, e, kk⟩ := h
  unfold sDPut at e
  split at e
  · rename_i v x1 e1
    split at e
    · rename_i k x2 e2
      split at e
      · rename_i kvs e3
        split at e
        · rename_i q e4
          split at e
          · rename_i hl
            cases e
            refine ⟨g, O, env, x, v, x1, S, e1, fun y H1 S1 l1 r1 => ?_⟩
            obtain ⟨s, e5, q5⟩ := S1.at e3
            cases q5 with
            | @ow p _ op q6 q7 w =>
              refine ⟨_, e5, ⟨g, O, env, x1, k, x', S1, e2, fun z H2 S2 l2 r2 => ?_⟩⟩
              obtain ⟨s2, e6, q8⟩ := S2.at e3
              rw [e5] at e6
              cases e6
              cases q8 with
              | ow _ _ _ w2 =>
                obtain ⟨vs, hH, hr⟩ := w2
                have ez := dKey_rp e4 r2
                subst ez
                refine ⟨p, _, rfl, DPut.k (k := q) hH (by rw [hr.length]; exact maxLen_lt hl), ?_⟩
                refine kk O _ _ (S2.put e3 e5 True.intro ⟨_, upd_same, ?_⟩)
                have e7 := dKey_ok e4
                subst e7
                exact (hr.put (r1.step S1 l2)).move (keep_own S2 op) .refl
          · cases e
        · cases e
      · rename_i kvs e3
        split at e
        · rename_i q e4
          split at e
          · rename_i hl
            cases e
            refine ⟨g, O, env, x, v, x1, S, e1, fun y H1 S1 l1 r1 => ?_⟩
            obtain ⟨s, e5, q5⟩ := S1.at e3
            cases q5 with
            | @ow p _ op q6 q7 w =>
              refine ⟨_, e5, ⟨g, O, env, x1, k, x', S1, e2, fun z H2 S2 l2 r2 => ?_⟩⟩
              obtain ⟨s2, e6, q8⟩ := S2.at e3
              rw [e5] at e6
              cases e6
              cases q8 with
              | ow _ _ _ w2 =>
                obtain ⟨vs, hH, hr⟩ := w2
                have e7 := dKeyT_ok e4
                subst e7
                obtain ⟨b', xs, rfl, hb, hx⟩ := r2.tupAt
                rw [rp_keys hx] at hb
                refine ⟨p, _, rfl, DPut.t (k := q) hH hb (by rw [hr.length]; exact maxLen_lt hl), ?_⟩
                refine kk O _ _ (S2.put e3 e5 True.intro ⟨_, upd_same, ?_⟩)
                exact (hr.put (r1.step S1 l2)).move (keep_own S2 op) .refl
          · cases e
        · cases e
      · cases e
    · cases e
  · cases e
/-- xs.append(e) -/
def sApp (i : Nat) (f : FE) : FS := fun env x => match f env x with
  | some (d, x1) => match env[i]? with
    | some (.ow (.lst ds)) => if ds.length < maxLen then some (.nx (env.set i (.ow (.lst (ds ++ [d])))), x1) else none
    | _ => none
  | none => none
theorem ss_app {i : Nat} {n : Str} {f : FE} {p0 apos cpos : Pos} (he : SE X e f)
    (hs : swapsWith (.Call (.Attribute (.Name n p0) "append" apos) [e] [] cpos) none pos.line X.env = pure false := by rfl)
    (hbase : attributeBase (.Name n p0) "append" X.env (eval (.Name n p0) X.env) = eval (.Name n p0) X.env := by rfl)
    (hfew : ((backTo cpos (starEach (e :: []) X.env)).all (fun x => !x.1) && (backToKw cpos (keywordEach [] X.env)).all (fun x => x.1.isSome)
      && decide ((e :: []).length + ([] : List Keyword).length + (if ([] : List Keyword).isEmpty then 0 else 1) < 30)) = true := by rfl)
    (hline : (apos.endLine == cpos.line) = true := by rfl) (hss : starEach (e :: []) X.env = (false, eval e X.env) :: starEach [] X.env := by rfl) (hplain : (backTo cpos (starEach [] X.env)).any (·.1) = false := by rfl)
    (hN : X.N[i]? = some n := by rfl) (hvis : Vis X.env.scope n := by first | exact Or.inl rfl | exact Or.inr (Or.inl rfl) | exact Or.inr (Or.inr rfl)) (hd : (n == ("__debug__" : Str)) = false := by decide)
    (hcd : (n == ("__classdict__" : Str)) = false := by decide) : SS X (.Expr (.Call (.Attribute (.Name n p0) "append" apos) [e] [] cpos) pos) (sApp i f) := by
  refine ⟨PSw (ps_expr (pe_bm PySem.F.plainAttrs_list PySem.F.slot_list_append PySem.F.type_list_append mt_append (pe_var hN hvis hd hcd) (pa_cons he.out pa_nil hss) hbase hfew hline hss hplain) hs) fun Dn σ H h => ?_⟩
  obtain ⟨g, O, env, x, r, x', S, e, kk⟩ := h
  unfold sApp at e
  split at e
  · rename_i v x1 e1
    split at e
    · rename_i ds e3
      split at e
      · rename_i hl
        cases e
        obtain ⟨s, e5, q5⟩ := S.at e3
        cases q5 with
        | @ow p _ op q6 q7 w =>
          obtain ⟨vs, hH, hr⟩ := w
          refine ⟨_, e5, .inl ⟨rfl, _, .of hH⟩, ⟨g, O, env, x, v, x', S, e1, fun z H2 S2 l2 r2 => ?_⟩⟩
          have hH2 := l2 p _ q7 hH rfl
          refine ⟨p, vs, z, rfl, rfl, hH2, by rw [hr.length]; exact maxLen_lt hl, ?_⟩
          refine kk O _ _ (S2.put e3 e5 True.intro ⟨_, upd_same, ?_⟩)
          exact ((hr.step S l2).app (.cons r2 .nil)).move (keep_own S2 op) .refl
      · cases e
    · cases e
  · cases e
/-- xs.extend(e), e a list -/
def sExt (i : Nat) (f : FE) : FS := fun env x => match f env x with
  | some (.list es, x1) => match env[i]? with
    | some (.ow (.lst ds)) => if ds.length + es.length ≤ maxLen then some (.nx (env.set i (.ow (.lst (ds ++ es)))), x1) else none
    | _ => none
  | _ => none
end
end RT
namespace RT
open PySem PySem.Spec PyProof.Rows L2
/-! ### ghosts, wiping -/
def FG.add (g : FG) (more : List (V × D)) : FG := { g with gs := more ++ g.gs }
section
variable {ω : World} {K : PySem.W.Frag} {g : FG} {O O' : Addr → Prop} {σ : L2.St} {H H' : Hp} {env : FEn} {x x' : FRow}
theorem FSt.regh {g' : FG} (S : FSt ω K g O σ H env x) (h0 : g'.O0 = g.O0) (h1 : g'.H0 = g.H0) (h2 : g'.R = g.R) (h3 : ∀ p ∈ g'.gs, Rp K O H p.1 p.2) (h4 : g'.T = g.T := by rfl) (h5 : g'.w = g.w := by rfl) (h6 : g'.F = g.F := by rfl) : FSt ω K g' O σ H env x where
  tb := by rw [h4]; exact S.tb
  tk := by rw [h4]; exact S.tk
  nt0 := by rw [h1]; exact S.nt0
  ww := by rw [h5]; exact S.ww
  sub := by rw [h0]; exact S.sub
  new := by rw [h0, h1]; exact S.new
  dom := S.dom
  le := by rw [h1]; intro a o; rw [h2]; exact S.le a o
  row := by rw [h0, h1, h2]; exact fun r e => ⟨(S.row r e).1, (S.row r e).2.1, (S.row r e).2.2.chg h6 h5⟩
  len := S.len
  sl := fun i s e e1 e2 => by
    cases S.sl i s e e1 e2 with
    | no => exact .no _
    | va r => exact .va r
    | ow p q r t => exact .ow p (by rw [h0]; exact q) (by rw [h2]; exact r) t
    | rw e => exact .rw (by rw [h2, h6]; exact e)
    | da p q r t => exact .da p (by rw [h0]; exact q) (by rw [h2]; exact r) (by rw [h5]; exact t)
    | nd p q r t => exact .nd p (by rw [h0]; exact q) (by rw [h2]; exact r) (t.mv rfl (fun _ _ => rfl) (fun _ _ r => r) (fun _ _ r => r) fun _ _ x y z => ⟨x, by rw [h0]; exact y, by rw [h2]; exact z⟩)
    | fn n e r => exact .fn n e r
    | sg n e r zz => exact .sg n e r (by rw [h2, h6]; exact zz)
  dis := S.dis
  din := S.din
  nn := S.nn
  gh := h3
theorem FSt.addg (S : FSt ω K g O σ H env x) (more : List (V × D)) (h : ∀ p ∈ more, Rp K O H p.1 p.2) : FSt ω K (g.add more) O σ H env x :=
  S.regh rfl rfl rfl fun p hp => (List.mem_append.mp hp).elim (h p) (S.gh p)
theorem FSt.unadd {more : List (V × D)} (S : FSt ω K (g.add more) O σ H env x) : FSt ω K g O σ H env x :=
  S.regh rfl rfl rfl fun p hp => S.gh p (List.mem_append_right _ hp)
def wipeE (env : FEn) : List Nat → FEn
  | [] => env
  | v :: vs => (wipeE env vs).set v .no
theorem wipe_get (σ : L2.St) (j : Nat) : ∀ vs : List Nat, (wipe σ vs)[j]? = if j ∈ vs then (σ[j]?).map (fun _ => none) else σ[j]?
  | [] => by simp [wipe]
  | v :: vs => by
    unfold wipe
    rw [List.getElem?_set]
    have ih := wipe_get σ j vs
    have hl := wipe_length σ vs
    by_cases e : v = j
    · subst e
      have hm : v ∈ v :: vs := List.mem_cons_self
      rw [if_pos rfl, if_pos hm, hl]
      by_cases hv : v < σ.length
      · rw [if_pos hv, List.getElem?_eq_getElem hv]; rfl
      · rw [if_neg hv, List.getElem?_eq_none (by omega)]; rfl
    · rw [if_neg e, ih]
      have : (j ∈ v :: vs) ↔ j ∈ vs := by simp [show ¬ j = v from fun z => e z.symm]
      by_cases q : j ∈ vs
      · rw [if_pos q, if_pos (this.mpr q)]
      · rw [if_neg q, if_neg (fun z => q (this.mp z))]
theorem wipe_set {σ : L2.St} {i : Nat} {s : Option V} {vs : List Nat} (h : i ∈ vs) : wipe (σ.set i s) vs = wipe σ vs := by
  apply List.ext_getElem?
  intro j
  rw [wipe_get, wipe_get]
  by_cases q : j ∈ vs
  · rw [if_pos q, if_pos q, List.getElem?_set]
    by_cases e : i = j
    · subst e
      rw [if_pos rfl]
      by_cases hl : i < σ.length
      · rw [if_pos hl, List.getElem?_eq_getElem hl]; rfl
      · rw [if_neg hl, List.getElem?_eq_none (by omega)]
    · rw [if_neg e]
  · rw [if_neg q, if_neg q, List.getElem?_set_ne (fun e => q (by rw [← e]; exact h))]
theorem wipe_wipe (σ : L2.St) (vs : List Nat) : wipe (wipe σ vs) vs = wipe σ vs := by
  apply List.ext_getElem?
  intro j
  rw [wipe_get, wipe_get]
  by_cases q : j ∈ vs
  · rw [if_pos q, if_pos q]; cases σ[j]? <;> rfl
  · rw [if_neg q, if_neg q]
theorem wipeE_len (env : FEn) : ∀ vs : List Nat, (wipeE env vs).length = env.length
  | [] => rfl
  | v :: vs => by unfold wipeE; rw [List.length_set, wipeE_len env vs]
theorem wipeE_get {j : Nat} {e : FSl} : ∀ {vs : List Nat}, (wipeE env vs)[j]? = some e → e = .no ∨ (j ∉ vs ∧ env[j]? = some e)
  | [], h => .inr ⟨by simp, h⟩
  | v :: vs, h => by
    unfold wipeE at h
    rcases set_at h with ⟨e1, e2⟩ | ⟨e1, e2⟩
    · exact .inl e2
    · rcases wipeE_get e2 with q | ⟨q1, q2⟩
      · exact .inl q
      · exact .inr ⟨by simp [q1, show ¬ j = v from fun z => e1 z.symm], q2⟩
theorem FSt.wiped (S : FSt ω K g O σ H env x) (vs : List Nat) : FSt ω K g O (wipe σ vs) H (wipeE env vs) x where
  tb := S.tb
  tk := S.tk
  nt0 := S.nt0
  ww := S.ww
  sub := S.sub
  new := S.new
  dom := S.dom
  le := S.le
  row := S.row
  len := by rw [wipe_length, wipeE_len]; exact S.len
  sl := fun j s e h1 h2 => by
    rcases wipeE_get h2 with rfl | ⟨q1, q2⟩
    · exact .no _
    · rw [wipe_get, if_neg q1] at h1
      exact S.sl j s e h1 q2
  dis := fun i j d d' a b ne h1 h2 h3 h4 => by
    rcases wipeE_get h1 with z | ⟨q1, q2⟩
    · cases z
    · rcases wipeE_get h2 with z | ⟨q3, q4⟩
      · cases z
      · rw [wipe_get, if_neg q1] at h3
        rw [wipe_get, if_neg q3] at h4
        exact S.dis i j d d' a b ne q2 q4 h3 h4
  din := fun i j d d' a b h1 h2 h3 h4 => by
    rcases wipeE_get h1 with z | ⟨q1, q2⟩
    · cases z
    · rcases wipeE_get h2 with z | ⟨q3, q4⟩
      · cases z
      · rw [wipe_get, if_neg q1] at h3
        rw [wipe_get, if_neg q3] at h4
        exact S.din i j d d' a b q2 q4 h3 h4
  nn := fun i j d d' h1 h2 => by
    rcases wipeE_get h1 with z | ⟨q1, q2⟩
    · cases z
    · rcases wipeE_get h2 with z | ⟨q3, q4⟩
      · cases z
      · exact S.nn i j d d' q2 q4
  gh := S.gh
/-- an owned thing that no name holds changes -/
theorem FSt.upd1 (S : FSt ω K g O σ H env x) {p : Addr} {o oo : HO} (ho : H p = some oo) (nc : ¬ IsC oo) (op : O p) (n0 : ¬ g.O0 p) (nr : g.R ≠ some p) (mu : MutC (some o)) (ne : ∀ (j : Nat) d b, env[j]? = some d → isOwn d = true → σ[j]? = some (some (.ref b)) → b ≠ p)
    (nd : ∀ (j : Nat) d b, env[j]? = some (.nd d) → σ[j]? = some (some (.ref b)) → p ≠ b ∧ ¬ Inn H b p) : FSt ω K g O σ (upd H p o) env x := by
  have h0 : g.H0 p = none := by
    rcases S.new p op with z | z
    · exact absurd z n0
    · exact z
  have kp := keep_own (o := o) S op
  have mp := S.dom p op
  refine ⟨S.sub, S.new, fun a ha => ?_, fun c u hR e tn => ?_, fun r e => ?_, S.len, fun j s e' e1 e2 => ?_, S.dis, fun j k e e' b c e1 e2 e3 e4 => ⟨(S.din j k e e' b c e1 e2 e3 e4).1, fun z => (S.din j k e e' b c e1 e2 e3 e4).2 (z.of (upd_ne (Ne.symm (nd j e b e1 e3).1)))⟩, S.nn, fun q hq => (S.gh q hq).move kp .refl, tabs_upd S.tb ho (mut_nt (by rw [← ho]; exact mp)) nc, S.tk, S.nt0, S.ww⟩
  · by_cases z : a = p
    · subst z; rw [upd_same]; exact mu
    · rw [upd_ne z]; exact S.dom a ha
  · have z : c ≠ p := fun z => by rw [z, h0] at e; cases e
    rw [upd_ne z]; exact S.le c u hR e tn
  · obtain ⟨q1, q2, q3⟩ := S.row r e
    exact ⟨q1, q2, q3.updO op (fun z => nr (z ▸ e))⟩
  · cases S.sl j s e' e1 e2 with
    | no => exact .no _
    | va r => exact .va (r.move kp .refl)
    | ow q1 q2 q3 t => exact .ow q1 q2 q3 (t.move (fun u eu _ => by rw [upd_ne (ne j _ _ e2 rfl e1)]; exact eu) kp .refl)
    | rw e => exact .rw e
    | da q1 q2 q3 t => exact .da q1 q2 q3 (t.mv (fun u eu _ => by rw [upd_ne (ne j _ _ e2 rfl e1)]; exact eu) fun _ _ r => r.move kp .refl)
    | nd q1 q2 q3 t => exact .nd q1 q2 q3 (t.updO (Ne.symm (nd j _ _ e2 e1).1) (nd j _ _ e2 e1).2 kp)
    | fn n e r => exact .fn n (kp _ _ n e rfl) fun p hp => (r p hp).move kp .refl
    | sg n e r zz => exact .sg n (kp _ _ n e rfl) (fun p hp => (r p hp).move kp .refl) zz
/-- the wider O of a new thing is forgotten -/
theorem FSt.shrink {H0 : Hp} {x0 : FRow} (S0 : FSt ω K g O σ H0 env x0) (S : FSt ω K g O' σ H env x) (h : ∀ a, O a → O' a) (l0 : Le g H0 H) : FSt ω K g O σ H env x where
  tb := S.tb
  tk := S.tk
  nt0 := S.nt0
  ww := S.ww
  sub := S0.sub
  new := S0.new
  dom := fun a ha => S.dom a (h a ha)
  le := S.le
  row := fun r e => ⟨(S.row r e).1, (S.row r e).2.1, (S.row r e).2.2.sub h⟩
  len := S.len
  sl := fun i s e e1 e2 => by
    have w : Wid O' O H := fun a z => .inl (h a z)
    cases S.sl i s e e1 e2 with
    | no => exact .no _
    | va r => exact .va (r.move (fun _ _ _ e _ => e) w)
    | ow p q r t =>
      cases S0.sl i _ _ e1 e2 with
      | ow p0 _ _ _ => exact .ow p0 q r (t.move (fun _ e _ => e) (fun _ _ _ e _ => e) w)
    | rw e => exact .rw e
    | da p q r t =>
      cases S0.sl i _ _ e1 e2 with
      | da p0 _ _ _ => exact .da p0 q r (t.mv (fun _ e _ => e) fun _ _ r => r.move (fun _ _ _ e _ => e) w)
    | nd p q r t =>
      obtain ⟨p0, _, _, t0⟩ := S0.ndAt e2 e1
      exact .nd p0 q r (t.mv rfl (fun _ _ => rfl) (fun _ _ r => r.move (fun _ _ _ e _ => e) w) (fun _ _ r => r.move (fun _ _ _ e _ => e) w) fun b i x y z => ⟨(t0.inn (i.of (by obtain ⟨o, q, tn⟩ := t0.tk; rw [q]; exact l0 _ o r q tn))).1, y, z⟩)
    | fn n e r => exact .fn (fun z => n (h _ z)) e fun p hp => (r p hp).move (fun _ _ _ e _ => e) w
    | sg n e r zz => exact .sg (fun z => n (h _ z)) e (fun p hp => (r p hp).move (fun _ _ _ e _ => e) w) zz
  dis := S.dis
  din := S.din
  nn := S.nn
  gh := fun p hp => (S.gh p hp).move (fun _ _ _ e _ => e) (fun a z => .inl (h a z))
theorem FSt.notG (S : FSt ω K g O σ H env x) {p : Addr} (h : Gone H p) : ¬ O p := fun z => by
  have d := S.dom p z
  cases q : H p with
  | none => rw [q] at d; exact d
  | some o => exact h.no q (mut_nt (by rw [← q]; exact d))
end
section
variable {X : Cx} {a b c e : Expr} {es : List Expr} {fa fb fc f : FE} {pos : Pos}
def fOfX (f : FX) : FE := fun env x => match f env x with
  | some (.va d, x1) => some (d, x1)
  | some (.ow w, x1) => some (w.d, x1)
  | _ => none
theorem se_ofX {f : FX} (h : SX X e f) : SE X e (fOfX f) := by
  refine ⟨PEw h.out fun σ H Q h => ?_⟩
  obtain ⟨g, O, env, x, d, x', S, e, k⟩ := h
  unfold fOfX at e
  split at e
  · rename_i dd x1 e1
    cases e
    refine ⟨g, O, env, x, _, x', S, e1, fun O' v H' S' l w sub r nw => ?_⟩
    cases r with
    | va r => exact k v H' (S.shrink S' sub l) l (r.move (fun _ _ _ e _ => e) fun a z => .inl (sub a z))
  · rename_i dd x1 e1
    cases e
    refine ⟨g, O, env, x, _, x', S, e1, fun O' v H' S' l w sub r nw => ?_⟩
    obtain ⟨p, rfl, hp⟩ := nw
    have np := S.notG hp
    have wd : Wid O' O H' := fun a z => .inl (sub a z)
    cases r with
    | ow p1 q r t =>
      refine k _ H' (S.shrink S' sub l) l ?_
      cases dd with
      | lst ds => obtain ⟨xs, e, r⟩ := t; exact .lst np e (r.move (fun _ _ _ e _ => e) wd)
      | dk ds => obtain ⟨xs, e, r⟩ := t; exact .dK np (.inl e) (r.move (fun _ _ _ e _ => e) wd)
      | dt ds => obtain ⟨xs, e, r⟩ := t; exact .dT np (.inl e) (r.move (fun _ _ _ e _ => e) wd)
  · cases e
/-! ### targets -/
abbrev FGt := D → FEn → Option FEn
abbrev FGs := List D → FEn → Option FEn
def tG (ω : World) (K : PySem.W.Frag) (vs : List Nat) (f : FGt) : TG := fun v σ H Q => ∃ g O env x d env', FSt ω K g O σ H env x ∧ Rp K O H v d ∧ f d env = some env' ∧ ∀ σ', wipe σ' vs = wipe σ vs → FSt ω K g O σ' H env' x → Q σ' H
def tGs (ω : World) (K : PySem.W.Frag) (vs : List Nat) (f : FGs) : TGs := fun v σ H Q => ∃ g O env x d env', FSt ω K g O σ H env x ∧ RpA K O H v d ∧ f d env = some env' ∧ ∀ σ', wipe σ' vs = wipe σ vs → FSt ω K g O σ' H env' x → Q σ' H
structure SG (X : Cx) (e : Expr) (vs : List Nat) (f : FGt) : Prop where
  out : PG X e (tG X.w X.K vs f)
structure SGs (X : Cx) (e : List Expr) (vs : List Nat) (f : FGs) : Prop where
  out : PGs X e (tGs X.w X.K vs f)
theorem PGw {t t' : TG} (h : PG X e t) (q : ∀ v σ H Q, t' v σ H Q → t v σ H Q) : PG X e t' := ⟨fun pins s σ H v u Q I r z => h.run pins s σ H v u Q I r (q _ _ _ _ z)⟩
theorem PGsw {t t' : TGs} (h : PGs X es t) (q : ∀ v σ H Q, t' v σ H Q → t v σ H Q) : PGs X es t' := ⟨fun pins s σ H v u Q I r z => h.run pins s σ H v u Q I r (q _ _ _ _ z)⟩
def gtName (i : Nat) : FGt := fun d env => some (env.set i (.va d))
theorem sg_name (i : Nat) {n : Str} {vs : List Nat} (hN : X.N.Nodup) (hi : X.N[i]? = some n) (hx : Loc X.env.scope n) (hv : i ∈ vs) (hf : X.fn n = true ∨ X.env.scope.names.lookup n = some .local := by first | exact .inl rfl | exact .inr rfl | assumption) : SG X (.Name n pos) vs (gtName i) := by
  refine ⟨PGw (pg_name hN hi hx hf) fun v σ H Q h => ?_⟩
  obtain ⟨g, O, env, x, d, env', S, r, e, k⟩ := h
  cases e
  exact k _ (wipe_set hv) (S.setv i (.va r) fun d z => by cases z)
def gtNil : FGs := fun ds env => match ds with
  | [] => some env
  | _ => none
def gtCons (f : FGt) (h : FGs) : FGs := fun ds env => match ds with
  | d :: ds => match f d env with
    | some e1 => h ds e1
    | none => none
  | [] => none
theorem sgs_nil {vs : List Nat} : SGs X [] vs gtNil := by
  refine ⟨PGsw pgs_nil fun v σ H Q h => ?_⟩
  obtain ⟨g, O, env, x, d, env', S, r, e, k⟩ := h
  unfold gtNil at e
  split at e
  · cases e
    cases r
    exact ⟨rfl, k _ rfl S⟩
  · cases e
theorem sgs_cons {vs : List Nat} {f : FGt} {h : FGs} (h1 : SG X e vs f) (h2 : SGs X es vs h) (hs : (assignEach (e :: es) X.env).map (·.2) = assign e X.env :: (assignEach es X.env).map (·.2) := by rfl) : SGs X (e :: es) vs (gtCons f h) := by
  refine ⟨PGsw (pgs_cons h1.out h2.out hs) fun v σ H Q h => ?_⟩
  obtain ⟨g, O, env, x, d, env', S, r, e, k⟩ := h
  unfold gtCons at e
  split at e
  · split at e
    · rename_i d ds _ e1 q
      cases r with
      | cons r1 r2 => exact ⟨_, _, rfl, g, O, env, x, d, e1, S, r1, q, fun σ1 w1 S1 => ⟨g, O, e1, x, ds, env', S1, r2, e, fun σ2 w2 S2 => k σ2 (w2.trans w1) S2⟩⟩
    · cases e
  · cases e
def gtTup (n : Nat) (h : FGs) : FGt := fun d env => match d with
  | .tuple ds => if ds.length = n then h ds env else none
  | _ => none
theorem sg_tup {vs : List Nat} {k n : Nat} {h : FGs} (hc : X.calm = true) (h1 : SGs X es vs h) (hn : (assignEach es X.env).length = n := by rfl) (hst : (assignEach es X.env).findIdx? (·.1) = none := by rfl) : SG X (.Tuple es k pos) vs (gtTup n h) := by
  refine ⟨PGw (pg_tup hc h1.out hn hst) fun v σ H Q h => ?_⟩
  obtain ⟨g, O, env, x, d, env', S, r, e, k⟩ := h
  unfold gtTup at e
  split at e
  · rename_i ds
    split at e
    · rename_i hl
      obtain ⟨p, xs, rfl, hp, rx⟩ := r.tupAt
      exact ⟨p, xs, rfl, .of hp, by rw [rx.length]; exact hl, g, O, env, x, ds, env', S, rx, e, k⟩
    · cases e
  · cases e
/-- a, b = e -/
def sUnp (f : FE) (h : FGt) : FS := fun env x => match f env x with
  | some (d, x1) => match h d env with
    | some e1 => some (.nx e1, x1)
    | none => none
  | none => none
theorem ss_unp {tg : Expr} {vs : List Nat} {f : FE} {h : FGt} (he : SE X e f) (hg : SG X tg vs h) (hs : swapsWithSole [tg] e pos.line X.env = pure false := by rfl) (hw : swappedStores [tg] e X.env = pure none := by rfl)
    (h1 : (assignEach [tg] X.env).map (·.2) = [assign tg X.env] := by rfl) : SS X (.Assign [tg] e pos) (sUnp f h) := by
  refine ⟨PSw (ps_asg he.out hg.out hs hw h1) fun Dn σ H h => ?_⟩
  obtain ⟨g, O, env, x, r, x', S, e, k⟩ := h
  unfold sUnp at e
  split at e
  · rename_i d x1 e1
    split at e
    · rename_i env1 e2
      cases e
      exact ⟨g, O, env, x, d, x', S, e1, fun v H1 S1 l1 r1 => ⟨g, O, env, x', d, env1, S1, r1, e2, fun σ' _ S2 => k O σ' H1 S2⟩⟩
    · cases e
  · cases e
/-! ### what is walked -/
def WalksD (ω : World) (K : PySem.W.Frag) (J : It) (g : FG) (ds : List D) : Prop := ∀ O σ H env x i, FSt ω K g O σ H env x →
  (∀ d, ds[i]? = some d → J.go i H ∧ ∀ v H', J.yld i H v H' → Same H H' ∧ Rp K O H' v d) ∧ (i = ds.length → J.stop i H)
def tI (ω : World) (K : PySem.W.Frag) (f : FA) : TI := fun σ H R => ∃ g O env x ds x', FSt ω K g O σ H env x ∧ f env x = some (ds, x') ∧
  ∀ J more H', FSt ω K (g.add more) O σ H' env x' → Le g H H' → WalksD ω K J (g.add more) ds → R J H'
structure SI (X : Cx) (tg e : Expr) (f : FA) : Prop where
  out : PI X tg e (tI X.w X.K f)
def fSeq (f : FE) : FA := fun env x => match f env x with
  | some (.list ds, x1) => some (ds, x1)
  | some (.tuple ds, x1) => some (ds, x1)
  | _ => none
theorem si_seq {tg : Expr} (h : SE X e f) : SI X tg e (fSeq f) := by
  refine ⟨⟨fun pins s σ H R I h2 => ?_⟩⟩
  obtain ⟨g, O, env, x, ds, x', S, e, k⟩ := h2
  unfold fSeq at e
  split at e
  · rename_i ds' x1 e1
    cases e
    refine (pi_list h.out).run pins s σ H R I ⟨g, O, env, x, _, x', S, e1, fun v H1 S1 l1 r1 => ?_⟩
    cases r1 with
    | @lst p xs _ np hp rx =>
      refine ⟨p, rfl, ⟨xs, .of hp⟩, k _ [(.ref p, .list ds)] H1 (S1.addg _ fun q hq => ?_) l1 fun O2 σ2 H2 env2 x2 i S2 => ?_⟩
      · rw [List.mem_singleton] at hq
        subst hq
        exact .lst np hp rx
      · have q := S2.gh (.ref p, .list ds) (by simp [FG.add])
        cases q with
        | @lst _ ys _ np2 hp2 ry =>
          refine ⟨fun d hd => ?_, fun hi => ⟨ys, .of hp2, by rw [ry.length, hi]; exact Nat.le_refl _⟩⟩
          obtain ⟨y, e2, r2⟩ := ry.get hd
          refine ⟨⟨ys, y, .of hp2, e2⟩, fun v H' hy => ?_⟩
          obtain ⟨rfl, hy⟩ := hy
          have e3 := hy ys (.of hp2)
          rw [e2] at e3
          cases e3
          exact ⟨Same.refl _, r2⟩
  · rename_i ds' x1 e1
    cases e
    refine (pi_tup h.out).run pins s σ H R I ⟨g, O, env, x, _, x', S, e1, fun v H1 S1 l1 r1 => ?_⟩
    cases r1 with
    | @tup p xs _ np hp rx =>
      refine ⟨p, rfl, ⟨xs, .of hp⟩, k _ [(.ref p, .tuple ds)] H1 (S1.addg _ fun q hq => ?_) l1 fun O2 σ2 H2 env2 x2 i S2 => ?_⟩
      · rw [List.mem_singleton] at hq
        subst hq
        exact .tup np hp rx
      · have q := S2.gh (.ref p, .tuple ds) (by simp [FG.add])
        cases q with
        | @tup _ ys _ np2 hp2 ry =>
          refine ⟨fun d hd => ?_, fun hi => ⟨ys, .of hp2, by rw [ry.length, hi]; exact Nat.le_refl _⟩⟩
          obtain ⟨y, e2, r2⟩ := ry.get hd
          refine ⟨⟨ys, y, .of hp2, e2⟩, fun v H' hy => ?_⟩
          obtain ⟨rfl, hy⟩ := hy
          have e3 := hy ys (.of hp2)
          rw [e2] at e3
          cases e3
          exact ⟨Same.refl _, r2⟩
  · cases e
def rgD (lo : Int) (n : Nat) : List D := (List.range n).map fun (i : Nat) => D.int (lo + (i : Int))
theorem rgD_len (lo : Int) (n : Nat) : (rgD lo n).length = n := by simp [rgD]
theorem rgD_get {lo : Int} {n i : Nat} {d : D} (h : (rgD lo n)[i]? = some d) : i < n ∧ d = .int (lo + (i : Int)) := by
  unfold rgD at h
  rw [List.getElem?_map] at h
  by_cases hi : i < n
  · rw [List.getElem?_range hi] at h
    exact ⟨hi, (Option.some.inj h).symm⟩
  · rw [List.getElem?_eq_none (by simpa using hi)] at h
    cases h
theorem walks_rg {ω : World} {K : PySem.W.Frag} {g : FG} (lo : Int) (n : Nat) : WalksD ω K (Itr lo n) g (rgD lo n) := fun O σ H env x i S => by
  refine ⟨fun d hd => ?_, fun hi => by rw [rgD_len] at hi; exact Nat.le_of_eq hi.symm⟩
  obtain ⟨hi, rfl⟩ := rgD_get hd
  refine ⟨hi, fun v H' hy => ?_⟩
  obtain ⟨rfl, rfl⟩ := hy
  exact ⟨Same.refl _, .int _⟩
def okRg (i : Int) : Bool := decide (-(2 ^ 62) ≤ i ∧ i < 2 ^ 62)
def fRg1 (f : FE) : FA := fun env x => match f env x with
  | some (.int n, x1) => if okRg n then some (rgD 0 n.toNat, x1) else none
  | _ => none
theorem si_rg1 {tg : Expr} {p : Pos} (hg : Gl X "range") (hm : X.mg "range" = none) (ha : SE X a fa) (hs : starEach [a] X.env = [(false, eval a X.env)] := by rfl) : SI X tg (.Call (.Name "range" p) [a] [] pos) (fRg1 fa) := by
  refine ⟨⟨fun pins s σ H R I h2 => ?_⟩⟩
  obtain ⟨g, O, env, x, ds, x', S, e, k⟩ := h2
  unfold fRg1 at e
  split at e
  · rename_i n x1 e1
    split at e
    · rename_i ok
      cases e
      have ok := of_decide_eq_true ok
      refine (pi_range1 hg hm (pa_cons ha.out pa_nil hs) hs).run pins s σ H R I ⟨g, O, env, x, _, x', S, e1, fun v H1 S1 l1 r1 => ?_⟩
      cases r1
      exact ⟨n, rfl, ok.1, ok.2, k _ [] H1 S1 l1 (walks_rg 0 _)⟩
    · cases e
  · cases e
def fRg2 (f h : FE) : FA := fun env x => match f env x with
  | some (.int m, x1) => match h env x1 with
    | some (.int n, x2) => if okRg m && okRg n then some (rgD m (n - m).toNat, x2) else none
    | _ => none
  | _ => none
/-! ### for -/
def forL (gt : FGt) (b : FS) : List D → FS
  | [], env, x => some (.nx env, x)
  | d :: ds, env, x => match gt d env with
    | none => none
    | some e1 => match b e1 x with
      | some (.nx e2, x2) => forL gt b ds e2 x2
      | some (.ct e2, x2) => forL gt b ds e2 x2
      | some (.bk e2, x2) => some (.nx e2, x2)
      | some (.rt d, x2) => some (.rt d, x2)
      | none => none
def sFor (f : FA) (gt : FGt) (b : FS) : FS := fun env x => match f env x with
  | some (ds, x1) => forL gt b ds env x1
  | none => none
theorem drop_get {α : Type} {l : List α} {i : Nat} {d : α} (h : l[i]? = some d) : l.drop i = d :: l.drop (i + 1) := by
  obtain ⟨hl, e⟩ := List.getElem?_eq_some_iff.mp h
  rw [List.drop_eq_getElem_cons hl, e]
theorem ss_for {tg : Expr} {body : List Stmt} {vs : List Nat} {f : FA} {gt : FGt} {fb : FS} (hp : PassesOwn (model X.prog X.w) X.A X.env X.xe) (hc : X.calm = true) (hi : SI X tg e f) (hg : SG X tg vs gt) (hb : SSs X body fb)
    (hs : ∀ x, foldedSetIterable e X.env x = pure x := by intro _; rfl) : SS X (.For tg e body [] pos) (sFor f gt fb) := by
  refine ⟨PSw (ps_for hp hc hi.out hg.out hb.out hs) fun Dn σ H h => ?_⟩
  obtain ⟨g, O, env, x, r, x', S, e, k⟩ := h
  unfold sFor at e
  split at e
  · rename_i ds x1 e1
    refine ⟨g, O, env, x, ds, x1, S, e1, fun J more H1 S1 l1 wk => ?_⟩
    refine ⟨fun i m σ H => m = ds.length - i ∧ i ≤ ds.length ∧ ∃ O env x, FSt X.w X.K (g.add more) O σ H env x ∧ forL gt fb (ds.drop i) env x = some (r, x'), ⟨_, rfl, Nat.zero_le _, O, env, x1, S1, e⟩, fun i m σ H hW => ?_⟩
    obtain ⟨rfl, hil, O, env, x, S, e⟩ := hW
    obtain ⟨wgo, wst⟩ := wk O σ H env x i S
    by_cases hlt : i < ds.length
    · have hd : ds[i]? = some ds[i] := List.getElem?_eq_getElem hlt
      obtain ⟨go, yl⟩ := wgo _ hd
      rw [drop_get hd] at e
      refine .inr ⟨go, fun σ' H' => i + 1 ≤ ds.length ∧ ∃ O env x, FSt X.w X.K (g.add more) O σ' H' env x ∧ forL gt fb (ds.drop (i + 1)) env x = some (r, x'), fun σ' H' hN => ⟨ds.length - (i + 1), by omega, rfl, hN.1, hN.2⟩, fun v H' hy => ?_⟩
      obtain ⟨sm, rv⟩ := yl v H' hy
      unfold forL at e
      split at e
      · cases e
      · rename_i env1 e2
        refine ⟨g.add more, O, env, x, ds[i], env1, S.same sm, rv, e2, fun σ1 _ S2 => ?_⟩
        split at e
        · rename_i env2 x2 e3
          exact ⟨g.add more, O, env1, x, _, x2, S2, e3, fun O' σ' H' S' => ⟨hlt, O', env2, x2, S', e⟩⟩
        · rename_i env2 x2 e3
          exact ⟨g.add more, O, env1, x, _, x2, S2, e3, fun O' σ' H' S' => ⟨hlt, O', env2, x2, S', e⟩⟩
        · rename_i env2 x2 e3
          cases e
          exact ⟨g.add more, O, env1, x, _, x', S2, e3, fun O' σ' H' S' => k O' σ' H' S'.unadd⟩
        · rename_i d x2 e3
          cases e
          exact ⟨g.add more, O, env1, x, _, x', S2, e3, fun O' σ' H' v env' S' r' => k O' σ' H' v env' S'.unadd r'⟩
        · cases e
    · have hi : i = ds.length := by omega
      rw [hi, List.drop_length] at e
      unfold forL at e
      cases e
      exact .inl ⟨wst hi, k O σ H S.unadd⟩
  · cases e
/-! ### while -/
/-! ### comprehensions -/
def compL (gt : FGt) (t : FT) (fe : FE) (env : FEn) : List D → FRow → Option (List D × FRow)
  | [], x => some ([], x)
  | d :: ds, x => match gt d env with
    | none => none
    | some e1 => match t e1 x with
      | some (true, x1) => match fe e1 x1 with
        | some (r, x2) => match compL gt t fe env ds x2 with
          | some (rs, x3) => some (r :: rs, x3)
          | none => none
        | none => none
      | some (false, x1) => compL gt t fe env ds x1
      | none => none
def xLc (f : FA) (gt : FGt) (t : FT) (fe : FE) (vs : List Nat) : FX := fun env x => match f env x with
  | some (ds, x1) => match compL gt t fe (wipeE env vs) ds x1 with
    | some (rs, x2) => if rs.length < maxLen then some (.ow (.lst rs), x2) else none
    | none => none
  | none => none
theorem lc_read {ω : World} {K : PySem.W.Frag} {f : FA} {gt : FGt} {t : FT} {fe : FE} {vs : List Nat} {σ : L2.St} {H : Hp} {Q : VK} (h : tX ω K (xLc f gt t fe vs) σ H Q) : tLc (tI ω K f) (tG ω K vs gt) (tT ω K t) (tE ω K fe) vs σ H Q := by
  obtain ⟨g, O, env, x, sl, x', S, e, k⟩ := h
  unfold xLc at e
  split at e
  · rename_i ds x1 e1
    split at e
    · rename_i rs x2 e2
      split at e
      · rename_i hl
        cases e
        refine ⟨g, O, env, x, ds, x1, S, e1, fun J more H1 S1 l1 wk p hp => ?_⟩
        have n1 := S1.newp hp
        have hp0 : Gone H p := Le.gone l1 (.of hp) S1.unadd
        have hne : ∀ (j : Nat) d b, env[j]? = some d → isOwn d = true → σ[j]? = some (some (.ref b)) → b ≠ p := fun j d b h1 h0 h2 => own_ne2 S1 (.of hp) h1 h0 h2
        refine ⟨fun i m H2 => m = ds.length - i ∧ i ≤ ds.length ∧ Le g H H2 ∧ ∃ x acc dn rest, FSt ω K (g.add more) (oAdd O p) σ H2 env x ∧ H2 p = some (.lst acc) ∧ RpA K (oAdd O p) H2 acc dn ∧ compL gt t fe (wipeE env vs) (ds.drop i) x = some (rest, x') ∧ dn ++ rest = rs,
          ⟨_, rfl, Nat.zero_le _, l1.trans (.of (same_upd hp)), x1, [], [], rs, S1.own hp True.intro, upd_same, .nil, e2, rfl⟩, fun i m H2 hW => ?_⟩
        obtain ⟨rfl, hil, lH, x, acc, dn, rest, S2, hacc, racc, e, er⟩ := hW
        obtain ⟨wgo, wst⟩ := wk _ σ H2 env x i S2
        by_cases hlt : i < ds.length
        · have hd : ds[i]? = some ds[i] := List.getElem?_eq_getElem hlt
          obtain ⟨go, yl⟩ := wgo _ hd
          rw [drop_get hd] at e
          refine .inr ⟨go, fun H2 => i + 1 ≤ ds.length ∧ Le g H H2 ∧ ∃ x acc dn rest, FSt ω K (g.add more) (oAdd O p) σ H2 env x ∧ H2 p = some (.lst acc) ∧ RpA K (oAdd O p) H2 acc dn ∧ compL gt t fe (wipeE env vs) (ds.drop (i + 1)) x = some (rest, x') ∧ dn ++ rest = rs,
            fun H' hN => ⟨ds.length - (i + 1), by omega, rfl, hN.1, hN.2⟩, fun v H3 hy => ?_⟩
          obtain ⟨sm, rv⟩ := yl v H3 hy
          unfold compL at e
          split at e
          · cases e
          · rename_i env1 e3
            have S3 := S2.same sm
            refine ⟨g.add more, oAdd O p, wipeE env vs, x, ds[i], env1, S3.wiped vs, rv, e3, fun σ1 w1 S4 => ⟨w1.trans (wipe_wipe σ vs), ?_⟩⟩
            split at e
            · rename_i xb e4
              split at e
              · rename_i r x3 e5
                split at e
                · rename_i rs' x4 e6
                  cases e
                  refine ⟨g.add more, oAdd O p, env1, x, _, xb, S4, e4, fun H5 S5 l5 => ?_⟩
                  refine iteT ?_
                  refine ⟨g.add more, oAdd O p, env1, xb, r, x3, S5, e5, fun y H6 S6 l6 r6 => ?_⟩
                  have l7 : Le (g.add more) H2 H6 := (Le.of sm).trans (l5.trans l6)
                  have S7 := S2.step l7 S6.tb fun r hr => (S6.row r hr).2.2
                  have hacc' := l7 p _ n1.2 hacc rfl
                  have ll : acc.length < maxLen := by
                    have := racc.length
                    have h2 : (dn ++ r :: rs').length = rs.length := by rw [er]
                    rw [List.length_append, List.length_cons] at h2
                    omega
                  refine ⟨acc, hacc', maxLen_lt ll, hlt, ?_, x3, acc ++ [y], dn ++ [r], rs', S7.upd1 hacc' notC_lst (.inr rfl) n1.1 n1.2 True.intro hne (fun j d b h1 h2 => own_nd S (lH.trans l7) hp0 h1 h2), upd_same, ?_, e6, by rw [List.append_assoc]; exact er⟩
                  · intro c u hR e tn
                    have z : c ≠ p := fun z => by rw [z] at e; exact hp0.no e tn
                    rw [upd_ne z]
                    exact l7 c u hR (lH c u hR e tn) tn
                  · exact ((racc.step S2 l7).app (.cons r6 .nil)).move (keep_own S7 (.inr rfl)) .refl
                · cases e
              · cases e
            · rename_i xb e4
              refine ⟨g.add more, oAdd O p, env1, x, _, xb, S4, e4, fun H5 S5 l5 => ?_⟩
              refine iteF ?_
              have l7 : Le (g.add more) H2 H5 := (Le.of sm).trans l5
              have S7 := S2.step l7 S5.tb fun r hr => (S5.row r hr).2.2
              exact ⟨hlt, fun c u hR e tn => l7 c u hR (lH c u hR e tn) tn, xb, acc, dn, rest, S7, l7 p _ n1.2 hacc rfl, racc.step S2 l7, e, er⟩
            · cases e
        · have hi : i = ds.length := by omega
          rw [hi, List.drop_length] at e
          unfold compL at e
          cases e
          rw [List.append_nil] at er
          subst er
          refine .inl ⟨wst hi, k (oAdd O p) _ H2 S2.unadd lH (fun a z => z.elim .inl fun e => .inr (e ▸ hp0)) (fun a z => .inl z) (.ow (.inr rfl) n1.1 n1.2 ⟨acc, hacc, racc⟩) ⟨p, rfl, hp0⟩⟩
      · cases e
    · cases e
  · cases e
structure STs (X : Cx) (es : List Expr) (f : FT) : Prop where
  out : PTs X es (tT X.w X.K f)
theorem PTsw {es : List Expr} {t t' : TT} (h : PTs X es t) (q : ∀ σ H Q, t' σ H Q → t σ H Q) : PTs X es t' := ⟨fun pins s σ H Q I z => h.run pins s σ H Q I (q _ _ _ z)⟩
def tYesF : FT := fun _ x => some (true, x)
theorem sts_nil : STs X [] tYesF := ⟨PTsw pts_nil fun σ H Q h => by
  obtain ⟨g, O, env, x, d, x', S, e, k⟩ := h
  cases e
  exact k H S (Le.refl _ _)⟩
theorem sts_one {t : FT} (h : ST X c t) : STs X [c] t := ⟨pts_one h.out⟩
theorem sx_lc {elt tg iter : Expr} {ifs : List Expr} {scope : Scope} {own : List (Str × Nat)} {f : FA} {gt : FGt} {t : FT} {fe : FE} (hc : X.calm = true) (hN : X.N.Nodup) (hi : SI X tg iter f) (ok : BlkOk X.N X.env.scope scope own)
    (hg : ∀ (s : Shared) (H : Hp) (C : Addr) (cl : List (Str × Addr)) (fp : List Addr), SG (X.blk s H scope (compEnvC scope cl C X.env) fp) tg (own.map (·.2)) gt)
    (ht : ∀ (s : Shared) (H : Hp) (C : Addr) (cl : List (Str × Addr)) (fp : List Addr), STs (X.blk s H scope (compEnvC scope cl C X.env) fp) ifs t)
    (he : ∀ (s : Shared) (H : Hp) (C : Addr) (cl : List (Str × Addr)) (fp : List Addr), SE (X.blk s H scope (compEnvC scope cl C X.env) fp) elt fe) (hs : ∀ x, foldedSetIterable iter X.env x = pure x := by intro _; rfl) :
    SX X (.ListComp elt [⟨tg, iter, ifs, 0⟩] scope pos) (xLc f gt t fe (own.map (·.2))) :=
  ⟨PEw (pe_lc hc hN hi.out ok (fun s H C cl fp => (show PG _ tg (tG X.w X.K (own.map (·.2)) gt) from (hg s H C cl fp).out)) (fun s H C cl fp => (show PTs _ ifs (tT X.w X.K t) from (ht s H C cl fp).out)) (fun s H C cl fp => (show PE _ elt (tE X.w X.K fe) from (he s H C cl fp).out)) hs) fun σ H Q h => lc_read h⟩
theorem ss_setLc {i : Nat} {y : Str} {py : Pos} {elt tg iter : Expr} {ifs : List Expr} {scope : Scope} {own : List (Str × Nat)} {cpos : Pos} {f : FA} {gt : FGt} {t : FT} {fe : FE} (hc : X.calm = true) (hN : X.N.Nodup) (hy : X.N[i]? = some y) (hyl : X.env.scope.names.lookup y = some .local)
    (hsw : swapsWith (.ListComp elt [⟨tg, iter, ifs, 0⟩] scope cpos) (some (.Name y py)) pos.line X.env = pure true) (hi : SI X tg iter f) (ok : BlkOk X.N X.env.scope scope own)
    (hg : ∀ (s : Shared) (H : Hp) (C : Addr) (cl : List (Str × Addr)) (fp : List Addr), SG (X.blk s H scope (compEnvC scope cl C X.env) fp) tg (own.map (·.2)) gt)
    (ht : ∀ (s : Shared) (H : Hp) (C : Addr) (cl : List (Str × Addr)) (fp : List Addr), STs (X.blk s H scope (compEnvC scope cl C X.env) fp) ifs t)
    (he : ∀ (s : Shared) (H : Hp) (C : Addr) (cl : List (Str × Addr)) (fp : List Addr), SE (X.blk s H scope (compEnvC scope cl C X.env) fp) elt fe) (hs : ∀ x, foldedSetIterable iter X.env x = pure x := by intro _; rfl)
    (tr : FX → FX) (htr : tr = id ∨ tr = fun f => xVal (fOfX f)) : SS X (.Assign [.Name y py] (.ListComp elt [⟨tg, iter, ifs, 0⟩] scope cpos) pos) (sSet i (tr (xLc f gt t fe (own.map (·.2))))) := by
  have main : ∀ fx : FX, (∀ σ H Q, tX X.w X.K fx σ H Q → tLc (tI X.w X.K f) (tG X.w X.K (own.map (·.2)) gt) (tT X.w X.K t) (tE X.w X.K fe) (own.map (·.2)) σ H Q) → SS X (.Assign [.Name y py] (.ListComp elt [⟨tg, iter, ifs, 0⟩] scope cpos) pos) (sSet i fx) := fun fx hfx => by
    refine ⟨PSw (ps_setLc hc hN hy hyl hsw hi.out ok (fun s H C cl fp => (show PG _ tg (tG X.w X.K (own.map (·.2)) gt) from (hg s H C cl fp).out)) (fun s H C cl fp => (show PTs _ ifs (tT X.w X.K t) from (ht s H C cl fp).out)) (fun s H C cl fp => (show PE _ elt (tE X.w X.K fe) from (he s H C cl fp).out)) hs) fun Dn σ H h => ?_⟩
    obtain ⟨g, O, env, x, r, x', S, e, k⟩ := h
    unfold sSet at e
    split at e
    · rename_i sl x1 e1
      cases e
      exact hfx σ H _ ⟨g, O, env, x, sl, x', S, e1, fun O' v H' S' l w sub r nw => k O' _ H' (S'.setv i r (fun d z => by
        obtain ⟨p, e2, hp⟩ := nw.ow d z
        exact ⟨p, e2, fun j d' b h1 h2 => own_ne S hp h1 h2⟩) nw.nn fun d z p ep j d' b h1 h2 => by
        obtain ⟨q, e2, hp⟩ := nw.ow d z
        rw [ep] at e2; cases e2
        exact own_nd S l hp h1 h2)⟩
    · cases e
  rcases htr with rfl | rfl
  · exact main _ fun σ H Q h => lc_read h
  · refine main _ fun σ H Q h => ?_
    obtain ⟨g, O, env, x, sl, x', S, e, k⟩ := h
    change (match fOfX (xLc f gt t fe (own.map (·.2))) env x with
      | some (d, x1) => some (FSl.va d, x1)
      | none => none) = some (sl, x') at e
    split at e
    · rename_i d x1 e1
      cases e
      unfold fOfX at e1
      split at e1
      · rename_i dd x1 e2
        unfold xLc at e2
        split at e2
        · split at e2
          · split at e2
            · cases e2
            · cases e2
          · cases e2
        · cases e2
      · rename_i dd x1 e2
        cases e1
        refine lc_read ⟨g, O, env, x, _, x', S, e2, fun O' v H' S' l w sub r nw => ?_⟩
        obtain ⟨p, rfl, hp⟩ := nw
        have np := S.notG hp
        have wd : Wid O' O H' := fun a z => .inl (sub a z)
        cases r with
        | ow p1 q r t =>
          refine k O _ H' (S.shrink S' sub l) l .refl (fun _ h => h) (.va ?_) True.intro
          cases dd with
          | lst ds => obtain ⟨xs, e, r⟩ := t; exact .lst np e (r.move (fun _ _ _ e _ => e) wd)
          | dk ds => obtain ⟨xs, e, r⟩ := t; exact .dK np (.inl e) (r.move (fun _ _ _ e _ => e) wd)
          | dt ds => obtain ⟨xs, e, r⟩ := t; exact .dT np (.inl e) (r.move (fun _ _ _ e _ => e) wd)
      · cases e1
    · cases e
end
end RT
namespace RT
open PySem PySem.Spec PyProof.Rows L2
/-! ### what defs promise -/
def spF (K : PySem.W.Frag) (m : List D → Option D) : Sp := fun vs H Q _ => ∃ T O ds d, TOK K T ∧ LamX.Tabs T H ∧ (∀ a, O a → MutC (H a)) ∧ RpA K O H vs ds ∧ m ds = some d ∧ ∀ v H', SameT T H H' → Rp K O H' v d → Q v H'
def spR (K : PySem.W.Frag) (m : List D → FRow → Option (D × FRow)) : Sp := fun vs H Q _ => ∃ T O r vs' ds x d x', TOK K T ∧ LamX.Tabs T H ∧ (∀ a, O a → MutC (H a)) ∧ O r ∧ vs = .ref r :: vs' ∧ RowAt K O H r x ∧ RpA K O H vs' ds ∧ m ds x = some (d, x') ∧
  ∀ v H', (∀ a o, a ≠ r → H a = some o → isNT o = true → H' a = some o) → LamX.Tabs T H' → RowAt K O H' r x' → Rp K O H' v d → Q v H'
def startE (n : Nat) (ds : List D) : FEn := ds.map FSl.va ++ List.replicate (n - ds.length) FSl.no
def row0 : FRow := ⟨[], 0, 0, 0⟩
def mkF (n k : Nat) (body : FS) : List D → Option D := fun ds => if ds.length = k then match body (startE n ds) row0 with
  | some (.rt d, _) => some d
  | some (.nx _, _) => some .none
  | _ => none
  else none
def mkR (n k : Nat) (body : FS) : List D → FRow → Option (D × FRow) := fun ds x => if ds.length = k then match body (.rw :: startE n ds) x with
  | some (.rt d, x') => some (d, x')
  | some (.nx _, x') => some (.none, x')
  | _ => none
  else none
section
variable {P : Program} {ω : World} {K : PySem.W.Frag} {mg : Str → Option Value} {base : Heap}
theorem vas_at {K : PySem.W.Frag} {g : FG} {O : Addr → Prop} {H : Hp} {m : Nat} : ∀ {vs : List V} {ds : List D}, RpA K O H vs ds → ∀ (i : Nat) s e, (vs.map some ++ List.replicate m none)[i]? = some s → (ds.map FSl.va ++ List.replicate m FSl.no)[i]? = some e → SlOk K g O H s e
  | _, _, .nil, i, s, e, h1, h2 => by
    rw [List.map_nil, List.nil_append] at h1 h2
    have := (List.mem_replicate.mp (List.mem_of_getElem? h2)).2
    subst this
    exact .no _
  | _, _, .cons a b, 0, s, e, h1, h2 => by
    have e1 := Option.some.inj h1
    have e2 := Option.some.inj h2
    subst e1
    subst e2
    exact .va a
  | _, _, .cons a b, i + 1, s, e, h1, h2 => vas_at b i s e (by simpa using h1) (by simpa using h2)
theorem no_ow {m i : Nat} {w : OwD} : ∀ {ds : List D}, (ds.map FSl.va ++ List.replicate m FSl.no)[i]? ≠ some (.ow w) := fun {ds} h => by
  have h := List.mem_of_getElem? h
  rcases List.mem_append.mp h with h | h
  · obtain ⟨d, _, e⟩ := List.mem_map.mp h
    cases e
  · have := (List.mem_replicate.mp h).2
    cases this
theorem no_nd {m i : Nat} {w : OwD} : ∀ {ds : List D}, (ds.map FSl.va ++ List.replicate m FSl.no)[i]? ≠ some (.nd w) := fun {ds} h => by
  have h := List.mem_of_getElem? h
  rcases List.mem_append.mp h with h | h
  · obtain ⟨d, _, e⟩ := List.mem_map.mp h
    cases e
  · have := (List.mem_replicate.mp h).2
    cases this
theorem ok_fn {x qual : Str} {st : Stmt} {f : Addr} {fd : FuncData} {N ps : List Str} {k : Nat} {body : FS} (F : Fun K x qual st f fd) (S : FnScope N ps (defScope st))
    (h : ∀ (cdv : Value) (A : Around) (outer : List Env) (s : Shared) (H : Hp) (E : XK), Room k (A.deeper (envOfC qual (defScope st) s.heap.objs.size f cdv)) → SSs (cxOf CX0 P ω K mg base N qual (defScope st) f cdv A outer s H E).nox (defBody st) body) :
    FnOk P ω K mg base CX0 (k + 1) f fd ps (spF K (mkF N.length ps.length body)) := by
  refine F.ok S (fun vs H Q E h => ?_) (fun cdv A outer s H vs Q E hr hsp => ⟨tS ω K body, (h cdv A outer s H E hr).out, ?_⟩)
  · obtain ⟨T, O, ds, d, _, _, _, r, e, _⟩ := h
    unfold mkF at e
    split at e
    · rename_i hl
      rw [r.length, hl]
    · cases e
  · obtain ⟨T, O, ds, d, tk, tb, dom, r, e, q⟩ := hsp
    unfold mkF at e
    split at e
    · rename_i hl
      have S0 : FSt ω K ⟨O, noT H, none, [], T, ω, none⟩ O (L2.start N vs) H (startE N.length ds) row0 := by
        refine ⟨fun _ h => h, fun _ h => .inl h, dom, (fun a o _ e _ => (noT_some e).1), fun r e => (by cases e), ?_, fun i s e h1 h2 => ?_, fun i j d d' a b ne h1 h2 => absurd h1 no_ow, fun i j d d' a b h1 => absurd h1 no_nd, fun i j d d' h1 => absurd h1 no_nd, fun p hp => (by cases hp), tb, tk, fun a o e => (noT_some e).2, rfl⟩
        · unfold L2.start startE
          rw [List.length_append, List.length_append, List.length_map, List.length_map, List.length_replicate, List.length_replicate, r.length]
        · unfold L2.start at h1
          unfold startE at h2
          rw [r.length] at h1
          exact vas_at r i s e h1 h2
      have same : ∀ {O' : Addr → Prop} {σ' : L2.St} {H' : Hp} {env' : FEn} {x' : FRow}, FSt ω K ⟨O, noT H, none, [], T, ω, none⟩ O' σ' H' env' x' → SameT T H H' := fun S' => ⟨fun a o e t => S'.le a o (fun z => by cases z) (noT_of e t) t, S'.tb⟩
      split at e
      · rename_i d' x' e1
        cases e
        exact ⟨_, O, _, row0, _, _, S0, e1, fun O' σ' H' v env' S' rp => q v H' (same S') (rp.move (fun _ _ _ e _ => e) fun a z => .inl (S'.sub a z))⟩
      · rename_i d' x' e1
        cases e
        exact ⟨_, O, _, row0, _, _, S0, e1, fun O' σ' H' S' => q _ H' (same S') .non⟩
      · cases e
    · cases e
theorem ok_fnR {x qual : Str} {st : Stmt} {f : Addr} {fd : FuncData} {N ps : List Str} {k : Nat} {body : FS} (F : Fun K x qual st f fd) (S : FnScope N ps (defScope st)) (h0 : 0 < N.length) (h1 : 0 < ps.length)
    (h : ∀ (cdv : Value) (A : Around) (outer : List Env) (s : Shared) (H : Hp) (E : XK), Room k (A.deeper (envOfC qual (defScope st) s.heap.objs.size f cdv)) → SSs (cxOf CX0 P ω K mg base N qual (defScope st) f cdv A outer s H E).nox (defBody st) body) :
    FnOk P ω K mg base CX0 (k + 1) f fd ps (spR K (mkR (N.length - 1) (ps.length - 1) body)) := by
  refine F.ok S (fun vs H Q E h => ?_) (fun cdv A outer s H vs Q E hr hsp => ⟨tS ω K body, (h cdv A outer s H E hr).out, ?_⟩)
  · obtain ⟨T, O, r, vs', ds, x, d, x', _, _, _, _, rfl, _, r, e, _⟩ := h
    unfold mkR at e
    split at e
    · rename_i hl
      rw [List.length_cons, r.length, hl]
      omega
    · cases e
  · obtain ⟨T, O, ra, vs', ds, x, d, x', tk, tb, dom, ro, rfl, rat, r, e, q⟩ := hsp
    unfold mkR at e
    split at e
    · rename_i hl
      have hne : noT H ra ≠ none := by
        obtain ⟨a0, e, _⟩ := rat
        rw [noT_of e rfl]
        exact fun z => by cases z
      have S0 : FSt ω K ⟨O, noT H, some ra, [], T, ω, none⟩ O (L2.start N (.ref ra :: vs')) H (.rw :: startE (N.length - 1) ds) x := by
        have hnd : ∀ {i : Nat} {w : OwD}, (FSl.rw :: startE (N.length - 1) ds)[i]? ≠ some (.nd w) := fun {i w} h1 => by
          unfold startE at h1
          cases i with
          | zero => have e1 := Option.some.inj h1; cases e1
          | succ i => exact absurd (show (ds.map FSl.va ++ List.replicate (N.length - 1 - ds.length) FSl.no)[i]? = _ by simpa using h1) no_nd
        refine ⟨fun _ h => h, fun _ h => .inl h, dom, (fun a o _ e _ => (noT_some e).1), fun r e => (by cases e; exact ⟨ro, hne, .of rat rfl⟩), ?_, fun i s e h1 h2 => ?_, fun i j d d' a b ne h1 h2 => ?_, fun i j d d' a b h1 => absurd h1 hnd, fun i j d d' h1 => absurd h1 hnd, fun p hp => (by cases hp), tb, tk, fun a o e => (noT_some e).2, rfl⟩
        · unfold L2.start startE
          simp only [List.length_append, List.length_cons, List.length_map, List.length_replicate, r.length]
          omega
        · unfold L2.start at h1
          unfold startE at h2
          cases i with
          | zero =>
            have e1 := Option.some.inj h1
            have e2 := Option.some.inj h2
            subst e1
            subst e2
            exact .rw ⟨rfl, rfl⟩
          | succ i =>
            have e3 : N.length - (V.ref ra :: vs').length = N.length - 1 - ds.length := by
              rw [List.length_cons, r.length]
              omega
            rw [e3] at h1
            exact vas_at r i s e (by simpa using h1) (by simpa using h2)
        · unfold startE at h1
          cases i with
          | zero => have e1 := Option.some.inj h1; cases e1
          | succ i => exact absurd (show (ds.map FSl.va ++ List.replicate (N.length - 1 - ds.length) FSl.no)[i]? = _ by simpa using h1) no_ow
      have same : ∀ {O' : Addr → Prop} {σ' : L2.St} {H' : Hp} {env' : FEn} {x' : FRow}, FSt ω K ⟨O, noT H, some ra, [], T, ω, none⟩ O' σ' H' env' x' → (∀ a o, a ≠ ra → H a = some o → isNT o = true → H' a = some o) := fun S' a o n e t => S'.le a o (fun z => n (Option.some.inj z).symm) (noT_of e t) t
      split at e
      · rename_i d' x' e1
        cases e
        exact ⟨_, O, _, x, _, _, S0, e1, fun O' σ' H' v env' S' rp => q v H' (same S') S'.tb (((S'.row ra rfl).2.2.sub S'.sub).row rfl) (rp.move (fun _ _ _ e _ => e) fun a z => .inl (S'.sub a z))⟩
      · rename_i d' x' e1
        cases e
        exact ⟨_, O, _, x, _, _, S0, e1, fun O' σ' H' S' => q _ H' (same S') S'.tb (((S'.row ra rfl).2.2.sub S'.sub).row rfl) .non⟩
      · cases e
    · cases e
/-- a def that may be called -/
structure Callee (P : Program) (ω : World) (K : PySem.W.Frag) (mg : Str → Option Value) (base : Heap) (k : Nat) (n : Str) (sp : Sp) : Prop where
  ex : ∃ (f : Addr) (fd : FuncData) (ps : List Str), FnOk P ω K mg base CX0 k f fd ps sp ∧ mg n = some (.ref f) ∧ PySem.W.keepIn K (.ref f) = true ∧ Binds K fd ps []
theorem Callee.mono {k j : Nat} {n : Str} {sp : Sp} (c : Callee P ω K mg base k n sp) (h : k ≤ j) : Callee P ω K mg base j n sp := by
  obtain ⟨f, fd, ps, a, b, c, d⟩ := c.ex
  exact ⟨f, fd, ps, a.mono h, b, c, d⟩
end
section
variable {X : Cx} {a b c e : Expr} {es : List Expr} {fa fb fc f : FE} {pos : Pos}
def fCall (m : List D → Option D) (fa : FA) : FE := fun env x => match fa env x with
  | some (ds, x1) => match m ds with
    | some d => some (d, x1)
    | none => none
  | none => none
theorem se_call {k : Nat} {n : Str} {p : Pos} {m : List D → Option D} {fa : FA} (c : Callee X.prog X.w X.K X.mg X.base k n (spF X.K m)) (hr : Room k X.A) (hg : Gl X n) (ha : SA X (e :: es) fa) (hdb : (n == ("__debug__" : Str)) = false := by decide)
    (he : starEach (e :: es) X.env = (false, eval e X.env) :: starEach es X.env := by rfl) (hpl : (backTo pos (starEach es X.env)).any (·.1) = false := by rfl) : SE X (.Call (.Name n p) (e :: es) [] pos) (fCall m fa) := by
  obtain ⟨f, fd, ps, F, hm, hk, hb⟩ := c.ex
  refine ⟨PEw (pe_call F hr hg hm hk hb .nil pass0 ha.out hdb he hpl) fun σ H Q h => ?_⟩
  obtain ⟨g, O, env, x, d, x', S, e, k⟩ := h
  unfold fCall at e
  split at e
  · rename_i ds x1 e1
    split at e
    · rename_i d1 e2
      cases e
      refine ⟨g, O, env, x, ds, x', S, e1, fun vs H1 S1 l1 r1 => ?_⟩
      show spF X.K m (vs ++ []) H1 Q E0
      rw [List.append_nil]
      exact ⟨g.T, O, ds, d, S1.tk, S1.tb, S1.dom, r1, e2, fun v H2 sm r2 => k v H2 (S1.sameT sm) (l1.trans (.ofT sm)) r2⟩
    · cases e
  · cases e
def fCallR (i : Nat) (m : List D → FRow → Option (D × FRow)) (fa : FA) : FE := fun env x => match env[i]? with
  | some .rw => match fa env x with
    | some (ds, x1) => m ds x1
    | none => none
  | _ => none
theorem se_callR {k i : Nat} {n r : Str} {p p1 : Pos} {m : List D → FRow → Option (D × FRow)} {fa : FA} (c : Callee X.prog X.w X.K X.mg X.base k n (spR X.K m)) (hr : Room k X.A) (hg : Gl X n) (ha : SA X es fa) (hdb : (n == ("__debug__" : Str)) = false := by decide)
    (he : starEach (.Name r p1 :: es) X.env = (false, eval (.Name r p1) X.env) :: starEach es X.env := by rfl) (hpl : (backTo pos (starEach es X.env)).any (·.1) = false := by rfl)
    (hN : X.N[i]? = some r := by rfl) (hvis : Vis X.env.scope r := by first | exact Or.inl rfl | exact Or.inr (Or.inl rfl) | exact Or.inr (Or.inr rfl)) (hd : (r == ("__debug__" : Str)) = false := by decide)
    (hcd : (r == ("__classdict__" : Str)) = false := by decide) : SE X (.Call (.Name n p) (.Name r p1 :: es) [] pos) (fCallR i m fa) := by
  obtain ⟨f, fd, ps, F, hm, hk, hb⟩ := c.ex
  refine ⟨PEw (pe_call F hr hg hm hk hb .nil pass0 (pa_cons (pe_var hN hvis hd hcd) ha.out he) hdb he hpl) fun σ H Q h => ?_⟩
  obtain ⟨g, O, env, x, d, x', S, e, k⟩ := h
  unfold fCallR at e
  split at e
  · rename_i e0
    split at e
    · rename_i ds x1 e1
      obtain ⟨s, e5, q5⟩ := S.at e0
      cases q5 with
      | @rw ra hR2 =>
        obtain ⟨hR, hF⟩ := hR2
        refine ⟨_, e5, g, O, env, x, ds, x1, S, e1, fun vs H1 S1 l1 r1 => ?_⟩
        show spR X.K m ((.ref ra :: vs) ++ []) H1 Q E0
        rw [List.append_nil]
        obtain ⟨q1, q2, q3⟩ := S1.row ra hR
        refine ⟨g.T, O, ra, vs, ds, x1, d, x', S1.tk, S1.tb, S1.dom, S1.sub _ q1, rfl, q3.row hF, r1, e, fun v H2 kp tb2 rt r2 => ?_⟩
        have l2 : Le g H1 H2 := fun a o n e t => kp a o (fun z => n (by rw [z]; exact hR)) e t
        exact k v H2 (S1.step l2 tb2 fun r hr => by rw [hR] at hr; cases hr; exact .of rt hF) (l1.trans l2) r2
    · cases e
  · cases e
/-! ### the row -/
def fRow (i : Nat) (k : Int) : FE := fun env x => match env[i]? with
  | some .rw => if k = 1 then some (.int x.a, x) else if k = 2 then some (.int x.b, x) else if k = 3 then some (.int x.c, x) else none
  | _ => none
theorem se_row {i j : Nat} {k : Int} {n : Str} {p p1 : Pos} (hN : X.N[i]? = some n := by rfl) (hvis : Vis X.env.scope n := by first | exact Or.inl rfl | exact Or.inr (Or.inl rfl) | exact Or.inr (Or.inr rfl)) (hd : (n == ("__debug__" : Str)) = false := by decide)
    (hcd : (n == ("__classdict__" : Str)) = false := by decide) : SE X (.Subscript (.Name n p) (.Constant (.int k) j p1) pos) (fRow i k) := by
  refine ⟨PEw (pe_ix ix_list (pe_var hN hvis hd hcd) pe_int (fun _ _ => rfl)) fun σ H Q h => ?_⟩
  obtain ⟨g, O, env, x, d, x', S, e, kk⟩ := h
  unfold fRow at e
  split at e
  · rename_i e0
    obtain ⟨s, e5, q5⟩ := S.at e0
    cases q5 with
    | @rw ra hR2 =>
      obtain ⟨hR, hF⟩ := hR2
      obtain ⟨a0, q3, q4⟩ := (S.row ra hR).2.2.row hF
      split at e
      · rename_i hk
        cases e
        subst hk
        exact ⟨_, e5, ra, _, 1, _, rfl, rfl, .of q3, rfl, kk _ _ S (Le.refl _ _) (.int _)⟩
      · split at e
        · rename_i hk
          cases e
          subst hk
          exact ⟨_, e5, ra, _, 2, _, rfl, rfl, .of q3, rfl, kk _ _ S (Le.refl _ _) (.int _)⟩
        · split at e
          · rename_i hk
            cases e
            subst hk
            exact ⟨_, e5, ra, _, 3, _, rfl, rfl, .of q3, rfl, kk _ _ S (Le.refl _ _) (.int _)⟩
          · cases e
  · cases e
theorem RowAt.seq {K : PySem.W.Frag} {O : Addr → Prop} {H : Hp} {r : Addr} {x : FRow} (h : RowAt K O H r x) : ∃ a0, H r = some (.lst [.ref a0, .int x.a, .int x.b, .int x.c]) ∧ SqL K H a0 (x.ns.map V.int) := by
  obtain ⟨a0, e, q⟩ := h
  exact ⟨a0, e, q.seq⟩
/-- len(row[0]) -/
def fRowLen (i : Nat) : FE := fun env x => match env[i]? with
  | some .rw => some (.int x.ns.length, x)
  | _ => none
theorem se_rowlen {i j : Nat} {n : Str} {p p0 p1 p2 : Pos} (hg : Gl X "len") (hm : X.mg "len" = none) (hN : X.N[i]? = some n := by rfl) (hvis : Vis X.env.scope n := by first | exact Or.inl rfl | exact Or.inr (Or.inl rfl) | exact Or.inr (Or.inr rfl)) (hd : (n == ("__debug__" : Str)) = false := by decide)
    (hcd : (n == ("__classdict__" : Str)) = false := by decide)
    (hs : starEach [.Subscript (.Name n p) (.Constant (.int 0) j p1) p2] X.env = (false, eval (.Subscript (.Name n p) (.Constant (.int 0) j p1) p2) X.env) :: starEach [] X.env := by rfl) : SE X (.Call (.Name "len" p0) [.Subscript (.Name n p) (.Constant (.int 0) j p1) p2] [] pos) (fRowLen i) := by
  refine ⟨PEw (pe_callB call_len_seq hg hm PySem.boot_len (pa_cons (pe_ix ix_list (pe_var hN hvis hd hcd) pe_int (fun _ _ => rfl)) pa_nil hs) (by decide) (by decide) hs) fun σ H Q h => ?_⟩
  obtain ⟨g, O, env, x, d, x', S, e, kk⟩ := h
  unfold fRowLen at e
  split at e
  · rename_i e0
    cases e
    obtain ⟨s, e5, q5⟩ := S.at e0
    cases q5 with
    | @rw ra hR2 =>
      obtain ⟨hR, hF⟩ := hR2
      obtain ⟨a0, q3, q4⟩ := ((S.row ra hR).2.2.row hF).seq
      refine ⟨_, e5, ra, _, 0, _, rfl, rfl, .of q3, rfl, a0, _, rfl, .inl q4, ?_⟩
      rw [List.length_map]
      exact kk _ _ S (Le.refl _ _) (.int _)
  · cases e
/-- row[0][e] -/
def fRowAt (i : Nat) (f : FE) : FE := fun env x => match env[i]? with
  | some .rw => match f env x with
    | some (.int k, x1) => match atI x.ns k with
      | some z => some (.int z, x1)
      | none => none
    | _ => none
  | _ => none
theorem atI_map {α β : Type} {f : α → β} {l : List α} {i : Int} {z : α} (h : atI l i = some z) : atI (l.map f) i = some (f z) := by
  unfold atI at h ⊢
  rw [List.length_map]
  cases q : ixN l.length i with
  | none => rw [q] at h; cases h
  | some j =>
    rw [q] at h
    show (l.map f)[j]? = some (f z)
    have h : l[j]? = some z := h
    rw [List.getElem?_map, h]
    rfl
theorem se_rowat {i j : Nat} {n : Str} {f : FE} {p p1 p2 : Pos} (hb : SE X b f) (hs : PlainIx b := by exact fun _ _ => rfl) (hN : X.N[i]? = some n := by rfl) (hvis : Vis X.env.scope n := by first | exact Or.inl rfl | exact Or.inr (Or.inl rfl) | exact Or.inr (Or.inr rfl)) (hd : (n == ("__debug__" : Str)) = false := by decide)
    (hcd : (n == ("__classdict__" : Str)) = false := by decide) : SE X (.Subscript (.Subscript (.Name n p) (.Constant (.int 0) j p1) p2) b pos) (fRowAt i f) := by
  refine ⟨PEw (pe_ix ix_list (pe_ix ix_list (pe_var hN hvis hd hcd) pe_int (fun _ _ => rfl)) hb.out hs) fun σ H Q h => ?_⟩
  obtain ⟨g, O, env, x, d, x', S, e, kk⟩ := h
  unfold fRowAt at e
  split at e
  · rename_i e0
    split at e
    · rename_i k x1 e1
      split at e
      · rename_i z e2
        cases e
        obtain ⟨s, e5, q5⟩ := S.at e0
        cases q5 with
        | @rw ra hR2 =>
          obtain ⟨hR, hF⟩ := hR2
          obtain ⟨a0, q3, q4⟩ := (S.row ra hR).2.2.row hF
          refine ⟨_, e5, ra, _, 0, _, rfl, rfl, .of q3, rfl, g, O, env, x, _, x', S, e1, fun v H1 S1 l1 r1 => ?_⟩
          cases r1
          refine ⟨a0, x.ns.map V.int, k, _, rfl, rfl, ?_, atI_map e2, kk _ _ S1 l1 (.int _)⟩
          exact (q4.to fun n => ⟨n, fun o e t => l1 a0 o (fun z => n (by rw [hR] at z; cases z; exact S.sub _ (S.row ra hR).1)) e t⟩).seq
      · cases e
    · cases e
  · cases e
end
end RT
namespace RT
open PySem PySem.Spec PyProof.Rows L2
/-! ### built-ins, by borrowed arguments -/
def tBs (ω : World) (K : PySem.W.Frag) (f : FA) : TA := fun σ H Q => ∃ g O env x d x', FSt ω K g O σ H env x ∧ f env x = some (d, x') ∧
  ∀ v H', FSt ω K g O σ H' env x' → Le g H H' → Paired (RpB K g O H') v d → Q v H'
structure SBs (X : Cx) (e : List Expr) (f : FA) : Prop where
  out : PA X e (tBs X.w X.K f)
theorem call_lenDR {X : Cx} : CallR X (.builtin "len") (fun xs H Q => ∃ a kvs, xs = [V.ref a] ∧ L2.Rd H a (.dK kvs) ∧ Q (.int kvs.length) H) := by
  intro pins s σ H xs us Q I r h
  obtain ⟨a, kvs, rfl, ha, q⟩ := h
  obtain ⟨u, rfl, ru⟩ := vals1 r
  cases ru
  exact d_len I ha fun t s' I' => ⟨.int kvs.length, H, I', ⟨t, rfl⟩, q⟩
theorem call_listDR {X : Cx} (hc : X.calm = true) : CallR X (.type "list") (fun xs H Q => ∃ p kvs, xs = [V.ref p] ∧ L2.Rd H p (.dK kvs) ∧ ∀ q, H q = none → Q (.ref q) (upd H q (.lst (kvs.map fun kv => kV kv.1)))) := by
  intro pins s σ H xs us Q I r h
  obtain ⟨p, kvs, e, hk, q⟩ := h
  subst e
  obtain ⟨u, eu, rx⟩ := vals1 r
  subst eu
  obtain rfl : u = Value.ref p := rx
  have ok : ObjOk X.prog X.w H s.heap p (.dK kvs) := hk.elim (fun hk => I.hok p _ hk) fun ⟨_, hk⟩ => (I.hok p _ hk).2
  obtain ⟨z, lo, vs, rk, hd⟩ := ok
  obtain ⟨ep, hat⟩ := hd.dictAt
  have hl : kvs.length = vs.length := Paired.length rk
  refine PySem.W.kdl_call (PySem.W.kdl_dict (knd := mixKind X.prog X.w) (kvs := vs) (ep := ep) lo) (I.ok.hd hc) hat (by rw [← hl]; exact z) fun h' tk acc' c' hkeep hS hacc => ?_
  refine ⟨.ref s.heap.objs.size, upd H s.heap.objs.size (.lst (kvs.map fun kv => kV kv.1)), I.laid hkeep (Nat.le_refl _) (show ObjOk X.prog X.w _ _ _ (.lst (kvs.map fun kv => kV kv.1)) from ⟨?_, acc'.toList, c', ?_, ?_⟩), rfl, q _ (I.hok.fresh (Nat.le_refl _))⟩
  · rw [List.length_map]; exact z
  · have el : acc'.toList.length = acc'.size := by simp
    refine vals_of_at (by rw [List.length_map, el, hacc.1, hl]) fun j x w h1 h2 => ?_
    obtain ⟨k, y, hky, hi⟩ := hacc.2 j w (by rw [← Array.getElem?_toList]; exact h2)
    have e1 : (kvs.map (·.1))[j]? = some k := by
      rw [KV.keys rk, List.getElem?_map, hky] <;> rfl
    have e2 : (kvs.map fun kv => kV kv.1)[j]? = some (kV k) := by
      have e3 : (kvs.map fun kv => kV kv.1) = (kvs.map (·.1)).map kV := by rw [List.map_map] <;> rfl
      rw [e3, List.getElem?_map, e1] <;> rfl
    rw [e2] at h1
    cases h1
    exact keyIs_rel hi
  · rw [Array.toArray_toList]; exact hS
section
variable {X : Cx} {a b c e : Expr} {es : List Expr} {fa fb fc f : FE} {pos : Pos}
theorem sbs_nil : SBs X [] aNil := by
  refine ⟨PAw pa_nil fun σ H Q h => ?_⟩
  obtain ⟨g, O, env, x, d, x', S, e, k⟩ := h
  cases e
  exact k _ _ S (Le.refl _ _) .nil
theorem sbs_cons {f : FE} {t : FA} (h : SB X e f) (ht : SBs X es t) (hs : starEach (e :: es) X.env = (false, eval e X.env) :: starEach es X.env := by rfl) : SBs X (e :: es) (aCons f t) := by
  refine ⟨PAw (pa_cons h.out ht.out hs) fun σ H Q h => ?_⟩
  obtain ⟨g, O, env, x, d, x', S, e, k⟩ := h
  unfold aCons at e
  split at e
  · rename_i d1 x1 e1
    split at e
    · rename_i ds x2 e2
      cases e
      refine ⟨g, O, env, x, d1, x1, S, e1, fun v H1 S1 l1 r1 => ?_⟩
      refine ⟨g, O, env, x1, ds, x', S1, e2, fun vs H2 S2 l2 r2 => ?_⟩
      exact k _ _ S2 (l1.trans l2) (.cons (RpB.step S1 l2 r1) r2)
    · cases e
  · cases e
def CallD (X : Cx) (f : Value) (gd : List D → Option D) : Prop :=
  CallR X f fun vs H Q => ∃ g O σ env x ds r, FSt X.w X.K g O σ H env x ∧ Paired (RpB X.K g O H) vs ds ∧ gd ds = some r ∧ ∀ u H', Same H H' → Rp X.K O H' u r → Q u H'
theorem CallD.by {f : Value} {r : List V → Hp → VK → Prop} {gd : List D → Option D} (h : CallR X f r)
    (q : ∀ g O σ env x ds z H vs Q, FSt X.w X.K g O σ H env x → Paired (RpB X.K g O H) vs ds → gd ds = some z → (∀ u H', Same H H' → Rp X.K O H' u z → Q u H') → r vs H Q) : CallD X f gd := by
  intro pins s σ H vs us Q I rv h2
  obtain ⟨g, O, σ', env, x, ds, z, S, rr, e, k⟩ := h2
  exact h pins s σ H vs us Q I rv (q _ _ _ _ _ _ _ _ _ _ S rr e k)
theorem se_callB {id : String} {n : Str} {p : Pos} {gd : List D → Option D} {fa : FA} (hc : CallD X (.builtin id) gd) (hg : Gl X n) (hm : X.mg n = none) (hv : bootBuiltins n = some (.builtin id)) (ha : SBs X (e :: es) fa) (hn : n ≠ "__name__" := by decide) (hdb : (n == ("__debug__" : Str)) = false := by decide)
    (he : starEach (e :: es) X.env = (false, eval e X.env) :: starEach es X.env := by rfl) (hpl : (backTo pos (starEach es X.env)).any (·.1) = false := by rfl) : SE X (.Call (.Name n p) (e :: es) [] pos) (fCall gd fa) := by
  refine ⟨PEw (pe_callB hc hg hm hv ha.out hn hdb he hpl) fun σ H Q h => ?_⟩
  obtain ⟨g, O, env, x, d, x', S, e, k⟩ := h
  unfold fCall at e
  split at e
  · rename_i ds x1 e1
    split at e
    · rename_i d1 e2
      cases e
      exact ⟨g, O, env, x, ds, x', S, e1, fun vs H1 S1 l1 r1 => ⟨g, O, σ, env, x', ds, d, S1, r1, e2, fun u H2 sm r2 => k u H2 (S1.same sm) (l1.trans (.of sm)) r2⟩⟩
    · cases e
  · cases e
theorem se_callTy {T : String} {n : Str} {p : Pos} {gd : List D → Option D} {fa : FA} (hc : CallD X (.type T) gd) (hg : Gl X n) (hm : X.mg n = none) (hv : bootBuiltins n = some (.type T)) (ha : SBs X (e :: es) fa) (hn : n ≠ "__name__" := by decide) (hdb : (n == ("__debug__" : Str)) = false := by decide)
    (he : starEach (e :: es) X.env = (false, eval e X.env) :: starEach es X.env := by rfl) (hpl : (backTo pos (starEach es X.env)).any (·.1) = false := by rfl) : SE X (.Call (.Name n p) (e :: es) [] pos) (fCall gd fa) := by
  refine ⟨PEw (pe_callTy hc hg hm hv ha.out hn hdb he hpl) fun σ H Q h => ?_⟩
  obtain ⟨g, O, env, x, d, x', S, e, k⟩ := h
  unfold fCall at e
  split at e
  · rename_i ds x1 e1
    split at e
    · rename_i d1 e2
      cases e
      exact ⟨g, O, env, x, ds, x', S, e1, fun vs H1 S1 l1 r1 => ⟨g, O, σ, env, x', ds, d, S1, r1, e2, fun u H2 sm r2 => k u H2 (S1.same sm) (l1.trans (.of sm)) r2⟩⟩
    · cases e
  · cases e
def gLen : List D → Option D
  | [.list ds] => some (.int ds.length)
  | [.tuple ds] => some (.int ds.length)
  | [.dict ds] => some (.int ds.length)
  | [.dictT ds] => some (.int ds.length)
  | _ => none
def rLenTR : List V → Hp → VK → Prop := fun xs H Q => ∃ (p : Addr) (kvs : List (List L2.Key × V)), xs = [.ref p] ∧ L2.Rd H p (.dT kvs) ∧ Q (.int ((kvs.length : Nat) : Int)) H
theorem call_len_dTR {X : Cx} : CallR X (.builtin "len") rLenTR := by
  intro pins s σ H xs us Q I r h
  obtain ⟨p, kvs, rfl, hp, q⟩ := h
  obtain ⟨u, rfl, rx⟩ := vals1 r
  obtain rfl : u = .ref p := rx
  obtain ⟨z, hd, ys, rel, dd⟩ := dt_rd I.hok hp
  have hl : kvs.length = ys.length := Paired.length rel
  refine call_len_dictH hd dd (by rw [← hl]; rw [sizeLine_eq] at z; omega) ?_
  rw [← hl]
  exact ⟨.int ((kvs.length : Nat) : Int), H, I.tok _, ⟨_, rfl⟩, q⟩
theorem cd_len : CallD X (.builtin "len") gLen := by
  refine CallD.by ((call_len_seq.or call_lenDR).or call_len_dTR) fun g O σ env x ds z H vs Q S r e k => ?_
  unfold gLen at e
  split at e
  · cases e
    cases r with
    | cons r r' =>
      cases r'
      obtain ⟨p, xs, rfl, q, rx⟩ := r.lst
      refine .inl (.inl ⟨p, xs, rfl, .inl (.of q), ?_⟩)
      rw [rx.length]
      exact k _ _ (Same.refl _) (.int _)
  · cases e
    cases r with
    | cons r r' =>
      cases r'
      obtain ⟨p, xs, rfl, q, rx⟩ := r.tup.tupAt
      refine .inl (.inl ⟨p, xs, rfl, .inr (.of q), ?_⟩)
      rw [rx.length]
      exact k _ _ (Same.refl _) (.int _)
  · cases e
    cases r with
    | cons r r' =>
      cases r'
      obtain ⟨p, xs, rfl, q, rx⟩ := r.dct
      refine .inl (.inr ⟨p, xs, rfl, q, ?_⟩)
      rw [rx.length]
      exact k _ _ (Same.refl _) (.int _)
  · cases e
    cases r with
    | cons r r' =>
      cases r'
      obtain ⟨p, xs, rfl, q, rx⟩ := r.dcT
      refine .inr ⟨p, xs, rfl, q, ?_⟩
      rw [rx.length]
      exact k _ _ (Same.refl _) (.int _)
  · cases e
def gTupOf : List D → Option D
  | [.list ds] => some (.tuple ds)
  | [.tuple ds] => some (.tuple ds)
  | _ => none
theorem cd_tuple : CallD X (.type "tuple") gTupOf := by
  refine CallD.by call_tuple_of fun g O σ env x ds z H vs Q S r e k => ?_
  unfold gTupOf at e
  split at e
  · cases e
    cases r with
    | cons r r' =>
      cases r'
      obtain ⟨p, xs, rfl, q, rx⟩ := r.lst
      refine ⟨p, xs, rfl, .inl ⟨.of q, fun l hl => ?_⟩⟩
      have sm := same_upd (o := .tup xs) hl
      exact k _ _ sm (.tup (S.notO hl) upd_same (rx.move (.of sm) .refl))
  · cases e
    cases r with
    | cons r r' =>
      cases r'
      obtain ⟨p, xs, rfl, q, rx⟩ := r.tup.tupAt
      exact ⟨p, xs, rfl, .inr ⟨.of q, k _ _ (Same.refl _) r.tup⟩⟩
  · cases e
def gListOf : List D → Option D
  | [.list ds] => some (.list ds)
  | [.tuple ds] => some (.list ds)
  | [.dict ds] => some (.list (ds.map (·.1)))
  | [.dictT ds] => some (.list (ds.map (·.1)))
  | _ => none
theorem keys_rp {K : PySem.W.Frag} {O : Addr → Prop} {H : Hp} : ∀ {kvs : List (L2.Key × V)} {ds : List (D × D)}, RpK K O H kvs ds → RpA K O H (kvs.map fun kv => kV kv.1) (ds.map (·.1))
  | _, _, .nil => .nil
  | _, _, .cons (k := k) a b => .cons (by cases k with
    | inl i => exact .int i
    | inr s => exact .str s) (keys_rp b)
theorem kVs_rp {K : PySem.W.Frag} {O : Addr → Prop} {H : Hp} : ∀ ks : List L2.Key, RpA K O H (ks.map kV) (ks.map keyD)
  | [] => .nil
  | k :: ks => .cons (by cases k with
    | inl i => exact .int i
    | inr s => exact .str s) (kVs_rp ks)
theorem keysT_rp {ω : World} {K : PySem.W.Frag} {g : FG} {O : Addr → Prop} {H : Hp} {σ : L2.St} {env : FEn} {x : FRow} (S : FSt ω K g O σ H env x) : ∀ {kvs : List (List L2.Key × V)} {ds : List (D × D)} {bs : List Addr}, RpT K O H kvs ds → IsKeys H kvs bs → RpA K O H (bs.map V.ref) (ds.map (·.1))
  | _, _, _, .nil, .nil => .nil
  | _, _, _, .cons (k := k) a b, .cons q qs => .cons (.tup (fun z => by
      have m := S.dom _ z
      rw [q] at m
      exact m) q (kVs_rp k)) (keysT_rp S b qs)
theorem cd_list (hc : X.calm = true) : CallD X (.type "list") gListOf := by
  refine CallD.by ((call_list_of.or (call_listDR hc)).or (call_list_dT hc)) fun g O σ env x ds z H vs Q S r e k => ?_
  unfold gListOf at e
  split at e
  · cases e
    cases r with
    | cons r r' =>
      cases r'
      obtain ⟨p, xs, rfl, q, rx⟩ := r.lst
      refine .inl (.inl ⟨p, xs, rfl, .inl (.of q), fun l hl => ?_⟩)
      have sm := same_upd (o := .lst xs) hl
      exact k _ _ sm (.lst (S.notO hl) upd_same (rx.move (.of sm) .refl))
  · cases e
    cases r with
    | cons r r' =>
      cases r'
      obtain ⟨p, xs, rfl, q, rx⟩ := r.tup.tupAt
      refine .inl (.inl ⟨p, xs, rfl, .inr (.of q), fun l hl => ?_⟩)
      have sm := same_upd (o := .lst xs) hl
      exact k _ _ sm (.lst (S.notO hl) upd_same (rx.move (.of sm) .refl))
  · cases e
    cases r with
    | cons r r' =>
      cases r'
      obtain ⟨p, xs, rfl, q, rx⟩ := r.dct
      refine .inl (.inr ⟨p, xs, rfl, q, fun l hl => ?_⟩)
      have sm := same_upd (o := .lst (xs.map fun kv => kV kv.1)) hl
      exact k _ _ sm (.lst (S.notO hl) upd_same ((keys_rp rx).move (.of sm) .refl))
  · cases e
    cases r with
    | cons r r' =>
      cases r'
      obtain ⟨p, xs, rfl, q, rx⟩ := r.dcT
      refine .inr ⟨p, xs, rfl, q, fun l bs hl hk => ?_⟩
      have sm := same_upd (o := .lst (bs.map V.ref)) hl
      exact k _ _ sm (.lst (S.notO hl) upd_same ((keysT_rp S rx hk).move (.of sm) .refl))
  · cases e
def bools : List D → Option (List Bool)
  | [] => some []
  | .bool b :: ds => match bools ds with
    | some bs => some (b :: bs)
    | none => none
  | _ => none
theorem bools_ok : ∀ {ds : List D} {bs : List Bool}, bools ds = some bs → ds = bs.map .bool
  | [], _, h => by cases h; rfl
  | d :: ds, bs, h => by
    unfold bools at h
    split at h
    · rename_i e1; cases e1
    · rename_i e1
      cases e1
      split at h
      · rename_i q
        cases h
        rw [bools_ok q]
        rfl
      · cases h
    · cases h
def intsD : List D → Option (List Int)
  | [] => some []
  | .int b :: ds => match intsD ds with
    | some bs => some (b :: bs)
    | none => none
  | _ => none
theorem ints_ok : ∀ {ds : List D} {bs : List Int}, intsD ds = some bs → ds = bs.map .int
  | [], _, h => by cases h; rfl
  | d :: ds, bs, h => by
    unfold intsD at h
    split at h
    · rename_i e1; cases e1
    · rename_i e1
      cases e1
      split at h
      · rename_i q
        cases h
        rw [ints_ok q]
        rfl
      · cases h
    · cases h
theorem ints_map : ∀ ns : List Int, intsD (ns.map .int) = some ns
  | [] => rfl
  | n :: ns => by simp only [List.map_cons, intsD, ints_map ns]
def gAll : List D → Option D
  | [.list ds] => match bools ds with
    | some bs => some (.bool (bs.all id))
    | none => none
  | _ => none
theorem cd_all (hc : X.calm = true) : CallD X (.builtin "all") gAll := by
  refine CallD.by (cr_all hc) fun g O σ env x ds z H vs Q S r e k => ?_
  unfold gAll at e
  split at e
  · split at e
    · rename_i ds bs q
      cases e
      cases r with
      | cons r r' =>
        cases r'
        obtain ⟨p, xs, rfl, hp, rx⟩ := r.lst
        rw [bools_ok q] at rx
        rw [rx.bls] at hp
        exact ⟨p, bs, rfl, .of hp, k _ _ (Same.refl _) (.bl _)⟩
    · cases e
  · cases e
def gInt : List D → Option D
  | [.int i] => some (.int i)
  | [.bool b] => some (.int (if b then 1 else 0))
  | _ => none
theorem cd_int : CallD X (.type "int") gInt := by
  refine CallD.by call_int1 fun g O σ env x ds z H vs Q S r e k => ?_
  unfold gInt at e
  split at e
  · cases e
    cases r with
    | cons r r' =>
      cases r'
      exact .inl ⟨_, by rw [r.int], k _ _ (Same.refl _) (.int _)⟩
  · cases e
    cases r with
    | cons r r' =>
      cases r'
      exact .inr ⟨_, by rw [r.bl], k _ _ (Same.refl _) (.int _)⟩
  · cases e
/-! ### sorted, of intsD -/
def insI (n : Int) : List Int → List Int
  | [] => [n]
  | m :: ms => if n ≤ m then n :: m :: ms else m :: insI n ms
def sortI : List Int → List Int
  | [] => []
  | n :: ns => insI n (sortI ns)
theorem insI_perm (n : Int) : ∀ ms : List Int, (insI n ms).Perm (n :: ms)
  | [] => .refl _
  | m :: ms => by
    unfold insI
    split
    · exact .refl _
    · exact ((insI_perm n ms).cons m).trans (.swap n m ms)
theorem sortI_perm : ∀ ns : List Int, (sortI ns).Perm ns
  | [] => .refl _
  | n :: ns => (insI_perm n _).trans ((sortI_perm ns).cons n)
theorem insI_sorted (n : Int) : ∀ ms : List Int, ms.Pairwise (· ≤ ·) → (insI n ms).Pairwise (· ≤ ·)
  | [], _ => by simp [insI]
  | m :: ms, h => by
    unfold insI
    have h' := List.pairwise_cons.mp h
    split
    · rename_i hn
      refine List.pairwise_cons.mpr ⟨fun a ha => ?_, h⟩
      rcases List.mem_cons.mp ha with rfl | ha
      · exact hn
      · exact Int.le_trans hn (h'.1 a ha)
    · rename_i hn
      refine List.pairwise_cons.mpr ⟨fun a ha => ?_, insI_sorted n ms h'.2⟩
      rcases List.mem_cons.mp ((insI_perm n ms).mem_iff.mp ha) with rfl | ha
      · omega
      · exact h'.1 a ha
theorem sortI_sorted : ∀ ns : List Int, (sortI ns).Pairwise (· ≤ ·)
  | [] => .nil
  | n :: ns => insI_sorted n _ (sortI_sorted ns)
theorem sorted_uniq : ∀ {l m : List Int}, l.Perm m → l.Pairwise (· ≤ ·) → m.Pairwise (· ≤ ·) → l = m
  | [], m, h, _, _ => h.nil_eq
  | x :: l, [], h, _, _ => absurd h.length_eq (by simp)
  | x :: l, y :: m, h, hl, hm => by
    have hl' := List.pairwise_cons.mp hl
    have hm' := List.pairwise_cons.mp hm
    have e : x = y := by
      have h1 : y ≤ x := by
        rcases List.mem_cons.mp (h.mem_iff.mp List.mem_cons_self) with e | e
        · omega
        · exact hm'.1 x e
      have h2 : x ≤ y := by
        rcases List.mem_cons.mp (h.mem_iff.mpr List.mem_cons_self) with e | e
        · omega
        · exact hl'.1 y e
      omega
    subst e
    rw [sorted_uniq h.cons_inv hl'.2 hm'.2]
def gSortI : List D → Option D
  | [.list ds] => match intsD ds with
    | some ns => some (.list ((sortI ns).map .int))
    | none => none
  | _ => none
theorem cd_sorted : CallD X (.builtin "sorted") gSortI := by
  refine CallD.by cr_sortedI fun g O σ env x ds z H vs Q S r e k => ?_
  unfold gSortI at e
  split at e
  · split at e
    · rename_i ds ns q
      cases e
      cases r with
      | cons r r' =>
        cases r'
        obtain ⟨p, xs, rfl, hp, rx⟩ := r.lst
        rw [ints_ok q] at rx
        rw [rx.ints] at hp
        refine ⟨p, ns, rfl, .of hp, fun ns' l h1 h2 hl => ?_⟩
        have e2 : ns' = sortI ns := sorted_uniq (h1.trans (sortI_perm ns).symm) h2 (sortI_sorted ns)
        subst e2
        have sm := same_upd (o := .lst ((sortI ns).map V.int)) hl
        exact k _ _ sm (.lst (S.notO hl) upd_same (RpA.ofInts _))
    · cases e
  · cases e
/-! ### isinstance -/
inductive Ty where
  | int | bool | str | tuple | list | dict
def Ty.nm : Ty → String
  | .int => "int"
  | .bool => "bool"
  | .str => "str"
  | .tuple => "tuple"
  | .list => "list"
  | .dict => "dict"
def isiD : Ty → D → Option Bool
  | _, .sets _ => none
  | _, .dictT _ => none
  | .int, .int _ => some true
  | .int, .bool _ => some true
  | .bool, .bool _ => some true
  | .str, .str _ => some true
  | .tuple, .tuple _ => some true
  | .list, .list _ => some true
  | .dict, .dict _ => some true
  | _, _ => some false
def tyD : D → String
  | .none => "NoneType"
  | .bool _ => "bool"
  | .int _ => "int"
  | .str _ => "str"
  | .list _ => "list"
  | .tuple _ => "tuple"
  | .dict _ => "dict"
  | .dictT _ => "dict"
  | .sets _ => "set"
theorem kit_all : ∀ (T : Ty) (n : String), n ∈ ["NoneType", "bool", "int", "str", "list", "tuple", "dict"] → kitB n T.nm = some (decide (n = T.nm) || decide (n = "bool" ∧ T.nm = "int")) := by
  intro T n h
  simp only [List.mem_cons, List.not_mem_nil, or_false] at h
  rcases h with rfl | rfl | rfl | rfl | rfl | rfl | rfl <;> cases T <;> decide +kernel
theorem kit_isi {T : Ty} {d : D} {b : Bool} (h : isiD T d = some b) : kitB (tyD d) T.nm = some b := by
  cases d with
  | sets ns => cases T <;> simp [isiD] at h
  | dictT ns => cases T <;> simp [isiD] at h
  | _ => (rw [kit_all T _ (by simp [tyD])]; rw [← h]; cases T <;> simp [tyD, Ty.nm, isiD])
theorem ty_of {K : PySem.W.Frag} {g : FG} {O : Addr → Prop} {H : Hp} {v : V} {d : D} (r : RpB K g O H v d) {T : Ty} {b : Bool} (hT : isiD T d = some b) : TyX K H v (.type (tyD d)) := by
  rcases r with r | ⟨a, w, rfl, rfl, ha, hr, z⟩
  · cases r with
    | non => exact .base .non
    | bl b => exact .base (.bl b)
    | int i => exact .base (.int i)
    | str x => exact .base (.str x)
    | lst _ e _ => exact .base (.lst e)
    | tup _ e _ => exact .base (.tup e)
    | dK _ e _ => exact e.elim (fun e => .base (.dK e)) fun ⟨_, e⟩ => .fDict e
    | dT _ e _ => cases T <;> simp [isiD] at hT
  · cases w with
    | lst ds => obtain ⟨xs, e, _⟩ := z; exact .base (.lst e)
    | dk ds => obtain ⟨xs, e, _⟩ := z; exact .base (.dK e)
    | dt ds => obtain ⟨xs, e, _⟩ := z; exact .base (.dT e)
def fIsi (T : Ty) (f : FE) : FE := fun env x => match f env x with
  | some (d, x1) => match isiD T d with
    | some b => some (.bool b, x1)
    | none => none
  | none => none
theorem se_isi {T : Ty} {n : Str} {p p1 : Pos} (hg : Gl X "isinstance") (hm : X.mg "isinstance" = none) (ha : SB X a fa) (hgT : Gl X n) (hmT : X.mg n = none) (hvT : bootBuiltins n = some (.type T.nm)) (hnT : n ≠ "__name__" := by decide) (hdT : (n == ("__debug__" : Str)) = false := by decide)
    (he : starEach [a, .Name n p1] X.env = (false, eval a X.env) :: starEach [.Name n p1] X.env := by rfl) (he2 : starEach [.Name n p1] X.env = (false, eval (.Name n p1) X.env) :: starEach [] X.env := by rfl) (hpl : (backTo pos (starEach [.Name n p1] X.env)).any (·.1) = false := by rfl) :
    SE X (.Call (.Name "isinstance" p) [a, .Name n p1] [] pos) (fIsi T fa) := by
  refine ⟨PEw (pe_callB call_isi hg hm (by decide +kernel) (pa_cons ha.out (pa_cons (pe_bltn (v := .ty T.nm) hgT hmT hvT rfl hnT hdT) pa_nil he2) he) (by decide) (by decide) he hpl) fun σ H Q h => ?_⟩
  obtain ⟨g, O, env, x, d, x', S, e, k⟩ := h
  unfold fIsi at e
  split at e
  · rename_i dd x1 e1
    split at e
    · rename_i b e2
      cases e
      exact ⟨g, O, env, x, dd, x', S, e1, fun v H1 S1 l1 r1 => ⟨v, .ty T.nm, _, _, b, rfl, .ty _, ty_of r1 e2, kit_ty (kit_isi e2), k _ _ S1 l1 (.bl b)⟩⟩
    · cases e
  · cases e
def fIsi2 (T U : Ty) (f : FE) : FE := fun env x => match f env x with
  | some (d, x1) => match isiD T d, isiD U d with
    | some b, some c => some (.bool (b || c), x1)
    | _, _ => none
  | none => none
theorem se_isi2 {T U : Ty} {n m : Str} {p p1 p2 p3 : Pos} {kk : Nat} (hg : Gl X "isinstance") (hm : X.mg "isinstance" = none) (ha : SB X a fa) (hgT : Gl X n) (hmT : X.mg n = none) (hvT : bootBuiltins n = some (.type T.nm)) (hgU : Gl X m) (hmU : X.mg m = none) (hvU : bootBuiltins m = some (.type U.nm))
    (hnT : n ≠ "__name__" := by decide) (hdT : (n == ("__debug__" : Str)) = false := by decide) (hnU : m ≠ "__name__" := by decide) (hdU : (m == ("__debug__" : Str)) = false := by decide)
    (he : starEach [a, .Tuple [.Name n p1, .Name m p2] kk p3] X.env = (false, eval a X.env) :: starEach [.Tuple [.Name n p1, .Name m p2] kk p3] X.env := by rfl) (he2 : starEach [.Tuple [.Name n p1, .Name m p2] kk p3] X.env = (false, eval (.Tuple [.Name n p1, .Name m p2] kk p3) X.env) :: starEach [] X.env := by rfl)
    (he3 : starEach [.Name n p1, .Name m p2] X.env = (false, eval (.Name n p1) X.env) :: starEach [.Name m p2] X.env := by rfl) (he4 : starEach [.Name m p2] X.env = (false, eval (.Name m p2) X.env) :: starEach [] X.env := by rfl)
    (hpl : (backTo pos (starEach [.Tuple [.Name n p1, .Name m p2] kk p3] X.env)).any (·.1) = false := by rfl) :
    SE X (.Call (.Name "isinstance" p) [a, .Tuple [.Name n p1, .Name m p2] kk p3] [] pos) (fIsi2 T U fa) := by
  refine ⟨PEw (pe_callB call_isiT hg hm (by decide +kernel) (pa_cons ha.out (pa_cons (pe_tup (pa_cons (pe_bltn (v := .ty T.nm) hgT hmT hvT rfl hnT hdT) (pa_cons (pe_bltn (v := .ty U.nm) hgU hmU hvU rfl hnU hdU) pa_nil he4) he3)) pa_nil he2) he) (by decide) (by decide) he hpl) fun σ H Q h => ?_⟩
  obtain ⟨g, O, env, x, d, x', S, e, k⟩ := h
  unfold fIsi2 at e
  split at e
  · rename_i dd x1 e1
    split at e
    · rename_i b c e2 e3
      cases e
      refine ⟨g, O, env, x, dd, x', S, e1, fun v H1 S1 l1 r1 => ⟨maxLen_ok (show 2 ≤ maxLen by decide), fun q hq => ?_⟩⟩
      have sm := same_upd (o := .tup [.ty T.nm, .ty U.nm]) hq
      refine ⟨v, q, _, _, [.type T.nm, .type U.nm], b || c, rfl, upd_same, .cons (.ty _) (.cons (.ty _) .nil), ty_of (RpB.step S1 (.of sm) r1) e2, ?_, k _ _ (S1.same sm) (l1.trans (.of sm)) (.bl _)⟩
      refine kitAny_cons (kit_ty (kit_isi e2)) (fun hb => ?_) fun hb => by rw [hb]; rfl
      rw [hb]
      exact kitAny_cons (kit_ty (kit_isi e3)) (fun hb => by rw [hb]; exact kitAny_nil) fun hb => by rw [hb]; rfl
    · cases e
  · cases e
/-! ### a store to the row -/
def sRow (i : Nat) (k : Int) (f : FE) : FS := fun env x => match f env x with
  | some (.int z, x1) => match env[i]? with
    | some .rw => if k = 1 then some (.nx env, { x1 with a := z }) else if k = 2 then some (.nx env, { x1 with b := z }) else if k = 3 then some (.nx env, { x1 with c := z }) else none
    | _ => none
  | _ => none
theorem row_put {ω : World} {K : PySem.W.Frag} {g : FG} {O : Addr → Prop} {σ : L2.St} {H : Hp} {env : FEn} {x x' : FRow} {r : Addr} {xs : List V} (S : FSt ω K g O σ H env x) (hR : g.R = some r ∧ g.F = none) (rt : RowAt K O (upd H r (.lst xs)) r x') : FSt ω K g O σ (upd H r (.lst xs)) env x' :=
  have ⟨_, h1, _⟩ := (S.row r hR.1).2.2.row hR.2
  S.step (fun a o n e _ => by rw [upd_ne (fun z => n (by rw [z]; exact hR.1))]; exact e) (tabs_upd S.tb h1 rfl notC_lst) fun q hq => by rw [hR.1] at hq; cases hq; exact .of rt hR.2
theorem rowAt_upd {K : PySem.W.Frag} {O : Addr → Prop} {H : Hp} {r a0 : Addr} {ns : List Int} {i j l : Int} {ys : List V} (h : H r = some (.lst ys)) (q : RowL K O H a0 ns) (ro : O r) : RowAt K O (upd H r (.lst [.ref a0, .int i, .int j, .int l])) r ⟨ns, i, j, l⟩ := by
  exact ⟨a0, upd_same, q.updO ro⟩
theorem ss_row {i j : Nat} {k : Int} {n : Str} {f : FE} {p p1 pos' : Pos} (he : SE X e f) (hs : swapsWithSole [.Subscript (.Name n p) (.Constant (.int k) j p1) pos'] e pos.line X.env = pure false := by rfl) (hw : swappedStores [.Subscript (.Name n p) (.Constant (.int k) j p1) pos'] e X.env = pure none := by rfl)
    (h1 : (assignEach [.Subscript (.Name n p) (.Constant (.int k) j p1) pos'] X.env).map (·.2) = [assign (.Subscript (.Name n p) (.Constant (.int k) j p1) pos') X.env] := by rfl)
    (hN : X.N[i]? = some n := by rfl) (hvis : Vis X.env.scope n := by first | exact Or.inl rfl | exact Or.inr (Or.inl rfl) | exact Or.inr (Or.inr rfl)) (hd : (n == ("__debug__" : Str)) = false := by decide)
    (hcd : (n == ("__classdict__" : Str)) = false := by decide) : SS X (.Assign [.Subscript (.Name n p) (.Constant (.int k) j p1) pos'] e pos) (sRow i k f) := by
  refine ⟨PSw (ps_asg he.out (pg_sub (pe_var hN hvis hd hcd) pe_int set_list) hs hw h1) fun Dn σ H h => ?_⟩
  obtain ⟨g, O, env, x, r, x', S, e, kk⟩ := h
  unfold sRow at e
  split at e
  · rename_i z x1 e1
    split at e
    · rename_i e0
      refine ⟨g, O, env, x, _, x1, S, e1, fun v H1 S1 l1 r1 => ?_⟩
      cases r1
      obtain ⟨s, e5, q5⟩ := S1.at e0
      cases q5 with
      | @rw ra hR =>
        obtain ⟨q1, q2, q5⟩ := S1.row ra hR.1
        obtain ⟨a0, q3, q4⟩ := q5.row hR.2
        split at e
        · rename_i hk
          cases e
          subst hk
          exact ⟨_, e5, ra, _, 1, 1, rfl, rfl, q3, rfl, kk O _ _ (row_put S1 hR (rowAt_upd q3 q4 (S1.sub _ q1)))⟩
        · split at e
          · rename_i hk
            cases e
            subst hk
            exact ⟨_, e5, ra, _, 2, 2, rfl, rfl, q3, rfl, kk O _ _ (row_put S1 hR (rowAt_upd q3 q4 (S1.sub _ q1)))⟩
          · split at e
            · rename_i hk
              cases e
              subst hk
              exact ⟨_, e5, ra, _, 3, 3, rfl, rfl, q3, rfl, kk O _ _ (row_put S1 hR (rowAt_upd q3 q4 (S1.sub _ q1)))⟩
            · cases e
    · cases e
  · cases e
end
end RT
namespace RT
open PySem PySem.Spec PyProof.Rows L2
/-! ### enumerate of a list, of a tuple -/
set_option maxHeartbeats 2000000 in
theorem meets_enum1 {v : Value} {o : Obj} {Hh : Heap → Prop} (B : Begins v o Hh) :
    Meets (Builtin.«enumerate.__new__» ⟨[.type "enumerate", v], []⟩) (fun _ R s => Hh s.heap ∧
      R (.ok (.ret (.ref (s.heap.push o).objs.size))) { s with heap := (s.heap.push o).push { cls := .type "enumerate", data := .fields #[.none, .bool false, .ref s.heap.objs.size, rawInt 0, .none, .none] } }) := by
  refine .of_wp fun prog w A R s h => ?_
  obtain ⟨hp, gg, dd, tk, os⟩ := s
  obtain ⟨h1, h⟩ := h
  have hsub := sub_enumerate
  have q1 : ∀ {A' : Around} {E : Value → Shared → Prop} {Q : Value → Shared → Prop}, Q (.ref hp.objs.size) ⟨hp.push o, gg, dd, tk, os⟩ → wpAny (model prog w) A' (pyIter v) Q E ⟨hp, gg, dd, tk, os⟩ := fun q => B.iter prog w _ _ ⟨hp, gg, dd, tk, os⟩ _ h1 q
  wp_walk using q1
  refine wpAny_stack_any fun st => wpAny_pure ?_
  split
  · rename_i c _ _ _ _ _
    cases (c == Value.type "enumerate") <;>
      (wp_walk using q1
       exact ⟨_, rfl, h⟩)
  · wp_walk using q1
    exact ⟨_, rfl, h⟩
theorem call_enum1 {prog : Program} {w : World} {A : Around} {E : Value → Shared → Prop} {s : Shared} {v : Value} {o : Obj} {Hh : Heap → Prop} {Q : Value → Shared → Prop} (B : Begins v o Hh) (h1 : Hh s.heap)
    (h : ∀ h', IsEnum h' (s.heap.objs.size + 1) s.heap.objs.size 0 .none → h'.get? s.heap.objs.size = some o → h'.objs.size = s.heap.objs.size + 2 → (∀ b o, s.heap.get? b = some o → h'.get? b = some o) → Q (.ref (s.heap.objs.size + 1)) { s with heap := h' }) :
    wpAny (model prog w) A (call (.type "enumerate") [v]) Q E s := by
  refine callType_new F.called_enumerate (by decide) (F.typeCall_enumerate_1 _) (F.newCall_enumerate_1 _) (fun obj => F.args_object_init_2 obj _) F.entry_enumerate_new (meets_enum1 B) ⟨h1, ?_⟩
  have hz : (s.heap.push o).objs.size = s.heap.objs.size + 1 := Heap.size_push ..
  show _ ∧ _
  rw [hz]
  have he : IsEnum ((s.heap.push o).push { cls := .type "enumerate", data := .fields #[.none, .bool false, .ref s.heap.objs.size, rawInt 0, .none, .none] }) (s.heap.objs.size + 1) s.heap.objs.size 0 .none := by
    have q := Heap.get?_push_size (s.heap.push o) (o := { cls := .type "enumerate", data := .fields #[.none, .bool false, .ref s.heap.objs.size, rawInt 0, .none, .none] }) rfl
    rw [hz] at q
    exact q
  exact ⟨⟨_, he, rfl⟩, h _ he (Heap.get?_push_of_some _ (Heap.get?_push_size _ B.free)) (by rw [Heap.size_push, hz]) fun b o x => Heap.get?_push_of_some _ (Heap.get?_push_of_some _ x)⟩
/-- the turns: the tuple at a stands, each item in a new pair -/
def ItE (K : PySem.W.Frag) (a : Addr) : It where
  go := fun i H => ∃ (xs : List V) (x : V), SqT K H a xs ∧ xs[i]? = some x
  yld := fun i H v H' => ∃ T x, v = .ref T ∧ H T = none ∧ H' = upd H T (.tup [.int (i : Nat), x]) ∧ ∀ xs, SqT K H a xs → xs[i]? = some x
  stop := fun i H => ∃ xs : List V, SqT K H a xs ∧ xs.length = i
theorem turn_enumT {P : Program} {w : World} {K : PySem.W.Frag} {elts : List Expr} {kk : Nat} {tpos : Pos} (a e it : Addr) :
    Turn P w K (.Tuple elts kk tpos) (ItE K a) [e, it] e (fun i h => (∃ old, IsEnum h e it ((i : Nat) : Int) old) ∧ h.IsTupleIter it a i ∧ e ≠ it ∧ a ≠ it ∧ e ≠ a) := by
  refine ⟨by simp, fun i h st b hb => ?_, fun i h h' st k => ?_, ?_, ?_, fun A i s Q E st h => ?_⟩
  · obtain ⟨⟨old, he⟩, ⟨o, ho, hc, hd⟩, _⟩ := st
    rcases (show b = e ∨ b = it by simpa using hb) with rfl | rfl
    · exact ⟨_, he, fun v q => nomatch q⟩
    · exact ⟨o, ho, fun v q => by rw [hd] at q; cases q⟩
  · obtain ⟨⟨old, he⟩, hi, n1, n2, n3⟩ := st
    exact ⟨⟨old, k e (by simp) _ he⟩, hi.at fun o q => k it (by simp) o q, n1, n2, n3⟩
  · rintro X rfl rfl rfl hc i pins s σ H E I hf ⟨⟨old, he⟩, hit, n1, n2, n3⟩ ⟨xs, x, hq, hx⟩
    obtain ⟨its, rv, p, hz⟩ := I.tuple hq
    obtain ⟨u, hu, ru⟩ := rv.get hx
    have hel : e < s.heap.objs.size := Heap.lt_size he
    have hil : it < s.heap.objs.size := by
      obtain ⟨_, q, _⟩ := hit
      exact Heap.lt_size q
    have hlt : i < its.toArray.size := by
      have := (List.getElem?_eq_some_iff.mp hu).1
      simpa using this
    refine wpAny_pyNext_enum_itemD (Draws.tuple (A := X.A.in1) (I.ok.hd hc) it a n2 its.toArray) he ⟨hit, show s.heap.IsTuple a its.toArray from p⟩ hlt n1 (by simp [n1, n3]) fun y h1 tk hy ho hit1 hT hsz hk => ?_
    have ey : y = u := by
      have hy : its.toArray[i]? = some y := hy
      rw [show its.toArray[i]? = its[i]? by simp, hu] at hy
      exact (Option.some.inj hy).symm
    subst ey
    refine ⟨_, rfl, wpAny_letOwnedTupleGo_enum (s := { s with heap := h1, toks := tk + 1 }) ho fun h2 he2 sb => ?_⟩
    have hT2 : h2.get? s.heap.objs.size = some { cls := .type "tuple", data := .seq #[.int i tk, y] } := (sb.2 _ (Nat.ne_of_gt hel)).trans hT
    have new : ObjOk X.prog X.w (upd H s.heap.objs.size (.tup [.int (i : Nat), x])) h2 s.heap.objs.size (.tup [.int (i : Nat), x]) := ⟨maxLen_ok (show 2 ≤ maxLen by decide), [.int i tk, y], .cons ⟨_, rfl⟩ (.cons ru .nil), ⟨_, hT2, rfl, _, rfl⟩⟩
    have I1 : L2.Inv X pins σ (upd H s.heap.objs.size (.tup [.int (i : Nat), x])) { s with heap := h2, toks := tk + 1 } := I.turnedNew (ch := [e, it]) (fun b ob hb q => (sb.2 b fun z => hb (by simp [z])).trans (hk b ob (fun z => hb (by simp [z])) (fun z => hb (by simp [z])) q)) hf (Nat.le_refl _) new
    refine ⟨.ref s.heap.objs.size, _, I1, rfl, ⟨_, x, rfl, I.hok.fresh (Nat.le_refl _), rfl, fun ys hy => by rw [I.tuple_inj hy hq]; exact hx⟩, ⟨⟨y, ?_⟩, hit1.1.at fun o q => (sb.2 it (Ne.symm n1)).trans q, n1, n2, n3⟩, fun b hb => ?_⟩
    · rw [show ((i + 1 : Nat) : Int) = (i : Int) + 1 by omega]
      exact he2
    · have hb' : b < s.heap.objs.size := by
        rcases (show b = e ∨ b = it by simpa using hb) with rfl | rfl
        · exact hel
        · exact hil
      rw [upd_ne (Nat.ne_of_lt hb')]
      exact (hf b hb).1
  · rintro X rfl rfl rfl hc i pins s σ H E I hf ⟨⟨old, he⟩, hit, n1, n2, n3⟩ ⟨xs, hq, hx⟩
    obtain ⟨its, rv, p, hz⟩ := I.tuple hq
    obtain ⟨f0, f1, f2, f3, f4, f5⟩ := hf it (by simp)
    have hl : its.toArray.size = i := by
      rw [List.size_toArray, ← rv.length]
      exact hx
    refine wpAny_pyNext_enum_endD (Draws.tuple (A := X.A.in1) (I.ok.hd hc) it a n2 its.toArray) he ⟨by rw [hl]; exact hit, show s.heap.IsTuple a its.toArray from p⟩ fun h1 eb => ⟨rfl, I.turned (t' := s.toks) (fun b o hb q => eb b o hb q) f0 f1 f3 f4 f5⟩
  · obtain ⟨⟨_, he⟩, _⟩ := st
    exact wpAny_pyIter_enum he h
def iEnT (K : PySem.W.Frag) (ta : TA) : TI := fun σ H R => ta σ H fun vs H1 => ∃ a xs, vs = [.ref a] ∧ SqT K H1 a xs ∧ R (ItE K a) H1
section
variable {X : Cx} {a b c e : Expr} {es : List Expr} {fa fb fc f : FE} {pos : Pos}
theorem pi_enT {ta : TA} {p tpos : Pos} {elts : List Expr} {kk : Nat} (hg : Gl X "enumerate") (hm : X.mg "enumerate" = none) (ha : PA X [e] ta) (hs : starEach [e] X.env = [(false, eval e X.env)] := by rfl) :
    PI X (.Tuple elts kk tpos) (.Call (.Name "enumerate" p) [e] [] pos) (iEnT X.K ta) := by
  refine ⟨fun pins s σ H R I h => ?_⟩
  refine Call_ (ld_blt I hg hm boot_enumerate (PyProof.Rows.callWith_type1 (thn (ha.run pos pins s σ H _ I h) fun us s1 ⟨vs, H1, I1, r1, q1⟩ => ?_) hs rfl))
  obtain ⟨a, xs, rfl, hq, q⟩ := q1
  rw [Vals.ref1 r1]
  obtain ⟨its, rv, p', hz⟩ := I1.tuple hq
  have hlt : a < s1.heap.objs.size := by
    obtain ⟨o, ho, _⟩ := p'
    exact Heap.lt_size ho
  refine call_enum1 (begins_tuple a its.toArray) (show s1.heap.IsTuple a its.toArray from p') fun h1 he hit hsz hk => wpAny_pyIter_enum he ?_
  refine ⟨s1.heap.objs.size + 1, [s1.heap.objs.size + 1, s1.heap.objs.size], _, _, H1, rfl, I1.kept (h' := h1) (t' := s1.toks) hk, turn_enumT a (s1.heap.objs.size + 1) s1.heap.objs.size, ⟨⟨.none, he⟩, ⟨_, hit, rfl, rfl⟩, Nat.succ_ne_self _, Nat.ne_of_lt hlt, Nat.ne_of_gt (Nat.lt_succ_of_lt hlt)⟩, fun b hb => ?_, q⟩
  have hle : s1.heap.objs.size ≤ b := by
    rcases (show b = s1.heap.objs.size + 1 ∨ b = s1.heap.objs.size by simpa using hb) with z | z
    · rw [z]; exact Nat.le_succ _
    · rw [z]; exact Nat.le_refl _
  exact I1.fpOk hle (I1.hok.fresh hle)
/-- the pairs (i, x) -/
def enD (ds : List D) : List D := (List.range ds.length).zipWith (fun (i : Nat) d => D.tuple [.int (i : Int), d]) ds
theorem enD_len (ds : List D) : (enD ds).length = ds.length := by simp [enD]
theorem enD_get {ds : List D} {i : Nat} {d : D} (h : (enD ds)[i]? = some d) : ∃ e, ds[i]? = some e ∧ d = .tuple [.int (i : Int), e] := by
  have hl : i < ds.length := by
    have := (List.getElem?_eq_some_iff.mp h).1
    rwa [enD_len] at this
  refine ⟨ds[i], List.getElem?_eq_getElem hl, ?_⟩
  have e1 : (enD ds)[i]? = some (.tuple [.int (i : Int), ds[i]]) := by
    unfold enD
    rw [List.getElem?_zipWith]
    simp [hl]
  rw [e1] at h
  exact (Option.some.inj h).symm
def fEn (f : FE) : FA := fun env x => match f env x with
  | some (.list ds, x1) => some (enD ds, x1)
  | some (.tuple ds, x1) => some (enD ds, x1)
  | _ => none
theorem si_en {p tpos : Pos} {elts : List Expr} {kk : Nat} (hg : Gl X "enumerate") (hm : X.mg "enumerate" = none) (ha : SE X a fa) (hs : starEach [a] X.env = [(false, eval a X.env)] := by rfl) : SI X (.Tuple elts kk tpos) (.Call (.Name "enumerate" p) [a] [] pos) (fEn fa) := by
  refine ⟨⟨fun pins s σ H R I h2 => ?_⟩⟩
  obtain ⟨g, O, env, x, ds, x', S, e, k⟩ := h2
  unfold fEn at e
  split at e
  · rename_i ds' x1 e1
    cases e
    refine (pi_enum hg hm (pa_cons ha.out pa_nil hs) hs).run pins s σ H R I ⟨g, O, env, x, _, x', S, e1, fun v H1 S1 l1 r1 => ?_⟩
    cases r1 with
    | @lst p xs _ np hp rx =>
      refine ⟨p, xs, rfl, .of hp, k _ [(.ref p, .list ds')] H1 (S1.addg _ fun q hq => ?_) l1 fun O2 σ2 H2 env2 x2 i S2 => ?_⟩
      · rw [List.mem_singleton] at hq
        subst hq
        exact .lst np hp rx
      · have q := S2.gh (.ref p, .list ds') (by simp [FG.add])
        cases q with
        | @lst _ ys _ np2 hp2 ry =>
          refine ⟨fun d hd => ?_, fun hi => ⟨ys, .of hp2, by rw [ry.length, hi, enD_len]; exact Nat.le_refl _⟩⟩
          obtain ⟨d0, hd0, rfl⟩ := enD_get hd
          obtain ⟨y, e2, r2⟩ := ry.get hd0
          refine ⟨⟨ys, y, .of hp2, e2⟩, fun v H' hy => ?_⟩
          obtain ⟨T, x3, rfl, hT, rfl, hy⟩ := hy
          have e3 := hy ys (.of hp2)
          rw [e2] at e3
          cases e3
          have sm := same_upd (o := .tup [.int (i : Nat), y]) hT
          exact ⟨sm, .tup (S2.notO hT) upd_same (.cons (.int _) (.cons (r2.move (.of sm) .refl) .nil))⟩
  · rename_i ds' x1 e1
    cases e
    refine (pi_enT hg hm (pa_cons ha.out pa_nil hs) hs).run pins s σ H R I ⟨g, O, env, x, _, x', S, e1, fun v H1 S1 l1 r1 => ?_⟩
    cases r1 with
    | @tup p xs _ np hp rx =>
      refine ⟨p, xs, rfl, .of hp, k _ [(.ref p, .tuple ds')] H1 (S1.addg _ fun q hq => ?_) l1 fun O2 σ2 H2 env2 x2 i S2 => ?_⟩
      · rw [List.mem_singleton] at hq
        subst hq
        exact .tup np hp rx
      · have q := S2.gh (.ref p, .tuple ds') (by simp [FG.add])
        cases q with
        | @tup _ ys _ np2 hp2 ry =>
          refine ⟨fun d hd => ?_, fun hi => ⟨ys, .of hp2, by rw [ry.length, hi, enD_len]⟩⟩
          obtain ⟨d0, hd0, rfl⟩ := enD_get hd
          obtain ⟨y, e2, r2⟩ := ry.get hd0
          refine ⟨⟨ys, y, .of hp2, e2⟩, fun v H' hy => ?_⟩
          obtain ⟨T, x3, rfl, hT, rfl, hy⟩ := hy
          have e3 := hy ys (.of hp2)
          rw [e2] at e3
          cases e3
          have sm := same_upd (o := .tup [.int (i : Nat), y]) hT
          exact ⟨sm, .tup (S2.notO hT) upd_same (.cons (.int _) (.cons (r2.move (.of sm) .refl) .nil))⟩
  · cases e
end
end RT
namespace RT
open PySem PySem.Spec PyProof.Rows L2 PpSet
/-! ### dict comprehensions -/
def dcL (gt : FGt) (t : FT) (fk fv : FE) (env : FEn) : List D → List (D × D) → FRow → Option (List (D × D) × FRow)
  | [], acc, x => some (acc, x)
  | d :: ds, acc, x => match gt d env with
    | none => none
    | some e1 => match t e1 x with
      | some (true, x1) => match fk e1 x1 with
        | some (k, x2) => match dKey k with
          | some q => match fv e1 x2 with
            | some (v, x3) => if acc.length < maxLen then dcL gt t fk fv env ds (putD dKey acc k q v) x3 else none
            | none => none
          | none => none
        | none => none
      | some (false, x1) => dcL gt t fk fv env ds acc x1
      | none => none
def xDc (f : FA) (gt : FGt) (t : FT) (fk fv : FE) (vs : List Nat) : FX := fun env x => match f env x with
  | some (ds, x1) => match dcL gt t fk fv (wipeE env vs) ds [] x1 with
    | some (r, x2) => some (.ow (.dk r), x2)
    | none => none
  | none => none
theorem dc_read {ω : World} {K : PySem.W.Frag} {f : FA} {gt : FGt} {t : FT} {fk fv : FE} {vs : List Nat} {σ : L2.St} {H : Hp} {Q : VK} (h : tX ω K (xDc f gt t fk fv vs) σ H Q) : tDc (tI ω K f) (tG ω K vs gt) (tT ω K t) (tE ω K fk) (tE ω K fv) vs σ H Q := by
  obtain ⟨g, O, env, x, sl, x', S, e, k⟩ := h
  unfold xDc at e
  split at e
  · rename_i ds x1 e1
    split at e
    · rename_i rs x2 e2
      cases e
      refine ⟨g, O, env, x, ds, x1, S, e1, fun J more H1 S1 l1 wk p hp => ?_⟩
      have n1 := S1.newp hp
      have hp0 : Gone H p := Le.gone l1 (.of hp) S1.unadd
      have hne : ∀ (j : Nat) d b, env[j]? = some d → isOwn d = true → σ[j]? = some (some (.ref b)) → b ≠ p := fun j d b h1 h0 h2 => own_ne2 S1 (.of hp) h1 h0 h2
      refine ⟨fun i m H2 => m = ds.length - i ∧ i ≤ ds.length ∧ Le g H H2 ∧ ∃ x kvs acc, FSt ω K (g.add more) (oAdd O p) σ H2 env x ∧ H2 p = some (.dK kvs) ∧ RpK K (oAdd O p) H2 kvs acc ∧ dcL gt t fk fv (wipeE env vs) (ds.drop i) acc x = some (rs, x'),
        ⟨_, rfl, Nat.zero_le _, l1.trans (.of (same_upd hp)), x1, [], [], S1.own hp True.intro, upd_same, .nil, e2⟩, fun i m H2 hW => ?_⟩
      obtain ⟨rfl, hil, lH, x, kvs, acc, S2, hacc, racc, e⟩ := hW
      obtain ⟨wgo, wst⟩ := wk _ σ H2 env x i S2
      by_cases hlt : i < ds.length
      · have hd : ds[i]? = some ds[i] := List.getElem?_eq_getElem hlt
        obtain ⟨go, yl⟩ := wgo _ hd
        rw [drop_get hd] at e
        refine .inr ⟨go, fun H2 => i + 1 ≤ ds.length ∧ Le g H H2 ∧ ∃ x kvs acc, FSt ω K (g.add more) (oAdd O p) σ H2 env x ∧ H2 p = some (.dK kvs) ∧ RpK K (oAdd O p) H2 kvs acc ∧ dcL gt t fk fv (wipeE env vs) (ds.drop (i + 1)) acc x = some (rs, x'),
          fun H' hN => ⟨ds.length - (i + 1), by omega, rfl, hN.1, hN.2⟩, fun v H3 hy => ?_⟩
        obtain ⟨sm, rv⟩ := yl v H3 hy
        unfold dcL at e
        split at e
        · cases e
        · rename_i env1 e3
          have S3 := S2.same sm
          refine ⟨g.add more, oAdd O p, wipeE env vs, x, ds[i], env1, S3.wiped vs, rv, e3, fun σ1 w1 S4 => ⟨w1.trans (wipe_wipe σ vs), ?_⟩⟩
          split at e
          · rename_i xb e4
            split at e
            · rename_i kd x3 e5
              split at e
              · rename_i q e6
                split at e
                · rename_i vd x4 e7
                  split at e
                  · rename_i hl
                    refine ⟨g.add more, oAdd O p, env1, x, _, xb, S4, e4, fun H5 S5 l5 => ?_⟩
                    refine iteT ?_
                    refine ⟨g.add more, oAdd O p, env1, xb, kd, x3, S5, e5, fun y H6 S6 l6 r6 => ⟨g.add more, oAdd O p, env1, x3, vd, x4, S6, e7, fun z H7 S7 l7 r7 => ?_⟩⟩
                    have l8 : Le (g.add more) H2 H7 := (Le.of sm).trans (l5.trans (l6.trans l7))
                    have S8 := S2.step l8 S7.tb fun r hr => (S7.row r hr).2.2
                    have hacc' := l8 p _ n1.2 hacc rfl
                    refine ⟨kvs, q, dKey_rp e6 r6, hacc', by rw [racc.length]; exact maxLen_lt hl, hlt, ?_, x4, _, _, S8.upd1 hacc' notC_dK (.inr rfl) n1.1 n1.2 True.intro hne (fun j d b h1 h2 => own_nd S (lH.trans l8) hp0 h1 h2), upd_same, ?_, e⟩
                    · intro c u hR e tn
                      have z : c ≠ p := fun z => by rw [z] at e; exact hp0.no e tn
                      rw [upd_ne z]
                      exact l8 c u hR (lH c u hR e tn) tn
                    · have ek := dKey_ok e6
                      subst ek
                      exact (RpK.put (racc.move (S2.keep l8) .refl) r7).move (keep_own S8 (.inr rfl)) .refl
                  · cases e
                · cases e
              · cases e
            · cases e
          · rename_i xb e4
            refine ⟨g.add more, oAdd O p, env1, x, _, xb, S4, e4, fun H5 S5 l5 => ?_⟩
            refine iteF ?_
            have l7 : Le (g.add more) H2 H5 := (Le.of sm).trans l5
            have S7 := S2.step l7 S5.tb fun r hr => (S5.row r hr).2.2
            exact ⟨hlt, fun c u hR e tn => l7 c u hR (lH c u hR e tn) tn, xb, kvs, acc, S7, l7 p _ n1.2 hacc rfl, racc.move (S2.keep l7) .refl, e⟩
          · cases e
      · have hi : i = ds.length := by omega
        rw [hi, List.drop_length] at e
        unfold dcL at e
        cases e
        refine .inl ⟨wst hi, k (oAdd O p) _ H2 S2.unadd lH (fun a z => z.elim .inl fun e => .inr (e ▸ hp0)) (fun a z => .inl z) (.ow (.inr rfl) n1.1 n1.2 ⟨kvs, hacc, racc⟩) ⟨p, rfl, hp0⟩⟩
    · cases e
  · cases e
section
variable {X : Cx} {a b c e : Expr} {es : List Expr} {fa fb fc f : FE} {pos : Pos}
theorem sx_dc {kx vx tg iter : Expr} {ifs : List Expr} {scope : Scope} {own : List (Str × Nat)} {f : FA} {gt : FGt} {t : FT} {fk fv : FE} (hc : X.calm = true) (hN : X.N.Nodup) (hi : SI X tg iter f) (ok : BlkOk X.N X.env.scope scope own)
    (hg : ∀ (s : Shared) (H : Hp) (C : Addr) (cl : List (Str × Addr)) (fp : List Addr), SG (X.blk s H scope (compEnvC scope cl C X.env) fp) tg (own.map (·.2)) gt)
    (ht : ∀ (s : Shared) (H : Hp) (C : Addr) (cl : List (Str × Addr)) (fp : List Addr), STs (X.blk s H scope (compEnvC scope cl C X.env) fp) ifs t)
    (hk : ∀ (s : Shared) (H : Hp) (C : Addr) (cl : List (Str × Addr)) (fp : List Addr), SE (X.blk s H scope (compEnvC scope cl C X.env) fp) kx fk)
    (he : ∀ (s : Shared) (H : Hp) (C : Addr) (cl : List (Str × Addr)) (fp : List Addr), SE (X.blk s H scope (compEnvC scope cl C X.env) fp) vx fv) (hs : ∀ x, foldedSetIterable iter X.env x = pure x := by intro _; rfl) :
    SX X (.DictComp kx vx [⟨tg, iter, ifs, 0⟩] scope pos) (xDc f gt t fk fv (own.map (·.2))) :=
  ⟨PEw (pe_dc hc hN hi.out ok (fun s H C cl fp => (show PG _ tg (tG X.w X.K (own.map (·.2)) gt) from (hg s H C cl fp).out)) (fun s H C cl fp => (show PTs _ ifs (tT X.w X.K t) from (ht s H C cl fp).out)) (fun s H C cl fp => (show PE _ kx (tE X.w X.K fk) from (hk s H C cl fp).out)) (fun s H C cl fp => (show PE _ vx (tE X.w X.K fv) from (he s H C cl fp).out)) hs) fun σ H Q h => dc_read h⟩
end
/-! ### sets of ints -/
def SetIO (w : World) (a : Addr) (M : Int → Bool) (n : Nat) : HO := .ext fun h => SetR w h a M n
theorem setR_move {w : World} {h h' : Heap} {a : Addr} {M : Int → Bool} {n : Nat} (R : SetR w h a M n) (k : ∀ o, h.get? a = some o → h'.get? a = some o) : SetR w h' a M n := by
  obtain ⟨o, es, ep, t, ho, r⟩ := R
  exact ⟨o, es, ep, t, k o ho, r⟩
theorem notC_set {w : World} {a : Addr} {M : Int → Bool} {n : Nat} : ¬ IsC (SetIO w a M n) := not_code fun h R => by
  obtain ⟨o, es, ep, t, ho, _, hd, _⟩ := R
  exact ⟨a, o, ho, fun vs z => by rw [z] at hd; cases hd⟩
theorem setIO_ok {w : World} {P : Program} {H : Hp} {h : Heap} {a : Addr} {M : Int → Bool} {n : Nat} (R : SetR w h a M n) : ObjOk P w H h a (SetIO w a M n) := by
  refine ⟨R, ?_, fun h1 h2 p k => setR_move p k⟩
  obtain ⟨o, _, _, _, ho, _⟩ := R
  exact ⟨o, ho⟩
/-- without doubles, in the order of their coming -/
def nubI (ns : List Int) : List Int := ns.foldl (fun acc k => if k ∈ acc then acc else acc ++ [k]) []
theorem nub_fold : ∀ (ns acc : List Int), acc.Nodup → (ns.foldl (fun acc k => if k ∈ acc then acc else acc ++ [k]) acc).Nodup ∧ ∀ k, k ∈ ns.foldl (fun acc k => if k ∈ acc then acc else acc ++ [k]) acc ↔ k ∈ acc ∨ k ∈ ns
  | [], acc, h => ⟨h, fun k => by simp⟩
  | n :: ns, acc, h => by
    rw [List.foldl_cons]
    by_cases q : n ∈ acc
    · rw [if_pos q]
      obtain ⟨h1, h2⟩ := nub_fold ns acc h
      refine ⟨h1, fun k => ?_⟩
      rw [h2 k, List.mem_cons]
      constructor
      · rintro (z | z)
        · exact .inl z
        · exact .inr (.inr z)
      · rintro (z | z | z)
        · exact .inl z
        · exact .inl (z ▸ q)
        · exact .inr z
    · rw [if_neg q]
      have hn : (acc ++ [n]).Nodup := by
        rw [List.nodup_append]
        refine ⟨h, by simp, fun a ha b hb => ?_⟩
        rw [List.mem_singleton] at hb
        subst hb
        exact fun z => q (z ▸ ha)
      obtain ⟨h1, h2⟩ := nub_fold ns (acc ++ [n]) hn
      refine ⟨h1, fun k => ?_⟩
      rw [h2 k, List.mem_cons, List.mem_append, List.mem_singleton]
      constructor
      · rintro ((z | z) | z)
        · exact .inl z
        · exact .inr (.inl z)
        · exact .inr (.inr z)
      · rintro (z | z | z)
        · exact .inl (.inl z)
        · exact .inl (.inr z)
        · exact .inr z
theorem nubI_nd (ns : List Int) : (nubI ns).Nodup := (nub_fold ns [] .nil).1
theorem nubI_mem (ns : List Int) (k : Int) : k ∈ nubI ns ↔ k ∈ ns := by
  have h := (nub_fold ns [] .nil).2 k
  unfold nubI
  rw [h]
  simp
theorem nub_len : ∀ (ns acc : List Int), (ns.foldl (fun acc k => if k ∈ acc then acc else acc ++ [k]) acc).length ≤ acc.length + ns.length
  | [], acc => Nat.le_refl _
  | n :: ns, acc => by
    rw [List.foldl_cons, List.length_cons]
    have h := nub_len ns (if n ∈ acc then acc else acc ++ [n])
    split at h <;> rename_i q
    · rw [if_pos q]; omega
    · rw [if_neg q]
      rw [List.length_append, List.length_singleton] at h
      omega
abbrev FN := FEn → FRow → Option (List Int × FRow)
def tSet (K : PySem.W.Frag) (w : World) (fn : FN) : TE := fun σ H Q => ∃ g O env x ns x', FSt w K g O σ H env x ∧ fn env x = some (ns, x') ∧
  ∀ p H' M, FSt w K g (oAdd O p) σ H' env x' → Le g H H' → Gone H p → H' p = some (SetIO w p M (nubI ns).length) → (∀ k, M k = true ↔ k ∈ ns) → ns.length < 64 → Q (.ref p) H'
structure SN (X : Cx) (e : Expr) (f : FN) : Prop where
  out : PE X e (tSet X.K X.w f)
end RT
namespace RT
open PySem PySem.Spec PyProof.Rows L2
/-! ### sorted, of tuples of ints in 0 .. 63 of one length -/
def okTup (n : Nat) (ns : List Int) : Bool := decide (ns.length = n) && ns.all fun i => decide (0 ≤ i ∧ i < 64)
def tupsD (n : Nat) : List D → Option (List (List Int))
  | [] => some []
  | .tuple ds :: r => match intsD ds, tupsD n r with
    | some ns, some rs => if okTup n ns then some (ns :: rs) else none
    | _, _ => none
  | _ => none
def tupD (ns : List Int) : D := .tuple (ns.map .int)
theorem tupsD_ok {n : Nat} : ∀ {ds : List D} {rs : List (List Int)}, tupsD n ds = some rs → ds = rs.map tupD ∧ ∀ r ∈ rs, okTup n r = true
  | [], _, h => by cases h; exact ⟨rfl, fun r h => nomatch h⟩
  | d :: ds, rs, h => by
    unfold tupsD at h
    split at h
    · rename_i e; cases e
    · rename_i e
      cases e
      split at h
      · rename_i ns' rs' h1 h2
        split at h
        · rename_i h3
          cases h
          obtain ⟨a, b⟩ := tupsD_ok h2
          refine ⟨by rw [a, ints_ok h1]; rfl, fun r hr => ?_⟩
          rcases List.mem_cons.mp hr with rfl | hr
          · exact h3
          · exact b r hr
        · cases h
      · cases h
    · cases h
abbrev cdT (ns : List Int) : Int := TS.code 64 ns
def insT (n : List Int) : List (List Int) → List (List Int)
  | [] => [n]
  | m :: ms => if cdT n ≤ cdT m then n :: m :: ms else m :: insT n ms
def sortT : List (List Int) → List (List Int)
  | [] => []
  | n :: ns => insT n (sortT ns)
theorem insT_perm (n : List Int) : ∀ ms : List (List Int), (insT n ms).Perm (n :: ms)
  | [] => .refl _
  | m :: ms => by
    unfold insT
    split
    · exact .refl _
    · exact ((insT_perm n ms).cons m).trans (.swap n m ms)
theorem sortT_perm : ∀ ns : List (List Int), (sortT ns).Perm ns
  | [] => .refl _
  | n :: ns => (insT_perm n _).trans ((sortT_perm ns).cons n)
theorem insT_sorted (n : List Int) : ∀ ms : List (List Int), ms.Pairwise (fun a b => cdT a ≤ cdT b) → (insT n ms).Pairwise (fun a b => cdT a ≤ cdT b)
  | [], _ => by simp [insT]
  | m :: ms, h => by
    unfold insT
    have h' := List.pairwise_cons.mp h
    split
    · rename_i hn
      refine List.pairwise_cons.mpr ⟨fun a ha => ?_, h⟩
      rcases List.mem_cons.mp ha with rfl | ha
      · exact hn
      · exact Int.le_trans hn (h'.1 a ha)
    · rename_i hn
      refine List.pairwise_cons.mpr ⟨fun a ha => ?_, insT_sorted n ms h'.2⟩
      rcases List.mem_cons.mp ((insT_perm n ms).mem_iff.mp ha) with rfl | ha
      · omega
      · exact h'.1 a ha
theorem sortT_sorted : ∀ ns : List (List Int), (sortT ns).Pairwise (fun a b => cdT a ≤ cdT b)
  | [] => .nil
  | n :: ns => insT_sorted n _ (sortT_sorted ns)
theorem okTup_bd {n : Nat} {ns : List Int} (h : okTup n ns = true) : ns.length = n ∧ TS.Bd 64 ns := by
  unfold okTup at h
  rw [Bool.and_eq_true] at h
  exact ⟨of_decide_eq_true h.1, fun m hm => of_decide_eq_true (List.all_eq_true.mp h.2 m hm)⟩
theorem code_inj : ∀ {a b : List Int}, a.length = b.length → TS.Bd 64 a → TS.Bd 64 b → cdT a = cdT b → a = b
  | [], [], _, _, _, _ => rfl
  | [], _ :: _, h, _, _, _ => by simp at h
  | _ :: _, [], h, _, _, _ => by simp at h
  | x :: a, y :: b, h, ha, hb, e => by
    have hl : a.length = b.length := by simpa using h
    have exy : x = y := by
      by_cases h1 : x < y
      · have q := TS.code_lt hl ha.tail hb.tail h1
        have e : TS.code 64 (x :: a) = TS.code 64 (y :: b) := e
        omega
      · by_cases h2 : y < x
        · have q := TS.code_lt hl.symm hb.tail ha.tail h2
          have e : TS.code 64 (x :: a) = TS.code 64 (y :: b) := e
          omega
        · omega
    subst exy
    have e2 : cdT a = cdT b := by
      have e : x * 64 ^ a.length + TS.code 64 a = x * 64 ^ b.length + TS.code 64 b := e
      rw [hl] at e
      show TS.code 64 a = TS.code 64 b
      omega
    rw [code_inj hl ha.tail hb.tail e2]
theorem codes_uniq {n : Nat} : ∀ {l m : List (List Int)}, (∀ r ∈ l, okTup n r = true) → l.Perm m → l.Pairwise (fun a b => cdT a ≤ cdT b) → m.Pairwise (fun a b => cdT a ≤ cdT b) → l = m
  | [], m, _, h, _, _ => h.nil_eq
  | x :: l, [], _, h, _, _ => absurd h.length_eq (by simp)
  | x :: l, y :: m, ok, h, hl, hm => by
    have hl' := List.pairwise_cons.mp hl
    have hm' := List.pairwise_cons.mp hm
    have okm : ∀ r ∈ y :: m, okTup n r = true := fun r hr => ok r (h.mem_iff.mpr hr)
    have e : cdT x = cdT y := by
      have h1 : cdT y ≤ cdT x := by
        rcases List.mem_cons.mp (h.mem_iff.mp List.mem_cons_self) with e | e
        · rw [e]; exact Int.le_refl _
        · exact hm'.1 x e
      have h2 : cdT x ≤ cdT y := by
        rcases List.mem_cons.mp (h.mem_iff.mpr List.mem_cons_self) with e | e
        · rw [e]; exact Int.le_refl _
        · exact hl'.1 y e
      omega
    have exy : x = y := by
      obtain ⟨a1, a2⟩ := okTup_bd (ok x List.mem_cons_self)
      obtain ⟨b1, b2⟩ := okTup_bd (okm y List.mem_cons_self)
      exact code_inj (a1.trans b1.symm) a2 b2 e
    subst exy
    rw [codes_uniq (fun r hr => ok r (List.mem_cons_of_mem _ hr)) h.cons_inv hl'.2 hm'.2]
theorem RpA.perm {K : PySem.W.Frag} {O : Addr → Prop} {H : Hp} {xs ys : List V} (p : ys.Perm xs) : ∀ {ds : List D}, RpA K O H xs ds → ∃ es, es.Perm ds ∧ RpA K O H ys es := by
  induction p with
  | nil => exact fun r => ⟨_, .refl _, r⟩
  | cons x _ ih =>
    intro ds r
    cases r with
    | cons a b =>
      obtain ⟨es, p, q⟩ := ih b
      exact ⟨_, p.cons _, .cons a q⟩
  | swap x y l =>
    intro ds r
    cases r with
    | cons a r =>
      cases r with
      | cons b r => exact ⟨_, .swap _ _ _, .cons b (.cons a r)⟩
  | trans _ _ ih1 ih2 =>
    intro ds r
    obtain ⟨es, p, q⟩ := ih2 r
    obtain ⟨fs, p2, q2⟩ := ih1 q
    exact ⟨fs, p2.trans p, q2⟩
def gSortT : List D → Option D
  | [.list ds] => match ds with
    | .tuple xs :: _ => match tupsD xs.length ds with
      | some rs => if 1 ≤ xs.length ∧ rs.length < 64 then some (.list ((sortT rs).map tupD)) else none
      | none => none
    | [] => some (.list [])
    | _ => none
  | _ => none
section
variable {X : Cx} {a b c e : Expr} {es : List Expr} {fa fb fc f : FE} {pos : Pos}
theorem cr_sortTT : CallR X (.builtin "sorted") fun vs H Q => ∃ d, 1 ≤ d ∧ rSortU X.K d 64 vs H Q := by
  intro pins s σ H vs us Q I r h
  obtain ⟨d, hd, h⟩ := h
  exact cr_sortT hd pins s σ H vs us Q I r h
theorem cd_sortT : CallD X (.builtin "sorted") gSortT := by
  refine CallD.by (cr_sortedI.or cr_sortTT) fun g O σ env x ds z H vs Q S r e k => ?_
  unfold gSortT at e
  split at e
  · split at e
    · split at e
      · split at e
        · rename_i xs tl rest rs q hh
          cases e
          cases r with
          | cons r r' =>
            cases r'
            obtain ⟨p, ys, rfl, hp, rx⟩ := r.lst
            obtain ⟨e1, ok⟩ := tupsD_ok q
            have hlen : ys.length = rs.length := by rw [rx.length, e1, List.length_map]
            have itm : ∀ y d, Rp X.K O H y d → ∀ ns, d = tupD ns → TupI X.K H y ns := fun y d ry ns ed => by
              subst ed
              obtain ⟨t, us, rfl, ht, rt⟩ := ry.tupAt
              rw [rt.ints] at ht
              exact ⟨t, rfl, .of ht⟩
            refine .inr ⟨xs.length, hh.1, p, ys, rfl, .of hp, by rw [hlen]; exact hh.2, fun y hy => ?_, fun zs l hperm hsort hl => ?_⟩
            · obtain ⟨i, hi⟩ := List.getElem?_of_mem hy
              obtain ⟨d, hd, rd⟩ := rx.get' hi
              rw [e1] at hd
              obtain ⟨ns, hns, rfl⟩ := List.mem_map.mp (List.mem_of_getElem? hd)
              obtain ⟨b1, b2⟩ := okTup_bd (ok ns hns)
              exact ⟨ns, itm y _ rd ns rfl, b1, b2⟩
            · obtain ⟨es, pe, re⟩ := rx.perm hperm
              rw [e1] at pe
              obtain ⟨ms, rfl, pm⟩ : ∃ ms : List (List Int), es = ms.map tupD ∧ ms.Perm rs := by
                have hm : ∀ e ∈ es, ∃ ns, e = tupD ns := fun e he => by
                  obtain ⟨ns, _, q⟩ := List.mem_map.mp (pe.mem_iff.mp he)
                  exact ⟨ns, q.symm⟩
                have : ∀ es : List D, (∀ e ∈ es, ∃ ns, e = tupD ns) → ∃ ms : List (List Int), es = ms.map tupD := fun es => by
                  induction es with
                  | nil => exact fun _ => ⟨[], rfl⟩
                  | cons e es ih =>
                    intro h
                    obtain ⟨n, rfl⟩ := h e List.mem_cons_self
                    obtain ⟨m, rfl⟩ := ih fun e he => h e (List.mem_cons_of_mem _ he)
                    exact ⟨n :: m, rfl⟩
                obtain ⟨ms, rfl⟩ := this es hm
                refine ⟨ms, rfl, ?_⟩
                have key : ∀ l : List (List Int), (l.map tupD).map (fun d => match d with | .tuple ds => (intsD ds).getD [] | _ => []) = l := fun l => by
                  rw [List.map_map]
                  conv => rhs; rw [← List.map_id l]
                  refine List.map_congr_left fun a _ => ?_
                  show (intsD (a.map D.int)).getD [] = a
                  rw [ints_map]
                  rfl
                have := pe.map (fun d => match d with | D.tuple ds => (intsD ds).getD [] | _ => [])
                rw [key, key] at this
                exact this
              have srt : ms.Pairwise (fun a b => cdT a ≤ cdT b) := by
                have go : ∀ {zs : List V} {ms : List (List Int)}, RpA X.K O H zs (ms.map tupD) → zs.Pairwise (fun x y => ∀ n m, TupI X.K H x n → TupI X.K H y m → TS.code 64 n ≤ TS.code 64 m) → ms.Pairwise (fun a b => cdT a ≤ cdT b) := by
                  intro zs ms
                  induction ms generalizing zs with
                  | nil => exact fun _ _ => .nil
                  | cons m ms ih =>
                    intro rz hz
                    cases rz with
                    | cons a b =>
                      have hz' := List.pairwise_cons.mp hz
                      refine List.pairwise_cons.mpr ⟨fun m2 hm2 => ?_, ih b hz'.2⟩
                      obtain ⟨i, hi⟩ := List.getElem?_of_mem (List.mem_map.mpr ⟨m2, hm2, rfl⟩ : tupD m2 ∈ ms.map tupD)
                      obtain ⟨y, hy, ry⟩ := b.get hi
                      exact hz'.1 y (List.mem_of_getElem? hy) m m2 (itm _ _ a m rfl) (itm _ _ ry m2 rfl)
                exact go re hsort
              have e2 : ms = sortT rs := codes_uniq (fun r hr => ok r (pm.mem_iff.mp hr)) (pm.trans (sortT_perm rs).symm) srt (sortT_sorted rs)
              subst e2
              have sm := same_upd (o := .lst zs) hl
              exact k _ _ sm (.lst (S.notO hl) upd_same (re.move (.of sm) .refl))
        · cases e
      · cases e
    · cases e
      cases r with
      | cons r r' =>
        cases r'
        obtain ⟨p, ys, rfl, hp, rx⟩ := r.lst
        cases rx
        refine .inl ⟨p, [], rfl, .of hp, fun ns' l h1 h2 hl => ?_⟩
        have e2 : ns' = [] := h1.eq_nil
        subst e2
        have sm := same_upd (o := .lst []) hl
        exact k _ _ sm (.lst (S.notO hl) upd_same .nil)
    · cases e
  · cases e
/-! ### xs.index(d) -/
end
/-! ### the law -/
def spLaw (K : PySem.W.Frag) (b : FS) (n : Nat) (seed : Int) : Sp := fun vs H Q _ => ∃ (T : List (Addr × Str)) (a : Addr) (ns : List Int) (x' : FRow), TOK K T ∧ LamX.Tabs T H ∧ vs = [.ref a] ∧ SqL K H a (ns.map V.int) ∧
  b (.no :: .rw :: List.replicate n .no) ⟨ns, 0, seed, 0⟩ = some (.rt (.bool true), x') ∧ ∀ H', Q (.bl true) H'
theorem ok_law {P : Program} {w : World} {K : PySem.W.Frag} {mg : Str → Option Value} {base : Heap} {x qual n0 n1 : Str} {st : Stmt} {rest : List Stmt} {f : Addr} {fd : FuncData} {more : List Str} {k : Nat} {b : FS} {seed : Int} {i1 i2 i3 : Nat} {p1 p2 p3 p4 p5 p6 pos : Pos}
    (F : Fun K x qual st f fd) (S : FnScope (n0 :: n1 :: more) [n0] (defScope st)) (hb : defBody st = .Assign [.Name n1 p1] (.List [.Name n0 p2, .Constant (.int 0) i1 p3, .Constant (.int seed) i2 p4, .Constant (.int 0) i3 p5] p6) pos :: rest)
    (hs : ∀ (cdv : Value) (A : Around) (outer : List Env) (s : Shared) (H : Hp) (E : XK),
      PS (cxOf CX0 P w K mg base (n0 :: n1 :: more) qual (defScope st) f cdv A outer s H E).nox (.Assign [.Name n1 p1] (.List [.Name n0 p2, .Constant (.int 0) i1 p3, .Constant (.int seed) i2 p4, .Constant (.int 0) i3 p5] p6) pos)
        (tAsg (tLst (tCons (tVar 0) (tCons (tC (.int 0)) (tCons (tC (.int seed)) (tCons (tC (.int 0)) tNil))))) (gName 1)))
    (h : ∀ (cdv : Value) (A : Around) (outer : List Env) (s : Shared) (H : Hp) (E : XK), Room k (A.deeper (envOfC qual (defScope st) s.heap.objs.size f cdv)) → SSs (cxOf CX0 P w K mg base (n0 :: n1 :: more) qual (defScope st) f cdv A outer s H E).nox rest b) :
    FnOk P w K mg base CX0 (k + 1) f fd [n0] (spLaw K b more.length seed) := by
  refine F.ok S (fun vs H Q E h => ?_) (fun cdv A outer s H vs Q E hr hsp => ?_)
  · obtain ⟨T, a, ns, x', _, _, rfl, _⟩ := h
    rfl
  · obtain ⟨T, a, ns, x', tk, tb, rfl, ha, e, q⟩ := hsp
    rw [hb]
    refine ⟨_, pss_cons (hs cdv A outer s H E) (h cdv A outer s H E hr).out, ?_⟩
    refine ⟨_, rfl, maxLen_ok (show 4 ≤ maxLen by decide), fun p hp => ?_⟩
    refine ⟨⟨fun z => z = p, noT (upd H p (.lst [.ref a, .int 0, .int seed, .int 0])), some p, [], T, w, none⟩, fun z => z = p, .no :: .rw :: List.replicate more.length .no, ⟨ns, 0, seed, 0⟩, .rt (.bool true), x', ?_, e, fun O' σ' H' v env' S' r => ?_⟩
    · have hnd : ∀ {i : Nat} {d : OwD}, (FSl.no :: FSl.rw :: List.replicate more.length FSl.no)[i]? ≠ some (.nd d) := fun {i d} z => by
        have z := List.mem_of_getElem? z
        simp at z
      refine ⟨fun _ h => h, fun _ h => .inl h, fun z hz => by rw [hz, upd_same]; exact True.intro, (fun a o _ e _ => (noT_some e).1), fun r hr => ?_, ?_, fun i s e h1 h2 => ?_, fun i j d d' a b ne h1 h2 h3 h4 => ?_, fun i j d d' a b h1 => absurd h1 hnd, fun i j d d' h1 => absurd h1 hnd, (fun r hr => nomatch hr), tb.ext (same_upd hp), tk, fun a o e => (noT_some e).2, rfl⟩
      · have e : p = r := Option.some.inj hr
        subst e
        refine ⟨rfl, (by show noT (upd H p (.lst [V.ref a, V.int 0, V.int seed, V.int 0])) p ≠ none; rw [noT_of upd_same rfl]; exact fun z => nomatch z), a, upd_same, ?_⟩
        rcases ha with (ha | ⟨o, ha⟩) | ha
        · exact .inl ⟨ne_of_none ha hp, .inl (by rw [upd_ne (ne_of_none ha hp)]; exact ha)⟩
        · exact .inl ⟨ne_of_none ha hp, .inr ⟨o, by rw [upd_ne (ne_of_none ha hp)]; exact ha⟩⟩
        · exact .inr (.inr ha)
      · simp [gName, L2.start]
      · cases i with
        | zero =>
          have e2 := Option.some.inj h2
          subst e2
          exact .no _
        | succ i =>
          cases i with
          | zero =>
            have e2 := Option.some.inj h2
            subst e2
            have e1 := Option.some.inj h1
            subst e1
            exact .rw ⟨rfl, rfl⟩
          | succ i =>
            have h2 : (List.replicate more.length FSl.no)[i]? = some e := by simpa using h2
            have := (List.mem_replicate.mp (List.mem_of_getElem? h2)).2
            subst this
            exact .no _
      · have at1 : ∀ {i : Nat} {d : OwD}, (FSl.no :: FSl.rw :: List.replicate more.length FSl.no)[i]? ≠ some (.ow d) := fun {i d} z => by
          have z := List.mem_of_getElem? z
          simp at z
        exact absurd h1 at1
    · cases r
      exact q H'
end RT
namespace RT
open PySem PySem.Spec PyProof.Rows L2
/-! ### several stores at once -/
inductive VsOk (K : PySem.W.Frag) (g : FG) (O' : Addr → Prop) (H H' : Hp) : List V → List FSl → Prop
  | nil : VsOk K g O' H H' [] []
  | cons {v : V} {sl : FSl} {vs : List V} {sls : List FSl} : SlOk K g O' H' (some v) sl → (∀ d, sl = .ow d → ∃ p, v = .ref p ∧ Gone H p ∧ ∀ (i : Nat) d', sls[i]? = some (.ow d') → vs[i]? ≠ some (.ref p)) → (∀ d, sl ≠ .nd d) → VsOk K g O' H H' vs sls → VsOk K g O' H H' (v :: vs) (sl :: sls)
abbrev FXs := FEn → FRow → Option (List FSl × FRow)
def tXs (ω : World) (K : PySem.W.Frag) (f : FXs) : TA := fun σ H Q => ∃ g O env x sls x', FSt ω K g O σ H env x ∧ f env x = some (sls, x') ∧
  ∀ O' vs H', FSt ω K g O' σ H' env x' → Le g H H' → Wid O O' H → (∀ a, O a → O' a) → VsOk K g O' H H' vs sls → Q vs H'
structure SXs (X : Cx) (es : List Expr) (f : FXs) : Prop where
  out : PA X es (tXs X.w X.K f)
def xsNil : FXs := fun _ x => some ([], x)
def xsCons (f : FX) (h : FXs) : FXs := fun env x => match f env x with
  | some (sl, x1) => match h env x1 with
    | some (sls, x2) => some (sl :: sls, x2)
    | none => none
  | none => none
section
variable {ω : World} {K : PySem.W.Frag} {g : FG} {O O' : Addr → Prop} {σ : L2.St} {H H' H1 : Hp} {env : FEn} {x x' : FRow}
theorem VsOk.at {vs : List V} {sls : List FSl} (h : VsOk K g O' H H' vs sls) : ∀ (i : Nat) d, sls[i]? = some (.ow d) → ∃ p, vs[i]? = some (.ref p) ∧ Gone H p := by
  induction h with
  | nil => intro i d e; simp at e
  | cons r n _ _ ih =>
    intro i d e
    cases i with
    | zero =>
      obtain ⟨p, e1, e2, _⟩ := n d (Option.some.inj e)
      subst e1
      exact ⟨p, rfl, e2⟩
    | succ i => exact ih i d (by simpa using e)
theorem VsOk.base {vs : List V} {sls : List FSl} (h : VsOk K g O' H1 H' vs sls) (k : ∀ p, Gone H1 p → Gone H p) : VsOk K g O' H H' vs sls := by
  induction h with
  | nil => exact .nil
  | cons r n m _ ih => exact .cons r (fun d e => let ⟨p, a, b, c⟩ := n d e; ⟨p, a, k p b, c⟩) m ih
theorem VsOk.length {vs : List V} {sls : List FSl} (h : VsOk K g O' H H' vs sls) : vs.length = sls.length := by
  induction h with
  | nil => rfl
  | cons _ _ _ _ ih => rw [List.length_cons, List.length_cons, ih]
def setsV (σ : L2.St) : List Nat → List V → L2.St
  | i :: is, v :: vs => setsV (σ.set i (some v)) is vs
  | _, _ => σ
def setsE (env : FEn) : List Nat → List FSl → FEn
  | i :: is, s :: ss => setsE (env.set i s) is ss
  | _, _ => env
theorem FSt.sets {vs : List V} {sls : List FSl} (v : VsOk K g O' H H' vs sls) : ∀ {σ : L2.St} {env : FEn} (is : List Nat), FSt ω K g O' σ H' env x' → (∀ (i : Nat) d p, sls[i]? = some (.ow d) → vs[i]? = some (.ref p) → ∀ (j : Nat) d' b, env[j]? = some (.ow d') → σ[j]? = some (some (.ref b)) → b ≠ p) → (∀ (i : Nat) d p, sls[i]? = some (.ow d) → vs[i]? = some (.ref p) → ∀ (j : Nat) d' b, env[j]? = some (.nd d') → σ[j]? = some (some (.ref b)) → p ≠ b ∧ ¬ Inn H' b p) → FSt ω K g O' (setsV σ is vs) H' (setsE env is sls) x' := by
  induction v with
  | nil => intro σ env is S _ _; cases is <;> exact S
  | @cons v sl vs sls r n nn hv ih =>
    intro σ env is S hn hm
    cases is with
    | nil => exact S
    | cons i is =>
      refine ih is (S.setv i r (fun d e => ?_) nn fun d z p ep j d' b h1 h2 => hm 0 d p (by rw [z]; rfl) (by rw [ep]; rfl) j d' b h1 h2) (fun j d p e1 e2 k d' b e3 e4 => ?_) fun j d p e1 e2 k d' b e3 e4 => ?_
      rotate_right
      · rcases set_at e3 with ⟨z1, z2⟩ | ⟨z1, z2⟩
        · exact absurd z2.symm (nn d')
        · rcases set_at e4 with ⟨z3, z4⟩ | ⟨z3, z4⟩
          · exact absurd z3 z1
          · exact hm (j + 1) d p (by simpa using e1) (by simpa using e2) k d' b z2 z4
      · obtain ⟨p, e1, e2, _⟩ := n d e
        subst e1
        exact ⟨p, rfl, fun j d' b h1 h2 => hn 0 d p (by rw [e]; rfl) rfl j d' b h1 h2⟩
      · rcases set_at e3 with ⟨z1, z2⟩ | ⟨z1, z2⟩
        · rcases set_at e4 with ⟨z3, z4⟩ | ⟨z3, z4⟩
          · obtain ⟨q, e5, e6, e7⟩ := n d' z2.symm
            have z4 : V.ref b = v := Option.some.inj z4
            rw [e5] at z4
            cases z4
            exact fun z => e7 j d e1 (by rw [z]; exact e2)
          · exact absurd z1 z3
        · rcases set_at e4 with ⟨z3, z4⟩ | ⟨z3, z4⟩
          · exact absurd z3 z1
          · exact hn (j + 1) d p (by simpa using e1) (by simpa using e2) k d' b z2 z4
end
section
variable {X : Cx} {a b c e : Expr} {es : List Expr} {fa fb fc f : FE} {pos : Pos}
theorem sxs_nil : SXs X [] xsNil := by
  refine ⟨PAw pa_nil fun σ H Q h => ?_⟩
  obtain ⟨g, O, env, x, d, x', S, e, k⟩ := h
  cases e
  exact k O _ _ S (Le.refl _ _) .refl (fun _ h => h) .nil
theorem sxs_cons {f : FX} {t : FXs} (h : SX X e f) (ht : SXs X es t) (hs : starEach (e :: es) X.env = (false, eval e X.env) :: starEach es X.env := by rfl) : SXs X (e :: es) (xsCons f t) := by
  refine ⟨PAw (pa_cons h.out ht.out hs) fun σ H Q h => ?_⟩
  obtain ⟨g, O, env, x, sl, x', S, e, k⟩ := h
  unfold xsCons at e
  split at e
  · rename_i s1 x1 e1
    split at e
    · rename_i ss x2 e2
      cases e
      refine ⟨g, O, env, x, s1, x1, S, e1, fun O1 v H1 S1 l1 w1 sub1 r1 n1 => ⟨g, O1, env, x1, ss, x', S1, e2, fun O2 vs H2 S2 l2 w2 sub2 r2 => ?_⟩⟩
      refine k O2 _ H2 S2 (l1.trans l2) (fun a ha => ?_) (fun a ha => sub2 a (sub1 a ha)) (.cons (sl_move S1 l2 w2 sub2 r1) (fun d z => ?_) n1.nn (r2.base fun p hp => Le.gone l1 hp S1))
      · rcases w2 a ha with z | z
        · exact w1 a z
        · exact .inr (Le.gone l1 z S1)
      · obtain ⟨p, e3, hp⟩ := n1.ow d z
        subst e3
        refine ⟨p, rfl, hp, fun i d' e4 e5 => ?_⟩
        obtain ⟨q, e6, hq⟩ := r2.at i d' e4
        rw [e5] at e6
        cases e6
        subst z
        cases r1 with
        | ow _ _ _ t => exact t.live hq rfl
    · cases e
  · cases e
def sPars (is : List Nat) (f : FXs) : FS := fun env x => match f env x with
  | some (sls, x1) => if sls.length = is.length then some (.nx (setsE env is sls), x1) else none
  | none => none
theorem pars_read {ω : World} {K : PySem.W.Frag} {is : List Nat} {f : FXs} {Dn : Ends} {σ : L2.St} {H : Hp} (h : tS ω K (sPars is f) Dn σ H) : tXs ω K f σ H fun vs H' => vs.length = is.length ∧ (∃ g O env x, FSt ω K g O σ H' env x ∧ ∀ H2, Same H' H2 → Dn.nx (setsV σ is vs) H2) := by
  obtain ⟨g, O, env, x, r, x', S, e, k⟩ := h
  unfold sPars at e
  split at e
  · rename_i sls x1 e1
    split at e
    · rename_i hl
      cases e
      refine ⟨g, O, env, x, sls, x', S, e1, fun O' vs H' S' l w sub v => ⟨by rw [v.length, hl], g, O', env, x', S', fun H2 sm => ?_⟩⟩
      have hn : ∀ (i : Nat) d p, sls[i]? = some (.ow d) → vs[i]? = some (.ref p) → ∀ (j : Nat) d' b, env[j]? = some (.ow d') → σ[j]? = some (some (.ref b)) → b ≠ p := fun i d p h1 h2 j d' b h3 h4 => by
        obtain ⟨q, e2, hq⟩ := v.at i d h1
        rw [h2] at e2
        cases e2
        exact own_ne S hq h3 h4
      have hm : ∀ (i : Nat) d p, sls[i]? = some (.ow d) → vs[i]? = some (.ref p) → ∀ (j : Nat) d' b, env[j]? = some (.nd d') → σ[j]? = some (some (.ref b)) → p ≠ b ∧ ¬ Inn H' b p := fun i d p h1 h2 j d' b h3 h4 => by
        obtain ⟨q, e2, hq⟩ := v.at i d h1
        rw [h2] at e2
        cases e2
        exact own_nd S l hq h3 h4
      exact k O' _ H2 ((FSt.sets v is S' hn hm).same sm)
    · cases e
  · cases e
theorem ss_par2 {i j : Nat} {n m : Str} {f : FXs} {px py pt : Pos} {kt k2 pt2} (hc : X.calm = true) (hN : X.N.Nodup) (hi : X.N[i]? = some n) (hj : X.N[j]? = some m) (hij : i ≠ j)
    (hx : X.env.scope.names.lookup n = some .local) (hy : X.env.scope.names.lookup m = some .local) (ha : SXs X [a, b] f)
    (hw : swappedStores [.Tuple [.Name n px, .Name m py] kt pt] (.Tuple [a, b] k2 pt2) X.env = pure (some [n, m]))
    (hs : swapsWithSole [.Tuple [.Name n px, .Name m py] kt pt] (.Tuple [a, b] k2 pt2) pos.line X.env = pure false := by rfl) :
    SS X (.Assign [.Tuple [.Name n px, .Name m py] kt pt] (.Tuple [a, b] k2 pt2) pos) (sPars [i, j] f) := by
  refine ⟨PSw (ps_par hc hN hi hj hij hx hy ha.out hw hs) fun Dn σ H h => ?_⟩
  obtain ⟨g, O, env, x, sls, x', S, e, k⟩ := pars_read h
  refine ⟨g, O, env, x, sls, x', S, e, fun O' vs H' S' l w sub v => ?_⟩
  obtain ⟨hl, _, _, _, _, _, q⟩ := k O' vs H' S' l w sub v
  match vs, hl with
  | [v1, v2], _ => exact ⟨v1, v2, rfl, q H' (Same.refl _)⟩
/-- by way of a tuple -/
inductive PNs (X : Cx) : List Nat → List Expr → Prop
  | nil : PNs X [] []
  | cons {i : Nat} {n : Str} {p : Pos} {is : List Nat} {es : List Expr} : X.N[i]? = some n → Loc X.env.scope n → (X.fn n = true ∨ X.env.scope.names.lookup n = some .local) → (assignEach (.Name n p :: es) X.env).map (·.2) = assign (.Name n p) X.env :: (assignEach es X.env).map (·.2) → PNs X is es → PNs X (i :: is) (.Name n p :: es)
def tNs : List Nat → TGs
  | [] => gNil
  | i :: is => gCons (gName i) (tNs is)
theorem pgs_ns {is : List Nat} {ts : List Expr} (hN : X.N.Nodup) (h : PNs X is ts) : PGs X ts (tNs is) := by
  induction h with
  | nil => exact pgs_nil
  | cons h1 h2 h3 h4 _ ih => exact pgs_cons (pg_name hN h1 h2 h3) ih h4
theorem ns_read : ∀ {is : List Nat} {vs : List V} {σ : L2.St} {H : Hp} {Q : L2.St → Hp → Prop}, vs.length = is.length → Q (setsV σ is vs) H → tNs is vs σ H Q
  | [], [], _, _, _, _, q => ⟨rfl, q⟩
  | [], _ :: _, _, _, _, h, _ => by simp at h
  | _ :: _, [], _, _, _, h, _ => by simp at h
  | i :: is, v :: vs, σ, H, Q, h, q => ⟨v, vs, rfl, ns_read (is := is) (by simpa using h) q⟩
theorem ss_parT {is : List Nat} {ts vs : List Expr} {f : FXs} {kt k2 : Nat} {pt pt2 : Pos} (hc : X.calm = true) (hN : X.N.Nodup) (hn : PNs X is ts) (ha : SXs X vs f) (hlen : is.length ≤ 100)
    (hn1 : (assignEach ts X.env).length = is.length) (hst : (assignEach ts X.env).findIdx? (·.1) = none)
    (hs : swapsWithSole [.Tuple ts kt pt] (.Tuple vs k2 pt2) pos.line X.env = pure false) (hw : swappedStores [.Tuple ts kt pt] (.Tuple vs k2 pt2) X.env = pure none)
    (h1 : (assignEach [.Tuple ts kt pt] X.env).map (·.2) = [assign (.Tuple ts kt pt) X.env]) : SS X (.Assign [.Tuple ts kt pt] (.Tuple vs k2 pt2) pos) (sPars is f) := by
  refine ⟨PSw (ps_asg (pe_tup ha.out) (pg_tup hc (pgs_ns hN hn) hn1 hst) hs hw h1) fun Dn σ H h => ?_⟩
  obtain ⟨g, O, env, x, sls, x', S, e, k⟩ := pars_read h
  refine ⟨g, O, env, x, sls, x', S, e, fun O' vs H' S' l w sub v => ?_⟩
  obtain ⟨hl, _, _, _, _, _, q⟩ := k O' vs H' S' l w sub v
  refine ⟨maxLen_ok (Nat.le_trans (show vs.length ≤ 100 by rw [hl]; exact hlen) (by decide)), fun p hp => ?_⟩
  exact ⟨p, vs, rfl, .of upd_same, hl, ns_read hl (q _ (same_upd hp))⟩
/-! ### subscripts and in, whatever the thing is -/
def gAt : D → D → Option D
  | .list ds, .int i => atI ds i
  | .tuple ds, .int i => atI ds i
  | .dict kvs, k => gDAt (.dict kvs) k
  | .dictT kvs, k => gDAt (.dictT kvs) k
  | _, _ => none
theorem fBin_of {gd : D → D → Option D} {fa fb : FE} {env : FEn} {x x1 : FRow} {d e r : D} {x2 : FRow} (h1 : fa env x = some (d, x1)) (h2 : fb env x1 = some (e, x2)) (h3 : gd d e = some r) : fBin gd fa fb env x = some (r, x2) := by
  unfold fBin
  rw [h1]
  dsimp only
  rw [h2]
  dsimp only
  rw [h3]
theorem se_at (hu : X.A.units + 1 < cLine) (ha : SB X a fa) (hb : SB X b fb) (hs : PlainIx b := by exact fun _ _ => rfl) (hs2 : NoSl b := by exact fun _ _ => rfl) : SE X (.Subscript a b pos) (fBin gAt fa fb) := by
  refine ⟨⟨fun pins s σ H Q I h => ?_⟩⟩
  obtain ⟨g, O, env, x, d, x', S, e, k⟩ := h
  obtain ⟨da, x1, db, r, e1, e2, e3, rfl⟩ := fBin_some e
  have ix : ∀ r, gIx da db = some r → r = r := fun _ _ => rfl
  unfold gAt at e3
  split at e3
  · exact (se_ix ha hb hs).out.run pins s σ H Q I ⟨g, O, env, x, _, x', S, fBin_of e1 e2 (show gIx (.list _) (.int _) = some _ from e3), k⟩
  · exact (se_ix ha hb hs).out.run pins s σ H Q I ⟨g, O, env, x, _, x', S, fBin_of e1 e2 (show gIx (.tuple _) (.int _) = some _ from e3), k⟩
  · exact (se_dget hu ha hb hs2).out.run pins s σ H Q I ⟨g, O, env, x, _, x', S, fBin_of e1 e2 e3, k⟩
  · exact (se_dget hu ha hb hs2).out.run pins s σ H Q I ⟨g, O, env, x, _, x', S, fBin_of e1 e2 e3, k⟩
  · cases e3
/-! x in a tuple -/
def rInDT (K : PySem.W.Frag) : R2 := fun x y H Q => ∃ d ds, Dp K H x d ∧ Dp K H y (.tuple ds) ∧ SeqAt.shaped d = true ∧ SeqAt.shaped (.tuple ds) = true ∧ Q (.bl (ds.any fun z => PyData.eqv z d)) H
theorem op_inDT (hu : X.A.units + 65 < cLine) : OpR X (compareOp .In) (rInDT X.K) := fun pins s σ H x y v u Q I rx ry ⟨d, ds, hd, he, sd, se, q⟩ =>
  have ⟨_, r1⟩ := Dp.reads I d x v hd rx
  have ⟨_, r2⟩ := Dp.reads I (.tuple ds) y u he ry
  SeqAt.in_tuple_reads r2 r1 (SeqAt.canLay_of_shaped se) (SeqAt.canLay_of_shaped sd) (room_in_shaped sd hu) ⟨.bl _, H, I, rfl, q⟩
def gInT : D → D → Option D := fun d e => match e with
  | .tuple ds => if shapedD d && shapedD (.tuple ds) then some (.bool (ds.any fun z => eqD z d)) else none
  | _ => none
theorem od_inT (hu : X.A.units + 65 < cLine) : OpD X (compareOp .In) gInT := by
  refine OpD.by (op_inDT hu) fun g O σ env x d e z H v w Q S rv rw q k => ?_
  unfold gInT at q
  split at q
  · rename_i ds
    split at q
    · rename_i h
      cases q
      obtain ⟨h1, h2⟩ := Bool.and_eq_true_iff.mp h
      have h3 := rw.dp h2
      simp only [shapedD, D.py] at h1 h2 h3
      refine ⟨d.py, pyAll ds, rv.dp h1, h3, h1, h2, ?_⟩
      rw [any_py]
      exact k _ _ (Same.refl _) (.bl _)
    · cases q
  · cases q
def gInA : D → D → Option D := fun d e => match e with
  | .list ds => gIn d (.list ds)
  | .tuple ds => gInT d (.tuple ds)
  | .dict kvs => gDIn d (.dict kvs)
  | .dictT kvs => gDIn d (.dictT kvs)
  | _ => none
theorem fTst_of {f : FE} {env : FEn} {x x' : FRow} {b : Bool} (h : f env x = some (.bool b, x')) : fTst f env x = some (b, x') := by
  unfold fTst
  rw [h]
theorem st_inA (hu : X.A.units + 65 < cLine) (ha : SB X a fa) (hb : SB X b fb) (hm : behindInMarks .In b = false := by rfl) : ST X (.Compare a [.In] [b] pos) (fTst (fBin gInA fa fb)) := by
  refine ⟨⟨fun pins s σ H Q I h => ?_⟩⟩
  obtain ⟨g, O, env, x, d, x', S, e, k⟩ := h
  obtain ⟨da, x1, db, r, e1, e2, e3, e4⟩ := fBin_some (fTst_some e)
  have e4 : r = .bool d := e4
  subst e4
  have e2 : fb env x1 = some (db, x') := e2
  unfold gInA at e3
  split at e3
  · exact (st_cmp (od_in hu) ha hb hm).out.run pins s σ H Q I ⟨g, O, env, x, _, x', S, fTst_of (fBin_of e1 e2 e3), k⟩
  · exact (st_cmp (od_inT hu) ha hb hm).out.run pins s σ H Q I ⟨g, O, env, x, _, x', S, fTst_of (fBin_of e1 e2 e3), k⟩
  · exact (st_din (by omega) ha hb hm).out.run pins s σ H Q I ⟨g, O, env, x, _, x', S, fTst_of (fBin_of e1 e2 e3), k⟩
  · exact (st_din (by omega) ha hb hm).out.run pins s σ H Q I ⟨g, O, env, x, _, x', S, fTst_of (fBin_of e1 e2 e3), k⟩
  · cases e3
/-- < of tuples of ints -/
def gLtT : D → D → Option D
  | .tuple xs, .tuple ys => match intsD xs, intsD ys with
    | some ns, some ms => some (.bool (HT.lexLt ns ms))
    | _, _ => none
  | _, _ => none
theorem od_ltT (hu : X.A.units < cLine) : OpD X (compareOp .Lt) gLtT := by
  refine OpD.by (op_ltT hu) fun g O σ env x d e z H v w Q S rv rw q k => ?_
  unfold gLtT at q
  split at q
  · split at q
    · rename_i xs ys ns ms h1 h2
      cases q
      obtain ⟨p, us, rfl, hp, r1⟩ := rv.tup.tupAt
      obtain ⟨p2, us2, rfl, hp2, r2⟩ := rw.tup.tupAt
      rw [ints_ok h1] at r1
      rw [ints_ok h2] at r2
      rw [r1.ints] at hp
      rw [r2.ints] at hp2
      exact ⟨p, p2, ns, ms, rfl, rfl, .of hp, .of hp2, k _ _ (Same.refl _) (.bl _)⟩
    · cases q
  · cases q
def gLt : D → D → Option D := gOr (gI yes2 fun i j => .bool (decide (i < j))) gLtT
theorem od_ltA (hu : X.A.units < cLine) : OpD X (compareOp .Lt) gLt := od_lt.or (od_ltT hu)
def gAdd : D → D → Option D := gOr gAddI (gOr gCatT gCatL)
theorem od_addA : OpD X (binaryOp .Add) gAdd := od_add.or (od_catT.or od_catL)
def gMul : D → D → Option D := gOr gMulI gRepL
theorem od_mulA : OpD X (binaryOp .Mult) gMul := od_mul.or od_repL
def cOr (g1 g2 : List D → Option D) : List D → Option D := fun ds => match g1 ds with
  | some r => some r
  | none => g2 ds
theorem CallD.or {f : Value} {g1 g2 : List D → Option D} (h1 : CallD X f g1) (h2 : CallD X f g2) : CallD X f (cOr g1 g2) := by
  intro pins s σ H vs us Q I rv h
  obtain ⟨g, O, σ', env, x, ds, z, S, rr, e, k⟩ := h
  unfold cOr at e
  split at e
  · rename_i r' q'
    cases e
    exact h1 pins s σ H vs us Q I rv ⟨g, O, σ', env, x, ds, z, S, rr, q', k⟩
  · exact h2 pins s σ H vs us Q I rv ⟨g, O, σ', env, x, ds, z, S, rr, e, k⟩
def gSort : List D → Option D := cOr gSortI gSortT
theorem cd_sortA : CallD X (.builtin "sorted") gSort := cd_sorted.or cd_sortT
/-- x += e, ints -/
def sAug (i : Nat) (f : FE) : FS := fun env x => match env[i]? with
  | some (.va (.int m)) => match f env x with
    | some (.int n, x1) => some (.nx (env.set i (.va (.int (m + n)))), x1)
    | _ => none
  | _ => none
def sDrop (f : FE) : FS := fun env x => match f env x with
  | some (_, x1) => some (.nx env, x1)
  | none => none
theorem ss_drop (h : SE X e f) (hs : swapsWith e none pos.line X.env = pure false := by rfl) : SS X (.Expr e pos) (sDrop f) := by
  refine ⟨PSw (ps_expr h.out hs) fun Dn σ H h => ?_⟩
  obtain ⟨g, O, env, x, r, x', S, e, k⟩ := h
  unfold sDrop at e
  split at e
  · rename_i d x1 e1
    cases e
    exact ⟨g, O, env, x, d, x', S, e1, fun v H1 S1 l1 r1 => k O σ H1 S1⟩
  · cases e
/-- a def that is never asked -/
theorem ok_none {P : Program} {w : World} {K : PySem.W.Frag} {mg : Str → Option Value} {base : Heap} {k : Nat} {f : Addr} {fd : FuncData} {ps : List Str} : FnOk P w K mg base CX0 k f fd ps (spF K fun _ => none) :=
  ⟨fun vs H Q E h => (let ⟨_, _, _, _, _, _, _, _, e, _⟩ := h; nomatch e), fun A outer s H args us vs Q E hr he hb hv h => (let ⟨_, _, _, _, _, _, _, _, e, _⟩ := h; nomatch e)⟩
theorem room65 {k : Nat} {A : Around} (r : Room k A) : A.units + 65 < cLine := by
  have := r.un
  omega
end
end RT
namespace RT
open PySem PySem.Spec PyProof.Rows L2
/-! ### comprehensions with two fors -/
end RT
namespace RT
open PySem PySem.Spec PyProof.Rows L2
section
variable {X : Cx} {a : Expr} {fa : FE} {pos : Pos}
/-! ### reversed(range(n)), list(range(n)) -/
theorem rpa_map {K : PySem.W.Frag} {O : Addr → Prop} {H : Hp} (f : Nat → Int) : ∀ l : List Nat, RpA K O H (l.map fun i => V.int (f i)) (l.map fun i => D.int (f i))
  | [] => .nil
  | _ :: l => .cons (.int _) (rpa_map f l)
def fLrg1 (f : FE) : FE := fun env x => match f env x with
  | some (.int n, x1) => if okRg n && decide (n ≤ 16777216) then some (.list (rgD 0 n.toNat), x1) else none
  | _ => none
theorem se_lrg1 {p q ppos : Pos} (hc : X.calm = true) (hg : Gl X "list") (hm : X.mg "list" = none) (hg2 : Gl X "range") (hm2 : X.mg "range" = none) (ha : SE X a fa) (na : starEach [a] X.env = (false, eval a X.env) :: starEach [] X.env := by rfl)
    (hs : starEach [.Call (.Name "range" q) [a] [] ppos] X.env = (false, eval (.Call (.Name "range" q) [a] [] ppos) X.env) :: starEach [] X.env := by rfl) : SE X (.Call (.Name "list" p) [.Call (.Name "range" q) [a] [] ppos] [] pos) (fLrg1 fa) := by
  refine ⟨PEw (pe_listRg hc hg hm (prg_1 hg2 hm2 ha.out na) hs) fun σ H Q h => ?_⟩
  obtain ⟨g, O, env, x, d, x', S, e, k⟩ := h
  unfold fLrg1 at e
  split at e
  · rename_i n x1 e1
    split at e
    · rename_i ok
      cases e
      obtain ⟨o1, o2⟩ := Bool.and_eq_true_iff.mp ok
      have o1 := of_decide_eq_true o1
      have o2 := of_decide_eq_true o2
      refine ⟨g, O, env, x, _, x', S, e1, fun v H1 S1 l1 r1 => ?_⟩
      cases r1
      refine ⟨n, rfl, ⟨by omega, by omega, o1.1, o1.2, by omega⟩, fun p hp => ?_⟩
      have sm := same_upd (o := .lst (rgV 0 n)) hp
      refine k _ _ (S1.same sm) (l1.trans (.of sm)) (.lst (S1.notO hp) upd_same ?_)
      have e : rgV 0 n = (List.range n.toNat).map fun i => V.int (0 + (i : Nat)) := by unfold rgV; rw [show (n - 0).toNat = n.toNat by omega]
      rw [e]
      exact rpa_map (fun i => 0 + (i : Nat)) _
    · cases e
  · cases e
end
end RT
namespace RT
open PySem PySem.Spec PyProof.Rows L2
/-! ### dict(xs) of pairs whose keys are tuples -/
end RT
namespace RT
open PySem PySem.Spec PyProof.Rows L2
/-! ### sorted, of tuples that are alike, whatever stands in them -/
def sortableB (ds : List D) : Bool := ds.all fun d => match d with
  | .tuple (_ :: _) => true
  | _ => false
def alikeB (ds : List D) : Bool := ds.all fun d => ds.all fun e => PySem.W.alike d.py e.py
def leD (a b : D) : Bool := !PySem.W.dataLt b.py a.py
def gSortD : List D → Option D
  | [.list ds] => if shapedD (.list ds) && sortableB ds && alikeB ds && decide (ds.length ≤ maxLen) then some (.list (ds.mergeSort leD)) else none
  | _ => none
def gSort1 : List D → Option D
  | [.list ds] => if ds.length ≤ 1 then some (.list ds) else none
  | _ => none
theorem pyAll_map : ∀ ds : List D, pyAll ds = ds.map D.py
  | [] => rfl
  | d :: ds => by rw [pyAll, pyAll_map ds]; rfl
theorem each_of {K : PySem.W.Frag} {O : Addr → Prop} {H : Hp} : ∀ {xs : List V} {its : List Value} {ds : List D}, Vals xs its → RpA K O H xs ds → PySem.W.EachIs (fun u d => ∃ v, RelV v u ∧ Rp K O H v d) its ds
  | _, _, _, .nil, .nil => .nil
  | _, _, _, .cons a b, .cons c d => .cons ⟨_, a, c⟩ (each_of b d)
theorem of_each {K : PySem.W.Frag} {O : Addr → Prop} {H : Hp} {its : List Value} {ds : List D} (h : PySem.W.EachIs (fun u d => ∃ v, RelV v u ∧ Rp K O H v d) its ds) : ∃ xs, Vals xs its ∧ RpA K O H xs ds := by
  induction h with
  | nil => exact ⟨[], .nil, .nil⟩
  | cons h _ ih =>
    obtain ⟨v, a, b⟩ := h
    obtain ⟨xs, c, d⟩ := ih
    exact ⟨v :: xs, .cons a c, .cons b d⟩
theorem room66 {k : Nat} {A : Around} (r : Room k A) : A.units + 66 < cLine := by
  have := r.un
  omega
section
variable {X : Cx}
theorem cd_sortD (hu : X.A.units + 66 < cLine) : CallD X (.builtin "sorted") gSortD := by
  intro pins s σ H vs us Q I rv h
  obtain ⟨g, O, σ', env, x, ds, z, S, rr, e, k⟩ := h
  unfold gSortD at e
  split at e
  · rename_i ds0
    split at e
    · rename_i hc
      cases e
      simp only [Bool.and_eq_true, decide_eq_true_eq] at hc
      obtain ⟨⟨⟨hs, ht⟩, ha⟩, hlen⟩ := hc
      cases rr with
      | cons r r' =>
      cases r'
      obtain ⟨p, xs, rfl, hp, rx⟩ := r.lst
      obtain ⟨its, rvv, hl, hz⟩ := I.list (.of hp)
      rw [Vals.ref1 rv]
      have hlay := SeqAt.canLay_of_shaped hs
      have hdep := SeqAt.depth_of_shaped hs
      have hlay' : PyData.canLayAll0 (pyAll ds0) = true := by simpa [D.py, PyData.canLay0] using hlay
      obtain ⟨as, rd⟩ := Dp.readsAll I (pyAll ds0) xs its (rx.dp hlay') rvv
      rw [pyAll_map] at rd
      have hsort : ∀ out : List Value, PySem.W.EachIs (fun u d => ∃ v, RelV v u ∧ Rp X.K O H v d) out (ds0.mergeSort (PySem.W.dataLe false D.py)) → EP X pins σ Q (.ref (s.heap.objs.size + 1)) { s with heap := sortedAll s.heap its (List.toArray out) } := fun out he => by
        obtain ⟨zs, q1, q2⟩ := of_each he
        obtain ⟨ep, he'⟩ := PyProof.Rows.sortedAll_at s.heap its out.toArray
        have hzs : zs.length ≤ sizeLine := by
          rw [q2.length, List.length_mergeSort]; exact maxLen_ok hlen
        have hn : H (s.heap.objs.size + 1) = none := I.hok.fresh (Nat.le_succ _)
        have sm := same_upd (o := .lst zs) hn
        refine ⟨.ref _, upd H (s.heap.objs.size + 1) (.lst zs), I.laid (t' := s.toks) (fun _ _ => PyProof.Rows.sortedAll_old) (Nat.le_succ _) ⟨hzs, out, ep, q1, he'⟩, rfl, k _ _ sm ?_⟩
        exact .lst (S.notO hn) upd_same (q2.move (.of sm) .refl)
      refine PySem.W.sorted_data (enc := D.py) (bs := ds0) (R := fun u d => ∃ v, RelV v u ∧ Rp X.K O H v d) hl.isList (each_of rvv rx) (PySem.W.readsAll_each D.py rd) ?_ ?_ (maxLen_ok hlen) ?_ (fun out _ he => hsort out he)
      · intro d hd d' hd'
        obtain ⟨b, hb, rfl⟩ := List.mem_map.mp hd
        obtain ⟨b', hb', rfl⟩ := List.mem_map.mp hd'
        exact List.all_eq_true.mp (List.all_eq_true.mp ha b hb) b' hb'
      · refine .inl fun d hd => ?_
        obtain ⟨b, hb, rfl⟩ := List.mem_map.mp hd
        have q := List.all_eq_true.mp ht b hb
        cases b with
        | tuple xs =>
          cases xs with
          | nil => simp at q
          | cons x xs => exact ⟨x.py, pyAll xs, by rw [D.py, pyAll]⟩
        | _ => simp at q
      · intro b hb
        have dl : ∀ {ds : List D}, b ∈ ds → b.py.depth ≤ PyData.depthAll (pyAll ds) := fun {ds} => by
          induction ds with
          | nil => intro h; cases h
          | cons d ds ih =>
            intro h
            rw [pyAll, PyData.depthAll]
            rcases List.mem_cons.mp h with rfl | h
            · exact Nat.le_max_left _ _
            · exact Nat.le_trans (ih h) (Nat.le_max_right _ _)
        have h1 := dl hb
        have h2 : PyData.depthAll (pyAll ds0) + 1 ≤ 64 := by simpa [D.py, PyData.depth, Nat.add_comm] using hdep
        omega
    · cases e
  · cases e
theorem cd_sort1 : CallD X (.builtin "sorted") gSort1 := by
  intro pins s σ H vs us Q I rv h
  obtain ⟨g, O, σ', env, x, ds, z, S, rr, e, k⟩ := h
  unfold gSort1 at e
  split at e
  · rename_i ds0
    split at e
    · rename_i hc
      cases e
      cases rr with
      | cons r r' =>
      cases r'
      obtain ⟨p, xs, rfl, hp, rx⟩ := r.lst
      obtain ⟨its, rvv, hl, hz⟩ := I.list (.of hp)
      rw [Vals.ref1 rv]
      have hil : its.length ≤ 1 := by rw [← rvv.length, rx.length]; exact hc
      refine SrtO.sorted_ord (ltv := fun _ _ => false) ⟨fun _ _ h => (nomatch h), fun _ _ _ _ _ => rfl⟩ hl.isList (by rw [← rvv.length]; exact hz) (fun h2 => absurd h2 (by omega)) fun out h1 h2 => ?_
      have eo : out = its := by
        have hlo := h2.perm.length_eq
        match its, out, hil, hlo, h2.perm with
        | [], [], _, _, _ => rfl
        | [a], [b], _, _, p => exact (by rw [List.singleton_perm_singleton.mp p])
        | [], _ :: _, _, h, _ => simp at h
        | [_], [], _, h, _ => simp at h
        | [_], _ :: _ :: _, _, h, _ => simp at h
        | _ :: _ :: _, _, h, _, _ => simp at h
      subst eo
      obtain ⟨ep, he'⟩ := PyProof.Rows.sortedAll_at s.heap out out.toArray
      have hn : H (s.heap.objs.size + 1) = none := I.hok.fresh (Nat.le_succ _)
      have sm := same_upd (o := .lst xs) hn
      refine ⟨.ref _, upd H (s.heap.objs.size + 1) (.lst xs), I.laid (t' := s.toks) (fun _ _ => PyProof.Rows.sortedAll_old) (Nat.le_succ _) ⟨hz, out, ep, rvv, he'⟩, rfl, k _ _ sm ?_⟩
      exact .lst (S.notO hn) upd_same (rx.move (.of sm) .refl)
    · cases e
  · cases e
def gSortX : List D → Option D := cOr gSort (cOr gSort1 gSortD)
theorem cd_sortX (hu : X.A.units + 66 < cLine) : CallD X (.builtin "sorted") gSortX := cd_sortA.or (cd_sort1.or (cd_sortD hu))
end
end RT
namespace RT
open PySem PySem.Spec PyProof.Rows L2
/-! ### for k in d: the dict is locked meanwhile -/
end RT
namespace RT
open PySem PySem.Spec PyProof.Rows L2 PpSet
/-! ### {elt for .. in .. for .. in ..}, the elements ints -/
section
variable {prog : Program} {w : World} {A : Around} {R : Result → Shared → Prop} {s : Shared} {el ta ia tb ib : Expr} {ca cb : List Expr} {sc : Scope} {ps : Pos} {J M : Value} {env : Env}
/-- where a raise in the block goes -/
abbrev nb (prog : Program) (w : World) (A : Around) (R : Result → Shared → Prop) (env : Env) : Value → Shared → Prop := notedBy (model prog w) A env fun x t => R (.error x) t
end
end RT
namespace RT
open PySem PySem.Spec PyProof.Rows L2
section
variable {X : Cx} {pos : Pos}
/-! x in a constant tuple of texts -/
/-! a < b of data that are alike -/
def gLtD : D → D → Option D := fun d e => if shapedD d && shapedD e && PySem.W.alike d.py e.py && !isNoneD d then some (.bool (PySem.W.dataLt d.py e.py)) else none
theorem od_ltD (hu : X.A.units + 64 < cLine) : OpD X (compareOp .Lt) gLtD := by
  intro pins s σ H x y v u Q I rx ry h
  obtain ⟨g, O, σ', env, x0, d, e, r, S, r1, r2, q, k⟩ := h
  unfold gLtD at q
  split at q
  · rename_i hc
    cases q
    simp only [Bool.and_eq_true, Bool.not_eq_true'] at hc
    obtain ⟨⟨⟨h1, h2⟩, h3⟩, h4⟩ := hc
    obtain ⟨as, q1⟩ := Dp.reads I d.py _ v (r1.dp h1) rx
    obtain ⟨bs, q2⟩ := Dp.reads I e.py _ u (r2.dp h2) ry
    have hd := SeqAt.depth_of_shaped h1
    have hn : d.py ≠ .none := fun z => by
      cases d <;> simp [D.py] at z
      simp [isNoneD] at h4
    show wpAny _ _ (richCompare .Lt v u) _ _ s
    exact PySem.W.rcLt_alike d.py e.py X.A s v u as bs q1 q2 h3 hn (by have := Nat.min_le_left d.py.depth e.py.depth; omega) _ _ _ _ ⟨.bl _, H, I, rfl, k _ _ (Same.refl _) (.bl _)⟩
  · cases q
def gLtX : D → D → Option D := gOr gLt gLtD
theorem od_ltX (hu : X.A.units + 64 < cLine) : OpD X (compareOp .Lt) gLtX := (od_ltA (by omega)).or (od_ltD hu)
end
end RT
namespace RT
open PySem PySem.Spec PyProof.Rows L2
/-! ### dicts with keys of any kind -/
end RT
namespace RT
open PySem PySem.Spec PyProof.Rows L2
section
variable {ω : World} {K : PySem.W.Frag} {O : Addr → Prop} {H : Hp} {P : Program} {w : World} {h : Heap}
theorem Paired.comp {α β γ : Type} {F : α → β → Prop} {G : β → γ → Prop} {M : α → γ → Prop} (f : ∀ a b c, F a b → G b c → M a c) : ∀ {l : List α} {m : List β} {n : List γ}, Paired F l m → Paired G m n → Paired M l n
  | _, _, _, .nil, .nil => .nil
  | _, _, _, .cons x y, .cons u v => .cons (f _ _ _ x u) (Paired.comp f y v)
/-- a key fits to those that stand -/
structure Fit (K : PySem.W.Frag) (O : Addr → Prop) (H : Hp) (ds : List (D × D)) (kd : D) (q : NestedKey) (v : V) : Prop where
  k : nk kd = some q
  dp : q.depth ≤ 8
  t : ∀ p ∈ ds, isTupD p.1 = isTupD kd
  r : Rp K O H v kd
variable {X : Cx} {pins : List (Addr × Obj)} {σ : L2.St} {s : Shared} {a : Addr} {xs : List DaX} {ds : List (D × D)} {kd d1 : D} {q : NestedKey} {v : V} {u r : Value} {E : Value → Shared → Prop} {Q : Value → Shared → Prop}
theorem Fit.ref (f : Fit K O H ds kd q v) (t : isTupD kd = true) : ∃ b, v = .ref b := by
  obtain ⟨_, _, _, r⟩ := f
  cases kd <;> first | (cases t; done) | exact r.isRef
end
/-! ### statements and expressions -/
end RT
namespace RT
open PySem PySem.Spec PyProof.Rows L2
/-! ### the numbers of marks -/
end RT
namespace RT
open PySem PySem.Spec PyProof.Rows L2
/-! ### dicts whose keys are tuples of any kind: k not in d, d[k] = v, {k: v} -/
end RT
namespace RT
open PySem PySem.Spec PyProof.Rows L2
/-! ### zip of two lists, of two tuples -/
end RT
namespace RT
open PySem PySem.Spec PyProof.Rows L2
/-! ### set(t), t a tuple of ints, under sorted -/
theorem ilen_le : ∀ {l m : List Int}, l.Nodup → (∀ x ∈ l, x ∈ m) → l.length ≤ m.length
  | [], _, _, _ => Nat.zero_le _
  | a :: l, m, hn, hs => by
    have hn' := List.nodup_cons.mp hn
    have ha := hs a List.mem_cons_self
    have := ilen_le (l := l) (m := m.erase a) hn'.2 fun x hx => (List.mem_erase_of_ne (show x ≠ a from fun e => hn'.1 (by rw [← e]; exact hx))).mpr (hs x (List.mem_cons_of_mem _ hx))
    rw [List.length_erase_of_mem ha] at this
    have := List.length_pos_of_mem ha
    simp only [List.length_cons]; omega
theorem setR_count {w : World} {h : Heap} {a : Addr} {M : Int → Bool} {c : Nat} {ns : List Int} (R : SetR w h a M c) (hM : ∀ k, M k = true ↔ k ∈ ns) : c = (nubI ns).length := by
  obtain ⟨o, es, ep, t, _, _, _, _, hnd, hmem, _, _, hc, _⟩ := R
  have e : es.size = (es.toList.map keyOf).length := by simp
  rw [← hc, e]
  refine Nat.le_antisymm (ilen_le hnd fun x hx => (nubI_mem ns x).mpr ((hM x).mp ((hmem x).mpr hx))) (ilen_le (nubI_nd ns) fun x hx => (hmem x).mp ((hM x).mpr ((nubI_mem ns x).mp hx)))
def rSetT (K : PySem.W.Frag) (w : World) : List V → Hp → VK → Prop := fun vs H Q => ∃ (l : Addr) (ns : List Int), vs = [.ref l] ∧ SqT K H l (ns.map V.int) ∧ ns.length < 64 ∧ ∀ p M, H p = none → (∀ k, M k = true ↔ k ∈ ns) → Q (.ref p) (upd H p (SetIO w p M (nubI ns).length))
theorem cr_setT {X : Cx} (hc : X.calm = true) : CallR X (.type "set") (rSetT X.K X.w) := by
  intro pins s σ H vs us Q I r h
  obtain ⟨l, ns, rfl, hl, h64, q⟩ := h
  rw [Vals.ref1 r]
  obtain ⟨its, rv, pt, hz⟩ := I.tuple hl
  have hi : IntsAre its ns := rv.ints
  refine call_set_tupI ns (I.ok.hd hc) pt (by simpa using hi) (Nat.lt_of_le_of_lt (show ns.length + 1 ≤ 64 by omega) (by decide)) fun h' tk c R hcn hk => ?_
  have en := setR_count (ns := ns) R fun k => by simp
  rw [en] at R
  have I1 : L2.Inv X pins σ (upd H s.heap.objs.size (SetIO X.w s.heap.objs.size (fun j => decide (j ∈ ns)) (nubI ns).length)) { s with heap := h', toks := tk } :=
    I.laid (a := s.heap.objs.size) (o := SetIO X.w s.heap.objs.size (fun j => decide (j ∈ ns)) (nubI ns).length) (t' := tk) (fun b o e => hk b o e) (Nat.le_refl _) (setIO_ok R)
  exact ⟨.ref _, _, I1, rfl, q _ _ (I.hok.fresh (Nat.le_refl _)) fun k => by simp⟩
def nSetT (fa : FE) : FN := fun env x => match fa env x with
  | some (.tuple ds, x1) => match intsD ds with
    | some ns => if ns.length < 64 then some (ns, x1) else none
    | none => none
  | _ => none
section
variable {X : Cx} {a b c e : Expr} {es : List Expr} {fa fb fc f : FE} {pos : Pos}
theorem sn_setT {p : Pos} (hc : X.calm = true) (hg : Gl X "set") (hm : X.mg "set" = none) (ha : SE X a fa) (hs : starEach [a] X.env = (false, eval a X.env) :: starEach [] X.env := by rfl) (hpl : (backTo pos (starEach [] X.env)).any (·.1) = false := by rfl) : SN X (.Call (.Name "set" p) [a] [] pos) (nSetT fa) := by
  refine ⟨PEw (pe_callTy (cr_setT hc) hg hm (by decide +kernel) (pa_cons ha.out pa_nil hs) (by decide) (by decide) hs hpl) fun σ H Q h => ?_⟩
  obtain ⟨g, O, env, x, ns0, x', S, e, k⟩ := h
  unfold nSetT at e
  split at e
  · rename_i ds x1 e1
    split at e
    · rename_i ns e2
      split at e
      · rename_i hl
        cases e
        refine ⟨g, O, env, x, _, x', S, e1, fun v H1 S1 l1 r1 => ?_⟩
        obtain ⟨t, rfl⟩ := r1.isRef
        obtain ⟨xs, hq, rx⟩ := r1.seqT
        have ei := ints_ok e2
        subst ei
        have ex := rx.ints
        subst ex
        refine ⟨t, ns0, rfl, hq, hl, fun p M hp hM => ?_⟩
        have S2 := S1.own (o := SetIO X.w p M (nubI ns0).length) hp notC_set
        exact k p _ M S2 (l1.trans (.of (same_upd hp))) (Le.gone l1 (.of hp) S1) upd_same hM hl
      · cases e
    · cases e
  · cases e
end
end RT
namespace RT
open PySem PySem.Spec PyProof.Rows L2
open LamX (CodeO)
open NdefX
/-! ### a lambda with parameters, called by whoever got it: F.body is not used, its body is the expression be -/
end RT
namespace RT
open PySem PySem.Spec PyProof.Rows L2
open LamX (CodeO)
open NdefX
/-! ### a name that holds a function made by the caller -/
/-- in the context X the function at f, called with plain data, answers m -/
structure LamCall (X : Cx) (f c : Addr) (q : Str) (gs : List (V × D)) (m : List D → Option D) : Prop where
  at_ : ∀ (pins : List (Addr × Obj)) (σ : L2.St) (H : Hp) (s : Shared), L2.Inv X pins σ H s → PySem.W.FnAt f s.heap
  run : ∀ (pins : List (Addr × Obj)) (σ : L2.St) (H : Hp) (s : Shared) (O : Addr → Prop) (us : List Value) (vs : List V) (ds : List D) (d : D) (Q : VK) (T : List (Addr × Str)), L2.Inv X pins σ H s → TOK X.K T → LamX.Tabs T H → (∀ a, O a → MutC (H a)) → H c = some (CodeO c q) → (∀ p ∈ gs, Rp X.K O H p.1 p.2) → Vals vs us → RpA X.K O H vs ds → m ds = some d →
    (∀ v H', SameT T H H' → Rp X.K O H' v d → Q v H') → wpAny (model X.prog X.w) X.A (call (.ref f) us) (EP X pins σ Q) X.xe s
end RT
namespace RT
open PySem PySem.Spec PyProof.Rows L2
open LamX (CodeO)
open NdefX
theorem Paired.app {α β : Type} {R : α → β → Prop} : ∀ {l l' : List α} {m m' : List β}, Paired R l m → Paired R l' m' → Paired R (l ++ l') (m ++ m')
  | _, _, _, _, .nil, h => h
  | _, _, _, _, .cons a b, h => .cons a (Paired.app b h)
end RT
namespace RT
open PySem PySem.Spec PyProof.Rows L2
open LamX (CodeO TabB)
open NdefX
/-! ### a call that hands a lambda over: n(a, lambda ..: .., c) -/
def startS (n : Nat) (sl : List FSl) : FEn := sl ++ List.replicate (n - sl.length) FSl.no
def mkS (n : Nat) (sl : List FSl) (body : FS) : Option D := match body (startS n sl) row0 with
  | some (.rt d, _) => some d
  | some (.nx _, _) => some .none
  | _ => none
/-- a def that calls its second parameter -/
structure CalleeG (P : Program) (ω : World) (K : PySem.W.Frag) (mg : Str → Option Value) (base : Heap) (k : Nat) (n : Str) (N ps : List Str) (G : (List D → Option D) → D → D → Option D) : Prop where
  ex : ∃ (g : Addr) (st : Stmt) (fd : FuncData), Fun K n n st g fd ∧ FnScope N ps (defScope st) ∧ Binds K fd ps [] ∧ mg n = some (.ref g) ∧ ps.length = 3 ∧
    ∀ (cdv : Value) (A : Around) (outer : List Env) (s : Shared) (H : Hp), Room k (A.deeper (envOfC n (defScope st) s.heap.objs.size g cdv)) → ∀ (f c : Addr) (q : Str) (gs : List (V × D)) (m : List D → Option D),
      LamCall (cxOf CX0 P ω K mg base N n (defScope st) g cdv A outer s H E0).nox f c q gs m →
      ∃ body : FS, SSs (cxOf CX0 P ω K mg base N n (defScope st) g cdv A outer s H E0).nox (defBody st) body ∧ ∀ a b d, G m a b = some d → mkS N.length [.va a, .fn f c q gs, .va b] body = some d
theorem CalleeG.mono {P : Program} {ω : World} {K : PySem.W.Frag} {mg : Str → Option Value} {base : Heap} {k j : Nat} {n : Str} {N ps : List Str} {G : (List D → Option D) → D → D → Option D} (c : CalleeG P ω K mg base k n N ps G) (h : k ≤ j) : CalleeG P ω K mg base j n N ps G := by
  obtain ⟨g, st, fd, a, b, c, d, e, z⟩ := c.ex
  exact ⟨g, st, fd, a, b, c, d, e, fun cdv A outer s H hr => z cdv A outer s H (hr.mono h)⟩
end RT
namespace RT
open PySem PySem.Spec PyProof.Rows L2
/-! ### what grows from a start on, as a function -/
def plF : List D → Nat → List (D × D)
  | [], _ => []
  | d :: ds, i => (d, .int (i : Nat)) :: plF ds (i + 1)
abbrev eG (a : D) (sl : FSl) (b : D) (th wb : List D) (e6 e7 e8 : FSl) : FEn := [.va a, sl, .va b, .ow (.lst th), .da (plF th 0), .ow (.lst wb), e6, e7, e8, .no]
section
variable {a b : D} {sl e6 e7 e8 : FSl} {th wb : List D} {x : FRow} {most : Option Nat}
theorem len5 : fCall gLen (aCons (fBor 5) aNil) (eG a sl b th wb e6 e7 e8) x = some (.int wb.length, x) := rfl
end
end RT
namespace RT
open PySem PySem.Spec PyProof.Rows L2
open LamX (CodeO TabB)
/-! ### a def that makes functions -/
theorem tab_code {K : PySem.W.Frag} {x : Str} {f c P : Addr} {oc : Value} {od : Option Addr} {fd : FuncData} {osl : Array (Option Value)} (ns : PySem.W.nsIn K mainGlobals x = some (some (.ref f))) (lk : K.lookup f = some ⟨oc, od, .func fd, osl⟩) (ti : PySem.W.tabIn K x = some (c, P)) : fd.code = .ref c := by
  unfold PySem.W.tabIn at ti
  rw [ns] at ti
  simp only [lk] at ti
  split at ti
  · rename_i c' e
    split at ti
    · split at ti
      · cases ti; exact e
      · cases ti
    · cases ti
  · cases ti
end RT
namespace RT
open PySem PySem.Spec PyProof.Rows L2
/-! ### d.setdefault(k, v), d a dict with ints and texts as keys; xs[::-1]; x in a tuple -/
end RT
namespace RT
open PySem PySem.Spec PyProof.Rows L2
/-! ### sorted(d), the keys of d tuples of ints and texts -/
/-- the tables of the makers that the program has -/
theorem tok_of {K : PySem.W.Frag} {L : List (Str × Addr × Addr)} (h1 : (makers.all fun x => match PySem.W.tabIn K x with | some (_, P) => L.any fun q => q.1 == x && q.2.2 == P | none => true) = true) (h2 : (L.map fun q => q.2.2).Nodup) : TOK K (L.map fun q => (q.2.2, lamq q.1)) := fun x hx c P e => by
  have z := List.all_eq_true.mp h1 x hx
  rw [e] at z
  obtain ⟨q, hq, z⟩ := List.any_eq_true.mp z
  rw [Bool.and_eq_true, beq_iff_eq, beq_iff_eq] at z
  obtain ⟨z1, z2⟩ := z
  subst z1
  subst z2
  refine ⟨List.mem_map.mpr ⟨q, hq, rfl⟩, fun p hp ep => ?_⟩
  obtain ⟨q', hq', rfl⟩ := List.mem_map.mp hp
  have : q' = q := by
    have key : ∀ {L : List (Str × Addr × Addr)}, (L.map fun q => q.2.2).Nodup → ∀ {a b}, a ∈ L → b ∈ L → a.2.2 = b.2.2 → a = b := fun {L} => by
      induction L with
      | nil => intro _ a b ha; cases ha
      | cons l L ih =>
        intro hn a b ha hb e
        rw [List.map_cons, List.nodup_cons] at hn
        rcases List.mem_cons.mp ha with e1 | h1
        · rcases List.mem_cons.mp hb with e2 | h2
          · rw [e1, e2]
          · exact absurd (List.mem_map.mpr ⟨b, h2, by rw [← e, e1]⟩) hn.1
        · rcases List.mem_cons.mp hb with e2 | h2
          · exact absurd (List.mem_map.mpr ⟨a, h1, by rw [e, e2]⟩) hn.1
          · exact ih hn.2 h1 h2 e
    exact key h2 hq' hq ep
  rw [this]
end RT
namespace RT
open PySem PySem.Spec PyProof.Rows L2 PpSet
/-! ### dict comprehensions whose keys are tuples of ints and texts -/
end RT
namespace RT
open PySem PySem.Spec PyProof.Rows L2
/-! ### sorted(t), t a tuple of tuples that are alike -/
end RT
namespace RT
open PySem PySem.Spec PyProof.Rows L2
/-! ### min(xs), xs a list of data that are alike -/
end RT
namespace RT
open PySem PySem.Spec PyProof.Rows L2
/-! ### comprehensions over the keys of a local dict; it is locked meanwhile -/
/-! ### the truth of a dict -/
section
variable {X : Cx} {a : Expr} {fa : FE}
theorem RpK.emp {K : PySem.W.Frag} {O : Addr → Prop} {H : Hp} {kvs : List (L2.Key × V)} {ds : List (D × D)} (r : RpK K O H kvs ds) : kvs.isEmpty = ds.isEmpty := by cases r <;> rfl
end
end RT
namespace RT
open PySem PySem.Spec PyProof.Rows L2
/-! ### {k: v}, k a tuple of ints and texts -/
end RT
namespace RT
open PySem PySem.Spec PyProof.Rows L2
/-! ### d = {}; d.setdefault(k, []).extend(t): an owned dict of owned lists -/
/-! ### the state -/
end RT
namespace RT
open PySem PySem.Spec PyProof.Rows L2
end RT
namespace RT
open PySem PySem.Spec PyProof.Rows L2
/-! ### set(xs), xs a list of ints, under sorted -/
end RT
namespace RT
open PySem PySem.Spec PyProof.Rows L2
/-! ### d.get(k, v), d.get(k); xs[i] += v; xs[i] = v; xs.append(ys.pop(i)) -/
section
variable {X : Cx} {a b c e : Expr} {fa fk fv : FE} {pos apos cpos : Pos}
theorem RpA.set {K : PySem.W.Frag} {O : Addr → Prop} {H : Hp} {v : V} {d : D} (r : Rp K O H v d) : ∀ {vs : List V} {ds : List D} (i : Nat), RpA K O H vs ds → RpA K O H (vs.set i v) (ds.set i d)
  | _, _, _, .nil => .nil
  | _, _, 0, .cons a b => .cons r b
  | _, _, i + 1, .cons a b => .cons a (RpA.set r i b)
/-- xs.append(ys.pop(i)) -/
def sAppPop (i j : Nat) (fe : FE) : FS := fun env x => match fe env x with
  | some (.int k, x1) => match env[j]? with
    | some (.ow (.lst ds)) => match (if 0 ≤ k then ds[k.toNat]? else none) with
      | some v => match (env.set j (.ow (.lst (ds.eraseIdx k.toNat))))[i]? with
        | some (.ow (.lst es)) => if i ≠ j ∧ es.length < maxLen ∧ ds.length < maxLen then some (.nx ((env.set j (.ow (.lst (ds.eraseIdx k.toNat)))).set i (.ow (.lst (es ++ [v])))), x1) else none
        | _ => none
      | none => none
    | _ => none
  | _ => none
theorem RpA.erase {K : PySem.W.Frag} {O : Addr → Prop} {H : Hp} : ∀ {vs : List V} {ds : List D} (i : Nat), RpA K O H vs ds → RpA K O H (vs.eraseIdx i) (ds.eraseIdx i)
  | _, _, _, .nil => .nil
  | _, _, 0, .cons a b => b
  | _, _, i + 1, .cons a b => .cons a (RpA.erase i b)
theorem ss_apppop {i j : Nat} {n m : Str} {p0 p1 apos cpos apos2 cpos2 : Pos} (he : SE X e fk)
    (hs : swapsWith (.Call (.Attribute (.Name n p0) "append" apos) [.Call (.Attribute (.Name m p1) "pop" apos2) [e] [] cpos2] [] cpos) none pos.line X.env = pure false := by rfl)
    (hbase : attributeBase (.Name n p0) "append" X.env (eval (.Name n p0) X.env) = eval (.Name n p0) X.env := by rfl)
    (hfew : ((backTo cpos (starEach (.Call (.Attribute (.Name m p1) "pop" apos2) [e] [] cpos2 :: []) X.env)).all (fun x => !x.1) && (backToKw cpos (keywordEach [] X.env)).all (fun x => x.1.isSome)
      && decide ((Expr.Call (.Attribute (.Name m p1) "pop" apos2) [e] [] cpos2 :: []).length + ([] : List Keyword).length + (if ([] : List Keyword).isEmpty then 0 else 1) < 30)) = true := by rfl)
    (hline : (apos.endLine == cpos.line) = true := by rfl) (hss : starEach (.Call (.Attribute (.Name m p1) "pop" apos2) [e] [] cpos2 :: []) X.env = (false, eval (.Call (.Attribute (.Name m p1) "pop" apos2) [e] [] cpos2) X.env) :: starEach [] X.env := by rfl) (hplain : (backTo cpos (starEach [] X.env)).any (·.1) = false := by rfl)
    (hbase2 : attributeBase (.Name m p1) "pop" X.env (eval (.Name m p1) X.env) = eval (.Name m p1) X.env := by rfl)
    (hfew2 : ((backTo cpos2 (starEach (e :: []) X.env)).all (fun x => !x.1) && (backToKw cpos2 (keywordEach [] X.env)).all (fun x => x.1.isSome)
      && decide ((e :: []).length + ([] : List Keyword).length + (if ([] : List Keyword).isEmpty then 0 else 1) < 30)) = true := by rfl)
    (hline2 : (apos2.endLine == cpos2.line) = true := by rfl) (hss2 : starEach (e :: []) X.env = (false, eval e X.env) :: starEach [] X.env := by rfl) (hplain2 : (backTo cpos2 (starEach [] X.env)).any (·.1) = false := by rfl)
    (hN : X.N[i]? = some n := by rfl) (hvis : Vis X.env.scope n := by first | exact Or.inl rfl | exact Or.inr (Or.inl rfl) | exact Or.inr (Or.inr rfl)) (hd : (n == ("__debug__" : Str)) = false := by decide)
    (hcd : (n == ("__classdict__" : Str)) = false := by decide) (hN2 : X.N[j]? = some m := by rfl) (hvis2 : Vis X.env.scope m := by first | exact Or.inl rfl | exact Or.inr (Or.inl rfl) | exact Or.inr (Or.inr rfl)) (hd2 : (m == ("__debug__" : Str)) = false := by decide)
    (hcd2 : (m == ("__classdict__" : Str)) = false := by decide) : SS X (.Expr (.Call (.Attribute (.Name n p0) "append" apos) [.Call (.Attribute (.Name m p1) "pop" apos2) [e] [] cpos2] [] cpos) pos) (sAppPop i j fk) := by
  refine ⟨PSw (ps_expr (pe_bm PySem.F.plainAttrs_list PySem.F.slot_list_append PySem.F.type_list_append mt_append (pe_var hN hvis hd hcd) (pa_cons (pe_bm PySem.F.plainAttrs_list PySem.F.slot_list_pop PySem.F.type_list_pop mt_popAt (pe_var hN2 hvis2 hd2 hcd2) (pa_cons he.out pa_nil hss2) hbase2 hfew2 hline2 hss2 hplain2) pa_nil hss) hbase hfew hline hss hplain) hs) fun Dn σ H h => ?_⟩
  obtain ⟨g, O, env, x, r, x', S, e0, kk⟩ := h
  unfold sAppPop at e0
  split at e0
  · rename_i k x1 e1
    split at e0
    · rename_i ds e3
      split at e0
      · rename_i v e4
        split at e0
        · rename_i es e6
          split at e0
          · rename_i hc
            obtain ⟨nij, hl, hl2⟩ := hc
            cases e0
            split at e4
            · rename_i h0
              have e6' : env[i]? = some (.ow (.lst es)) := by rw [List.getElem?_set_ne (Ne.symm nij)] at e6; exact e6
              obtain ⟨s, e5, q5⟩ := S.at e3
              obtain ⟨s', e5', q5'⟩ := S.at e6'
              cases q5 with
              | @ow p _ op q6 q7 w =>
                cases q5' with
                | @ow p' _ op' q6' q7' w' =>
                  obtain ⟨vs, hH, hr⟩ := w
                  obtain ⟨vs', hH', hr'⟩ := w'
                  have npp : p' ≠ p := S.dis i j _ _ _ _ nij e6' e3 e5' e5
                  refine ⟨_, e5', .inl ⟨rfl, _, .of hH'⟩, _, e5, .inl ⟨rfl, _, .of hH⟩, g, O, env, x, .int k, _, S, e1, fun z H2 S2 l2 r2 => ?_⟩
                  cases r2
                  have hH2 := l2 p _ q7 hH rfl
                  have hr2 := hr.step S l2
                  have hH2' := l2 p' _ q7' hH' rfl
                  have hr2' := hr'.step S l2
                  obtain ⟨y, hy, ry⟩ := hr2.get e4
                  have lt := (List.getElem?_eq_some_iff.mp hy).1
                  have hz := hr2.length
                  have big : vs.length < 2 ^ 63 := by rw [hz]; exact Nat.lt_of_lt_of_le hl2 (by decide)
                  refine ⟨p, vs, k, k.toNat, y, rfl, rfl, hH2, by omega, by omega, seqIndex_of h0 (by omega), hy, ?_⟩
                  have S3 := S2.put (o := .lst (vs.eraseIdx k.toNat)) (d' := .lst (ds.eraseIdx k.toNat)) e3 e5 True.intro ⟨_, upd_same, (RpA.erase _ hr2).move (keep_own S2 op) .refl⟩
                  have r3 : Rp X.K O (upd H2 p (.lst (vs.eraseIdx k.toNat))) y v := ry.move (keep_own S2 op) .refl
                  have hr3 : RpA X.K O (upd H2 p (.lst (vs.eraseIdx k.toNat))) vs' es := hr2'.move (keep_own S2 op) .refl
                  refine ⟨p', vs', y, rfl, rfl, by rw [upd_ne npp]; exact hH2', by rw [hr3.length]; exact maxLen_lt hl, ?_⟩
                  refine kk O _ _ (S3.put e6 e5' True.intro ⟨_, upd_same, ?_⟩)
                  exact (hr3.app (.cons r3 .nil)).move (keep_own S3 op') .refl
            · cases e4
          · cases e0
        · cases e0
      · cases e0
    · cases e0
  · cases e0
end
end RT
namespace RT
open PySem PySem.Spec PyProof.Rows L2
/-! ### len(set(..)) -/
def rLenSI (w : World) : List V → Hp → VK → Prop := fun vs H Q => ∃ (p : Addr) (M : Int → Bool) (n : Nat), vs = [.ref p] ∧ H p = some (SetIO w p M n) ∧ n < 64 ∧ Q (.int (n : Nat)) H
theorem cr_lenSI {X : Cx} : CallR X (.builtin "len") (rLenSI X.w) := by
  intro pins s σ H vs us Q I r h
  obtain ⟨p, M, n, rfl, hp, h64, q⟩ := h
  rw [Vals.ref1 r]
  have R : SetR X.w s.heap p M n := (I.hok p _ hp).1
  obtain ⟨o, es, ep, t, ho, hx, hd, _, _, _, _, hf, hn, _⟩ := R
  refine call_len_set ho hx hd hf (by omega) ?_
  rw [hn]
  exact ⟨.int (n : Nat), H, I.tok _, ⟨_, rfl⟩, q⟩
def fLenS (f : FN) : FE := fun env x => match f env x with
  | some (ns, x1) => some (.int ((nubI ns).length : Nat), x1)
  | none => none
section
variable {X : Cx} {a : Expr} {pos : Pos}
theorem se_lenS {n : FN} {p : Pos} (hg : Gl X "len") (hm : X.mg "len" = none) (hv : bootBuiltins "len" = some (.builtin "len")) (ha : SN X a n) (hs : starEach [a] X.env = (false, eval a X.env) :: starEach [] X.env := by rfl) : SE X (.Call (.Name "len" p) [a] [] pos) (fLenS n) := by
  refine ⟨PEw (pe_callB cr_lenSI hg hm hv (pa_cons ha.out pa_nil hs) (by decide) (by decide) hs) fun σ H Q h => ?_⟩
  obtain ⟨g, O, env, x, d, x', S, e, k⟩ := h
  unfold fLenS at e
  split at e
  · rename_i ns x1 e1
    cases e
    refine ⟨g, O, env, x, ns, _, S, e1, fun p H1 M S1 l1 hp0 hp hM h64 => ⟨p, M, _, rfl, hp, ?_, ?_⟩⟩
    · have z := nub_len ns []
      rw [List.length_nil, Nat.zero_add] at z
      exact Nat.lt_of_le_of_lt z h64
    · exact k _ _ (S.shrink S1 (fun a ha => .inl ha) l1) l1 (.int _)
  · cases e
end
end RT
namespace RT
open PySem PySem.Spec PyProof.Rows L2
/-! ### ys = list(xs), owned -/
def xOwn (f : FE) : FX := fun env x => match f env x with
  | some (.list ds, x1) => if ds.length ≤ maxLen then some (.ow (.lst ds), x1) else none
  | _ => none
section
variable {X : Cx} {a : Expr} {fa : FE} {pos : Pos}
/-- ys = list(range(n)), owned -/
theorem sx_lrg1 {p q ppos : Pos} (hc : X.calm = true) (hg : Gl X "list") (hm : X.mg "list" = none) (hg2 : Gl X "range") (hm2 : X.mg "range" = none) (ha : SE X a fa) (na : starEach [a] X.env = (false, eval a X.env) :: starEach [] X.env := by rfl)
    (hs : starEach [.Call (.Name "range" q) [a] [] ppos] X.env = (false, eval (.Call (.Name "range" q) [a] [] ppos) X.env) :: starEach [] X.env := by rfl) : SX X (.Call (.Name "list" p) [.Call (.Name "range" q) [a] [] ppos] [] pos) (xOwn (fLrg1 fa)) := by
  refine ⟨PEw (pe_listRg hc hg hm (prg_1 hg2 hm2 ha.out na) hs) fun σ H Q h => ?_⟩
  obtain ⟨g, O, env, x, d, x', S, e, k⟩ := h
  unfold xOwn fLrg1 at e
  split at e
  · rename_i ds x0 e0
    split at e
    · rename_i hl
      cases e
      split at e0
      · rename_i n x1 e1
        split at e0
        · rename_i ok
          cases e0
          obtain ⟨o1, o2⟩ := Bool.and_eq_true_iff.mp ok
          have o1 := of_decide_eq_true o1
          have o2 := of_decide_eq_true o2
          refine ⟨g, O, env, x, _, x', S, e1, fun v H1 S1 l1 r1 => ?_⟩
          cases r1
          refine ⟨n, rfl, ⟨by omega, by omega, o1.1, o1.2, by omega⟩, fun l hl' => ?_⟩
          have n1 := S1.newp hl'
          have e : rgV 0 n = (List.range n.toNat).map fun i => V.int (0 + (i : Nat)) := by unfold rgV; rw [show (n - 0).toNat = n.toNat by omega]
          refine k _ _ _ (S1.own (o := .lst (rgV 0 n)) hl' True.intro) (l1.trans (.of (same_upd hl'))) (fun a z => z.elim .inl fun e => .inr (e ▸ Le.gone l1 (.of hl') S1)) (fun a z => .inl z) (.ow (.inr rfl) n1.1 n1.2 ⟨_, upd_same, ?_⟩) ⟨l, rfl, Le.gone l1 (.of hl') S1⟩
          rw [e]
          exact rpa_map (fun i => 0 + (i : Nat)) _
        · cases e0
      · cases e0
    · cases e
  · cases e
end
end RT
namespace RT
open PySem PySem.Spec PyProof.Rows L2
/-! ### d = dict([(k, v) ..]), owned: keys are ints or texts -/
end RT
namespace RT
open PySem PySem.Spec PyProof.Rows L2
/-! ### len(set(xs)), xs a list of texts -/
end RT
namespace RT
open PySem PySem.Spec PyProof.Rows L2
/-! ### not x as a value, x of any kind that has a truth -/
end RT
namespace RT
open PySem PySem.Spec PyProof.Rows L2
/-! ### tuple * int (two or more) -/
end RT
namespace RT
open PySem PySem.Spec PyProof.Rows L2
/-! ### an object that keeps the steps of each position -/
/-! equality of data, keys without truth values -/
/-! readings of dicts with keys of any kind that are any expression's value -/
/-! the class -/
abbrev stF (vc vz : V) (d : Addr) : List (Str × V) := [("cast", vc), ("size", vz), ("known", .ref d)]
def spInitS (w : World) (C : Addr) : Sp := fun vs H Q _ => ∃ (p dx : Addr) (vc vz : V), vs = [.ref p, vc, vz] ∧ H p = some (.ins C dx []) ∧
  ∀ (d : Addr) (H' : Hp), H d = none → H' p = some (.ins C dx (stF vc vz d)) → H' d = some (.ext (RawD w d [])) → (∀ b o, H b = some o → b ≠ p → H' b = some o) → Q .non H'
/-- the memo's pairs are right -/
def MemoOk (mst : List D → Option D) (cd zd : D) (ds : List (D × D)) : Prop := ∀ p ∈ ds, mst [cd, zd, p.1] = some p.2 ∧ keyC p.1 = true
def spKept (w : World) (K : PySem.W.Frag) (C : Addr) (m0 : List D → Option D) : Sp := fun vs H Q _ => ∃ (T : List (Addr × Str)) (O : Addr → Prop) (s dx d : Addr) (vc vz v : V) (mst : List D → Option D) (cd zd pd r : D) (q : NestedKey) (ds : List (D × D)),
  TOK K T ∧ LamX.Tabs T H ∧ (∀ a, O a → MutC (H a)) ∧ O d ∧ ¬ O s ∧ vs = [.ref s, v] ∧ H s = some (.ins C dx (stF vc vz d)) ∧ Rp K O H vc cd ∧ Rp K O H vz zd ∧ Rp K O H v pd ∧ DaAt K O H d w ds ∧ MemoOk mst cd zd ds ∧ ds.length < maxLen ∧
  nk pd = some q ∧ q.depth ≤ 8 ∧ keyC pd = true ∧ m0 [cd, zd, pd] = some r ∧ mst [cd, zd, pd] = some r ∧
  ∀ v' H' ds', (∀ a o, a ≠ d → H a = some o → isNT o = true → H' a = some o) → LamX.Tabs T H' → DaAt K O H' d w ds' → MemoOk mst cd zd ds' → ds'.length ≤ ds.length + 1 → Rp K O H' v' r → Q v' H'
end RT
namespace RT
open PySem PySem.Spec PyProof.Rows L2
/-- what the text tells of the class -/
structure StgC (P : Program) (ω : World) (K : PySem.W.Frag) (mg : Str → Option Value) (base : Heap) (k : Nat) (m0 : List D → Option D) : Prop where
  ex : ∃ (C f1 f2 : Addr) (fd1 fd2 : FuncData), Cls K C ∧ NoAttr K C "cast" ∧ NoAttr K C "size" ∧ PySem.W.nsIn K mainGlobals "Stage" = some (some (.ref C)) ∧ mg "Stage" = some (.ref C) ∧
    Mk K C f1 ∧ FnOk P ω K mg base CX0 1 f1 fd1 ["self", "cast", "size"] (spInitS ω C) ∧ Binds K fd1 ["self", "cast", "size"] [] ∧
    Meth K C "kept_steps" f2 ∧ FnOk P ω K mg base CX0 k f2 fd2 ["self", "position"] (spKept ω K C m0) ∧ Binds K fd2 ["self", "position"] []
theorem StgC.mono {P : Program} {ω : World} {K : PySem.W.Frag} {mg : Str → Option Value} {base : Heap} {k j : Nat} {m0 : List D → Option D} (c : StgC P ω K mg base k m0) (h : k ≤ j) : StgC P ω K mg base j m0 := by
  obtain ⟨C, f1, f2, fd1, fd2, a, b, c, d, e, f, g, h', i, j', k⟩ := c.ex
  exact ⟨C, f1, f2, fd1, fd2, a, b, c, d, e, f, g, h', i, j'.mono h, k⟩
/-! ### stage = Stage(cast, size), and what stands behind it -/
end RT
namespace RT
open PySem PySem.Spec PyProof.Rows L2
/-! ### defs whose first parameter is a stage -/
theorem MemoAt.sub {K : PySem.W.Frag} {O O' : Addr → Prop} {H : Hp} {a : Addr} {w : World} {F : D → Option D} {x : FRow} (h : MemoAt K O' H a w F x) (s : ∀ a, O a → O' a) : MemoAt K O H a w F x := by
  obtain ⟨ds, d, c, l⟩ := h
  exact ⟨ds, d.mv (fun o e _ => e) fun v e r => r.move (fun _ _ _ e _ => e) fun a z => .inl (s a z), c, l⟩
end RT
namespace RT
open PySem PySem.Spec PyProof.Rows L2
/-! ### max(a, b), min(a, b), max(xs, default=d) of whole numbers -/
end RT
namespace RT
open PySem PySem.Spec PyProof.Rows L2
/-! ### sorting that the kernel can run -/
end RT
namespace RT
open PySem PySem.Spec PyProof.Rows L2
end RT
namespace RT
open PySem PySem.Spec PyProof.Rows L2
/-! ### comprehensions over the keys of a dict whose keys are tuples, any expression's value; it is locked meanwhile -/
end RT
namespace RT
open PySem PySem.Spec PyProof.Rows L2
/-! ### xs = [[] for _ in ..], xs[i].append(v) -/
end RT
namespace RT
open PySem PySem.Spec PyProof.Rows L2
end RT
namespace RT
open PySem PySem.Spec PyProof.Rows L2
/-! ### sorted(t), t a tuple of whole numbers -/
end RT
/-! what raises -/
namespace RT
open PySem PySem.Spec PyProof.Rows L2
/-- an error: its class's name, its fields -/
structure Er where
  c : Str
  fs : List (Str × D)
def scV : D → Option V
  | .none => some .non
  | .int i => some (.int i)
  | _ => none
def FldAt (H : Hp) (d : Option Addr) : List (Str × D) → Prop
  | [] => d = none
  | p :: ps => ∃ dx vs, d = some dx ∧ H dx = some (.xd vs) ∧ ∀ q ∈ p :: ps, ∃ v, scV q.2 = some v ∧ vs.lookup q.1 = some v
def ErrAt (K : PySem.W.Frag) (H : Hp) (cls : Value) (d : Option Addr) (e : Er) : Prop :=
  (∃ C, cls = .ref C ∧ PySem.W.nsIn K mainGlobals e.c = some (some (.ref C))) ∧ FldAt H d e.fs
abbrev FZe := FEn → FRow → Option (Er × FRow)
abbrev FZs := FEn → FRow → Option Er
def tXE (ω : World) (K : PySem.W.Frag) (E : XK) (f : FZe) : TE := fun σ H _ => ∃ g O env x er x', FSt ω K g O σ H env x ∧ f env x = some (er, x') ∧
  ∀ cls d H', FSt ω K g O σ H' env x' → Le g H H' → ErrAt K H' cls d er → E cls d H'
def tXS (ω : World) (K : PySem.W.Frag) (E : XK) (f : FZs) : TS := fun _ σ H => ∃ g O env x er, FSt ω K g O σ H env x ∧ f env x = some er ∧
  ∀ cls d H' O' σ' env' x', FSt ω K g O' σ' H' env' x' → ErrAt K H' cls d er → E cls d H'
structure RE (X : Cx) (E : XK) (e : Expr) (f : FZe) : Prop where
  out : PE X e (tXE X.w X.K E f)
structure RS (X : Cx) (E : XK) (e : Stmt) (f : FZs) : Prop where
  out : PS X e (tXS X.w X.K E f)
structure RSs (X : Cx) (E : XK) (e : List Stmt) (f : FZs) : Prop where
  out : PSs X e (tXS X.w X.K E f)
theorem PS_nox {X : Cx} {st : Stmt} {t : TS} (h : PS X.nox st t) : PS X st t := ⟨fun pins s σ H D I hw =>
  wpAny_mono (h.run pins s σ H D (I.wish _) hw) (fun _ _ q => q.unwish) fun _ _ z => False.elim z⟩
theorem PA_nox {X : Cx} {es : List Expr} {t : TA} (h : PA X.nox es t) : PA X es t := ⟨fun p pins s σ H Q I hw =>
  wpAny_mono (h.run p pins s σ H Q (I.wish _) hw) (fun _ _ ⟨v, H', I', r, q⟩ => ⟨v, H', I'.unwish, r, q⟩) fun _ _ z => False.elim z⟩
theorem SS_nox {X : Cx} {st : Stmt} {f : FS} (h : SS X.nox st f) : SS X st f := ⟨PS_nox h.out⟩
theorem SSs_nox {X : Cx} {st : List Stmt} {f : FS} (h : SSs X.nox st f) : SSs X st f := ⟨PSs.nox h.out⟩
theorem SE_nox {X : Cx} {e : Expr} {f : FE} (h : SE X.nox e f) : SE X e f := ⟨PE.nox h.out⟩
theorem ST_nox {X : Cx} {e : Expr} {f : FT} (h : ST X.nox e f) : ST X e f := ⟨PT.nox h.out⟩
theorem SA_nox {X : Cx} {e : List Expr} {f : FA} (h : SA X.nox e f) : SA X e f := ⟨PA_nox h.out⟩
theorem PSor {X : Cx} {st : Stmt} {t u : TS} (h : PS X st t) (h' : PS X st u) : PS X st (fun D σ H => t D σ H ∨ u D σ H) := ⟨fun pins s σ H D I z => z.elim (h.run pins s σ H D I) (h'.run pins s σ H D I)⟩
theorem PSsor {X : Cx} {st : List Stmt} {t u : TS} (h : PSs X st t) (h' : PSs X st u) : PSs X st (fun D σ H => t D σ H ∨ u D σ H) := ⟨fun pins s σ H D I z => z.elim (h.run pins s σ H D I) (h'.run pins s σ H D I)⟩
theorem PEor {X : Cx} {e : Expr} {t u : TE} (h : PE X e t) (h' : PE X e u) : PE X e (fun σ H Q => t σ H Q ∨ u σ H Q) := ⟨fun pins s σ H D I z => z.elim (h.run pins s σ H D I) (h'.run pins s σ H D I)⟩
/-! ### expressions -/
section
variable {X : Cx} {E : XK} {a b c e : Expr} {es : List Expr} {fa fb fc f : FE} {pos : Pos}
def spX (K : PySem.W.Frag) (m : List D → Option Er) : Sp := fun vs H _ E => ∃ T O ds er, TOK K T ∧ LamX.Tabs T H ∧ (∀ a, O a → MutC (H a)) ∧ RpA K O H vs ds ∧ m ds = some er ∧ ∀ cls d H', SameT T H H' → ErrAt K H' cls d er → E cls d H'
/-- a def that may be called, and may raise -/
structure CalleeX (P : Program) (ω : World) (K : PySem.W.Frag) (mg : Str → Option Value) (base : Heap) (k : Nat) (n : Str) (sp : Sp) : Prop where
  ex : ∃ (f : Addr) (fd : FuncData) (ps : List Str), FnOk P ω K mg base (L2.CX P ω) k f fd ps sp ∧ mg n = some (.ref f) ∧ PySem.W.keepIn K (.ref f) = true ∧ Binds K fd ps []
theorem CalleeX.mono {P : Program} {ω : World} {K : PySem.W.Frag} {mg : Str → Option Value} {base : Heap} {k j : Nat} {n : Str} {sp : Sp} (c : CalleeX P ω K mg base k n sp) (h : k ≤ j) : CalleeX P ω K mg base j n sp := by
  obtain ⟨f, fd, ps, a, b, c, d⟩ := c.ex
  exact ⟨f, fd, ps, a.mono h, b, c, d⟩
abbrev TakesE (X : Cx) (E : XK) : Prop := Takes X fun cls d _ H => E cls d H
def xCall (m : List D → Option Er) (fa : FA) : FZe := fun env x => match fa env x with
  | some (ds, x1) => match m ds with
    | some d => some (d, x1)
    | none => none
  | none => none
theorem re_call {k : Nat} {n : Str} {p : Pos} {m : List D → Option Er} {fa : FA} (c : CalleeX X.prog X.w X.K X.mg X.base k n (spX X.K m)) (tk : TakesE X E) (hr : Room k X.A) (hg : Gl X n) (ha : SA X.nox (e :: es) fa) (hdb : (n == ("__debug__" : Str)) = false := by decide)
    (he : starEach (e :: es) X.env = (false, eval e X.env) :: starEach es X.env := by rfl) (hpl : (backTo pos (starEach es X.env)).any (·.1) = false := by rfl) : RE X E (.Call (.Name n p) (e :: es) [] pos) (xCall m fa) := by
  obtain ⟨f, fd, ps, F, hm, hk, hb⟩ := c.ex
  refine ⟨PEw (pe_call (E := E) F hr hg hm hk hb .nil (fun pins σ H s u s' I q => passes_call tk (fun _ _ _ _ h => h) pins σ H s u s' I q) (SA_nox ha).out hdb he hpl) fun σ H Q h => ?_⟩
  obtain ⟨g, O, env, x, d, x', S, e, k⟩ := h
  unfold xCall at e
  split at e
  · rename_i ds x1 e1
    split at e
    · rename_i d1 e2
      cases e
      refine ⟨g, O, env, x, ds, _, S, e1, fun vs H1 S1 l1 r1 => ?_⟩
      show spX X.K m (vs ++ []) H1 Q E
      rw [List.append_nil]
      exact ⟨g.T, O, ds, d, S1.tk, S1.tb, S1.dom, r1, e2, fun cls d H2 sm r2 => k cls d H2 (S1.sameT sm) (l1.trans (.ofT sm)) r2⟩
    · cases e
  · cases e
/-! ### statements -/
def xNo : FZs := fun _ _ => none
theorem PSnone {st : Stmt} {t : TS} (h : ∀ D σ H, ¬ t D σ H) : PS X st t := ⟨fun pins s σ H Q I z => (h _ _ _ z).elim⟩
theorem rs_no {st : Stmt} : RS X E st xNo := ⟨PSnone fun D σ H ⟨_, _, _, _, _, _, z, _⟩ => by cases z⟩
theorem PSsnone {st : List Stmt} {t : TS} (h : ∀ D σ H, ¬ t D σ H) : PSs X st t := ⟨fun pins s σ H Q I z => (h _ _ _ z).elim⟩
theorem rss_no {st : List Stmt} : RSs X E st xNo := ⟨PSsnone fun D σ H ⟨_, _, _, _, _, _, z, _⟩ => by cases z⟩
def xOf (f : FZe) : FZs := fun env x => (f env x).map (·.1)
theorem of_xOf {f : FZe} {σ : L2.St} {H : Hp} {Q : VK} {D : Ends} (h : tXS X.w X.K E (xOf f) D σ H) : tXE X.w X.K E f σ H Q := by
  obtain ⟨g, O, env, x, er, S, e, k⟩ := h
  unfold xOf at e
  cases q : f env x with
  | none => rw [q] at e; cases e
  | some z =>
    rw [q] at e
    cases e
    exact ⟨g, O, env, x, z.1, z.2, S, q, fun cls d H' S' l er => k cls d H' O σ env z.2 S' er⟩
theorem rs_expr {f : FZe} (h : RE X E e f) (hs : swapsWith e none pos.line X.env = pure false := by rfl) : RS X E (.Expr e pos) (xOf f) := ⟨PSw (ps_expr h.out hs) fun D σ H h => of_xOf h⟩
theorem rs_asg {tg : Expr} {vs : List Nat} {h : FGt} {f : FZe} (he : RE X E e f) (hg : SG X tg vs h) (hs : swapsWithSole [tg] e pos.line X.env = pure false := by rfl) (hw : swappedStores [tg] e X.env = pure none := by rfl)
    (h1 : (assignEach [tg] X.env).map (·.2) = [assign tg X.env] := by rfl) : RS X E (.Assign [tg] e pos) (xOf f) := ⟨PSw (ps_asg he.out hg.out hs hw h1) fun D σ H h => of_xOf h⟩
def xIf (t : FT) (f h : FZs) : FZs := fun env x => match t env x with
  | some (true, x1) => f env x1
  | some (false, x1) => h env x1
  | none => none
theorem rs_if {t : FT} {p q : List Stmt} {f h : FZs} (ht : ST X.nox c t) (h1 : RSs X E p f) (h2 : RSs X E q h) : RS X E (.If c p q pos) (xIf t f h) := by
  refine ⟨PSw (ps_if (ST_nox ht).out h1.out h2.out) fun Dn σ H h => ?_⟩
  obtain ⟨g, O, env, x, er, S, e, k⟩ := h
  unfold xIf at e
  split at e
  · rename_i x1 e1
    refine ⟨g, O, env, x, _, x1, S, e1, fun H' S' l => ?_⟩
    refine iteT ?_
    exact ⟨g, O, env, x1, er, S', e, k⟩
  · rename_i x1 e1
    refine ⟨g, O, env, x, _, x1, S, e1, fun H' S' l => ?_⟩
    refine iteF ?_
    exact ⟨g, O, env, x1, er, S', e, k⟩
  · cases e
def xSeq (f : FS) (fx gx : FZs) : FZs := fun env x => match f env x with
  | some (.nx e1, x1) => gx e1 x1
  | _ => fx env x
theorem rss_cons {st : Stmt} {rest : List Stmt} {f : FS} {fx gx : FZs} (h : SS X.nox st f) (h1 : RS X E st fx) (h2 : RSs X E rest gx) : RSs X E (st :: rest) (xSeq f fx gx) := by
  refine ⟨PSsw (pss_cons (PSor (SS_nox h).out h1.out) h2.out) fun Dn σ H h => ?_⟩
  obtain ⟨g, O, env, x, er, S, e, k⟩ := h
  unfold xSeq at e
  split at e
  · rename_i e1 x1 q
    exact .inl ⟨g, O, env, x, _, x1, S, q, fun O' σ' H' S' => ⟨g, O', e1, x1, er, S', e, k⟩⟩
  · exact .inr ⟨g, O, env, x, er, S, e, k⟩
/-- for: in some turn the body raises -/
def xForL (gt : FGt) (b : FS) (bx : FZs) : List D → FZs
  | [], _, _ => none
  | d :: ds, env, x => match gt d env with
    | none => none
    | some e1 => match b e1 x with
      | some (.nx e2, x2) => xForL gt b bx ds e2 x2
      | some (.ct e2, x2) => xForL gt b bx ds e2 x2
      | _ => bx e1 x
def xFor (f : FA) (gt : FGt) (b : FS) (bx : FZs) : FZs := fun env x => match f env x with
  | some (ds, x1) => xForL gt b bx ds env x1
  | none => none
theorem rs_for {tg : Expr} {body : List Stmt} {vs : List Nat} {f : FA} {gt : FGt} {fb : FS} {bx : FZs} (hp : PassesOwn (model X.prog X.w) X.A X.env X.xe) (hc : X.calm = true) (hi : SI X tg e f) (hg : SG X tg vs gt) (hb : SSs X.nox body fb) (hx : RSs X E body bx)
    (hs : ∀ x, foldedSetIterable e X.env x = pure x := by intro _; rfl) : RS X E (.For tg e body [] pos) (xFor f gt fb bx) := by
  refine ⟨PSw (ps_for hp hc hi.out hg.out (PSsor (SSs_nox hb).out hx.out) hs) fun Dn σ H h => ?_⟩
  obtain ⟨g, O, env, x, r, S, e, k⟩ := h
  unfold xFor at e
  split at e
  · rename_i ds x1 e1
    refine ⟨g, O, env, x, ds, x1, S, e1, fun J more H1 S1 l1 wk => ?_⟩
    refine ⟨fun i m σ H => m = ds.length - i ∧ i ≤ ds.length ∧ ∃ O env x, FSt X.w X.K (g.add more) O σ H env x ∧ xForL gt fb bx (ds.drop i) env x = some r, ⟨_, rfl, Nat.zero_le _, O, env, x1, S1, e⟩, fun i m σ H hW => ?_⟩
    obtain ⟨rfl, hil, O, env, x, S, e⟩ := hW
    obtain ⟨wgo, wst⟩ := wk O σ H env x i S
    by_cases hlt : i < ds.length
    · have hd : ds[i]? = some ds[i] := List.getElem?_eq_getElem hlt
      obtain ⟨go, yl⟩ := wgo _ hd
      rw [drop_get hd] at e
      refine .inr ⟨go, fun σ' H' => i + 1 ≤ ds.length ∧ ∃ O env x, FSt X.w X.K (g.add more) O σ' H' env x ∧ xForL gt fb bx (ds.drop (i + 1)) env x = some r, fun σ' H' hN => ⟨ds.length - (i + 1), by omega, rfl, hN.1, hN.2⟩, fun v H' hy => ?_⟩
      obtain ⟨sm, rv⟩ := yl v H' hy
      unfold xForL at e
      split at e
      · cases e
      · rename_i env1 e2
        refine ⟨g.add more, O, env, x, ds[i], env1, S.same sm, rv, e2, fun σ1 _ S2 => ?_⟩
        split at e
        · rename_i env2 x2 e3
          exact .inl ⟨g.add more, O, env1, x, _, x2, S2, e3, fun O' σ' H' S' => ⟨hlt, O', env2, x2, S', e⟩⟩
        · rename_i env2 x2 e3
          exact .inl ⟨g.add more, O, env1, x, _, x2, S2, e3, fun O' σ' H' S' => ⟨hlt, O', env2, x2, S', e⟩⟩
        · exact .inr ⟨g.add more, O, env1, x, _, S2, e, fun cls d H' O' σ' env' x' S' => k cls d H' O' σ' env' x' S'.unadd⟩
    · have hi : i = ds.length := by omega
      rw [hi, List.drop_length] at e
      unfold xForL at e
      cases e
  · cases e
/-- a class of the program without an __init__ of its own -/
structure ErrK (K : PySem.W.Frag) (mg : Str → Option Value) (n : Str) : Prop where
  ex : ∃ C : Addr, PySem.W.nsIn K mainGlobals n = some (some (.ref C)) ∧ mg n = some (.ref C) ∧ PySem.W.excIn K C [.type "ValueError", .type "Exception", .type "BaseException", .type "object"] "ValueError.__new__" = true ∧ PySem.W.keepIn K (.ref C) = true ∧
    PySem.W.subIn K (.ref C) (.type "BaseException") = some true ∧ PySem.W.typeIn K (.ref C) = some (.type "type")
def xRaise (c : Str) : FZs := fun _ _ => some ⟨c, []⟩
theorem rs_raise {n m : Str} {j : Nat} {p p2 p3 : Pos} (k : ErrK X.K X.mg n) (hc : X.calm = true) (tk : TakesE X E) (hg : Gl X n) (hdb : (n == ("__debug__" : Str)) = false := by decide) :
    RS X E (.Raise (some (.Call (.Name n p) [.Constant (.str m) j p2] [] pos)) none p3) (xRaise n) := by
  obtain ⟨C, h1, h2, h3, h4, h5, h6⟩ := k.ex
  refine ⟨PSw (ps_raise hc tk (pmk_own PySem.F.excBase_ValueError h3 h2 h4 (raises_own h5 h6) hg hdb)) fun Dn σ H h => ?_⟩
  obtain ⟨g, O, env, x, r, S, e, k⟩ := h
  cases e
  exact k _ _ _ _ _ _ _ S ⟨⟨C, rfl, h1⟩, rfl⟩
end
end RT
namespace RT
open PySem PySem.Spec PyProof.Rows L2
/-! ### a def that may raise -/
def mkX (n k : Nat) (body : FZs) : List D → Option Er := fun ds => if ds.length = k then body (startE n ds) row0 else none
section
variable {P : Program} {ω : World} {K : PySem.W.Frag} {mg : Str → Option Value} {base : Heap}
theorem ok_fnX {x qual : Str} {st : Stmt} {f : Addr} {fd : FuncData} {N ps : List Str} {k : Nat} {body : FZs} (F : Fun K x qual st f fd) (S : FnScope N ps (defScope st))
    (h : ∀ (cdv : Value) (A : Around) (outer : List Env) (s : Shared) (H : Hp) (E : XK), Room k (A.deeper (envOfC qual (defScope st) s.heap.objs.size f cdv)) →
      RSs (cxOf (L2.CX P ω) P ω K mg base N qual (defScope st) f cdv A outer s H E) E (defBody st) body) :
    FnOk P ω K mg base (L2.CX P ω) (k + 1) f fd ps (spX K (mkX N.length ps.length body)) := by
  refine F.okX S (fun vs H Q E h => ?_) (fun cdv A outer s H vs Q E hr hsp => ⟨tXS ω K E body, (h cdv A outer s H E hr).out, ?_⟩)
  · obtain ⟨T, O, ds, d, _, _, _, r, e, _⟩ := h
    unfold mkX at e
    split at e
    · rename_i hl
      rw [r.length, hl]
    · cases e
  · obtain ⟨T, O, ds, d, tk, tb, dom, r, e, q⟩ := hsp
    unfold mkX at e
    split at e
    · rename_i hl
      have S0 : FSt ω K ⟨O, noT H, none, [], T, ω, none⟩ O (L2.start N vs) H (startE N.length ds) row0 := by
        refine ⟨fun _ h => h, fun _ h => .inl h, dom, (fun a o _ e _ => (noT_some e).1), fun r e => (by cases e), ?_, fun i s e h1 h2 => ?_, fun i j d d' a b ne h1 h2 => absurd h1 no_ow, fun i j d d' a b h1 => absurd h1 no_nd, fun i j d d' h1 => absurd h1 no_nd, fun p hp => (by cases hp), tb, tk, fun a o e => (noT_some e).2, rfl⟩
        · unfold L2.start startE
          rw [List.length_append, List.length_append, List.length_map, List.length_map, List.length_replicate, List.length_replicate, r.length]
        · unfold L2.start at h1
          unfold startE at h2
          rw [r.length] at h1
          exact vas_at r i s e h1 h2
      exact ⟨_, O, _, row0, _, S0, e, fun cls dd H' O' σ' env' x' S' er => q cls dd H' ⟨fun a o e t => S'.le a o (fun z => by cases z) (noT_of e t) t, S'.tb⟩ er⟩
    · cases e
end
/-! ### isinstance of what is caught -/
structure ExK (K : PySem.W.Frag) (D : Addr) : Prop where
  cl : (PySem.W.clsIn K D).isSome = true
  ga : PySem.W.findIn K (.ref D) "__getattribute__" = some (some (.builtin "BaseException.__getattribute__"))
  gg : PySem.W.findIn K (.ref D) "__getattr__" = some none
  sb : PySem.W.subIn K (.ref D) (.type "BaseException") = some true
  ca : PySem.W.findIn K (.ref D) "__class__" = some (some (.builtin "object.__class__"))
  sp : PySem.W.specialIn K (.builtin "object.__class__") "__get__" = some (some (.builtin "getset_descriptor.__get__"))
  tk : PySem.W.takesIn K (.builtin "object.__class__") = some true
  mr : PySem.W.mroIn K D (.type "object") = some true
def DctAt (H : Hp) (d : Option Addr) : Prop := d = none ∨ ∃ dd vs, d = some dd ∧ H dd = some (.xd vs)
theorem FldAt.dct {H : Hp} {d : Option Addr} {fs : List (Str × D)} (h : FldAt H d fs) : DctAt H d := by
  cases fs with
  | nil => exact .inl h
  | cons p ps => obtain ⟨dx, vs, e, q, _⟩ := h; exact .inr ⟨dx, vs, e, q⟩
def rIsX (K : PySem.W.Frag) (D a : Addr) (d : Option Addr) : List V → Hp → VK → Prop := fun xs H Q => ∃ (c : V) (cv : Value) (b : Bool), xs = [.ref a, c] ∧ (∀ u, RelV c u → u = cv) ∧ PySem.W.kitOne K (.ref D) cv = some b ∧ DctAt H d ∧ Q (.bl b) H
theorem call_isX {X : Cx} {a D : Addr} {d : Option Addr} {oe : Obj} {pn : List (Addr × Obj)} (C : ExK X.K D) (hz : Zc (.ref D) d oe) (hf : ∃ vs, oe.data = .fields vs) : CallR (X.suite a ((a, oe) :: pn)) (.builtin "isinstance") (rIsX X.K D a d) := by
  intro pins s σ H xs us Q I r h
  obtain ⟨c, cv, b, rfl, hcv, e, dc, q⟩ := h
  cases r with
  | cons rx rr =>
    cases rr with
    | cons rt rr =>
      cases rr
      cases rx
      have ec := hcv _ rt
      subst ec
      obtain ⟨hget, _⟩ := I.pin (a, oe) (List.mem_append.mpr (.inl List.mem_cons_self))
      obtain ⟨vs, hv⟩ := hf
      have J : ∃ od, PySem.W.InstAt s.heap a oe D od := by
        obtain ⟨oc, odd, oda, osl⟩ := oe
        obtain ⟨h1, h2⟩ := hz
        dsimp only at h1 h2 hv
        subst h1 h2 hv
        rcases dc with rfl | ⟨dd, vs, rfl, hx⟩
        · exact ⟨none, hget, rfl, rfl, trivial⟩
        · have hx : ObjOk X.prog X.w H s.heap dd (.xd vs) := I.hok dd _ hx
          obtain ⟨mA, hns, hr⟩ := hx
          obtain ⟨od, ho, hl⟩ := lookIn_ns hns
          exact ⟨some od, hget, rfl, rfl, ho⟩
      obtain ⟨od, J⟩ := J
      exact PySem.W.kia_one (PySem.W.kitx_exc C.cl C.ga C.gg C.sb C.ca C.sp C.tk C.mr) I.kIn J e (fun z => nomatch z) fun tk => ⟨.bl b, H, I.kept (t' := tk) fun _ _ z => z, rfl, q⟩
/-! ### told: try: return work() / except TalkError as e: return None if isinstance(e, NotMade) else "other" -/
def TTA (K : PySem.W.Frag) (CS CN : Addr) (ret : Str) : (XK → Hp → VK → Prop) → Hp → VK → Prop := fun tl H Q =>
  tl (fun cls d H' => ∃ D b, cls = .ref D ∧ ExK K D ∧ PySem.W.exmOne K (.ref D) (.ref CS) = some true ∧ PySem.W.kitOne K (.ref D) (.ref CN) = some b ∧ DctAt H' d ∧ Q (if b = true then .non else .str ret) H') H Q
section
variable {X : Cx}
theorem gives_A {Ng : List Str} {x a e te nm q ret : Str} {sg : Scope} {g CS CN : Addr} {cdg : Value} {j j1 : Nat} {p1 p2 p3 p4 p5 p6 p7 p8 p9 p10 p11 p12 p13 p14 : Pos}
    (hN : Ng.Nodup) (hi : Ng[1]? = some e) (hln : sg.names.lookup e = some .local)
    (hge : sg.names.lookup te = some .globalImplicit) (hme : X.mg te = some (.ref CS)) (hde : (te == ("__debug__" : Str)) = false)
    (hgn : sg.names.lookup nm = some .globalImplicit) (hmn : X.mg nm = some (.ref CN)) (hdn : (nm == ("__debug__" : Str)) = false)
    (hgi : sg.names.lookup ("isinstance" : Str) = some .globalImplicit) (hmi : X.mg "isinstance" = none)
    (hd1 : (e == ("__debug__" : Str)) = false) (hd2 : (e == ("__classdict__" : Str)) = false)
    (h0 : ∀ f : Addr, (L2.start Ng [V.ref f])[0]? = some (some (V.ref f))) :
    LamX.GivesTo X Ng x sg g cdg [.Try [.Return (some (.Call (.Name a p1) [] [] p2)) p3] [.ExceptHandler (some (.Name te p4)) (some e) [.Return (some (.IfExp (.Call (.Name "isinstance" p5) [.Name e p6, .Name nm p7] [] p8) (.Constant .none j1 p9) (.Constant (.str ret) j p10) p11)) p12] p13] [] [] p14] a q (TTA X.K CS CN ret) := by
  intro f c' s H Q tl act hc h
  have hgl : Gl (cxOf C8.CX0 X.prog X.w X.K X.mg X.base Ng x sg g cdg X.A X.stack s H C8.E0).nox te := hge
  refine ⟨_, pss_one (ps_try_as (X := (cxOf C8.CX0 X.prog X.w X.K X.mg X.base Ng x sg g cdg X.A X.stack s H C8.E0).nox) (c := .ref CS) (i := 1)
      (tb := fun W D σ H => ∃ Ech : XK, (∀ cls d σ' H', Ech cls d H' → W cls d σ' H') ∧ σ[0]? = some (some (.ref f)) ∧ H c' = some (LamX.CodeO c' q) ∧ tl Ech H D.rt)
      (ts := fun a cls d Dn σ H => ∃ (D : Addr) (b : Bool) (σ0 : L2.St), cls = .ref D ∧ ExK X.K D ∧ PySem.W.kitOne X.K (.ref D) (.ref CN) = some b ∧ DctAt H d ∧ σ = σ0.set 1 (some (.ref a)) ∧ Dn.rt (if b = true then .non else .str ret) H)
      (Wout := fun _ _ _ _ => False) rfl rfl hN hi hln ⟨hgl, hde, .inl hme⟩ takes0 (fun W pn xe tk _ => ?_) (fun a oe cls d pn hz hf => ?_)), ?_⟩
  · refine ⟨fun pins s' σ H' D I h' => ?_⟩
    obtain ⟨Ech, hW, h1, h2, h3⟩ := h'
    have hp := act W pn xe Ech p1 p2 tk hW
    have hq := pss_one (ps_ret (pos := p3) hp)
    exact hq.run pins s' σ H' D I ⟨h1, h2, h3⟩
  · refine ⟨fun pins s' σ H' D I h' => ?_⟩
    obtain ⟨D, b, σ0, rfl, ek, e1, dc, rfl, q⟩ := h'
    have hl : 1 < σ0.length := by
      have := I.len
      rw [List.length_set] at this
      rw [this]
      exact (List.getElem?_eq_some_iff.mp hi).1
    refine (pss_one (ps_ret (pe_ifExp (pt_val (pe_callB (call_isX (X := (cxOf C8.CX0 X.prog X.w X.K X.mg X.base Ng x sg g cdg X.A X.stack s H C8.E0).nox) (a := a) (oe := oe) (pn := pn) ek hz hf) hgi hmi rfl (pa_cons (pe_var (i := 1) hi (.inl hln) hd1 hd2) (pa_cons (pe_glob (v := .ref CN) hgn hmn rfl hdn) pa_nil)))) pe_non pe_str))).run pins s' _ H' _ I ?_
    refine ⟨.ref a, by rw [List.getElem?_set_self hl], .ref CN, Value.ref CN, b, rfl, fun u r => r, e1, dc, b, rfl, ?_⟩
    cases b with
    | true => exact q
    | false => exact q
  · refine ⟨_, fun cls d σ' H' h => ?_, h0 f, hc, h⟩
    obtain ⟨D, b, rfl, ek, ex, e1, dc, q⟩ := h
    exact ⟨true, ex, fun _ a _ => ⟨D, b, σ', rfl, ek, e1, dc, rfl, q⟩, fun z => nomatch z⟩
end
end RT
namespace RT
open PySem PySem.Spec PyProof.Rows L2
/-- the def that tells how a call ended: TT is what it makes of the lambda's reading -/
structure Teller (K : PySem.W.Frag) (mg : Str → Option Value) (x : Str) (TT : (XK → Hp → VK → Prop) → Hp → VK → Prop) : Prop where
  ex : ∃ (g : Addr) (st : Stmt) (fd : FuncData) (Ng : List Str) (a : Str), Fun K x x st g fd ∧ mg x = some (.ref g) ∧ Binds K fd [a] [] ∧ FnScope Ng [a] (defScope st) ∧ Ng[0]? = some a ∧ Vis (defScope st) a ∧ ((a == ("__debug__" : Str)) = false ∧ (a == ("__classdict__" : Str)) = false) ∧
    ∀ (X : Cx) (cdv : Value) (q : Str), X.K = K → X.mg = mg → LamX.GivesTo X Ng x (defScope st) g cdv (defBody st) a q TT
/-- what is told of an error: by its class's name -/
def heA (L : List (Str × Bool)) (ret : Str) (er : Er) : Option D := match L.lookup er.c with
  | some true => some .none
  | some false => some (.str ret)
  | none => none
def fTold (fn : FE) (fx : FZe) (hn : D → D) (he : Er → Option D) : FE := fun env x => match fn env x with
  | some (d, x1) => some (hn d, x1)
  | none => match fx env x with
    | some (er, x1) => match he er with
      | some d => some (d, x1)
      | none => none
    | none => none
structure ErrA (K : PySem.W.Frag) (CS CN : Addr) (n : Str) (b : Bool) : Prop where
  ex : ∃ C, PySem.W.nsIn K mainGlobals n = some (some (.ref C)) ∧ ExK K C ∧ PySem.W.exmOne K (.ref C) (.ref CS) = some true ∧ PySem.W.kitOne K (.ref C) (.ref CN) = some b
theorem lookup_mem {α : Type} {L : List (Str × α)} {n : Str} {b : α} (h : L.lookup n = some b) : (n, b) ∈ L := by
  induction L with
  | nil => cases h
  | cons p ps ih =>
    obtain ⟨m, c⟩ := p
    rw [List.lookup_cons] at h
    split at h
    · rename_i e
      cases h
      have := eq_of_beq e
      subst this
      exact List.mem_cons_self
    · exact List.mem_cons_of_mem _ (ih h)
section
variable {X : Cx}
theorem se_toldA {k : Nat} {x y : Str} {p lpos pos : Pos} {params : Arguments} {body : Expr} {scope : Scope} {fn : FE} {fx : FZe} {c P CS CN : Addr} {ret : Str} {L : List (Str × Bool)} (T : Teller X.K X.mg x (TTA X.K CS CN ret)) (hL : ∀ p ∈ L, ErrA X.K CS CN p.1 p.2)
    (hr : Room (k + 2) X.A) (hg : Gl X x) (TB : LamX.TabB X.base X.mg c P) (hcode : X.env.code = .ref c) (ht : PySem.W.tabIn X.K y = some (c, P)) (hy : y ∈ makers) (hq : X.env.qual ++ "<lambda>" = lamq y)
    (Ls : LamX.LamS X.env.scope scope) (hdef : defaultsOf params X.env = ([], []))
    (hbind : ∀ (q : Str) (cl : List (Str × Addr)) (pm cv ctv : Value), bindArgs (PySem.W.kla_fn "<lambda>" q params body scope cl pm cv ctv) ⟨[], []⟩ = pure [])
    (hbn : ∀ (A : Around) (outer : List Env) (s : Shared) (H : Hp) (E : XK) (f c' : Addr), Room k (A.deeper (LamX.lamEnv X scope s.heap.objs.size f c')) → SE (LamX.lamCx X A outer s H E scope f c').nox body fn)
    (hbx : ∀ (A : Around) (outer : List Env) (s : Shared) (H : Hp) (E : XK) (f c' : Addr), Room k (A.deeper (LamX.lamEnv X scope s.heap.objs.size f c')) → RE (LamX.lamCx X A outer s H E scope f c') E body fx)
    (hdb : (x == ("__debug__" : Str)) = false := by decide) :
    SE X (.Call (.Name x p) [.Lambda params body scope lpos] [] pos) (fTold fn fx id (heA L ret)) := by
  obtain ⟨gA, st, fd, Ng, a, F, hm, hbi, Sg, hN0, hva, ⟨hd1, hd2⟩, hG⟩ := T.ex
  have hk := F.kp
  obtain ⟨oc, od, kV, doc, pm0, an, cdv, ct, osl, rfl, lk, hcd⟩ := F.ex
  refine ⟨⟨fun pins s σ H Q I h => ?_⟩⟩
  obtain ⟨g, O, env, x0, r, x', S, e0, kk⟩ := h
  obtain ⟨tm, tu⟩ := S.tk y hy c P ht
  refine (LamX.pe_lamcall (T := g.T) (TT := TTA X.K CS CN ret) (t := fun E σ H Q => tE X.w X.K fn σ H Q ∨ tXE X.w X.K E fx σ H Q) hg hm hk lk hcd hbi Sg hN0 hva (hG X cdv _ rfl rfl) TB hcode (by rw [hq]; exact tm) (fun p hp e => by rw [hq]; exact tu p hp e) hr Ls hdef hbind
    (fun A outer s H E f c' hr' => PEor (SE_nox (hbn A outer s H E f c' hr')).out (hbx A outer s H E f c' hr').out) hdb hd1 hd2).run pins s σ H Q I ⟨S.tb, fun H1 eN T1 => ?_⟩
  have S1 := S.step (.ofN eN) T1 fun r hr' => (S.row r hr').2.2.ext eN
  unfold fTold at e0
  split at e0
  · rename_i d x1 e1
    cases e0
    exact .inl ⟨g, O, env, x0, _, _, S1, e1, fun v H' S' l r => kk v H' S' ((Le.ofN eN).trans l) r⟩
  · split at e0
    · rename_i er x1 e2
      split at e0
      · rename_i d e3
        cases e0
        refine .inr ⟨g, O, env, x0, _, _, S1, e2, fun cls d' H' S' l er' => ?_⟩
        have l' := (Le.ofN eN).trans l
        obtain ⟨⟨C, rfl, hC⟩, fl⟩ := er'
        unfold heA at e3
        split at e3
        · rename_i hl
          cases e3
          obtain ⟨C', n1, n2, n3, n4⟩ := (hL _ (lookup_mem hl)).ex
          rw [hC] at n1
          cases n1
          exact ⟨C, true, rfl, n2, n3, n4, fl.dct, kk _ _ S' l' .non⟩
        · rename_i hl
          cases e3
          obtain ⟨C', n1, n2, n3, n4⟩ := (hL _ (lookup_mem hl)).ex
          rw [hC] at n1
          cases n1
          exact ⟨C, false, rfl, n2, n3, n4, fl.dct, kk _ _ S' l' (.str _)⟩
        · cases e3
      · cases e0
    · cases e0
end
end RT
namespace RT
open PySem PySem.Spec PyProof.Rows L2
section
variable {X : Cx} {E : XK}
theorem rss_head {st : Stmt} {rest : List Stmt} {f : FZs} (h1 : RS X E st f) : RSs X E (st :: rest) f := ⟨pss_cons (u := fun _ _ _ => False) h1.out (PSsnone fun _ _ _ z => z)⟩
end
/-! ### the law, with lambdas -/
theorem ok_lawM {P : Program} {w : World} {K : PySem.W.Frag} {mg : Str → Option Value} {base : Heap} {x qual n0 n1 : Str} {st : Stmt} {rest : List Stmt} {f : Addr} {fd : FuncData} {more : List Str} {k : Nat} {b : FS} {seed : Int} {i1 i2 i3 : Nat} {c TT : Addr} {p1 p2 p3 p4 p5 p6 pos : Pos}
    (F : Fun K x qual st f fd) (S : FnScope (n0 :: n1 :: more) [n0] (defScope st)) (hb : defBody st = .Assign [.Name n1 p1] (.List [.Name n0 p2, .Constant (.int 0) i1 p3, .Constant (.int seed) i2 p4, .Constant (.int 0) i3 p5] p6) pos :: rest)
    (ns0 : PySem.W.nsIn K mainGlobals x = some (some (.ref f))) (ti : PySem.W.tabIn K x = some (c, TT))
    (hs : ∀ (A : Around) (outer : List Env) (s : Shared) (H : Hp) (E : XK),
      PS (cxOf CX0 P w K mg base (n0 :: n1 :: more) qual (defScope st) f (.ref c) A outer s H E).nox (.Assign [.Name n1 p1] (.List [.Name n0 p2, .Constant (.int 0) i1 p3, .Constant (.int seed) i2 p4, .Constant (.int 0) i3 p5] p6) pos)
        (tAsg (tLst (tCons (tVar 0) (tCons (tC (.int 0)) (tCons (tC (.int seed)) (tCons (tC (.int 0)) tNil))))) (gName 1)))
    (h : ∀ (A : Around) (outer : List Env) (s : Shared) (H : Hp) (E : XK), Room k (A.deeper (envOfC qual (defScope st) s.heap.objs.size f (.ref c))) → SSs (cxOf CX0 P w K mg base (n0 :: n1 :: more) qual (defScope st) f (.ref c) A outer s H E).nox rest b) :
    FnOk P w K mg base CX0 (k + 1) f fd [n0] (spLaw K b more.length seed) := by
  obtain ⟨oc, od, kV, doc, pm, an, cdv, ct, osl, rfl, lk, hcd⟩ := F.ex
  obtain rfl : cdv = .ref c := tab_code ns0 lk ti
  refine fn_of lk hcd S (fun vs H Q E h => ?_) (fun A outer s H vs Q E hr hsp => ?_)
  · obtain ⟨T, a, ns, x', _, _, rfl, _⟩ := h
    rfl
  · obtain ⟨T, a, ns, x', tk, tb, rfl, ha, e, q⟩ := hsp
    rw [hb]
    refine ⟨_, PSs.nox (pss_cons (hs A outer s H E) (h A outer s H E hr).out), ?_⟩
    refine ⟨_, rfl, maxLen_ok (show 4 ≤ maxLen by decide), fun p hp => ?_⟩
    refine ⟨⟨fun z => z = p, noT (upd H p (.lst [.ref a, .int 0, .int seed, .int 0])), some p, [], T, w, none⟩, fun z => z = p, .no :: .rw :: List.replicate more.length .no, ⟨ns, 0, seed, 0⟩, .rt (.bool true), x', ?_, e, fun O' σ' H' v env' S' r => ?_⟩
    · have hnd : ∀ {i : Nat} {d : OwD}, (FSl.no :: FSl.rw :: List.replicate more.length FSl.no)[i]? ≠ some (.nd d) := fun {i d} z => by
        have z := List.mem_of_getElem? z
        simp at z
      refine ⟨fun _ h => h, fun _ h => .inl h, fun z hz => by rw [hz, upd_same]; exact True.intro, (fun a o _ e _ => (noT_some e).1), fun r hr => ?_, ?_, fun i s e h1 h2 => ?_, fun i j d d' a b ne h1 h2 h3 h4 => ?_, fun i j d d' a b h1 => absurd h1 hnd, fun i j d d' h1 => absurd h1 hnd, (fun r hr => nomatch hr), tb.ext (same_upd hp), tk, fun a o e => (noT_some e).2, rfl⟩
      · have e : p = r := Option.some.inj hr
        subst e
        refine ⟨rfl, (by show noT (upd H p (.lst [V.ref a, V.int 0, V.int seed, V.int 0])) p ≠ none; rw [noT_of upd_same rfl]; exact fun z => nomatch z), a, upd_same, ?_⟩
        rcases ha with (ha | ⟨o, ha⟩) | ha
        · exact .inl ⟨ne_of_none ha hp, .inl (by rw [upd_ne (ne_of_none ha hp)]; exact ha)⟩
        · exact .inl ⟨ne_of_none ha hp, .inr ⟨o, by rw [upd_ne (ne_of_none ha hp)]; exact ha⟩⟩
        · exact .inr (.inr ha)
      · simp [gName, L2.start]
      · cases i with
        | zero =>
          have e2 := Option.some.inj h2
          subst e2
          exact .no _
        | succ i =>
          cases i with
          | zero =>
            have e2 := Option.some.inj h2
            subst e2
            have e1 := Option.some.inj h1
            subst e1
            exact .rw ⟨rfl, rfl⟩
          | succ i =>
            have h2 : (List.replicate more.length FSl.no)[i]? = some e := by simpa using h2
            have := (List.mem_replicate.mp (List.mem_of_getElem? h2)).2
            subst this
            exact .no _
      · have at1 : ∀ {i : Nat} {d : OwD}, (FSl.no :: FSl.rw :: List.replicate more.length FSl.no)[i]? ≠ some (.ow d) := fun {i d} z => by
          have z := List.mem_of_getElem? z
          simp at z
        exact absurd h1 at1
    · cases r
      exact q H'
/-- the facts of an error's class, one for each of the ways in which it is used -/
theorem errK_mk {K : PySem.W.Frag} {mg : Str → Option Value} {n : Str} {C : Addr} (h1 : PySem.W.nsIn K mainGlobals n = some (some (.ref C))) (h2 : mg n = some (.ref C)) (h3 : PySem.W.excIn K C [.type "ValueError", .type "Exception", .type "BaseException", .type "object"] "ValueError.__new__" = true) (h4 : PySem.W.keepIn K (.ref C) = true)
    (h5 : PySem.W.subIn K (.ref C) (.type "BaseException") = some true) (h6 : PySem.W.typeIn K (.ref C) = some (.type "type")) : ErrK K mg n := ⟨C, h1, h2, h3, h4, h5, h6⟩
theorem errA_mk {K : PySem.W.Frag} {n : Str} {b : Bool} {C CS CN : Addr} (h1 : PySem.W.nsIn K mainGlobals n = some (some (.ref C))) (cl : (PySem.W.clsIn K C).isSome = true) (ga : PySem.W.findIn K (.ref C) "__getattribute__" = some (some (.builtin "BaseException.__getattribute__"))) (gg : PySem.W.findIn K (.ref C) "__getattr__" = some none)
    (sb : PySem.W.subIn K (.ref C) (.type "BaseException") = some true) (ca : PySem.W.findIn K (.ref C) "__class__" = some (some (.builtin "object.__class__"))) (sp : PySem.W.specialIn K (.builtin "object.__class__") "__get__" = some (some (.builtin "getset_descriptor.__get__"))) (tk : PySem.W.takesIn K (.builtin "object.__class__") = some true)
    (mr : PySem.W.mroIn K C (.type "object") = some true) (s1 : PySem.W.subIn K (.ref CS) (.type "BaseException") = some true) (s2 : PySem.W.hasDictIn K CS = true) (s3 : PySem.W.typeIn K (.ref CS) = some (.type "type")) (s4 : PySem.W.subIn K (.ref C) (.ref CS) = some true)
    (kt : PySem.W.kitOne K (.ref C) (.ref CN) = some b) : ErrA K CS CN n b := ⟨C, h1, ⟨cl, ga, gg, sb, ca, sp, tk, mr⟩, PySem.W.exm_ref s1 s2 s3 s4, kt⟩
/-- told, as the text has it -/
theorem teller_A {K : PySem.W.Frag} {mg : Str → Option Value} {x a e te nm ret : Str} {st : Stmt} {g CS CN : Addr} {fd : FuncData} {Ng : List Str} {j j1 : Nat} {p1 p2 p3 p4 p5 p6 p7 p8 p9 p10 p11 p12 p13 p14 : Pos} (F : Fun K x x st g fd) (hm : mg x = some (.ref g)) (hb : Binds K fd [a] []) (S : FnScope Ng [a] (defScope st)) (hN0 : Ng[0]? = some a) (hva : Vis (defScope st) a)
    (hbd : defBody st = [.Try [.Return (some (.Call (.Name a p1) [] [] p2)) p3] [.ExceptHandler (some (.Name te p4)) (some e) [.Return (some (.IfExp (.Call (.Name "isinstance" p5) [.Name e p6, .Name nm p7] [] p8) (.Constant .none j1 p9) (.Constant (.str ret) j p10) p11)) p12] p13] [] [] p14])
    (hi : Ng[1]? = some e) (hln : (defScope st).names.lookup e = some .local)
    (hge : (defScope st).names.lookup te = some .globalImplicit) (hme : mg te = some (.ref CS)) (hgn : (defScope st).names.lookup nm = some .globalImplicit) (hmn : mg nm = some (.ref CN))
    (hgi : (defScope st).names.lookup ("isinstance" : Str) = some .globalImplicit) (hmi : mg "isinstance" = none)
    (hda : (a == ("__debug__" : Str)) = false ∧ (a == ("__classdict__" : Str)) = false) (hd : (e == ("__debug__" : Str)) = false ∧ (e == ("__classdict__" : Str)) = false) (hdt : (te == ("__debug__" : Str)) = false) (hdn : (nm == ("__debug__" : Str)) = false) (h0 : ∀ f : Addr, (L2.start Ng [V.ref f])[0]? = some (some (V.ref f))) :
    Teller K mg x (TTA K CS CN ret) :=
  ⟨g, st, fd, Ng, a, F, hm, hb, S, hN0, hva, hda, fun X cdv q hK hmg => by
    subst hK; subst hmg
    rw [hbd]
    exact gives_A S.nd hi hln hge hme hdt hgn hmn hdn hgi hmi hd.1 hd.2 h0⟩
end RT
namespace RT
open PySem PySem.Spec PyProof.Rows L2
section
variable {X : Cx} {E : XK}
/-! ### a class of errors with an __init__ of its own -/
def FldV (v : V) : Prop := (∃ i : Int, v = .int i ∧ i.natAbs.log2 < 1920) ∨ v = .non
def tFmtD (te : TE) : TE := fun σ H Q => te σ H fun x H1 => FldV x ∧ ∀ y : Str, y.length ≤ 1921 → Q (.str y) H1
theorem pe_fmtD {e : Expr} {te : TE} {pos : Pos} (he : PE X e te) : PE X (.FormattedValue e (-1) none pos) (tFmtD te) := by
  refine ⟨fun pins s σ H Q I h => ?_⟩
  refine wpAny_FormattedValue_plain (thn (he.run pins s σ H _ I h) fun v s1 hv => ?_)
  obtain ⟨x, H1, I1, r1, hx, q⟩ := hv
  rcases hx with ⟨i, rfl, hz⟩ | rfl
  · obtain ⟨t, rfl⟩ := r1
    exact wpAny_formatField_int hz ⟨.str (toString i), H1, I1.tok _, ⟨_, rfl⟩, q _ (int_text_len_1921 hz)⟩
  · obtain rfl : v = .none := r1
    exact wpAny_formatField_none ⟨.str "None", H1, (I1.tok _).tok _, ⟨_, rfl⟩, q _ (by decide)⟩
/-- T.__init__(self, ..), T a class of the program that has ValueError's -/
theorem pe_cinit {pl : Sem Bool} {CT : Addr} {e : Expr} {es : List Expr} {ta : TA} {p1 p2 pos : Pos} (hg : Gl X "TalkError") (hm : X.mg "TalkError" = some (.ref CT)) (rd : PySem.W.readsIn X.K CT (.type "type") = true) (sp : PySem.W.specialIn X.K (.ref CT) "__getattribute__" = some (some (.builtin "type.__getattribute__")))
    (vV : PySem.W.findCls X.K (.ref CT) (.type "type") "__init__" = some (.val (.builtin "ValueError.__init__"))) (ha : PA X (e :: es) ta)
    (hc : eval (.Call (.Attribute (.Name "TalkError" p1) "__init__" p2) (e :: es) [] pos) X.env = (do
      let ov ← eval (.Name "TalkError" p1) X.env
      standAt p2.atName
      let (f, first) ← holding [ov] (getMethod ov "__init__" pl)
      callWith pos f first (backTo pos (starEach (e :: es) X.env)) (backToKw pos (keywordEach [] X.env))) := by rfl)
    (he : starEach (e :: es) X.env = (false, eval e X.env) :: starEach es X.env := by rfl) (hpl : (backTo pos (starEach es X.env)).any (·.1) = false := by rfl) :
    PE X (.Call (.Attribute (.Name "TalkError" p1) "__init__" p2) (e :: es) [] pos) (tVeI X.K ta) := by
  refine ⟨fun pins s σ H Q I h => ?_⟩
  refine PySem.W.methodCall_KW (ld_glob I hg hm ?_ (by decide)) hc
  refine PySem.W.method_cls I.kIn sp (PySem.W.cls_value I.kIn rd vV (by decide +kernel) ?_)
  show wpAny _ _ (callWith pos (Value.builtin "ValueError.__init__") [] (backTo pos (starEach (e :: es) X.env)) []) _ _ _
  refine PyProof.Rows.callWith_method1 (thn (ha.run pos pins _ σ H _ (I.tok _) h) fun us s1 ⟨vs, H1, I1, r1, a, C, ws, ev, hl, T, ea, q⟩ => ?_) he hpl
  subst ev
  cases r1 with
  | @cons _ u0 _ ur ra rw' =>
    obtain rfl : u0 = Value.ref a := ra
    have hlen : ur.length ≤ sizeLine := by
      rw [← Paired.length rw', sizeLine_eq]
      omega
    exact oinit_ok T I1 ea hlen fun s' J => ⟨.non, H1, J, rfl, q⟩
end
def spInitE (K : PySem.W.Frag) (f : Str) : Sp := fun vs H Q _ => ∃ (a C : Addr) (v : V), vs = [.ref a, v] ∧ OexC K C ∧ PySem.W.findIn K (.ref C) f = some none ∧ H a = some (exo a C none) ∧ FldV v ∧
  ∀ d, H d = none → d ≠ a → Q .non (upd (upd H d (exd d [(f, v)])) a (exo a C (some d)))
theorem ok_initE {P : Program} {ω : World} {K : PySem.W.Frag} {mg : Str → Option Value} {base : Heap} {qual f m : Str} {st : Stmt} {fI CT : Addr} {fd : FuncData} {j : Nat} {p1 p2 p3 p4 p5 p6 p7 p8 p9 p10 p11 p12 p13 : Pos} (F : Fun K "__init__" qual st fI fd) (S : FnScope ["self", f] ["self", f] (defScope st))
    (hb : defBody st = [.Expr (.Call (.Attribute (.Name "TalkError" p1) "__init__" p2) [.Name "self" p3, .JoinedStr [.Constant (.str m) j p4, .FormattedValue (.Name f p5) (-1) none p6] p7] [] p8) p9, .Assign [.Attribute (.Name "self" p10) f p11] (.Name f p12) p13])
    (hcc : ∀ env : Env, eval (.Call (.Attribute (.Name "TalkError" p1) "__init__" p2) [.Name "self" p3, .JoinedStr [.Constant (.str m) j p4, .FormattedValue (.Name f p5) (-1) none p6] p7] [] p8) env = (do
      let ov ← eval (.Name "TalkError" p1) env
      standAt p2.atName
      let (g, first) ← holding [ov] (getMethod ov "__init__" (do return (← importBound (.Name "TalkError" p1) env).getD true))
      callWith p8 g first (backTo p8 (starEach [.Name "self" p3, .JoinedStr [.Constant (.str m) j p4, .FormattedValue (.Name f p5) (-1) none p6] p7] env)) (backToKw p8 (keywordEach [] env))))
    (v0 : Vis (defScope st) "self") (v1 : Vis (defScope st) f) (hml : m.length ≤ 1000) (hg : (defScope st).names.lookup ("TalkError" : Str) = some .globalImplicit) (hm : mg "TalkError" = some (.ref CT)) (rd : PySem.W.readsIn K CT (.type "type") = true) (sp : PySem.W.specialIn K (.ref CT) "__getattribute__" = some (some (.builtin "type.__getattribute__")))
    (vV : PySem.W.findCls K (.ref CT) (.type "type") "__init__" = some (.val (.builtin "ValueError.__init__"))) (hf : (f == ("__debug__" : Str)) = false ∧ (f == ("__classdict__" : Str)) = false) :
    FnOk P ω K mg base CX0 1 fI fd ["self", f] (spInitE K f) := by
  refine F.ok S (fun vs H Q E h => ?_) (fun cdv A outer s H vs Q E hr hsp => ?_)
  · obtain ⟨a, C, v, rfl, _⟩ := h; rfl
  · obtain ⟨a, C, v, rfl, T, hno, ha, hv, k⟩ := hsp
    rw [hb]
    have hg' : Gl (cxOf CX0 P ω K mg base ["self", f] qual (defScope st) fI cdv A outer s H E).nox "TalkError" := hg
    have pS : ∀ {p : Pos}, PE (cxOf CX0 P ω K mg base ["self", f] qual (defScope st) fI cdv A outer s H E).nox (.Name "self" p) (tVar 0) := fun {p} => pe_var rfl v0
    have pF : ∀ {p : Pos}, PE (cxOf CX0 P ω K mg base ["self", f] qual (defScope st) fI cdv A outer s H E).nox (.Name f p) (tVar 1) := fun {p} => pe_var rfl v1 hf.1 hf.2
    refine ⟨_, pss_cons (ps_expr (pe_cinit (X := (cxOf CX0 P ω K mg base ["self", f] qual (defScope st) fI cdv A outer s H E).nox) hg' hm rd sp vV (pa_cons pS (pa_cons (pe_joined (.cons pe_str (.cons (pe_fmtD pF) .nil))) pa_nil)) (hcc _))) (pss_one (ps_ost pS pF)), ?_⟩
    refine ⟨.ref a, rfl, m, rfl, ?_, ?_⟩
    · show (Str.empty ++ m).length ≤ sizeLine
      have e0 : Str.empty.length = 0 := rfl
      have hz : 3000 ≤ sizeLine := by rw [sizeLine_eq]; decide
      rw [Str.length_append, e0]; omega
    refine ⟨v, rfl, hv, fun y hy => ⟨y, rfl, ?_, ?_⟩⟩
    · show ((Str.empty ++ m) ++ y).length ≤ sizeLine
      have e0 : Str.empty.length = 0 := rfl
      have hz : 3000 ≤ sizeLine := by rw [sizeLine_eq]; decide
      rw [Str.length_append, Str.length_append, e0]; omega
    refine ⟨a, C, [.str _], rfl, by simp, T, ha, ?_⟩
    refine ⟨v, rfl, .ref a, rfl, a, C, rfl, T, hno, .inl ⟨ha, fun d hd ne => ?_⟩⟩
    exact k d hd ne
end RT
namespace RT
open PySem PySem.Spec PyProof.Rows L2
/-- a class of the program with an __init__ that keeps one field -/
structure ErrI (P : Program) (ω : World) (K : PySem.W.Frag) (mg : Str → Option Value) (base : Heap) (n f : Str) : Prop where
  ex : ∃ (C fI : Addr) (fd : FuncData), PySem.W.nsIn K mainGlobals n = some (some (.ref C)) ∧ mg n = some (.ref C) ∧ OexC K C ∧ PySem.W.findIn K (.ref C) "__init__" = some (some (.ref fI)) ∧ PySem.W.typeIn K (.ref fI) = some (.type "function") ∧
    FnOk P ω K mg base CX0 1 fI fd ["self", f] (spInitE K f) ∧ Binds K fd ["self", f] [] ∧ PySem.W.findIn K (.ref C) f = some none
def fldD : D → Bool
  | .none => true
  | .int i => decide (i.natAbs.log2 < 1920)
  | _ => false
def xRaiseI (c f : Str) (fe : FE) : FZs := fun env x => match fe env x with
  | some (d, _) => if fldD d then some ⟨c, [(f, d)]⟩ else none
  | none => none
section
variable {X : Cx} {E : XK}
theorem rs_raiseI {n f : Str} {e : Expr} {fe : FE} {p pos p3 : Pos} (k : ErrI X.prog X.w X.K X.mg X.base n f) (hr : Room 2 X.A) (hc : X.calm = true) (tk : TakesE X E) (hg : Gl X n) (he : SE X.nox e fe) (hdb : (n == ("__debug__" : Str)) = false := by decide)
    (hs : starEach [e] X.env = (false, eval e X.env) :: starEach [] X.env := by rfl) :
    RS X E (.Raise (some (.Call (.Name n p) [e] [] pos)) none p3) (xRaiseI n f fe) := by
  obtain ⟨C, fI, fd, h1, h2, h3, h4, h5, h6, h7, h8⟩ := k.ex
  refine ⟨PSw (ps_raise hc tk (pmk_oex h3 h4 h5 h6 hr h7 .nil pass0 hg h2 (SA_nox (sa_cons he sa_nil hs)).out hdb hs rfl)) fun Dn σ H h => ?_⟩
  obtain ⟨g, O, env, x, r, S, e, kk⟩ := h
  unfold xRaiseI at e
  split at e
  · rename_i d x1 e1
    split at e
    · rename_i hd
      cases e
      refine ⟨g, O, env, x, [d], x1, S, by unfold aCons; rw [e1]; rfl, fun vs H1 S1 l1 r1 => ?_⟩
      cases r1 with
      | cons rv rn =>
        rename_i v vs'
        cases rn
        refine ⟨by simp, fun a ha => ?_⟩
        have hfld : FldV v ∧ scV d = some v := by
          cases rv with
          | non => exact ⟨.inr rfl, rfl⟩
          | int i => exact ⟨.inl ⟨i, rfl, of_decide_eq_true hd⟩, rfl⟩
          | _ => cases hd
        refine ⟨a, C, v, rfl, h3, h8, upd_same, hfld.1, fun dx hdx ne => ⟨rfl, dx, [(f, v)], upd_same, ?_, ?_, ?_⟩⟩
        · rw [upd_ne ne, upd_same]
        · rw [← hdx, upd_ne ne]
        · have hd1 : H1 dx = none := by rw [← hdx, upd_ne ne]
          have eH : upd (del (upd (upd (upd H1 a (exo a C none)) dx (exd dx [(f, v)])) a (exo a C (some dx))) a) dx (HO.xd [(f, v)]) = upd H1 dx (.xd [(f, v)]) := by
            funext b
            by_cases c : b = dx
            · rw [c, upd_same, upd_same]
            · rw [upd_ne c, upd_ne c]
              unfold del
              by_cases c2 : b = a
              · rw [if_pos c2, c2, ha]
              · rw [if_neg c2, upd_ne c2, upd_ne c, upd_ne c2]
          rw [eH]
          have sm := same_upd (o := HO.xd [(f, v)]) hd1
          refine kk _ _ _ _ _ _ _ (S1.same sm) ⟨⟨C, rfl, h1⟩, dx, [(f, v)], rfl, upd_same, fun q hq => ?_⟩
          rw [List.mem_singleton] at hq
          subst hq
          exact ⟨v, hfld.2, by simp⟩
    · cases e
  · cases e
end
end RT
namespace RT
open PySem PySem.Spec PyProof.Rows L2
/-! raise C(f"..") -/
section
variable {X : Cx} {E : XK}
/-- X(e), whatever e -/
theorem pmk_any {C : Addr} {bmB : List Value} {B newId initId : String} {x : Str} {e : Expr} {te : TE} {p pos : Pos} (F : ExcBaseFacts B newId initId bmB) (q : PySem.W.excIn X.K C bmB newId = true) (gC : X.mg x = some (.ref C)) (kC : PySem.W.keepIn X.K (.ref C) = true) (r : Raises X (.ref C)) (hg : Gl X x) (he : PE X e te)
    (hs : starEach [e] X.env = (false, eval e X.env) :: starEach [] X.env := by rfl) (hdb : (x == ("__debug__" : Str)) = false := by decide) : PMk X (.Call (.Name x p) [e] [] pos) (fun σ H Q => te σ H fun _ H1 => Q (.ref C) none H1) := by
  intro pins s σ H Q I h
  refine wpAny_Call_Name_kw (ld_glob I hg gC ?_ hdb)
  refine PySem.W.callWith_K (h₀ := X.base) I.ok.mod.kin kC ?_ hs (by rfl)
  rw [hs]
  show wpAny _ _ (spliced ((false, eval e X.env) :: backTo pos (starEach [] X.env))) _ _ s
  refine Calls.spliced_cons (thn (he.run pins s σ H _ I h) fun u s1 ⟨v, H1, I1, r1, q1⟩ => ?_)
  refine Calls.spliced_nil ⟨I1.kIn, ?_⟩
  show wpAny _ _ (call (.ref C) [u]) _ _ _
  obtain ⟨bm, N, nm, qn, bs, hdct, sn, sub, ab, col, dd, k0, k1, k2, k3, k5, mN, hC, hN, hni, T⟩ := exc_obj I1.kIn q
  refine wpAny_call_exc_subT F T hC hN hni (fun h' e hm => ?_) (by show 1 ≤ sizeLine; rw [sizeLine_eq]; omega)
  exact mk_of I1 hm r q1 (I1.hok.gone hm.new)
/-- the parts of an f-string -/
inductive FJ (X : Cx) : List Expr → List FE → Prop where
  | nil : FJ X [] []
  | con {m : Str} {j : Nat} {p : Pos} {es : List Expr} {fs : List FE} (h : m.length ≤ 1000) (r : FJ X es fs) : FJ X (.Constant (.str m) j p :: es) fs
  | fld {e : Expr} {f : FE} {p : Pos} {es : List Expr} {fs : List FE} (h : SE X.nox e f) (r : FJ X es fs) : FJ X (.FormattedValue e (-1) none p :: es) (f :: fs)
def fldsF : List FE → FEn → FRow → Bool
  | [], _, _ => true
  | f :: fs, env, x => match f env x with
    | some (d, x1) => fldD d && fldsF fs env x1
    | none => false
theorem fj_ok {es : List Expr} {fs : List FE} (h : FJ X es fs) : ∃ ts, PJ X es ts ∧ ∀ (acc : Str) (σ : L2.St) (H : Hp) (Q : Str → Hp → Prop) (g : FG) (O : Addr → Prop) (env : FEn) (x : FRow), FSt X.w X.K g O σ H env x → fldsF fs env x = true → acc.length + 3000 * es.length ≤ sizeLine →
    (∀ out H' x', FSt X.w X.K g O σ H' env x' → Q out H') → tJs ts acc σ H Q := by
  induction h with
  | nil => exact ⟨[], .nil, fun acc σ H Q g O env x S _ _ k => k _ _ _ S⟩
  | @con m j p es fs hm r ih =>
    obtain ⟨ts, hp, ht⟩ := ih
    refine ⟨_, .cons pe_str hp, fun acc σ H Q g O env x S hf hl k => ?_⟩
    rw [List.length_cons] at hl
    refine ⟨m, rfl, ?_, ht _ _ _ _ g O env x S hf ?_ k⟩
    · rw [Str.length_append]; omega
    · rw [Str.length_append]; omega
  | @fld e f p es fs hs r ih =>
    obtain ⟨ts, hp, ht⟩ := ih
    refine ⟨_, .cons (pe_fmtD (SE_nox hs).out) hp, fun acc σ H Q g O env x S hf hl k => ?_⟩
    rw [List.length_cons] at hl
    unfold fldsF at hf
    split at hf
    · rename_i d x1 e1
      obtain ⟨h1, h2⟩ := Bool.and_eq_true_iff.mp hf
      refine ⟨g, O, env, x, d, x1, S, e1, fun v H1 S1 l1 r1 => ⟨?_, fun y hy => ⟨y, rfl, ?_, ht _ _ _ _ g O env x1 S1 h2 ?_ k⟩⟩⟩
      · cases r1 with
        | non => exact .inr rfl
        | int i => exact .inl ⟨i, rfl, of_decide_eq_true h1⟩
        | _ => cases h1
      · rw [Str.length_append]; omega
      · rw [Str.length_append]; omega
    · cases hf
def xRaiseF (c : Str) (fs : List FE) : FZs := fun env x => if fldsF fs env x = true then some ⟨c, []⟩ else none
theorem rs_raiseF {n : Str} {v1 v2 : Expr} {rest : List Expr} {fs : List FE} {p pj pos p3 : Pos} (k : ErrK X.K X.mg n) (hc : X.calm = true) (tk : TakesE X E) (hg : Gl X n) (hj : FJ X (v1 :: v2 :: rest) fs) (hl : (v1 :: v2 :: rest).length ≤ 20 := by decide) (hdb : (n == ("__debug__" : Str)) = false := by decide)
    (hs : starEach [Expr.JoinedStr (v1 :: v2 :: rest) pj] X.env = (false, eval (Expr.JoinedStr (v1 :: v2 :: rest) pj) X.env) :: starEach [] X.env := by rfl) :
    RS X E (.Raise (some (.Call (.Name n p) [.JoinedStr (v1 :: v2 :: rest) pj] [] pos)) none p3) (xRaiseF n fs) := by
  obtain ⟨C, h1, h2, h3, h4, h5, h6⟩ := k.ex
  obtain ⟨ts, hp, ht⟩ := fj_ok hj
  refine ⟨PSw (ps_raise hc tk (pmk_any PySem.F.excBase_ValueError h3 h2 h4 (raises_own h5 h6) hg (pe_joined hp) hs hdb)) fun Dn σ H h => ?_⟩
  obtain ⟨g, O, env, x, r, S, e, k⟩ := h
  unfold xRaiseF at e
  split at e
  · rename_i hf
    cases e
    refine ht _ _ _ _ g O env x S hf ?_ fun out H' x' S' => k _ _ _ _ _ _ _ S' ⟨⟨C, rfl, h1⟩, rfl⟩
    have e0 : Str.empty.length = 0 := rfl
    have : 60000 ≤ sizeLine := by rw [sizeLine_eq]; decide
    rw [e0]; omega
  · cases e
end
end RT
namespace Lw
open PySem PySem.Spec PyProof.Rows L2 RT
def LE : List (Str × Bool) := [(Str.ofString "BadActor", false), (Str.ofString "BadBranch", false), (Str.ofString "BadScene", false), (Str.ofString "BadScript", false), (Str.ofString "NotMade", true), (Str.ofString "TooMany", false)]
def b_law_taken : FS :=
    sSeq (sIf (fTst (fBin (gI yes2 fun i j => .bool (decide (j < i))) (fRow 0 3) (fC (.int 0)))) (sSeq (sSet 2 (xVal (fBin gModI (fCall gInt (aCons (fRow 0 3) aNil)) (fBor 1))))
    (sSeq (sRow 0 3 (fBin gDivI (fRow 0 3) (fBor 1)))
    (sRet (fVar 2)))) sNil)
    (sSeq (sRow 0 1 (fBin gAdd (fRow 0 1) (fC (.int 1))))
    (sSeq (sIf (fTst (fBin (gI yes2 fun i j => .bool (decide (j < i))) (fRow 0 1) (fRowLen 0))) (sSeq (sRow 0 2 (fBin gModI (fCall gInt (aCons (fBin gAdd (fBin gMul (fRow 0 2) (fC (.int 48271))) (fC (.int 11))) aNil)) (fC (.int 2147483647))))
    (sRet (fBin gModI (fCall gInt (aCons (fBin gDivI (fRow 0 2) (fC (.int 7))) aNil)) (fBor 1)))) sNil)
    (sSeq (sSet 3 (xVal (fRowAt 0 (fBin gSubI (fRow 0 1) (fC (.int 1))))))
    (sSeq (sRow 0 2 (fBin gModI (fCall gInt (aCons (fBin gAdd (fBin gAdd (fBin gMul (fRow 0 2) (fC (.int 48271))) (fBor 3)) (fC (.int 11))) aNil)) (fC (.int 2147483647))))
    (sSeq (sIf (fTst (fBin (gI yes2 fun i j => .bool (decide (j ≤ i))) (fBor 3) (fBin gPowI (fC (.int 10)) (fC (.int 18))))) (sRow 0 3 (fBin gDivI (fBor 3) (fBor 1))) sNil)
    (sRet (fBin gModI (fCall gInt (aCons (fBor 3) aNil)) (fBor 1))))))))
def m_law_taken : List D → FRow → Option (D × FRow) := mkR 3 1 b_law_taken
def b_law_alike (rec : List D → Option D) : FS :=
    sSeq (sIf (fTru (fIsi2 .tuple .list (fBor 1))) (sSeq (sIf (tOrF (tNotF (fTru (fIsi2 .tuple .list (fBor 0)))) (fTst (fBin gNe (fIsi .list (fBor 0)) (fIsi .list (fBor 1))))) (sRet (fC (.bool false))) sNil)
    (sSeq (sIf (fTst (fBin gNe (fCall gLen (aCons (fBor 0) aNil)) (fCall gLen (aCons (fBor 1) aNil)))) (sRet (fC (.bool false))) sNil)
    (sRet (fBin gEq (fOfX (xLc (fRg1 (fCall gLen (aCons (fBor 1) aNil))) (gtName 2) (tNotF (fTru (fCall rec (aCons (fBin gAt (fBor 0) (fBor 2)) (aCons (fBin gAt (fBor 1) (fBor 2)) aNil))))) (fVar 2) [2])) (fLst aNil))))) sNil)
    (sSeq (sIf (tOrF (fTst (fBin gIsN (fBor 1) (fC .none))) (fTru (fIsi .str (fBor 1)))) (sRet (fAnd (fBin gEq (fBor 0) (fBor 1)) (fBin gEq (fIsi .str (fBor 0)) (fIsi .str (fBor 1))))) sNil)
    (sRet (fAnd (fIsi .int (fBor 0)) (fAnd (fBin gEq (fIsi .bool (fBor 0)) (fIsi .bool (fBor 1))) (fBin gEq (fBor 0) (fBor 1))))))
def m_law_alike : Nat → List D → Option D
  | 0 => fun _ => none
  | k + 1 => mkF 3 2 (b_law_alike (m_law_alike k))
def b_law_scene : FS :=
    sSeq (sPars [5, 6] (xsCons (xVal (fCallR 0 m_law_taken (aCons (fVar 1) aNil))) (xsCons (xNew (.dt [])) xsNil)))
    (sSeq (sFor (fRg1 (fBin gAdd (fC (.int 1)) (fCallR 0 m_law_taken (aCons (fC (.int 2)) aNil)))) (gtName 7) (sSeq (sSet 8 (xVal (fBin gModI (fCall gInt (aCons (fBin gAdd (fBin gAdd (fBor 5) (fC (.int 1))) (fCallR 0 m_law_taken (aCons (fBin gSubI (fBor 1) (fC (.int 1))) aNil))) aNil)) (fBor 1))))
    (sSeq (sSet 9 (xVal (fIf (fTru (fBor 4)) (fCallR 0 m_law_taken (aCons (fBin gAdd (fBor 3) (fC (.int 1))) aNil)) (fBin gAdd (fBin gAdd (fBor 2) (fC (.int 1))) (fCallR 0 m_law_taken (aCons (fBin gSubI (fBor 3) (fBor 2)) aNil))))))
    (sDPut 6 (fTup (aCons (fVar 8) (aCons (fCallR 0 m_law_taken (aCons (fC (.int 2)) aNil)) aNil))) (fVar 9)))))
    (sRet (fTup (aCons (fVar 5) (aCons (fCall gTupOf (aCons (fCall gSortX (aCons (fOfX (xLc (fSeq (fCall gListOf (aCons (fBor 6) aNil))) (gtName 10) tYesF (fBin gAdd (fBor 10) (fTup (aCons (fBin gAt (fBor 6) (fBor 10)) aNil))) [10])) aNil)) aNil)) aNil)))))
def m_law_scene : List D → FRow → Option (D × FRow) := mkR 10 4 b_law_scene
def b_law_script : FS :=
    sSeq (sSet 4 (xVal (fBin gAdd (fC (.int 1)) (fCallR 0 m_law_taken (aCons (fVar 2) aNil)))))
    (sRet (fTup (aCons (fVar 1) (aCons (fBin gAdd (fCall gTupOf (aCons (fOfX (xLc (fRg1 (fVar 4)) (gtName 5) tYesF (fCallR 0 m_law_scene (aCons (fVar 1) (aCons (fVar 5) (aCons (fVar 4) (aCons (fVar 3) aNil))))) [5])) aNil)) (fTup (aCons (fC .none) aNil))) aNil))))
def m_law_script : List D → FRow → Option (D × FRow) := mkR 5 3 b_law_script
def b_law_order : FS :=
    sSeq (sPars [2, 3] (xsCons (xOwn (fLrg1 (fVar 1))) (xsCons (xLst aNil) xsNil)))
    (sSeq (sFor (fRg1 (fVar 1)) (gtName 4) (sAppPop 3 2 (fCallR 0 m_law_taken (aCons (fCall gLen (aCons (fBor 2) aNil)) aNil))))
    (sRet (fCall gTupOf (aCons (fBor 3) aNil))))
def m_law_order : List D → FRow → Option (D × FRow) := mkR 4 1 b_law_order
def b_law_moved : FS :=
    sRet (fIf (fTst (fBin gIsN (fBor 0) (fC .none))) (fC .none) (fTup (aCons (fBin gAt (fBor 0) (fC (.int 0))) (aCons (fCall gTupOf (aCons (fOfX (xLc (fSeq (fBin gAt (fBor 0) (fC (.int 1)))) (gtName 2) tYesF (fBin gAdd (fSl (fBor 2) oNone (oSome (fC (.int 2)))) (fTup (aCons (fBin gAdd (fBin gAt (fBor 2) (fC (.int 2))) (fBor 1)) aNil))) [2])) aNil)) aNil))))
def m_law_moved : List D → Option D := mkF 3 2 b_law_moved
def b_has_items : FS :=
    sRet (fAnd (fIsi .tuple (fBor 0)) (fChain (gI yes2 fun i j => .bool (decide (i ≤ j))) (gI yes2 fun i j => .bool (decide (i ≤ j))) (fBor 1) (fCall gLen (aCons (fBor 0) aNil)) (fBor 2)))
def m_has_items : List D → Option D := mkF 3 3 b_has_items
def b_is_number : FS :=
    sRet (fAnd (fIsi .int (fBor 0)) (fAnd (fNot (fIsi .bool (fBor 0))) (fChain (gI yes2 fun i j => .bool (decide (i ≤ j))) (gI yes2 fun i j => .bool (decide (i ≤ j))) (fBor 1) (fBor 0) (fBor 2))))
def m_is_number : List D → Option D := mkF 3 3 b_is_number
def b_has_script_form : FS :=
    sSeq (sIf (tNotF (fTru (fCall m_has_items (aCons (fVar 0) (aCons (fC (.int 2)) (aCons (fC (.int 2)) aNil)))))) (sRet (fC (.bool false))) sNil)
    (sSeq (sUnp (fVar 0) (gtTup 2 (gtCons (gtName 1) (gtCons (gtName 2) gtNil))))
    (sRet (fAnd (fCall m_is_number (aCons (fVar 1) (aCons (fC (.int 2)) (aCons (fC (.int 4)) aNil)))) (fCall m_has_items (aCons (fVar 2) (aCons (fC (.int 1)) (aCons (fC (.int 8)) aNil)))))))
def m_has_script_form : List D → Option D := mkF 3 1 b_has_script_form
def b_is_rising : FS :=
    sRet (fCall gAll (aCons (fOfX (xLc (fRg1 (fBin gSubI (fCall gLen (aCons (fBor 0) aNil)) (fC (.int 1)))) (gtName 1) tYesF (fBin gLtX (fBin gAt (fBor 0) (fBor 1)) (fBin gAt (fBor 0) (fBin gAdd (fBor 1) (fC (.int 1))))) [1])) aNil))
def m_is_rising : List D → Option D := mkF 2 1 b_is_rising
def b_is_talk : FS :=
    sSeq (sIf (tNotF (fTru (fCall m_has_items (aCons (fVar 0) (aCons (fC (.int 3)) (aCons (fC (.int 3)) aNil)))))) (sRet (fC (.bool false))) sNil)
    (sSeq (sUnp (fVar 0) (gtTup 3 (gtCons (gtName 2) (gtCons (gtName 3) (gtCons (gtName 4) gtNil)))))
    (sSeq (sIf (tOrF (tNotF (fTru (fCall m_is_number (aCons (fVar 2) (aCons (fC (.int 0)) (aCons (fBin gSubI (fBor 1) (fC (.int 1))) aNil)))))) (tNotF (fTru (fCall m_is_number (aCons (fVar 3) (aCons (fC (.int 0)) (aCons (fBin gSubI (fBor 1) (fC (.int 1))) aNil))))))) (sRet (fC (.bool false))) sNil)
    (sRet (fAnd (fBin gNe (fBor 2) (fBor 3)) (fCall m_is_number (aCons (fVar 4) (aCons (fC (.int 0)) (aCons (fC (.int 5)) aNil))))))))
def m_is_talk : List D → Option D := mkF 5 2 b_is_talk
def b_is_branch : FS :=
    sSeq (sIf (tNotF (fTru (fCall m_has_items (aCons (fVar 0) (aCons (fC (.int 3)) (aCons (fC (.int 3)) aNil)))))) (sRet (fC (.bool false))) sNil)
    (sSeq (sUnp (fVar 0) (gtTup 3 (gtCons (gtName 4) (gtCons (gtName 5) (gtCons (gtName 6) gtNil)))))
    (sRet (fAnd (fCall m_is_talk (aCons (fTup (aCons (fVar 1) (aCons (fVar 4) (aCons (fVar 5) aNil)))) (aCons (fVar 2) aNil))) (fCall m_is_number (aCons (fVar 6) (aCons (fC (.int 0)) (aCons (fBin gSubI (fBor 3) (fC (.int 1))) aNil)))))))
def m_is_branch : List D → Option D := mkF 7 4 b_is_branch
def b_is_scene : FS :=
    sSeq (sIf (fTst (fBin gIsN (fBor 0) (fC .none))) (sRet (fC (.bool true))) sNil)
    (sSeq (sIf (tNotF (fTru (fCall m_has_items (aCons (fVar 0) (aCons (fC (.int 2)) (aCons (fC (.int 2)) aNil)))))) (sRet (fC (.bool false))) sNil)
    (sSeq (sUnp (fVar 0) (gtTup 2 (gtCons (gtName 3) (gtCons (gtName 4) gtNil))))
    (sSeq (sIf (tOrF (tNotF (fTru (fIsi .tuple (fBor 4)))) (fTst (fBin gEq (fCall gLen (aCons (fBor 4) aNil)) (fC (.int 0))))) (sRet (fC (.bool false))) sNil)
    (sSeq (sIf (tNotF (fTru (fCall gAll (aCons (fOfX (xLc (fSeq (fVar 4)) (gtName 5) tYesF (fCall m_is_branch (aCons (fVar 5) (aCons (fVar 3) (aCons (fVar 1) (aCons (fVar 2) aNil))))) [5])) aNil)))) (sRet (fC (.bool false))) sNil)
    (sRet (fCall m_is_rising (aCons (fOfX (xLc (fSeq (fVar 4)) (gtName 5) tYesF (fSl (fBor 5) oNone (oSome (fC (.int 2)))) [5])) aNil)))))))
def m_is_scene : List D → Option D := mkF 6 3 b_is_scene
def bx_check_script : FZs :=
    xSeq (sIf (tNotF (fTru (fCall m_has_script_form (aCons (fVar 0) aNil)))) sNo sNil) (xIf (tNotF (fTru (fCall m_has_script_form (aCons (fVar 0) aNil)))) (xRaiseI (Str.ofString "BadScript") (Str.ofString "index") (fC .none)) xNo)
    (xSeq (sUnp (fVar 0) (gtTup 2 (gtCons (gtName 1) (gtCons (gtName 2) gtNil)))) xNo
    (xFor (fEn (fVar 2)) (gtTup 2 (gtCons (gtName 3) (gtCons (gtName 4) gtNil))) (sIf (tNotF (fTru (fCall m_is_scene (aCons (fVar 4) (aCons (fVar 1) (aCons (fCall gLen (aCons (fBor 2) aNil)) aNil)))))) sNo sNil) (xIf (tNotF (fTru (fCall m_is_scene (aCons (fVar 4) (aCons (fVar 1) (aCons (fCall gLen (aCons (fBor 2) aNil)) aNil)))))) (xRaiseI (Str.ofString "BadScript") (Str.ofString "index") (fVar 3)) xNo)))
def mx_check_script : List D → Option Er := mkX 5 1 bx_check_script
def b_check_script : FS :=
    sSeq (sIf (tNotF (fTru (fCall m_has_script_form (aCons (fVar 0) aNil)))) sNo sNil)
    (sSeq (sUnp (fVar 0) (gtTup 2 (gtCons (gtName 1) (gtCons (gtName 2) gtNil))))
    (sFor (fEn (fVar 2)) (gtTup 2 (gtCons (gtName 3) (gtCons (gtName 4) gtNil))) (sIf (tNotF (fTru (fCall m_is_scene (aCons (fVar 4) (aCons (fVar 1) (aCons (fCall gLen (aCons (fBor 2) aNil)) aNil)))))) sNo sNil)))
def m_check_script : List D → Option D := mkF 5 1 b_check_script
def b_check_names : FS :=
    sSeq (sIf (tOrF (tNotF (fTru (fCall m_has_items (aCons (fVar 0) (aCons (fVar 1) (aCons (fVar 1) aNil)))))) (tNotF (fTru (fCall gAll (aCons (fOfX (xLc (fSeq (fVar 0)) (gtName 2) tYesF (fCall m_is_number (aCons (fVar 2) (aCons (fC (.int 0)) (aCons (fBin gSubI (fBor 1) (fC (.int 1))) aNil)))) [2])) aNil))))) sNo sNil)
    (sIf (fTst (fBin gLtX (fLenS (nSetT (fVar 0))) (fBor 1))) sNo sNil)
def m_check_names : List D → Option D := mkF 3 2 b_check_names
def b_with_new_names : FS :=
    sSeq (sUnp (fVar 0) (gtTup 2 (gtCons (gtName 3) (gtCons (gtName 4) gtNil))))
    (sSeq (sSet 5 (xLst aNil))
    (sSeq (sFor (fSeq (fVar 4)) (gtName 6) (sIf (fTst (fBin gIsN (fBor 6) (fC .none))) (sApp 5 (fC .none)) (sSeq (sUnp (fVar 6) (gtTup 2 (gtCons (gtName 7) (gtCons (gtName 8) gtNil))))
    (sSeq (sSet 9 ((fun f => xVal (fOfX f)) (xLc (fSeq (fVar 8)) (gtTup 3 (gtCons (gtName 10) (gtCons (gtName 11) (gtCons (gtName 12) gtNil)))) tYesF (fTup (aCons (fBin gAt (fBor 1) (fBor 10)) (aCons (fBin gAt (fBor 2) (fBor 11)) (aCons (fVar 12) aNil)))) [10, 11, 12])))
    (sApp 5 (fTup (aCons (fBin gAt (fBor 1) (fBor 7)) (aCons (fCall gTupOf (aCons (fCall gSortX (aCons (fBor 9) aNil)) aNil)) aNil))))))))
    (sRet (fTup (aCons (fVar 3) (aCons (fCall gTupOf (aCons (fBor 5) aNil)) aNil))))))
def m_with_new_names : List D → Option D := mkF 13 3 b_with_new_names
def b_renamed_actors : FS :=
    sSeq (sDrop (fCall m_check_script (aCons (fVar 0) aNil)))
    (sSeq (sDrop (fCall m_check_names (aCons (fVar 1) (aCons (fBin gAt (fBor 0) (fC (.int 0))) aNil))))
    (sRet (fCall m_with_new_names (aCons (fVar 0) (aCons (fVar 1) (aCons (fLrg1 (fBin gAdd (fC (.int 5)) (fC (.int 1)))) aNil))))))
def m_renamed_actors : List D → Option D := mkF 2 2 b_renamed_actors
def b_renamed_words : FS :=
    sSeq (sDrop (fCall m_check_script (aCons (fVar 0) aNil)))
    (sSeq (sDrop (fCall m_check_names (aCons (fVar 1) (aCons (fBin gAdd (fC (.int 5)) (fC (.int 1))) aNil))))
    (sRet (fCall m_with_new_names (aCons (fVar 0) (aCons (fLrg1 (fBin gAt (fBor 0) (fC (.int 0)))) (aCons (fVar 1) aNil))))))
def m_renamed_words : List D → Option D := mkF 2 2 b_renamed_words
def bx_check_scene : FZs :=
    xIf (tNotF (fTru (fCall m_is_number (aCons (fVar 0) (aCons (fC (.int 0)) (aCons (fBin gSubI (fCall gLen (aCons (fBin gAt (fBor 1) (fC (.int 1))) aNil)) (fC (.int 1))) aNil)))))) (xRaiseF (Str.ofString "BadScene") [fBin gSubI (fCall gLen (aCons (fBin gAt (fBor 1) (fC (.int 1))) aNil)) (fC (.int 1))]) xNo
def mx_check_scene : List D → Option Er := mkX 2 2 bx_check_scene
def b_check_scene : FS :=
    sIf (tNotF (fTru (fCall m_is_number (aCons (fVar 0) (aCons (fC (.int 0)) (aCons (fBin gSubI (fCall gLen (aCons (fBin gAt (fBor 1) (fC (.int 1))) aNil)) (fC (.int 1))) aNil)))))) sNo sNil
def m_check_scene : List D → Option D := mkF 2 2 b_check_scene
def b_branches_of : FS :=
    sSeq (sIf (fTst (fBin gIsN (fBor 0) (fC .none))) (sRet (fTup aNil)) sNil)
    (sSeq (sUnp (fVar 0) (gtTup 2 (gtCons (gtName 1) (gtCons (gtName 2) gtNil))))
    (sRet (fVar 2)))
def m_branches_of : List D → Option D := mkF 3 1 b_branches_of
def bx_check_branch : FZs :=
    xSeq (sDrop (fCall m_check_script (aCons (fVar 0) aNil))) (xOf (xCall mx_check_script (aCons (fVar 0) aNil)))
    (xSeq (sDrop (fCall m_check_scene (aCons (fVar 1) (aCons (fVar 0) aNil)))) (xOf (xCall mx_check_scene (aCons (fVar 1) (aCons (fVar 0) aNil))))
    (xIf (tNotF (fTru (fCall m_is_number (aCons (fVar 2) (aCons (fC (.int 0)) (aCons (fBin gSubI (fCall gLen (aCons (fCall m_branches_of (aCons (fBin gAt (fBin gAt (fBor 0) (fC (.int 1))) (fBor 1)) aNil)) aNil)) (fC (.int 1))) aNil)))))) (xRaise (Str.ofString "BadBranch")) xNo))
def mx_check_branch : List D → Option Er := mkX 3 3 bx_check_branch
def b_check_branch : FS :=
    sSeq (sDrop (fCall m_check_script (aCons (fVar 0) aNil)))
    (sSeq (sDrop (fCall m_check_scene (aCons (fVar 1) (aCons (fVar 0) aNil))))
    (sIf (tNotF (fTru (fCall m_is_number (aCons (fVar 2) (aCons (fC (.int 0)) (aCons (fBin gSubI (fCall gLen (aCons (fCall m_branches_of (aCons (fBin gAt (fBin gAt (fBor 0) (fC (.int 1))) (fBor 1)) aNil)) aNil)) (fC (.int 1))) aNil)))))) sNo sNil))
def m_check_branch : List D → Option D := mkF 3 3 b_check_branch
def b_replaced : FS :=
    sRet (fBin gAdd (fBin gAdd (fSl (fBor 0) oNone (oSome (fVar 1))) (fTup (aCons (fVar 2) aNil))) (fSl (fBor 0) (oSome (fBin gAdd (fBor 1) (fC (.int 1)))) oNone))
def m_replaced : List D → Option D := mkF 3 3 b_replaced
def b_with_branches : FS :=
    sSeq (sUnp (fVar 0) (gtTup 2 (gtCons (gtName 3) (gtCons (gtName 4) gtNil))))
    (sSeq (sUnp (fBin gAt (fBor 4) (fBor 1)) (gtTup 2 (gtCons (gtName 5) (gtCons (gtName 6) gtNil))))
    (sRet (fTup (aCons (fVar 3) (aCons (fCall m_replaced (aCons (fVar 4) (aCons (fVar 1) (aCons (fTup (aCons (fVar 5) (aCons (fVar 2) aNil))) aNil)))) aNil)))))
def m_with_branches : List D → Option D := mkF 7 3 b_with_branches
def b_led : FS :=
    sSeq (sDrop (fCall m_check_branch (aCons (fVar 0) (aCons (fVar 1) (aCons (fVar 2) aNil)))))
    (sSeq (sDrop (fCall m_check_scene (aCons (fVar 3) (aCons (fVar 0) aNil))))
    (sSeq (sSet 4 (xVal (fCall m_branches_of (aCons (fBin gAt (fBin gAt (fBor 0) (fC (.int 1))) (fBor 1)) aNil))))
    (sSeq (sUnp (fBin gAt (fBor 4) (fBor 2)) (gtTup 3 (gtCons (gtName 5) (gtCons (gtName 6) (gtCons (gtName 7) gtNil)))))
    (sRet (fCall m_with_branches (aCons (fVar 0) (aCons (fVar 1) (aCons (fCall m_replaced (aCons (fVar 4) (aCons (fVar 2) (aCons (fTup (aCons (fVar 5) (aCons (fVar 6) (aCons (fVar 3) aNil)))) aNil)))) aNil))))))))
def m_led : List D → Option D := mkF 8 4 b_led
def b_renamed_scene : FS :=
    sSeq (sIf (fTst (fBin gIsN (fBor 0) (fC .none))) (sRet (fC .none)) sNil)
    (sSeq (sUnp (fVar 0) (gtTup 2 (gtCons (gtName 2) (gtCons (gtName 3) gtNil))))
    (sRet (fTup (aCons (fVar 2) (aCons (fCall gTupOf (aCons (fOfX (xLc (fSeq (fVar 3)) (gtTup 3 (gtCons (gtName 4) (gtCons (gtName 5) (gtCons (gtName 6) gtNil)))) tYesF (fTup (aCons (fVar 4) (aCons (fVar 5) (aCons (fBin gAt (fBor 1) (fBor 6)) aNil)))) [4, 5, 6])) aNil)) aNil)))))
def m_renamed_scene : List D → Option D := mkF 7 2 b_renamed_scene
def b_repeated : FS :=
    sSeq (sDrop (fCall m_check_script (aCons (fVar 0) aNil)))
    (sSeq (sUnp (fVar 0) (gtTup 2 (gtCons (gtName 1) (gtCons (gtName 2) gtNil))))
    (sSeq (sIf (fTst (fBin gIsN (fBin gAt (fBor 2) (fC (.int 0))) (fC .none))) sNo sNil)
    (sSeq (sSet 3 (xVal (fOfX (xDc (fEn (fVar 2)) (gtTup 2 (gtCons (gtName 4) (gtCons (gtName 5) gtNil))) tYesF (fVar 4) (fIf (fTst (fBin gIsN (fBor 5) (fC .none))) (fC (.int 0)) (fVar 4)) [4, 5]))))
    (sRet (fTup (aCons (fVar 1) (aCons (fCall gTupOf (aCons (fOfX (xLc (fSeq (fVar 2)) (gtName 5) tYesF (fCall m_renamed_scene (aCons (fVar 5) (aCons (fVar 3) aNil))) [5])) aNil)) aNil)))))))
def m_repeated : List D → Option D := mkF 6 1 b_repeated
def bx_only_talk : FZs :=
    xIf (fTst (fBin gNe (fCall gLen (aCons (fCall m_branches_of (aCons (fVar 0) aNil)) aNil)) (fC (.int 1)))) (xRaise (Str.ofString "NotMade")) xNo
def mx_only_talk : List D → Option Er := mkX 6 1 bx_only_talk
def b_only_talk : FS :=
    sSeq (sIf (fTst (fBin gNe (fCall gLen (aCons (fCall m_branches_of (aCons (fVar 0) aNil)) aNil)) (fC (.int 1)))) sNo sNil)
    (sSeq (sUnp (fVar 0) (gtTup 2 (gtCons (gtName 1) (gtCons (gtName 2) gtNil))))
    (sSeq (sUnp (fBin gAt (fBor 2) (fC (.int 0))) (gtTup 3 (gtCons (gtName 3) (gtCons (gtName 4) (gtCons (gtName 5) gtNil)))))
    (sRet (fTup (aCons (fVar 1) (aCons (fVar 3) (aCons (fVar 4) (aCons (fVar 5) aNil))))))))
def m_only_talk : List D → Option D := mkF 6 1 b_only_talk
def bx_check_scenes : FZs :=
    xIf (fTst (fBin (gI yes2 fun i j => .bool (decide (j < i))) (fBor 0) (fC (.int 8)))) (xRaiseI (Str.ofString "TooMany") (Str.ofString "most") (fC (.int 8))) xNo
def mx_check_scenes : List D → Option Er := mkX 1 1 bx_check_scenes
def b_check_scenes : FS :=
    sIf (fTst (fBin (gI yes2 fun i j => .bool (decide (j < i))) (fBor 0) (fC (.int 8)))) sNo sNil
def m_check_scenes : List D → Option D := mkF 1 1 b_check_scenes
def bx_swapped : FZs :=
    xSeq (sDrop (fCall m_check_script (aCons (fVar 0) aNil))) (xOf (xCall mx_check_script (aCons (fVar 0) aNil)))
    (xSeq (sDrop (fCall m_check_scene (aCons (fVar 1) (aCons (fVar 0) aNil)))) (xOf (xCall mx_check_scene (aCons (fVar 1) (aCons (fVar 0) aNil))))
    (xSeq (sUnp (fVar 0) (gtTup 2 (gtCons (gtName 2) (gtCons (gtName 3) gtNil)))) xNo
    (xSeq (sUnp (fCall m_only_talk (aCons (fBin gAt (fBor 3) (fBor 1)) aNil)) (gtTup 4 (gtCons (gtName 4) (gtCons (gtName 5) (gtCons (gtName 6) (gtCons (gtName 7) gtNil)))))) (xOf (xCall mx_only_talk (aCons (fBin gAt (fBor 3) (fBor 1)) aNil)))
    (xSeq (sUnp (fCall m_only_talk (aCons (fBin gAt (fBor 3) (fBor 7)) aNil)) (gtTup 4 (gtCons (gtName 8) (gtCons (gtName 9) (gtCons (gtName 10) (gtCons (gtName 11) gtNil)))))) (xOf (xCall mx_only_talk (aCons (fBin gAt (fBor 3) (fBor 7)) aNil)))
    (xSeq (sIf (tOrF (fTst (fBin gInA (fBor 4) (fTup (aCons (fVar 8) (aCons (fVar 9) aNil))))) (fTst (fBin gInA (fBor 5) (fTup (aCons (fVar 8) (aCons (fVar 9) aNil)))))) sNo sNil) (xIf (tOrF (fTst (fBin gInA (fBor 4) (fTup (aCons (fVar 8) (aCons (fVar 9) aNil))))) (fTst (fBin gInA (fBor 5) (fTup (aCons (fVar 8) (aCons (fVar 9) aNil)))))) (xRaise (Str.ofString "NotMade")) xNo)
    (xOf (xCall mx_check_scenes (aCons (fBin gAdd (fCall gLen (aCons (fBor 3) aNil)) (fC (.int 1))) aNil))))))))
def mx_swapped : List D → Option Er := mkX 13 2 bx_swapped
def b_swapped : FS :=
    sSeq (sDrop (fCall m_check_script (aCons (fVar 0) aNil)))
    (sSeq (sDrop (fCall m_check_scene (aCons (fVar 1) (aCons (fVar 0) aNil))))
    (sSeq (sUnp (fVar 0) (gtTup 2 (gtCons (gtName 2) (gtCons (gtName 3) gtNil))))
    (sSeq (sUnp (fCall m_only_talk (aCons (fBin gAt (fBor 3) (fBor 1)) aNil)) (gtTup 4 (gtCons (gtName 4) (gtCons (gtName 5) (gtCons (gtName 6) (gtCons (gtName 7) gtNil))))))
    (sSeq (sUnp (fCall m_only_talk (aCons (fBin gAt (fBor 3) (fBor 7)) aNil)) (gtTup 4 (gtCons (gtName 8) (gtCons (gtName 9) (gtCons (gtName 10) (gtCons (gtName 11) gtNil))))))
    (sSeq (sIf (tOrF (fTst (fBin gInA (fBor 4) (fTup (aCons (fVar 8) (aCons (fVar 9) aNil))))) (fTst (fBin gInA (fBor 5) (fTup (aCons (fVar 8) (aCons (fVar 9) aNil)))))) sNo sNil)
    (sSeq (sDrop (fCall m_check_scenes (aCons (fBin gAdd (fCall gLen (aCons (fBor 3) aNil)) (fC (.int 1))) aNil)))
    (sSeq (sSet 12 (xVal (fTup (aCons (fVar 8) (aCons (fTup (aCons (fTup (aCons (fVar 9) (aCons (fVar 10) (aCons (fCall gLen (aCons (fBor 3) aNil)) aNil)))) aNil)) aNil)))))
    (sRet (fTup (aCons (fVar 2) (aCons (fBin gAdd (fCall m_replaced (aCons (fVar 3) (aCons (fVar 1) (aCons (fVar 12) aNil)))) (fTup (aCons (fTup (aCons (fVar 4) (aCons (fTup (aCons (fTup (aCons (fVar 5) (aCons (fVar 6) (aCons (fVar 11) aNil)))) aNil)) aNil))) aNil))) aNil)))))))))))
def m_swapped : List D → Option D := mkF 13 2 b_swapped
def bx_without : FZs :=
    xSeq (sDrop (fCall m_check_branch (aCons (fVar 0) (aCons (fVar 1) (aCons (fVar 2) aNil))))) (xOf (xCall mx_check_branch (aCons (fVar 0) (aCons (fVar 1) (aCons (fVar 2) aNil)))))
    (xSeq (sSet 3 (xVal (fCall m_branches_of (aCons (fBin gAt (fBin gAt (fBor 0) (fC (.int 1))) (fBor 1)) aNil)))) xNo
    (xIf (fTst (fBin gEq (fCall gLen (aCons (fBor 3) aNil)) (fC (.int 1)))) (xRaise (Str.ofString "NotMade")) xNo))
def mx_without : List D → Option Er := mkX 4 3 bx_without
def b_without : FS :=
    sSeq (sDrop (fCall m_check_branch (aCons (fVar 0) (aCons (fVar 1) (aCons (fVar 2) aNil)))))
    (sSeq (sSet 3 (xVal (fCall m_branches_of (aCons (fBin gAt (fBin gAt (fBor 0) (fC (.int 1))) (fBor 1)) aNil))))
    (sSeq (sIf (fTst (fBin gEq (fCall gLen (aCons (fBor 3) aNil)) (fC (.int 1)))) sNo sNil)
    (sRet (fCall m_with_branches (aCons (fVar 0) (aCons (fVar 1) (aCons (fBin gAdd (fSl (fBor 3) oNone (oSome (fVar 2))) (fSl (fBor 3) (oSome (fBin gAdd (fBor 2) (fC (.int 1)))) oNone)) aNil)))))))
def m_without : List D → Option D := mkF 4 3 b_without
def bx_check_actors_alike : FZs :=
    xIf (fTst (fBin gNe (fBin gAt (fBor 0) (fC (.int 0))) (fBin gAt (fBor 1) (fC (.int 0))))) (xRaise (Str.ofString "NotMade")) xNo
def mx_check_actors_alike : List D → Option Er := mkX 2 2 bx_check_actors_alike
def b_check_actors_alike : FS :=
    sIf (fTst (fBin gNe (fBin gAt (fBor 0) (fC (.int 0))) (fBin gAt (fBor 1) (fC (.int 0))))) sNo sNil
def m_check_actors_alike : List D → Option D := mkF 2 2 b_check_actors_alike
def b_moved : FS :=
    sSeq (sSet 2 (xVal (fOfX (xDc (fRg1 (fCall gLen (aCons (fBor 0) aNil))) (gtName 3) tYesF (fVar 3) (fBin gAdd (fBor 3) (fBor 1)) [3]))))
    (sRet (fCall gTupOf (aCons (fOfX (xLc (fSeq (fVar 0)) (gtName 4) tYesF (fCall m_renamed_scene (aCons (fVar 4) (aCons (fVar 2) aNil))) [4])) aNil)))
def m_moved : List D → Option D := mkF 5 2 b_moved
def bx_followed_by : FZs :=
    xSeq (sDrop (fCall m_check_script (aCons (fVar 0) aNil))) (xOf (xCall mx_check_script (aCons (fVar 0) aNil)))
    (xSeq (sDrop (fCall m_check_script (aCons (fVar 1) aNil))) (xOf (xCall mx_check_script (aCons (fVar 1) aNil)))
    (xSeq (sDrop (fCall m_check_actors_alike (aCons (fVar 0) (aCons (fVar 1) aNil)))) (xOf (xCall mx_check_actors_alike (aCons (fVar 0) (aCons (fVar 1) aNil))))
    (xSeq (sUnp (fVar 0) (gtTup 2 (gtCons (gtName 2) (gtCons (gtName 3) gtNil)))) xNo
    (xOf (xCall mx_check_scenes (aCons (fBin gAdd (fCall gLen (aCons (fBor 3) aNil)) (fCall gLen (aCons (fBin gAt (fBor 1) (fC (.int 1))) aNil))) aNil))))))
def mx_followed_by : List D → Option Er := mkX 6 2 bx_followed_by
def b_followed_by : FS :=
    sSeq (sDrop (fCall m_check_script (aCons (fVar 0) aNil)))
    (sSeq (sDrop (fCall m_check_script (aCons (fVar 1) aNil)))
    (sSeq (sDrop (fCall m_check_actors_alike (aCons (fVar 0) (aCons (fVar 1) aNil))))
    (sSeq (sUnp (fVar 0) (gtTup 2 (gtCons (gtName 2) (gtCons (gtName 3) gtNil))))
    (sSeq (sDrop (fCall m_check_scenes (aCons (fBin gAdd (fCall gLen (aCons (fBor 3) aNil)) (fCall gLen (aCons (fBin gAt (fBor 1) (fC (.int 1))) aNil))) aNil)))
    (sSeq (sSet 4 (xVal (fCall m_moved (aCons (fBin gAt (fBor 1) (fC (.int 1))) (aCons (fCall gLen (aCons (fBor 3) aNil)) aNil)))))
    (sRet (fTup (aCons (fVar 2) (aCons (fBin gAdd (fCall gTupOf (aCons (fOfX (xLc (fSeq (fVar 3)) (gtName 5) tYesF (fIf (fTst (fBin gIsN (fBor 5) (fC .none))) (fBin gAt (fBor 4) (fC (.int 0))) (fVar 5)) [5])) aNil)) (fBor 4)) aNil)))))))))
def m_followed_by : List D → Option D := mkF 6 2 b_followed_by
def bx_check_actor : FZs :=
    xIf (tNotF (fTru (fCall m_is_number (aCons (fVar 0) (aCons (fC (.int 0)) (aCons (fBin gSubI (fBor 1) (fC (.int 1))) aNil)))))) (xRaiseF (Str.ofString "BadActor") [fBin gSubI (fBor 1) (fC (.int 1))]) xNo
def mx_check_actor : List D → Option Er := mkX 2 2 bx_check_actor
def b_check_actor : FS :=
    sIf (tNotF (fTru (fCall m_is_number (aCons (fVar 0) (aCons (fC (.int 0)) (aCons (fBin gSubI (fBor 1) (fC (.int 1))) aNil)))))) sNo sNil
def m_check_actor : List D → Option D := mkF 2 2 b_check_actor
def bx_chosen : FZs :=
    xSeq (sDrop (fCall m_check_script (aCons (fVar 2) aNil))) (xOf (xCall mx_check_script (aCons (fVar 2) aNil)))
    (xSeq (sDrop (fCall m_check_script (aCons (fVar 3) aNil))) (xOf (xCall mx_check_script (aCons (fVar 3) aNil)))
    (xSeq (sUnp (fVar 2) (gtTup 2 (gtCons (gtName 4) (gtCons (gtName 5) gtNil)))) xNo
    (xSeq (sDrop (fCall m_check_actor (aCons (fVar 0) (aCons (fVar 4) aNil)))) (xOf (xCall mx_check_actor (aCons (fVar 0) (aCons (fVar 4) aNil))))
    (xSeq (sDrop (fCall m_check_actor (aCons (fVar 1) (aCons (fVar 4) aNil)))) (xOf (xCall mx_check_actor (aCons (fVar 1) (aCons (fVar 4) aNil))))
    (xSeq (sDrop (fCall m_check_actors_alike (aCons (fVar 2) (aCons (fVar 3) aNil)))) (xOf (xCall mx_check_actors_alike (aCons (fVar 2) (aCons (fVar 3) aNil))))
    (xSeq (sIf (fTst (fBin gEq (fBor 0) (fBor 1))) sNo sNil) (xIf (fTst (fBin gEq (fBor 0) (fBor 1))) (xRaise (Str.ofString "NotMade")) xNo)
    (xSeq (sSet 6 (xVal (fBin gAdd (fC (.int 1)) (fCall gLen (aCons (fBor 5) aNil))))) xNo
    (xOf (xCall mx_check_scenes (aCons (fBin gAdd (fBor 6) (fCall gLen (aCons (fBin gAt (fBor 3) (fC (.int 1))) aNil))) aNil))))))))))
def mx_chosen : List D → Option Er := mkX 8 4 bx_chosen
def b_chosen : FS :=
    sSeq (sDrop (fCall m_check_script (aCons (fVar 2) aNil)))
    (sSeq (sDrop (fCall m_check_script (aCons (fVar 3) aNil)))
    (sSeq (sUnp (fVar 2) (gtTup 2 (gtCons (gtName 4) (gtCons (gtName 5) gtNil))))
    (sSeq (sDrop (fCall m_check_actor (aCons (fVar 0) (aCons (fVar 4) aNil))))
    (sSeq (sDrop (fCall m_check_actor (aCons (fVar 1) (aCons (fVar 4) aNil))))
    (sSeq (sDrop (fCall m_check_actors_alike (aCons (fVar 2) (aCons (fVar 3) aNil))))
    (sSeq (sIf (fTst (fBin gEq (fBor 0) (fBor 1))) sNo sNil)
    (sSeq (sSet 6 (xVal (fBin gAdd (fC (.int 1)) (fCall gLen (aCons (fBor 5) aNil)))))
    (sSeq (sDrop (fCall m_check_scenes (aCons (fBin gAdd (fBor 6) (fCall gLen (aCons (fBin gAt (fBor 3) (fC (.int 1))) aNil))) aNil)))
    (sSeq (sSet 7 (xVal (fTup (aCons (fVar 0) (aCons (fTup (aCons (fTup (aCons (fVar 1) (aCons (fC (.int 0)) (aCons (fC (.int 1)) aNil)))) (aCons (fTup (aCons (fVar 1) (aCons (fC (.int 1)) (aCons (fVar 6) aNil)))) aNil))) aNil)))))
    (sRet (fTup (aCons (fVar 4) (aCons (fBin gAdd (fBin gAdd (fTup (aCons (fVar 7) aNil)) (fCall m_moved (aCons (fVar 5) (aCons (fC (.int 1)) aNil)))) (fCall m_moved (aCons (fBin gAt (fBor 3) (fC (.int 1))) (aCons (fVar 6) aNil)))) aNil)))))))))))))
def m_chosen : List D → Option D := mkF 8 4 b_chosen
def b_law : FS :=
    sSeq (sSet 2 (xVal (fBin gAdd (fC (.int 2)) (fCallR 1 m_law_taken (aCons (fC (.int 3)) aNil)))))
    (sSeq (sPars [21, 19] (xsCons (xVal (fCallR 1 m_law_script (aCons (fVar 2) (aCons (fC (.int 3)) (aCons (fC (.bool true)) aNil))))) (xsCons (xVal (fCallR 1 m_law_script (aCons (fVar 2) (aCons (fC (.int 3)) (aCons (fC (.bool false)) aNil))))) xsNil)))
    (sSeq (sPars [3, 4, 5] (xsCons (xVal (fCallR 1 m_law_order (aCons (fVar 2) aNil))) (xsCons (xVal (fCallR 1 m_law_order (aCons (fC (.int 6)) aNil))) (xsCons (xVal (fBin gAt (fBor 21) (fC (.int 1)))) xsNil))))
    (sSeq (sPars [6, 7] (xsCons (xLst aNil) (xsCons (xLst aNil) xsNil)))
    (sSeq (sFor (fSeq (fVar 5)) (gtName 8) (sSeq (sApp 6 (fIf (fTst (fBin gIsN (fBor 8) (fC .none))) (fC .none) (fTup (aCons (fBin gAt (fBor 3) (fBin gAt (fBor 8) (fC (.int 0)))) (aCons (fCall gTupOf (aCons (fCall gSortX (aCons (fOfX (xLc (fSeq (fBin gAt (fBor 8) (fC (.int 1)))) (gtTup 3 (gtCons (gtName 25) (gtCons (gtName 26) (gtCons (gtName 9) gtNil)))) tYesF (fTup (aCons (fBin gAt (fBor 3) (fBor 25)) (aCons (fVar 26) (aCons (fVar 9) aNil)))) [25, 26, 9])) aNil)) aNil)) aNil)))))
    (sApp 7 (fIf (fTst (fBin gIsN (fBor 8) (fC .none))) (fC .none) (fTup (aCons (fBin gAt (fBor 8) (fC (.int 0))) (aCons (fCall gTupOf (aCons (fCall gSortX (aCons (fOfX (xLc (fSeq (fBin gAt (fBor 8) (fC (.int 1)))) (gtTup 3 (gtCons (gtName 25) (gtCons (gtName 26) (gtCons (gtName 9) gtNil)))) tYesF (fTup (aCons (fVar 25) (aCons (fBin gAt (fBor 4) (fBor 26)) (aCons (fVar 9) aNil)))) [25, 26, 9])) aNil)) aNil)) aNil)))))))
    (sSeq (sIf (tNotF (fTru (fCall (m_law_alike 9) (aCons (fCall m_renamed_actors (aCons (fVar 21) (aCons (fVar 3) aNil))) (aCons (fTup (aCons (fVar 2) (aCons (fCall gTupOf (aCons (fBor 6) aNil)) aNil))) aNil))))) (sRet (fC (.bool false))) sNil)
    (sSeq (sIf (tNotF (fTru (fCall (m_law_alike 9) (aCons (fCall m_renamed_words (aCons (fVar 21) (aCons (fVar 4) aNil))) (aCons (fTup (aCons (fVar 2) (aCons (fCall gTupOf (aCons (fBor 7) aNil)) aNil))) aNil))))) (sRet (fC (.bool false))) sNil)
    (sSeq (sSet 22 (xVal (fCallR 1 m_law_taken (aCons (fBin gSubI (fCall gLen (aCons (fBor 5) aNil)) (fC (.int 1))) aNil))))
    (sSeq (sUnp (fBin gAt (fBor 5) (fBor 22)) (gtTup 2 (gtCons (gtName 10) (gtCons (gtName 11) gtNil))))
    (sSeq (sPars [20, 9] (xsCons (xVal (fCallR 1 m_law_taken (aCons (fCall gLen (aCons (fBor 11) aNil)) aNil))) (xsCons (xVal (fCallR 1 m_law_taken (aCons (fCall gLen (aCons (fBor 5) aNil)) aNil))) xsNil)))
    (sSeq (sPars [12, 13] (xsCons (xVal (fBin gAdd (fSl (fBor 11) oNone (oSome (fVar 20))) (fSl (fBor 11) (oSome (fBin gAdd (fBor 20) (fC (.int 1)))) oNone))) (xsCons (xVal (fBin gAdd (fBin gAdd (fSl (fBor 11) oNone (oSome (fVar 20))) (fTup (aCons (fBin gAdd (fSl (fBin gAt (fBor 11) (fBor 20)) oNone (oSome (fC (.int 2)))) (fTup (aCons (fVar 9) aNil))) aNil))) (fSl (fBor 11) (oSome (fBin gAdd (fBor 20) (fC (.int 1)))) oNone))) xsNil)))
    (sSeq (sIf (tNotF (fTru (fCall (m_law_alike 9) (aCons (fTold (fCall m_without (aCons (fVar 21) (aCons (fVar 22) (aCons (fVar 20) aNil)))) (xCall mx_without (aCons (fVar 21) (aCons (fVar 22) (aCons (fVar 20) aNil)))) id (heA LE (Str.ofString "other"))) (aCons (fIf (fTst (fBin gNe (fBor 12) (fTup aNil))) (fTup (aCons (fVar 2) (aCons (fBin gAdd (fBin gAdd (fSl (fBor 5) oNone (oSome (fVar 22))) (fTup (aCons (fTup (aCons (fVar 10) (aCons (fVar 12) aNil))) aNil))) (fSl (fBor 5) (oSome (fBin gAdd (fBor 22) (fC (.int 1)))) oNone)) aNil))) (fC .none)) aNil))))) (sRet (fC (.bool false))) sNil)
    (sSeq (sIf (tNotF (fTru (fCall (m_law_alike 9) (aCons (fCall m_led (aCons (fVar 21) (aCons (fVar 22) (aCons (fVar 20) (aCons (fVar 9) aNil))))) (aCons (fTup (aCons (fVar 2) (aCons (fBin gAdd (fBin gAdd (fSl (fBor 5) oNone (oSome (fVar 22))) (fTup (aCons (fTup (aCons (fVar 10) (aCons (fVar 13) aNil))) aNil))) (fSl (fBor 5) (oSome (fBin gAdd (fBor 22) (fC (.int 1)))) oNone)) aNil))) aNil))))) (sRet (fC (.bool false))) sNil)
    (sSeq (sSet 14 (xVal (fOfX (xLc (fSeq (fBin gAt (fBor 19) (fC (.int 1)))) (gtName 8) tYesF (fCall m_law_moved (aCons (fVar 8) (aCons (fCall gLen (aCons (fBor 5) aNil)) aNil))) [8]))))
    (sSeq (sSet 15 (xVal (fBin gAdd (fCall gTupOf (aCons (fOfX (xLc (fSeq (fVar 5)) (gtName 8) tYesF (fIf (fTst (fBin gIsN (fBor 8) (fC .none))) (fBin gAt (fBor 14) (fC (.int 0))) (fVar 8)) [8])) aNil)) (fCall gTupOf (aCons (fBor 14) aNil)))))
    (sSeq (sIf (tNotF (fTru (fCall (m_law_alike 9) (aCons (fTold (fCall m_followed_by (aCons (fVar 21) (aCons (fVar 19) aNil))) (xCall mx_followed_by (aCons (fVar 21) (aCons (fVar 19) aNil))) id (heA LE (Str.ofString "other"))) (aCons (fIf (fTst (fBin gLtX (fCall gLen (aCons (fBor 15) aNil)) (fC (.int 9)))) (fTup (aCons (fVar 2) (aCons (fVar 15) aNil))) (fC (.str (Str.ofString "other")))) aNil))))) (sRet (fC (.bool false))) sNil)
    (sSeq (sSet 15 (xVal (fBin gAdd (fBin gAdd (fTup (aCons (fTup (aCons (fC (.int 0)) (aCons (fTup (aCons (fTup (aCons (fC (.int 1)) (aCons (fC (.int 0)) (aCons (fC (.int 1)) aNil)))) (aCons (fTup (aCons (fC (.int 1)) (aCons (fC (.int 1)) (aCons (fBin gAdd (fC (.int 1)) (fCall gLen (aCons (fBor 5) aNil))) aNil)))) aNil))) aNil))) aNil)) (fCall gTupOf (aCons (fOfX (xLc (fSeq (fVar 5)) (gtName 8) tYesF (fCall m_law_moved (aCons (fVar 8) (aCons (fC (.int 1)) aNil))) [8])) aNil))) (fCall gTupOf (aCons (fOfX (xLc (fSeq (fBin gAt (fBor 19) (fC (.int 1)))) (gtName 8) tYesF (fCall m_law_moved (aCons (fVar 8) (aCons (fBin gAdd (fC (.int 1)) (fCall gLen (aCons (fBor 5) aNil))) aNil))) [8])) aNil)))))
    (sSeq (sIf (tNotF (fTru (fCall (m_law_alike 9) (aCons (fTold (fCall m_chosen (aCons (fC (.int 0)) (aCons (fC (.int 1)) (aCons (fVar 21) (aCons (fVar 19) aNil))))) (xCall mx_chosen (aCons (fC (.int 0)) (aCons (fC (.int 1)) (aCons (fVar 21) (aCons (fVar 19) aNil))))) id (heA LE (Str.ofString "other"))) (aCons (fIf (fTst (fBin gLtX (fCall gLen (aCons (fBor 15) aNil)) (fC (.int 9)))) (fTup (aCons (fVar 2) (aCons (fVar 15) aNil))) (fC (.str (Str.ofString "other")))) aNil))))) (sRet (fC (.bool false))) sNil)
    (sSeq (sSet 6 (xLst aNil))
    (sSeq (sFor (fSeq (fVar 5)) (gtName 8) (sApp 6 (fIf (fTst (fBin gIsN (fBor 8) (fC .none))) (fC .none) (fTup (aCons (fBin gAt (fBor 8) (fC (.int 0))) (aCons (fCall gTupOf (aCons (fOfX (xLc (fSeq (fBin gAt (fBor 8) (fC (.int 1)))) (gtName 24) tYesF (fBin gAdd (fSl (fBor 24) oNone (oSome (fC (.int 2)))) (fTup (aCons (fIf (fTst (fBin gIsN (fBin gAt (fBor 5) (fBin gAt (fBor 24) (fC (.int 2)))) (fC .none))) (fC (.int 0)) (fBin gAt (fBor 24) (fC (.int 2)))) aNil))) [24])) aNil)) aNil))))))
    (sSeq (sIf (tNotF (fTru (fCall (m_law_alike 9) (aCons (fCall m_repeated (aCons (fVar 21) aNil)) (aCons (fTup (aCons (fVar 2) (aCons (fCall gTupOf (aCons (fBor 6) aNil)) aNil))) aNil))))) (sRet (fC (.bool false))) sNil)
    (sSeq (sSet 16 (xVal (fBin gAt (fBor 5) (fBin gAt (fBin gAt (fBor 11) (fC (.int 0))) (fC (.int 2))))))
    (sSeq (sSet 17 (xVal (fAnd (fBin gEq (fCall gLen (aCons (fBor 11) aNil)) (fC (.int 1))) (fAnd (fBin gNotN (fBor 16) (fC .none)) (fAnd (fBin gEq (fCall gLen (aCons (fBin gAt (fBor 16) (fC (.int 1))) aNil)) (fC (.int 1))) (fBin gEq (fOfX (xLc (fSeq (fTup (aCons (fVar 10) (aCons (fBin gAt (fBin gAt (fBor 11) (fC (.int 0))) (fC (.int 0))) aNil)))) (gtName 23) (fTst (fBin gInA (fBor 23) (fTup (aCons (fBin gAt (fBor 16) (fC (.int 0))) (aCons (fBin gAt (fBin gAt (fBin gAt (fBor 16) (fC (.int 1))) (fC (.int 0))) (fC (.int 0))) aNil))))) (fVar 23) [23])) (fLst aNil)))))))
    (sSeq (sSet 18 (xVal (fC .none)))
    (sSeq (sIf (fTru (fBor 17)) (sSet 18 (xVal (fTup (aCons (fVar 2) (aCons (fBin gAdd (fBin gAdd (fBin gAdd (fSl (fBor 5) oNone (oSome (fVar 22))) (fTup (aCons (fTup (aCons (fBin gAt (fBor 16) (fC (.int 0))) (aCons (fTup (aCons (fBin gAdd (fSl (fBin gAt (fBin gAt (fBor 16) (fC (.int 1))) (fC (.int 0))) oNone (oSome (fC (.int 2)))) (fTup (aCons (fCall gLen (aCons (fBor 5) aNil)) aNil))) aNil)) aNil))) aNil))) (fSl (fBor 5) (oSome (fBin gAdd (fBor 22) (fC (.int 1)))) oNone)) (fTup (aCons (fTup (aCons (fVar 10) (aCons (fTup (aCons (fBin gAdd (fSl (fBin gAt (fBor 11) (fC (.int 0))) oNone (oSome (fC (.int 2)))) (fTup (aCons (fBin gAt (fBin gAt (fBin gAt (fBor 16) (fC (.int 1))) (fC (.int 0))) (fC (.int 2))) aNil))) aNil)) aNil))) aNil))) aNil))))) sNil)
    (sRet (fCall (m_law_alike 9) (aCons (fTold (fCall m_swapped (aCons (fVar 21) (aCons (fVar 22) aNil))) (xCall mx_swapped (aCons (fVar 21) (aCons (fVar 22) aNil))) id (heA LE (Str.ofString "other"))) (aCons (fVar 18) aNil))))))))))))))))))))))))))))
end Lw
namespace Lw
open PySem PySem.Spec PyProof.Rows L2 RT
def topS (i : Nat) : Stmt := PySem.Challenge.pw_roletalks_k20_whole_changes.main.body.getD i (.Pass ⟨0, 0, 0, 0⟩)
theorem v_all : bootBuiltins "all" = some (.builtin "all") := by decide +kernel
theorem v_bool : bootBuiltins "bool" = some (.type "bool") := by decide +kernel
theorem v_int : bootBuiltins "int" = some (.type "int") := by decide +kernel
theorem v_len : bootBuiltins "len" = some (.builtin "len") := by decide +kernel
theorem v_list : bootBuiltins "list" = some (.type "list") := by decide +kernel
theorem v_sorted : bootBuiltins "sorted" = some (.builtin "sorted") := by decide +kernel
theorem v_str : bootBuiltins "str" = some (.type "str") := by decide +kernel
theorem v_tuple : bootBuiltins "tuple" = some (.type "tuple") := by decide +kernel
abbrev s_law_taken : Stmt := topS 46
abbrev N_law_taken : List Str := ["row", "many", "found", "cell"]
theorem sc_law_taken : FnScope N_law_taken ["row", "many"] (defScope s_law_taken) := ⟨rfl, rfl, rfl, by decide +kernel, rfl, by decide +kernel, by decide +kernel⟩
abbrev s_law_alike : Stmt := topS 47
abbrev N_law_alike : List Str := ["found", "due", "k"]
theorem sc_law_alike : FnScope N_law_alike ["found", "due"] (defScope s_law_alike) := ⟨rfl, rfl, rfl, by decide +kernel, rfl, by decide +kernel, by decide +kernel⟩
abbrev s_law_scene : Stmt := topS 49
abbrev N_law_scene : List Str := ["row", "actors", "at", "size", "loops", "speaker", "heads", "turn", "hearer", "spot", "head"]
theorem sc_law_scene : FnScope N_law_scene ["row", "actors", "at", "size", "loops"] (defScope s_law_scene) := ⟨rfl, rfl, rfl, by decide +kernel, rfl, by decide +kernel, by decide +kernel⟩
abbrev s_law_script : Stmt := topS 50
abbrev N_law_script : List Str := ["row", "actors", "most", "loops", "size", "at"]
theorem sc_law_script : FnScope N_law_script ["row", "actors", "most", "loops"] (defScope s_law_script) := ⟨rfl, rfl, rfl, by decide +kernel, rfl, by decide +kernel, by decide +kernel⟩
abbrev s_law_order : Stmt := topS 48
abbrev N_law_order : List Str := ["row", "many", "left", "found", "turn"]
theorem sc_law_order : FnScope N_law_order ["row", "many"] (defScope s_law_order) := ⟨rfl, rfl, rfl, by decide +kernel, rfl, by decide +kernel, by decide +kernel⟩
abbrev s_law_moved : Stmt := topS 52
abbrev N_law_moved : List Str := ["told", "base", "branch"]
theorem sc_law_moved : FnScope N_law_moved ["told", "base"] (defScope s_law_moved) := ⟨rfl, rfl, rfl, by decide +kernel, rfl, by decide +kernel, by decide +kernel⟩
abbrev s_law_told : Stmt := topS 51
abbrev N_law_told : List Str := ["work", "e"]
theorem sc_law_told : FnScope N_law_told ["work"] (defScope s_law_told) := ⟨rfl, rfl, rfl, by decide +kernel, rfl, by decide +kernel, by decide +kernel⟩
abbrev s_has_items : Stmt := topS 12
abbrev N_has_items : List Str := ["value", "least", "most"]
theorem sc_has_items : FnScope N_has_items ["value", "least", "most"] (defScope s_has_items) := ⟨rfl, rfl, rfl, by decide +kernel, rfl, by decide +kernel, by decide +kernel⟩
abbrev s_is_number : Stmt := topS 11
abbrev N_is_number : List Str := ["value", "least", "most"]
theorem sc_is_number : FnScope N_is_number ["value", "least", "most"] (defScope s_is_number) := ⟨rfl, rfl, rfl, by decide +kernel, rfl, by decide +kernel, by decide +kernel⟩
abbrev s_has_script_form : Stmt := topS 20
abbrev N_has_script_form : List Str := ["value", "actors", "scenes"]
theorem sc_has_script_form : FnScope N_has_script_form ["value"] (defScope s_has_script_form) := ⟨rfl, rfl, rfl, by decide +kernel, rfl, by decide +kernel, by decide +kernel⟩
abbrev s_is_rising : Stmt := topS 13
abbrev N_is_rising : List Str := ["values", "at"]
theorem sc_is_rising : FnScope N_is_rising ["values"] (defScope s_is_rising) := ⟨rfl, rfl, rfl, by decide +kernel, rfl, by decide +kernel, by decide +kernel⟩
abbrev s_is_talk : Stmt := topS 23
abbrev N_is_talk : List Str := ["value", "actors", "speaker", "hearer", "word"]
theorem sc_is_talk : FnScope N_is_talk ["value", "actors"] (defScope s_is_talk) := ⟨rfl, rfl, rfl, by decide +kernel, rfl, by decide +kernel, by decide +kernel⟩
abbrev s_is_branch : Stmt := topS 22
abbrev N_is_branch : List Str := ["value", "speaker", "actors", "many", "hearer", "word", "there"]
theorem sc_is_branch : FnScope N_is_branch ["value", "speaker", "actors", "many"] (defScope s_is_branch) := ⟨rfl, rfl, rfl, by decide +kernel, rfl, by decide +kernel, by decide +kernel⟩
abbrev s_is_scene : Stmt := topS 21
abbrev N_is_scene : List Str := ["value", "actors", "many", "speaker", "branches", "branch"]
theorem sc_is_scene : FnScope N_is_scene ["value", "actors", "many"] (defScope s_is_scene) := ⟨rfl, rfl, rfl, by decide +kernel, rfl, by decide +kernel, by decide +kernel⟩
abbrev s_check_script : Stmt := topS 19
abbrev N_check_script : List Str := ["script", "actors", "scenes", "index", "scene"]
theorem sc_check_script : FnScope N_check_script ["script"] (defScope s_check_script) := ⟨rfl, rfl, rfl, by decide +kernel, rfl, by decide +kernel, by decide +kernel⟩
abbrev s_check_names : Stmt := topS 27
abbrev N_check_names : List Str := ["names", "many", "name"]
theorem sc_check_names : FnScope N_check_names ["names", "many"] (defScope s_check_names) := ⟨rfl, rfl, rfl, by decide +kernel, rfl, by decide +kernel, by decide +kernel⟩
abbrev s_with_new_names : Stmt := topS 28
abbrev N_with_new_names : List Str := ["script", "actors", "words", "many", "scenes", "changed", "scene", "speaker", "branches", "named", "hearer", "word", "there"]
theorem sc_with_new_names : FnScope N_with_new_names ["script", "actors", "words"] (defScope s_with_new_names) := ⟨rfl, rfl, rfl, by decide +kernel, rfl, by decide +kernel, by decide +kernel⟩
abbrev s_renamed_actors : Stmt := topS 29
abbrev N_renamed_actors : List Str := ["script", "names"]
theorem sc_renamed_actors : FnScope N_renamed_actors ["script", "names"] (defScope s_renamed_actors) := ⟨rfl, rfl, rfl, by decide +kernel, rfl, by decide +kernel, by decide +kernel⟩
abbrev s_renamed_words : Stmt := topS 30
abbrev N_renamed_words : List Str := ["script", "names"]
theorem sc_renamed_words : FnScope N_renamed_words ["script", "names"] (defScope s_renamed_words) := ⟨rfl, rfl, rfl, by decide +kernel, rfl, by decide +kernel, by decide +kernel⟩
abbrev s_check_scene : Stmt := topS 24
abbrev N_check_scene : List Str := ["scene", "script"]
theorem sc_check_scene : FnScope N_check_scene ["scene", "script"] (defScope s_check_scene) := ⟨rfl, rfl, rfl, by decide +kernel, rfl, by decide +kernel, by decide +kernel⟩
abbrev s_branches_of : Stmt := topS 31
abbrev N_branches_of : List Str := ["scene", "_", "branches"]
theorem sc_branches_of : FnScope N_branches_of ["scene"] (defScope s_branches_of) := ⟨rfl, rfl, rfl, by decide +kernel, rfl, by decide +kernel, by decide +kernel⟩
abbrev s_check_branch : Stmt := topS 32
abbrev N_check_branch : List Str := ["script", "scene", "place"]
theorem sc_check_branch : FnScope N_check_branch ["script", "scene", "place"] (defScope s_check_branch) := ⟨rfl, rfl, rfl, by decide +kernel, rfl, by decide +kernel, by decide +kernel⟩
abbrev s_replaced : Stmt := topS 33
abbrev N_replaced : List Str := ["values", "at", "value"]
theorem sc_replaced : FnScope N_replaced ["values", "at", "value"] (defScope s_replaced) := ⟨rfl, rfl, rfl, by decide +kernel, rfl, by decide +kernel, by decide +kernel⟩
abbrev s_with_branches : Stmt := topS 34
abbrev N_with_branches : List Str := ["script", "scene", "branches", "actors", "scenes", "speaker", "_"]
theorem sc_with_branches : FnScope N_with_branches ["script", "scene", "branches"] (defScope s_with_branches) := ⟨rfl, rfl, rfl, by decide +kernel, rfl, by decide +kernel, by decide +kernel⟩
abbrev s_led : Stmt := topS 36
abbrev N_led : List Str := ["script", "scene", "place", "there", "branches", "hearer", "word", "_"]
theorem sc_led : FnScope N_led ["script", "scene", "place", "there"] (defScope s_led) := ⟨rfl, rfl, rfl, by decide +kernel, rfl, by decide +kernel, by decide +kernel⟩
abbrev s_renamed_scene : Stmt := topS 25
abbrev N_renamed_scene : List Str := ["scene", "names", "speaker", "branches", "hearer", "word", "there"]
theorem sc_renamed_scene : FnScope N_renamed_scene ["scene", "names"] (defScope s_renamed_scene) := ⟨rfl, rfl, rfl, by decide +kernel, rfl, by decide +kernel, by decide +kernel⟩
abbrev s_repeated : Stmt := topS 44
abbrev N_repeated : List Str := ["script", "actors", "scenes", "names", "at", "scene"]
theorem sc_repeated : FnScope N_repeated ["script"] (defScope s_repeated) := ⟨rfl, rfl, rfl, by decide +kernel, rfl, by decide +kernel, by decide +kernel⟩
abbrev s_only_talk : Stmt := topS 37
abbrev N_only_talk : List Str := ["scene", "speaker", "branches", "hearer", "word", "there"]
theorem sc_only_talk : FnScope N_only_talk ["scene"] (defScope s_only_talk) := ⟨rfl, rfl, rfl, by decide +kernel, rfl, by decide +kernel, by decide +kernel⟩
abbrev s_check_scenes : Stmt := topS 39
abbrev N_check_scenes : List Str := ["many"]
theorem sc_check_scenes : FnScope N_check_scenes ["many"] (defScope s_check_scenes) := ⟨rfl, rfl, rfl, by decide +kernel, rfl, by decide +kernel, by decide +kernel⟩
abbrev s_swapped : Stmt := topS 38
abbrev N_swapped : List Str := ["script", "scene", "actors", "scenes", "speaker", "hearer", "word", "there", "later_speaker", "later_hearer", "later_word", "last", "first"]
theorem sc_swapped : FnScope N_swapped ["script", "scene"] (defScope s_swapped) := ⟨rfl, rfl, rfl, by decide +kernel, rfl, by decide +kernel, by decide +kernel⟩
abbrev s_without : Stmt := topS 35
abbrev N_without : List Str := ["script", "scene", "place", "branches"]
theorem sc_without : FnScope N_without ["script", "scene", "place"] (defScope s_without) := ⟨rfl, rfl, rfl, by decide +kernel, rfl, by decide +kernel, by decide +kernel⟩
abbrev s_check_actors_alike : Stmt := topS 40
abbrev N_check_actors_alike : List Str := ["one", "other"]
theorem sc_check_actors_alike : FnScope N_check_actors_alike ["one", "other"] (defScope s_check_actors_alike) := ⟨rfl, rfl, rfl, by decide +kernel, rfl, by decide +kernel, by decide +kernel⟩
abbrev s_moved : Stmt := topS 41
abbrev N_moved : List Str := ["scenes", "by", "names", "at", "scene"]
theorem sc_moved : FnScope N_moved ["scenes", "by"] (defScope s_moved) := ⟨rfl, rfl, rfl, by decide +kernel, rfl, by decide +kernel, by decide +kernel⟩
abbrev s_followed_by : Stmt := topS 42
abbrev N_followed_by : List Str := ["one", "other", "actors", "scenes", "later", "scene"]
theorem sc_followed_by : FnScope N_followed_by ["one", "other"] (defScope s_followed_by) := ⟨rfl, rfl, rfl, by decide +kernel, rfl, by decide +kernel, by decide +kernel⟩
abbrev s_check_actor : Stmt := topS 14
abbrev N_check_actor : List Str := ["value", "actors"]
theorem sc_check_actor : FnScope N_check_actor ["value", "actors"] (defScope s_check_actor) := ⟨rfl, rfl, rfl, by decide +kernel, rfl, by decide +kernel, by decide +kernel⟩
abbrev s_chosen : Stmt := topS 43
abbrev N_chosen : List Str := ["speaker", "hearer", "one", "other", "actors", "scenes", "behind", "first"]
theorem sc_chosen : FnScope N_chosen ["speaker", "hearer", "one", "other"] (defScope s_chosen) := ⟨rfl, rfl, rfl, by decide +kernel, rfl, by decide +kernel, by decide +kernel⟩
abbrev s_law : Stmt := topS 53
abbrev N_law : List Str := ["script", "row", "actors", "names", "words", "scenes", "due", "thin", "told", "spot", "speaker", "branches", "less", "more", "behind", "line", "after", "fit", "goal", "other", "place", "play", "scene", "a", "branch", "to", "word"]
theorem sc_law : FnScope N_law ["script"] (defScope s_law) := ⟨rfl, rfl, rfl, by decide +kernel, rfl, by decide +kernel, by decide +kernel⟩
section
abbrev s_EBadScript : Stmt := inClass (topS 2) 0
theorem sc_EBadScript : FnScope ["self", "index"] ["self", "index"] (defScope s_EBadScript) := ⟨rfl, rfl, rfl, by decide +kernel, rfl, by decide +kernel, by decide +kernel⟩
abbrev s_ETooMany : Stmt := inClass (topS 8) 0
theorem sc_ETooMany : FnScope ["self", "most"] ["self", "most"] (defScope s_ETooMany) := ⟨rfl, rfl, rfl, by decide +kernel, rfl, by decide +kernel, by decide +kernel⟩
variable {P : Program} {w : World} {K : PySem.W.Frag} {mg : Str → Option Value} {base : Heap}
theorem ok_law_taken {f : Addr} {fd : FuncData} {k : Nat} (F : Fun K "_law_taken" "_law_taken" s_law_taken f fd) (z_int : mg "int" = none) (z_len : mg "len" = none) : FnOk P w K mg base CX0 (k + 1) f fd ["row", "many"] (spR K m_law_taken) := by
  refine RT.ok_fnR F sc_law_taken (by decide) (by decide) (fun cdv A outer s H E hr => ?_)
  unfold b_law_taken
  exact sss_cons (ss_if (st_cmp od_gt (sb_of (se_row (i := 0))) (sb_of se_int) (nomark _)) (sss_cons (ss_set (i := 2) (sc_law_taken.nd) rfl (by first | exact Or.inl rfl | exact Or.inr rfl) (sx_of (se_op od_mod (sb_of (se_callTy cd_int (by rfl) z_int v_int (sbs_cons (sb_of (se_row (i := 0))) sbs_nil))) (sb_var 1))))
      (sss_cons (ss_row (i := 0) (se_op od_div (sb_of (se_row (i := 0))) (sb_var 1)))
      (sss_one (ss_ret (se_var 2))))) sss_nil)
      (sss_cons (ss_row (i := 0) (se_op od_addA (sb_of (se_row (i := 0))) (sb_of se_int)))
      (sss_cons (ss_if (st_cmp od_gt (sb_of (se_row (i := 0))) (sb_of (se_rowlen (i := 0) (by rfl) z_len)) (nomark _)) (sss_cons (ss_row (i := 0) (se_op od_mod (sb_of (se_callTy cd_int (by rfl) z_int v_int (sbs_cons (sb_of (se_op od_addA (sb_of (se_op od_mulA (sb_of (se_row (i := 0))) (sb_of se_int))) (sb_of se_int))) sbs_nil))) (sb_of se_int)))
      (sss_one (ss_ret (se_op od_mod (sb_of (se_callTy cd_int (by rfl) z_int v_int (sbs_cons (sb_of (se_op od_div (sb_of (se_row (i := 0))) (sb_of se_int))) sbs_nil))) (sb_var 1))))) sss_nil)
      (sss_cons (ss_set (i := 3) (sc_law_taken.nd) rfl (by first | exact Or.inl rfl | exact Or.inr rfl) (sx_of (se_rowat (i := 0) (se_op od_sub (sb_of (se_row (i := 0))) (sb_of se_int)))))
      (sss_cons (ss_row (i := 0) (se_op od_mod (sb_of (se_callTy cd_int (by rfl) z_int v_int (sbs_cons (sb_of (se_op od_addA (sb_of (se_op od_addA (sb_of (se_op od_mulA (sb_of (se_row (i := 0))) (sb_of se_int))) (sb_var 3))) (sb_of se_int))) sbs_nil))) (sb_of se_int)))
      (sss_cons (ss_if (st_cmp od_ge (sb_var 3) (sb_of (se_op od_pow (sb_of se_int) (sb_of se_int))) (nomark _)) (sss_one (ss_row (i := 0) (se_op od_div (sb_var 3) (sb_var 1)))) sss_nil)
      (sss_one (ss_ret (se_op od_mod (sb_of (se_callTy cd_int (by rfl) z_int v_int (sbs_cons (sb_var 3) sbs_nil))) (sb_var 1)))))))))
theorem okr_law_alike {f : Addr} {fd : FuncData} {k : Nat} {rec : List D → Option D} (F : Fun K "_law_alike" "_law_alike" s_law_alike f fd) (c_law_alike : Callee P w K mg base k "_law_alike" (spF K rec)) (z_isinstance : mg "isinstance" = none) (z_bool : mg "bool" = none) (z_int : mg "int" = none) (z_str : mg "str" = none) (z_tuple : mg "tuple" = none) (z_list : mg "list" = none) (z_range : mg "range" = none) (z_len : mg "len" = none) : FnOk P w K mg base CX0 (k + 1) f fd ["found", "due"] (spF K (mkF 3 2 (b_law_alike rec))) := by
  refine RT.ok_fn F sc_law_alike (fun cdv A outer s H E hr => ?_)
  unfold b_law_alike
  exact sss_cons (ss_if (st_tru (sb_of (se_isi2 (T := .tuple) (U := .list) (by rfl) z_isinstance (sb_var 1) (by rfl) z_tuple v_tuple (by rfl) z_list v_list))) (sss_cons (ss_if (st_w (sw_or (st_not (st_tru (sb_of (se_isi2 (T := .tuple) (U := .list) (by rfl) z_isinstance (sb_var 0) (by rfl) z_tuple v_tuple (by rfl) z_list v_list)))) (sw_or1 (st_cmp (od_ne hr.units) (sb_of (se_isi (T := .list) (by rfl) z_isinstance (sb_var 0) (by rfl) z_list v_list)) (sb_of (se_isi (T := .list) (by rfl) z_isinstance (sb_var 1) (by rfl) z_list v_list)) (nomark _))))) (sss_one (ss_ret se_bl)) sss_nil)
      (sss_cons (ss_if (st_cmp (od_ne hr.units) (sb_of (se_callB cd_len (by rfl) z_len v_len (sbs_cons (sb_var 0) sbs_nil))) (sb_of (se_callB cd_len (by rfl) z_len v_len (sbs_cons (sb_var 1) sbs_nil))) (nomark _)) (sss_one (ss_ret se_bl)) sss_nil)
      (sss_one (ss_ret (se_cmp (od_eq hr.units) (sb_of (se_ofX (sx_lc (own := [("k", 2)]) rfl (sc_law_alike.nd) (si_rg1 (by rfl) z_range (se_callB cd_len (by rfl) z_len v_len (sbs_cons (sb_var 1) sbs_nil))) (blkOk_by (own := [("k", 2)]) (N := N_law_alike) (sc := defScope s_law_alike) (by decide +kernel)) (fun _ _ _ _ _ => sg_name 2 (vs := [2]) (sc_law_alike.nd) rfl (by first | exact Or.inl rfl | exact Or.inr rfl) (by decide)) (fun _ _ _ _ _ => sts_one (st_not (st_tru (sb_of (se_call c_law_alike hr (by rfl) (sa_cons (se_at (hu_of hr) (sb_var 0) (sb_var 2)) (sa_cons (se_at (hu_of hr) (sb_var 1) (sb_var 2)) sa_nil))))))) (fun _ _ _ _ _ => se_var 2)))) (sb_of (se_lst sa_nil)) (nomark _)))))) sss_nil)
      (sss_cons (ss_if (st_w (sw_or (st_cmp od_isN (sb_var 1) (sb_of se_non) (nomark _)) (sw_or1 (st_tru (sb_of (se_isi (T := .str) (by rfl) z_isinstance (sb_var 1) (by rfl) z_str v_str)))))) (sss_one (ss_ret (se_and (se_cmp (od_eq hr.units) (sb_var 0) (sb_var 1) (nomark _)) (se_one (se_cmp (od_eq hr.units) (sb_of (se_isi (T := .str) (by rfl) z_isinstance (sb_var 0) (by rfl) z_str v_str)) (sb_of (se_isi (T := .str) (by rfl) z_isinstance (sb_var 1) (by rfl) z_str v_str)) (nomark _)))))) sss_nil)
      (sss_one (ss_ret (se_and (se_isi (T := .int) (by rfl) z_isinstance (sb_var 0) (by rfl) z_int v_int) (se_and (se_cmp (od_eq hr.units) (sb_of (se_isi (T := .bool) (by rfl) z_isinstance (sb_var 0) (by rfl) z_bool v_bool)) (sb_of (se_isi (T := .bool) (by rfl) z_isinstance (sb_var 1) (by rfl) z_bool v_bool)) (nomark _)) (se_one (se_cmp (od_eq hr.units) (sb_var 0) (sb_var 1) (nomark _))))))))
theorem ok_law_alike {f : Addr} {fd : FuncData} {k : Nat} (F : Fun K "_law_alike" "_law_alike" s_law_alike f fd) (hm : mg "_law_alike" = some (.ref f)) (hb : Binds K fd ["found", "due"] []) (z_isinstance : mg "isinstance" = none) (z_bool : mg "bool" = none) (z_int : mg "int" = none) (z_str : mg "str" = none) (z_tuple : mg "tuple" = none) (z_list : mg "list" = none) (z_range : mg "range" = none) (z_len : mg "len" = none) : ∀ n : Nat, FnOk P w K mg base CX0 (k + n) f fd ["found", "due"] (spF K (m_law_alike n))
  | 0 => ok_none
  | n + 1 => okr_law_alike (k := k + n) F ⟨f, fd, _, ok_law_alike F hm hb z_isinstance z_bool z_int z_str z_tuple z_list z_range z_len n, hm, F.kp, hb⟩ z_isinstance z_bool z_int z_str z_tuple z_list z_range z_len
theorem ok_law_scene {f : Addr} {fd : FuncData} {k : Nat} (F : Fun K "_law_scene" "_law_scene" s_law_scene f fd) (c_law_taken : Callee P w K mg base k "_law_taken" (spR K m_law_taken)) (z_tuple : mg "tuple" = none) (z_sorted : mg "sorted" = none) (z_list : mg "list" = none) (z_range : mg "range" = none) (z_int : mg "int" = none) : FnOk P w K mg base CX0 (k + 1) f fd ["row", "actors", "at", "size", "loops"] (spR K m_law_scene) := by
  refine RT.ok_fnR F sc_law_scene (by decide) (by decide) (fun cdv A outer s H E hr => ?_)
  unfold b_law_scene
  exact sss_cons (ss_parT (is := [5, 6]) rfl (sc_law_scene.nd) (.cons rfl (by first | exact Or.inl rfl | exact Or.inr rfl) (Or.inl rfl) rfl (.cons rfl (by first | exact Or.inl rfl | exact Or.inr rfl) (Or.inl rfl) rfl .nil)) (sxs_cons (sx_of (se_callR (i := 0) c_law_taken hr (by rfl) (sa_cons (se_var 1) sa_nil))) (sxs_cons sx_dT sxs_nil)) (by decide) rfl rfl rfl rfl rfl)
      (sss_cons (ss_for PassesOwn.never rfl (si_rg1 (by rfl) z_range (se_op od_addA (sb_of se_int) (sb_of (se_callR (i := 0) c_law_taken hr (by rfl) (sa_cons se_int sa_nil))))) (sg_name 7 (vs := [7]) (sc_law_scene.nd) rfl (by first | exact Or.inl rfl | exact Or.inr rfl) (by decide)) (sss_cons (ss_set (i := 8) (sc_law_scene.nd) rfl (by first | exact Or.inl rfl | exact Or.inr rfl) (sx_of (se_op od_mod (sb_of (se_callTy cd_int (by rfl) z_int v_int (sbs_cons (sb_of (se_op od_addA (sb_of (se_op od_addA (sb_var 5) (sb_of se_int))) (sb_of (se_callR (i := 0) c_law_taken hr (by rfl) (sa_cons (se_op od_sub (sb_var 1) (sb_of se_int)) sa_nil))))) sbs_nil))) (sb_var 1))))
      (sss_cons (ss_set (i := 9) (sc_law_scene.nd) rfl (by first | exact Or.inl rfl | exact Or.inr rfl) (sx_of (se_if (st_tru (sb_var 4)) (se_callR (i := 0) c_law_taken hr (by rfl) (sa_cons (se_op od_addA (sb_var 3) (sb_of se_int)) sa_nil)) (se_op od_addA (sb_of (se_op od_addA (sb_var 2) (sb_of se_int))) (sb_of (se_callR (i := 0) c_law_taken hr (by rfl) (sa_cons (se_op od_sub (sb_var 3) (sb_var 2)) sa_nil)))))))
      (sss_one (ss_dput (i := 6) (hu_of hr) (se_var 9) (se_tup (sa_cons (se_var 8) (sa_cons (se_callR (i := 0) c_law_taken hr (by rfl) (sa_cons se_int sa_nil)) sa_nil))))))))
      (sss_one (ss_ret (se_tup (sa_cons (se_var 5) (sa_cons (se_callTy cd_tuple (by rfl) z_tuple v_tuple (sbs_cons (sb_of (se_callB (cd_sortX (room66 hr)) (by rfl) z_sorted v_sorted (sbs_cons (sb_of (se_ofX (sx_lc (own := [("head", 10)]) rfl (sc_law_scene.nd) (si_seq (se_callTy (cd_list rfl) (by rfl) z_list v_list (sbs_cons (sb_var 6) sbs_nil))) (blkOk_by (own := [("head", 10)]) (N := N_law_scene) (sc := defScope s_law_scene) (by decide +kernel)) (fun _ _ _ _ _ => sg_name 10 (vs := [10]) (sc_law_scene.nd) rfl (by first | exact Or.inl rfl | exact Or.inr rfl) (by decide)) (fun _ _ _ _ _ => sts_nil) (fun _ _ _ _ _ => se_op od_addA (sb_var 10) (sb_of (se_tup (sa_cons (se_at (hu_of hr) (sb_var 6) (sb_var 10)) sa_nil))))))) sbs_nil))) sbs_nil)) sa_nil))))))
theorem ok_law_script {f : Addr} {fd : FuncData} {k : Nat} (F : Fun K "_law_script" "_law_script" s_law_script f fd) (c_law_scene : Callee P w K mg base k "_law_scene" (spR K m_law_scene)) (c_law_taken : Callee P w K mg base k "_law_taken" (spR K m_law_taken)) (z_tuple : mg "tuple" = none) (z_range : mg "range" = none) : FnOk P w K mg base CX0 (k + 1) f fd ["row", "actors", "most", "loops"] (spR K m_law_script) := by
  refine RT.ok_fnR F sc_law_script (by decide) (by decide) (fun cdv A outer s H E hr => ?_)
  unfold b_law_script
  exact sss_cons (ss_set (i := 4) (sc_law_script.nd) rfl (by first | exact Or.inl rfl | exact Or.inr rfl) (sx_of (se_op od_addA (sb_of se_int) (sb_of (se_callR (i := 0) c_law_taken hr (by rfl) (sa_cons (se_var 2) sa_nil))))))
      (sss_one (ss_ret (se_tup (sa_cons (se_var 1) (sa_cons (se_op od_addA (sb_of (se_callTy cd_tuple (by rfl) z_tuple v_tuple (sbs_cons (sb_of (se_ofX (sx_lc (own := [("at", 5)]) rfl (sc_law_script.nd) (si_rg1 (by rfl) z_range (se_var 4)) (blkOk_by (own := [("at", 5)]) (N := N_law_script) (sc := defScope s_law_script) (by decide +kernel)) (fun _ _ _ _ _ => sg_name 5 (vs := [5]) (sc_law_script.nd) rfl (by first | exact Or.inl rfl | exact Or.inr rfl) (by decide)) (fun _ _ _ _ _ => sts_nil) (fun _ _ _ _ _ => se_callR (i := 0) c_law_scene hr (by rfl) (sa_cons (se_var 1) (sa_cons (se_var 5) (sa_cons (se_var 4) (sa_cons (se_var 3) sa_nil)))))))) sbs_nil))) (sb_of (se_tup (sa_cons se_non sa_nil)))) sa_nil)))))
theorem ok_law_order {f : Addr} {fd : FuncData} {k : Nat} (F : Fun K "_law_order" "_law_order" s_law_order f fd) (c_law_taken : Callee P w K mg base k "_law_taken" (spR K m_law_taken)) (z_tuple : mg "tuple" = none) (z_range : mg "range" = none) (z_len : mg "len" = none) (z_list : mg "list" = none) : FnOk P w K mg base CX0 (k + 1) f fd ["row", "many"] (spR K m_law_order) := by
  refine RT.ok_fnR F sc_law_order (by decide) (by decide) (fun cdv A outer s H E hr => ?_)
  unfold b_law_order
  exact sss_cons (ss_par2 (i := 2) (j := 3) rfl (sc_law_order.nd) rfl rfl (by decide) rfl rfl (sxs_cons (sx_lrg1 rfl (by rfl) z_list (by rfl) z_range (se_var 1)) (sxs_cons (sx_lst sa_nil) sxs_nil)) rfl)
      (sss_cons (ss_for PassesOwn.never rfl (si_rg1 (by rfl) z_range (se_var 1)) (sg_name 4 (vs := [4]) (sc_law_order.nd) rfl (by first | exact Or.inl rfl | exact Or.inr rfl) (by decide)) (sss_one (ss_apppop (i := 3) (j := 2) (se_callR (i := 0) c_law_taken hr (by rfl) (sa_cons (se_callB cd_len (by rfl) z_len v_len (sbs_cons (sb_var 2) sbs_nil)) sa_nil)))))
      (sss_one (ss_ret (se_callTy cd_tuple (by rfl) z_tuple v_tuple (sbs_cons (sb_var 3) sbs_nil)))))
theorem ok_law_moved {f : Addr} {fd : FuncData} {k : Nat} (F : Fun K "_law_moved" "_law_moved" s_law_moved f fd) (z_tuple : mg "tuple" = none) : FnOk P w K mg base CX0 (k + 1) f fd ["told", "base"] (spF K m_law_moved) := by
  refine RT.ok_fn F sc_law_moved (fun cdv A outer s H E hr => ?_)
  unfold b_law_moved
  exact sss_one (ss_ret (se_if (st_cmp od_isN (sb_var 0) (sb_of se_non) (nomark _)) se_non (se_tup (sa_cons (se_at (hu_of hr) (sb_var 0) (sb_of se_int)) (sa_cons (se_callTy cd_tuple (by rfl) z_tuple v_tuple (sbs_cons (sb_of (se_ofX (sx_lc (own := [("branch", 2)]) rfl (sc_law_moved.nd) (si_seq (se_at (hu_of hr) (sb_var 0) (sb_of se_int))) (blkOk_by (own := [("branch", 2)]) (N := N_law_moved) (sc := defScope s_law_moved) (by decide +kernel)) (fun _ _ _ _ _ => sg_name 2 (vs := [2]) (sc_law_moved.nd) rfl (by first | exact Or.inl rfl | exact Or.inr rfl) (by decide)) (fun _ _ _ _ _ => sts_nil) (fun _ _ _ _ _ => se_op od_addA (sb_of (se_sl (sb_var 2) so_none (so_some se_int))) (sb_of (se_tup (sa_cons (se_op od_addA (sb_of (se_at (hu_of hr) (sb_var 2) (sb_of se_int))) (sb_var 1)) sa_nil))))))) sbs_nil)) sa_nil)))))
theorem ok_has_items {f : Addr} {fd : FuncData} {k : Nat} (F : Fun K "has_items" "has_items" s_has_items f fd) (z_len : mg "len" = none) (z_isinstance : mg "isinstance" = none) (z_tuple : mg "tuple" = none) : FnOk P w K mg base CX0 (k + 1) f fd ["value", "least", "most"] (spF K m_has_items) := by
  refine RT.ok_fn F sc_has_items (fun cdv A outer s H E hr => ?_)
  unfold b_has_items
  exact sss_one (ss_ret (se_and (se_isi (T := .tuple) (by rfl) z_isinstance (sb_var 0) (by rfl) z_tuple v_tuple) (se_one (se_chain od_le od_le (sb_var 1) (sb_of (se_callB cd_len (by rfl) z_len v_len (sbs_cons (sb_var 0) sbs_nil))) (sb_var 2)))))
theorem ok_is_number {f : Addr} {fd : FuncData} {k : Nat} (F : Fun K "is_number" "is_number" s_is_number f fd) (z_isinstance : mg "isinstance" = none) (z_bool : mg "bool" = none) (z_int : mg "int" = none) : FnOk P w K mg base CX0 (k + 1) f fd ["value", "least", "most"] (spF K m_is_number) := by
  refine RT.ok_fn F sc_is_number (fun cdv A outer s H E hr => ?_)
  unfold b_is_number
  exact sss_one (ss_ret (se_and (se_isi (T := .int) (by rfl) z_isinstance (sb_var 0) (by rfl) z_int v_int) (se_and (se_not (se_isi (T := .bool) (by rfl) z_isinstance (sb_var 0) (by rfl) z_bool v_bool)) (se_one (se_chain od_le od_le (sb_var 1) (sb_var 0) (sb_var 2))))))
theorem ok_has_script_form {f : Addr} {fd : FuncData} {k : Nat} (F : Fun K "has_script_form" "has_script_form" s_has_script_form f fd) (c_has_items : Callee P w K mg base k "has_items" (spF K m_has_items)) (c_is_number : Callee P w K mg base k "is_number" (spF K m_is_number)) {t_MOST_SCENES : Tok} (k_MOST_SCENES : mg "MOST_SCENES" = some (.int 8 t_MOST_SCENES)) {t_MOST_ACTORS : Tok} (k_MOST_ACTORS : mg "MOST_ACTORS" = some (.int 4 t_MOST_ACTORS)) {t_LEAST_ACTORS : Tok} (k_LEAST_ACTORS : mg "LEAST_ACTORS" = some (.int 2 t_LEAST_ACTORS)) : FnOk P w K mg base CX0 (k + 1) f fd ["value"] (spF K m_has_script_form) := by
  refine RT.ok_fn F sc_has_script_form (fun cdv A outer s H E hr => ?_)
  unfold b_has_script_form
  exact sss_cons (ss_if (st_not (st_tru (sb_of (se_call c_has_items hr (by rfl) (sa_cons (se_var 0) (sa_cons se_int (sa_cons se_int sa_nil))))))) (sss_one (ss_ret se_bl)) sss_nil)
      (sss_cons (ss_unp (se_var 0) (sg_tup (n := 2) rfl (sgs_cons (sg_name 1 (vs := [1, 2]) (sc_has_script_form.nd) rfl (by first | exact Or.inl rfl | exact Or.inr rfl) (by decide)) (sgs_cons (sg_name 2 (vs := [1, 2]) (sc_has_script_form.nd) rfl (by first | exact Or.inl rfl | exact Or.inr rfl) (by decide)) sgs_nil))))
      (sss_one (ss_ret (se_and (se_call c_is_number hr (by rfl) (sa_cons (se_var 1) (sa_cons (se_glob (v := .int 2) (by rfl) k_LEAST_ACTORS ⟨_, rfl⟩ (fun _ _ _ => .int _)) (sa_cons (se_glob (v := .int 4) (by rfl) k_MOST_ACTORS ⟨_, rfl⟩ (fun _ _ _ => .int _)) sa_nil)))) (se_one (se_call c_has_items hr (by rfl) (sa_cons (se_var 2) (sa_cons se_int (sa_cons (se_glob (v := .int 8) (by rfl) k_MOST_SCENES ⟨_, rfl⟩ (fun _ _ _ => .int _)) sa_nil)))))))))
theorem ok_is_rising {f : Addr} {fd : FuncData} {k : Nat} (F : Fun K "is_rising" "is_rising" s_is_rising f fd) (z_all : mg "all" = none) (z_range : mg "range" = none) (z_len : mg "len" = none) : FnOk P w K mg base CX0 (k + 1) f fd ["values"] (spF K m_is_rising) := by
  refine RT.ok_fn F sc_is_rising (fun cdv A outer s H E hr => ?_)
  unfold b_is_rising
  exact sss_one (ss_ret (se_callB (cd_all rfl) (by rfl) z_all v_all (sbs_cons (sb_of (se_ofX (sx_lc (own := [("at", 1)]) rfl (sc_is_rising.nd) (si_rg1 (by rfl) z_range (se_op od_sub (sb_of (se_callB cd_len (by rfl) z_len v_len (sbs_cons (sb_var 0) sbs_nil))) (sb_of se_int))) (blkOk_by (own := [("at", 1)]) (N := N_is_rising) (sc := defScope s_is_rising) (by decide +kernel)) (fun _ _ _ _ _ => sg_name 1 (vs := [1]) (sc_is_rising.nd) rfl (by first | exact Or.inl rfl | exact Or.inr rfl) (by decide)) (fun _ _ _ _ _ => sts_nil) (fun _ _ _ _ _ => se_cmp (od_ltX hr.units) (sb_of (se_at (hu_of hr) (sb_var 0) (sb_var 1))) (sb_of (se_at (hu_of hr) (sb_var 0) (sb_of (se_op od_addA (sb_var 1) (sb_of se_int))))) (nomark _))))) sbs_nil)))
theorem ok_is_talk {f : Addr} {fd : FuncData} {k : Nat} (F : Fun K "is_talk" "is_talk" s_is_talk f fd) (c_is_number : Callee P w K mg base k "is_number" (spF K m_is_number)) (c_has_items : Callee P w K mg base k "has_items" (spF K m_has_items)) {t_LAST_WORD : Tok} (k_LAST_WORD : mg "LAST_WORD" = some (.int 5 t_LAST_WORD)) : FnOk P w K mg base CX0 (k + 1) f fd ["value", "actors"] (spF K m_is_talk) := by
  refine RT.ok_fn F sc_is_talk (fun cdv A outer s H E hr => ?_)
  unfold b_is_talk
  exact sss_cons (ss_if (st_not (st_tru (sb_of (se_call c_has_items hr (by rfl) (sa_cons (se_var 0) (sa_cons se_int (sa_cons se_int sa_nil))))))) (sss_one (ss_ret se_bl)) sss_nil)
      (sss_cons (ss_unp (se_var 0) (sg_tup (n := 3) rfl (sgs_cons (sg_name 2 (vs := [2, 3, 4]) (sc_is_talk.nd) rfl (by first | exact Or.inl rfl | exact Or.inr rfl) (by decide)) (sgs_cons (sg_name 3 (vs := [2, 3, 4]) (sc_is_talk.nd) rfl (by first | exact Or.inl rfl | exact Or.inr rfl) (by decide)) (sgs_cons (sg_name 4 (vs := [2, 3, 4]) (sc_is_talk.nd) rfl (by first | exact Or.inl rfl | exact Or.inr rfl) (by decide)) sgs_nil)))))
      (sss_cons (ss_if (st_w (sw_or (st_not (st_tru (sb_of (se_call c_is_number hr (by rfl) (sa_cons (se_var 2) (sa_cons se_int (sa_cons (se_op od_sub (sb_var 1) (sb_of se_int)) sa_nil))))))) (sw_or1 (st_not (st_tru (sb_of (se_call c_is_number hr (by rfl) (sa_cons (se_var 3) (sa_cons se_int (sa_cons (se_op od_sub (sb_var 1) (sb_of se_int)) sa_nil)))))))))) (sss_one (ss_ret se_bl)) sss_nil)
      (sss_one (ss_ret (se_and (se_cmp (od_ne hr.units) (sb_var 2) (sb_var 3) (nomark _)) (se_one (se_call c_is_number hr (by rfl) (sa_cons (se_var 4) (sa_cons se_int (sa_cons (se_glob (v := .int 5) (by rfl) k_LAST_WORD ⟨_, rfl⟩ (fun _ _ _ => .int _)) sa_nil))))))))))
theorem ok_is_branch {f : Addr} {fd : FuncData} {k : Nat} (F : Fun K "is_branch" "is_branch" s_is_branch f fd) (c_is_number : Callee P w K mg base k "is_number" (spF K m_is_number)) (c_is_talk : Callee P w K mg base k "is_talk" (spF K m_is_talk)) (c_has_items : Callee P w K mg base k "has_items" (spF K m_has_items)) : FnOk P w K mg base CX0 (k + 1) f fd ["value", "speaker", "actors", "many"] (spF K m_is_branch) := by
  refine RT.ok_fn F sc_is_branch (fun cdv A outer s H E hr => ?_)
  unfold b_is_branch
  exact sss_cons (ss_if (st_not (st_tru (sb_of (se_call c_has_items hr (by rfl) (sa_cons (se_var 0) (sa_cons se_int (sa_cons se_int sa_nil))))))) (sss_one (ss_ret se_bl)) sss_nil)
      (sss_cons (ss_unp (se_var 0) (sg_tup (n := 3) rfl (sgs_cons (sg_name 4 (vs := [4, 5, 6]) (sc_is_branch.nd) rfl (by first | exact Or.inl rfl | exact Or.inr rfl) (by decide)) (sgs_cons (sg_name 5 (vs := [4, 5, 6]) (sc_is_branch.nd) rfl (by first | exact Or.inl rfl | exact Or.inr rfl) (by decide)) (sgs_cons (sg_name 6 (vs := [4, 5, 6]) (sc_is_branch.nd) rfl (by first | exact Or.inl rfl | exact Or.inr rfl) (by decide)) sgs_nil)))))
      (sss_one (ss_ret (se_and (se_call c_is_talk hr (by rfl) (sa_cons (se_tup (sa_cons (se_var 1) (sa_cons (se_var 4) (sa_cons (se_var 5) sa_nil)))) (sa_cons (se_var 2) sa_nil))) (se_one (se_call c_is_number hr (by rfl) (sa_cons (se_var 6) (sa_cons se_int (sa_cons (se_op od_sub (sb_var 3) (sb_of se_int)) sa_nil)))))))))
theorem ok_is_scene {f : Addr} {fd : FuncData} {k : Nat} (F : Fun K "is_scene" "is_scene" s_is_scene f fd) (c_is_rising : Callee P w K mg base k "is_rising" (spF K m_is_rising)) (c_is_branch : Callee P w K mg base k "is_branch" (spF K m_is_branch)) (c_has_items : Callee P w K mg base k "has_items" (spF K m_has_items)) (z_all : mg "all" = none) (z_len : mg "len" = none) (z_isinstance : mg "isinstance" = none) (z_tuple : mg "tuple" = none) : FnOk P w K mg base CX0 (k + 1) f fd ["value", "actors", "many"] (spF K m_is_scene) := by
  refine RT.ok_fn F sc_is_scene (fun cdv A outer s H E hr => ?_)
  unfold b_is_scene
  exact sss_cons (ss_if (st_cmp od_isN (sb_var 0) (sb_of se_non) (nomark _)) (sss_one (ss_ret se_bl)) sss_nil)
      (sss_cons (ss_if (st_not (st_tru (sb_of (se_call c_has_items hr (by rfl) (sa_cons (se_var 0) (sa_cons se_int (sa_cons se_int sa_nil))))))) (sss_one (ss_ret se_bl)) sss_nil)
      (sss_cons (ss_unp (se_var 0) (sg_tup (n := 2) rfl (sgs_cons (sg_name 3 (vs := [3, 4]) (sc_is_scene.nd) rfl (by first | exact Or.inl rfl | exact Or.inr rfl) (by decide)) (sgs_cons (sg_name 4 (vs := [3, 4]) (sc_is_scene.nd) rfl (by first | exact Or.inl rfl | exact Or.inr rfl) (by decide)) sgs_nil))))
      (sss_cons (ss_if (st_w (sw_or (st_not (st_tru (sb_of (se_isi (T := .tuple) (by rfl) z_isinstance (sb_var 4) (by rfl) z_tuple v_tuple)))) (sw_or1 (st_cmp (od_eq hr.units) (sb_of (se_callB cd_len (by rfl) z_len v_len (sbs_cons (sb_var 4) sbs_nil))) (sb_of se_int) (nomark _))))) (sss_one (ss_ret se_bl)) sss_nil)
      (sss_cons (ss_if (st_not (st_tru (sb_of (se_callB (cd_all rfl) (by rfl) z_all v_all (sbs_cons (sb_of (se_ofX (sx_lc (own := [("branch", 5)]) rfl (sc_is_scene.nd) (si_seq (se_var 4)) (blkOk_by (own := [("branch", 5)]) (N := N_is_scene) (sc := defScope s_is_scene) (by decide +kernel)) (fun _ _ _ _ _ => sg_name 5 (vs := [5]) (sc_is_scene.nd) rfl (by first | exact Or.inl rfl | exact Or.inr rfl) (by decide)) (fun _ _ _ _ _ => sts_nil) (fun _ _ _ _ _ => se_call c_is_branch hr (by rfl) (sa_cons (se_var 5) (sa_cons (se_var 3) (sa_cons (se_var 1) (sa_cons (se_var 2) sa_nil)))))))) sbs_nil))))) (sss_one (ss_ret se_bl)) sss_nil)
      (sss_one (ss_ret (se_call c_is_rising hr (by rfl) (sa_cons (se_ofX (sx_lc (own := [("branch", 5)]) rfl (sc_is_scene.nd) (si_seq (se_var 4)) (blkOk_by (own := [("branch", 5)]) (N := N_is_scene) (sc := defScope s_is_scene) (by decide +kernel)) (fun _ _ _ _ _ => sg_name 5 (vs := [5]) (sc_is_scene.nd) rfl (by first | exact Or.inl rfl | exact Or.inr rfl) (by decide)) (fun _ _ _ _ _ => sts_nil) (fun _ _ _ _ _ => se_sl (sb_var 5) so_none (so_some se_int)))) sa_nil))))))))
theorem okx_check_script {f : Addr} {fd : FuncData} {k : Nat} (F : Fun K "check_script" "check_script" s_check_script f fd) (c_has_script_form : Callee P w K mg base k "has_script_form" (spF K m_has_script_form)) (c_is_scene : Callee P w K mg base k "is_scene" (spF K m_is_scene)) (z_len : mg "len" = none) (z_enumerate : mg "enumerate" = none) (e_BadScript : ErrI P w K mg base "BadScript" "index") (hk2 : 2 ≤ k) : FnOk P w K mg base (L2.CX P w) (k + 1) f fd ["script"] (spX K mx_check_script) := by
  refine RT.ok_fnX F sc_check_script (fun cdv A outer s H E hr => ?_)
  unfold bx_check_script
  exact rss_cons (ss_if (st_not (st_tru (sb_of (se_call c_has_script_form hr (by rfl) (sa_cons (se_var 0) sa_nil))))) (sss_one ss_no) sss_nil) (rs_if (st_not (st_tru (sb_of (se_call c_has_script_form hr (by rfl) (sa_cons (se_var 0) sa_nil))))) (rss_head (rs_raiseI e_BadScript (hr.mono hk2) rfl (takes_of rfl rfl rfl rfl) (by rfl) se_non)) rss_no)
      (rss_cons (ss_unp (se_var 0) (sg_tup (n := 2) rfl (sgs_cons (sg_name 1 (vs := [1, 2]) (sc_check_script.nd) rfl (by first | exact Or.inl rfl | exact Or.inr rfl) (by decide)) (sgs_cons (sg_name 2 (vs := [1, 2]) (sc_check_script.nd) rfl (by first | exact Or.inl rfl | exact Or.inr rfl) (by decide)) sgs_nil)))) rs_no
      (rss_head (rs_for (passes_of rfl) rfl (si_en (by rfl) z_enumerate (se_var 2)) (sg_tup (n := 2) rfl (sgs_cons (sg_name 3 (vs := [3, 4]) (sc_check_script.nd) rfl (by first | exact Or.inl rfl | exact Or.inr rfl) (by decide)) (sgs_cons (sg_name 4 (vs := [3, 4]) (sc_check_script.nd) rfl (by first | exact Or.inl rfl | exact Or.inr rfl) (by decide)) sgs_nil))) (sss_one (ss_if (st_not (st_tru (sb_of (se_call c_is_scene hr (by rfl) (sa_cons (se_var 4) (sa_cons (se_var 1) (sa_cons (se_callB cd_len (by rfl) z_len v_len (sbs_cons (sb_var 2) sbs_nil)) sa_nil))))))) (sss_one ss_no) sss_nil)) (rss_head (rs_if (st_not (st_tru (sb_of (se_call c_is_scene hr (by rfl) (sa_cons (se_var 4) (sa_cons (se_var 1) (sa_cons (se_callB cd_len (by rfl) z_len v_len (sbs_cons (sb_var 2) sbs_nil)) sa_nil))))))) (rss_head (rs_raiseI e_BadScript (hr.mono hk2) rfl (takes_of rfl rfl rfl rfl) (by rfl) (se_var 3))) rss_no)))))
theorem ok_check_script {f : Addr} {fd : FuncData} {k : Nat} (F : Fun K "check_script" "check_script" s_check_script f fd) (c_is_scene : Callee P w K mg base k "is_scene" (spF K m_is_scene)) (c_has_script_form : Callee P w K mg base k "has_script_form" (spF K m_has_script_form)) (z_enumerate : mg "enumerate" = none) (z_len : mg "len" = none) : FnOk P w K mg base CX0 (k + 1) f fd ["script"] (spF K m_check_script) := by
  refine RT.ok_fn F sc_check_script (fun cdv A outer s H E hr => ?_)
  unfold b_check_script
  exact sss_cons (ss_if (st_not (st_tru (sb_of (se_call c_has_script_form hr (by rfl) (sa_cons (se_var 0) sa_nil))))) (sss_one ss_no) sss_nil)
      (sss_cons (ss_unp (se_var 0) (sg_tup (n := 2) rfl (sgs_cons (sg_name 1 (vs := [1, 2]) (sc_check_script.nd) rfl (by first | exact Or.inl rfl | exact Or.inr rfl) (by decide)) (sgs_cons (sg_name 2 (vs := [1, 2]) (sc_check_script.nd) rfl (by first | exact Or.inl rfl | exact Or.inr rfl) (by decide)) sgs_nil))))
      (sss_one (ss_for PassesOwn.never rfl (si_en (by rfl) z_enumerate (se_var 2)) (sg_tup (n := 2) rfl (sgs_cons (sg_name 3 (vs := [3, 4]) (sc_check_script.nd) rfl (by first | exact Or.inl rfl | exact Or.inr rfl) (by decide)) (sgs_cons (sg_name 4 (vs := [3, 4]) (sc_check_script.nd) rfl (by first | exact Or.inl rfl | exact Or.inr rfl) (by decide)) sgs_nil))) (sss_one (ss_if (st_not (st_tru (sb_of (se_call c_is_scene hr (by rfl) (sa_cons (se_var 4) (sa_cons (se_var 1) (sa_cons (se_callB cd_len (by rfl) z_len v_len (sbs_cons (sb_var 2) sbs_nil)) sa_nil))))))) (sss_one ss_no) sss_nil)))))
theorem ok_check_names {f : Addr} {fd : FuncData} {k : Nat} (F : Fun K "check_names" "check_names" s_check_names f fd) (c_is_number : Callee P w K mg base k "is_number" (spF K m_is_number)) (c_has_items : Callee P w K mg base k "has_items" (spF K m_has_items)) (z_len : mg "len" = none) (z_set : mg "set" = none) (z_all : mg "all" = none) : FnOk P w K mg base CX0 (k + 1) f fd ["names", "many"] (spF K m_check_names) := by
  refine RT.ok_fn F sc_check_names (fun cdv A outer s H E hr => ?_)
  unfold b_check_names
  exact sss_cons (ss_if (st_w (sw_or (st_not (st_tru (sb_of (se_call c_has_items hr (by rfl) (sa_cons (se_var 0) (sa_cons (se_var 1) (sa_cons (se_var 1) sa_nil))))))) (sw_or1 (st_not (st_tru (sb_of (se_callB (cd_all rfl) (by rfl) z_all v_all (sbs_cons (sb_of (se_ofX (sx_lc (own := [("name", 2)]) rfl (sc_check_names.nd) (si_seq (se_var 0)) (blkOk_by (own := [("name", 2)]) (N := N_check_names) (sc := defScope s_check_names) (by decide +kernel)) (fun _ _ _ _ _ => sg_name 2 (vs := [2]) (sc_check_names.nd) rfl (by first | exact Or.inl rfl | exact Or.inr rfl) (by decide)) (fun _ _ _ _ _ => sts_nil) (fun _ _ _ _ _ => se_call c_is_number hr (by rfl) (sa_cons (se_var 2) (sa_cons se_int (sa_cons (se_op od_sub (sb_var 1) (sb_of se_int)) sa_nil))))))) sbs_nil)))))))) (sss_one ss_no) sss_nil)
      (sss_one (ss_if (st_cmp (od_ltX hr.units) (sb_of (se_lenS (by rfl) z_len v_len (sn_setT rfl (by rfl) z_set (se_var 0)))) (sb_var 1) (nomark _)) (sss_one ss_no) sss_nil))
theorem ok_with_new_names {f : Addr} {fd : FuncData} {k : Nat} (F : Fun K "with_new_names" "with_new_names" s_with_new_names f fd) (z_tuple : mg "tuple" = none) (z_sorted : mg "sorted" = none) : FnOk P w K mg base CX0 (k + 1) f fd ["script", "actors", "words"] (spF K m_with_new_names) := by
  refine RT.ok_fn F sc_with_new_names (fun cdv A outer s H E hr => ?_)
  unfold b_with_new_names
  exact sss_cons (ss_unp (se_var 0) (sg_tup (n := 2) rfl (sgs_cons (sg_name 3 (vs := [3, 4]) (sc_with_new_names.nd) rfl (by first | exact Or.inl rfl | exact Or.inr rfl) (by decide)) (sgs_cons (sg_name 4 (vs := [3, 4]) (sc_with_new_names.nd) rfl (by first | exact Or.inl rfl | exact Or.inr rfl) (by decide)) sgs_nil))))
      (sss_cons (ss_set (i := 5) (sc_with_new_names.nd) rfl (by first | exact Or.inl rfl | exact Or.inr rfl) (sx_lst sa_nil))
      (sss_cons (ss_for PassesOwn.never rfl (si_seq (se_var 4)) (sg_name 6 (vs := [6]) (sc_with_new_names.nd) rfl (by first | exact Or.inl rfl | exact Or.inr rfl) (by decide)) (sss_one (ss_if (st_cmp od_isN (sb_var 6) (sb_of se_non) (nomark _)) (sss_one (ss_app (i := 5) se_non)) (sss_cons (ss_unp (se_var 6) (sg_tup (n := 2) rfl (sgs_cons (sg_name 7 (vs := [7, 8]) (sc_with_new_names.nd) rfl (by first | exact Or.inl rfl | exact Or.inr rfl) (by decide)) (sgs_cons (sg_name 8 (vs := [7, 8]) (sc_with_new_names.nd) rfl (by first | exact Or.inl rfl | exact Or.inr rfl) (by decide)) sgs_nil))))
      (sss_cons (ss_setLc (i := 9) (own := [("hearer", 10), ("word", 11), ("there", 12)]) rfl (sc_with_new_names.nd) rfl rfl (sw_true rfl rfl rfl (by decide +kernel)) (si_seq (se_var 8)) (blkOk_by (own := [("hearer", 10), ("word", 11), ("there", 12)]) (N := N_with_new_names) (sc := defScope s_with_new_names) (by decide +kernel)) (fun _ _ _ _ _ => sg_tup (n := 3) rfl (sgs_cons (sg_name 10 (vs := [10, 11, 12]) (sc_with_new_names.nd) rfl (by first | exact Or.inl rfl | exact Or.inr rfl) (by decide)) (sgs_cons (sg_name 11 (vs := [10, 11, 12]) (sc_with_new_names.nd) rfl (by first | exact Or.inl rfl | exact Or.inr rfl) (by decide)) (sgs_cons (sg_name 12 (vs := [10, 11, 12]) (sc_with_new_names.nd) rfl (by first | exact Or.inl rfl | exact Or.inr rfl) (by decide)) sgs_nil)))) (fun _ _ _ _ _ => sts_nil) (fun _ _ _ _ _ => se_tup (sa_cons (se_at (hu_of hr) (sb_var 1) (sb_var 10)) (sa_cons (se_at (hu_of hr) (sb_var 2) (sb_var 11)) (sa_cons (se_var 12) sa_nil)))) (tr := (fun f => xVal (fOfX f))) (htr := (.inr rfl)))
      (sss_one (ss_app (i := 5) (se_tup (sa_cons (se_at (hu_of hr) (sb_var 1) (sb_var 7)) (sa_cons (se_callTy cd_tuple (by rfl) z_tuple v_tuple (sbs_cons (sb_of (se_callB (cd_sortX (room66 hr)) (by rfl) z_sorted v_sorted (sbs_cons (sb_var 9) sbs_nil))) sbs_nil)) sa_nil))))))))))
      (sss_one (ss_ret (se_tup (sa_cons (se_var 3) (sa_cons (se_callTy cd_tuple (by rfl) z_tuple v_tuple (sbs_cons (sb_var 5) sbs_nil)) sa_nil)))))))
theorem ok_renamed_actors {f : Addr} {fd : FuncData} {k : Nat} (F : Fun K "renamed_actors" "renamed_actors" s_renamed_actors f fd) (c_with_new_names : Callee P w K mg base k "with_new_names" (spF K m_with_new_names)) (c_check_names : Callee P w K mg base k "check_names" (spF K m_check_names)) (c_check_script : Callee P w K mg base k "check_script" (spF K m_check_script)) (z_list : mg "list" = none) (z_range : mg "range" = none) {t_LAST_WORD : Tok} (k_LAST_WORD : mg "LAST_WORD" = some (.int 5 t_LAST_WORD)) : FnOk P w K mg base CX0 (k + 1) f fd ["script", "names"] (spF K m_renamed_actors) := by
  refine RT.ok_fn F sc_renamed_actors (fun cdv A outer s H E hr => ?_)
  unfold b_renamed_actors
  exact sss_cons (ss_drop (se_call c_check_script hr (by rfl) (sa_cons (se_var 0) sa_nil)))
      (sss_cons (ss_drop (se_call c_check_names hr (by rfl) (sa_cons (se_var 1) (sa_cons (se_at (hu_of hr) (sb_var 0) (sb_of se_int)) sa_nil))))
      (sss_one (ss_ret (se_call c_with_new_names hr (by rfl) (sa_cons (se_var 0) (sa_cons (se_var 1) (sa_cons (se_lrg1 rfl (by rfl) z_list (by rfl) z_range (se_op od_addA (sb_of (se_glob (v := .int 5) (by rfl) k_LAST_WORD ⟨_, rfl⟩ (fun _ _ _ => .int _))) (sb_of se_int))) sa_nil)))))))
theorem ok_renamed_words {f : Addr} {fd : FuncData} {k : Nat} (F : Fun K "renamed_words" "renamed_words" s_renamed_words f fd) (c_with_new_names : Callee P w K mg base k "with_new_names" (spF K m_with_new_names)) (c_check_names : Callee P w K mg base k "check_names" (spF K m_check_names)) (c_check_script : Callee P w K mg base k "check_script" (spF K m_check_script)) (z_list : mg "list" = none) (z_range : mg "range" = none) {t_LAST_WORD : Tok} (k_LAST_WORD : mg "LAST_WORD" = some (.int 5 t_LAST_WORD)) : FnOk P w K mg base CX0 (k + 1) f fd ["script", "names"] (spF K m_renamed_words) := by
  refine RT.ok_fn F sc_renamed_words (fun cdv A outer s H E hr => ?_)
  unfold b_renamed_words
  exact sss_cons (ss_drop (se_call c_check_script hr (by rfl) (sa_cons (se_var 0) sa_nil)))
      (sss_cons (ss_drop (se_call c_check_names hr (by rfl) (sa_cons (se_var 1) (sa_cons (se_op od_addA (sb_of (se_glob (v := .int 5) (by rfl) k_LAST_WORD ⟨_, rfl⟩ (fun _ _ _ => .int _))) (sb_of se_int)) sa_nil))))
      (sss_one (ss_ret (se_call c_with_new_names hr (by rfl) (sa_cons (se_var 0) (sa_cons (se_lrg1 rfl (by rfl) z_list (by rfl) z_range (se_at (hu_of hr) (sb_var 0) (sb_of se_int))) (sa_cons (se_var 1) sa_nil)))))))
theorem okx_check_scene {f : Addr} {fd : FuncData} {k : Nat} (F : Fun K "check_scene" "check_scene" s_check_scene f fd) (c_is_number : Callee P w K mg base k "is_number" (spF K m_is_number)) (z_len : mg "len" = none) (e_BadScene : ErrK K mg "BadScene") : FnOk P w K mg base (L2.CX P w) (k + 1) f fd ["scene", "script"] (spX K mx_check_scene) := by
  refine RT.ok_fnX F sc_check_scene (fun cdv A outer s H E hr => ?_)
  unfold bx_check_scene
  exact rss_head (rs_if (st_not (st_tru (sb_of (se_call c_is_number hr (by rfl) (sa_cons (se_var 0) (sa_cons se_int (sa_cons (se_op od_sub (sb_of (se_callB cd_len (by rfl) z_len v_len (sbs_cons (sb_of (se_at (hu_of hr) (sb_var 1) (sb_of se_int))) sbs_nil))) (sb_of se_int)) sa_nil))))))) (rss_head (rs_raiseF e_BadScene rfl (takes_of rfl rfl rfl rfl) (by rfl) (.con (by decide) (.fld (se_op od_sub (sb_of (se_callB cd_len (by rfl) z_len v_len (sbs_cons (sb_of (se_at (hu_of hr) (sb_var 1) (sb_of se_int))) sbs_nil))) (sb_of se_int)) .nil)))) rss_no)
theorem ok_check_scene {f : Addr} {fd : FuncData} {k : Nat} (F : Fun K "check_scene" "check_scene" s_check_scene f fd) (c_is_number : Callee P w K mg base k "is_number" (spF K m_is_number)) (z_len : mg "len" = none) : FnOk P w K mg base CX0 (k + 1) f fd ["scene", "script"] (spF K m_check_scene) := by
  refine RT.ok_fn F sc_check_scene (fun cdv A outer s H E hr => ?_)
  unfold b_check_scene
  exact sss_one (ss_if (st_not (st_tru (sb_of (se_call c_is_number hr (by rfl) (sa_cons (se_var 0) (sa_cons se_int (sa_cons (se_op od_sub (sb_of (se_callB cd_len (by rfl) z_len v_len (sbs_cons (sb_of (se_at (hu_of hr) (sb_var 1) (sb_of se_int))) sbs_nil))) (sb_of se_int)) sa_nil))))))) (sss_one ss_no) sss_nil)
theorem ok_branches_of {f : Addr} {fd : FuncData} {k : Nat} (F : Fun K "branches_of" "branches_of" s_branches_of f fd) : FnOk P w K mg base CX0 (k + 1) f fd ["scene"] (spF K m_branches_of) := by
  refine RT.ok_fn F sc_branches_of (fun cdv A outer s H E hr => ?_)
  unfold b_branches_of
  exact sss_cons (ss_if (st_cmp od_isN (sb_var 0) (sb_of se_non) (nomark _)) (sss_one (ss_ret (se_tup sa_nil))) sss_nil)
      (sss_cons (ss_unp (se_var 0) (sg_tup (n := 2) rfl (sgs_cons (sg_name 1 (vs := [1, 2]) (sc_branches_of.nd) rfl (by first | exact Or.inl rfl | exact Or.inr rfl) (by decide)) (sgs_cons (sg_name 2 (vs := [1, 2]) (sc_branches_of.nd) rfl (by first | exact Or.inl rfl | exact Or.inr rfl) (by decide)) sgs_nil))))
      (sss_one (ss_ret (se_var 2))))
theorem okx_check_branch {f : Addr} {fd : FuncData} {k : Nat} (F : Fun K "check_branch" "check_branch" s_check_branch f fd) (c_is_number : Callee P w K mg base k "is_number" (spF K m_is_number)) (c_branches_of : Callee P w K mg base k "branches_of" (spF K m_branches_of)) (c_check_scene : Callee P w K mg base k "check_scene" (spF K m_check_scene)) (c_check_script : Callee P w K mg base k "check_script" (spF K m_check_script)) (cx_check_script : CalleeX P w K mg base k "check_script" (spX K mx_check_script)) (cx_check_scene : CalleeX P w K mg base k "check_scene" (spX K mx_check_scene)) (z_len : mg "len" = none) (e_BadBranch : ErrK K mg "BadBranch") : FnOk P w K mg base (L2.CX P w) (k + 1) f fd ["script", "scene", "place"] (spX K mx_check_branch) := by
  refine RT.ok_fnX F sc_check_branch (fun cdv A outer s H E hr => ?_)
  unfold bx_check_branch
  exact rss_cons (ss_drop (se_call c_check_script hr (by rfl) (sa_cons (se_var 0) sa_nil))) (rs_expr (re_call cx_check_script (takes_of rfl rfl rfl rfl) hr (by rfl) (sa_cons (se_var 0) sa_nil)))
      (rss_cons (ss_drop (se_call c_check_scene hr (by rfl) (sa_cons (se_var 1) (sa_cons (se_var 0) sa_nil)))) (rs_expr (re_call cx_check_scene (takes_of rfl rfl rfl rfl) hr (by rfl) (sa_cons (se_var 1) (sa_cons (se_var 0) sa_nil))))
      (rss_head (rs_if (st_not (st_tru (sb_of (se_call c_is_number hr (by rfl) (sa_cons (se_var 2) (sa_cons se_int (sa_cons (se_op od_sub (sb_of (se_callB cd_len (by rfl) z_len v_len (sbs_cons (sb_of (se_call c_branches_of hr (by rfl) (sa_cons (se_at (hu_of hr) (sb_of (se_at (hu_of hr) (sb_var 0) (sb_of se_int))) (sb_var 1)) sa_nil))) sbs_nil))) (sb_of se_int)) sa_nil))))))) (rss_head (rs_raise e_BadBranch rfl (takes_of rfl rfl rfl rfl) (by rfl))) rss_no)))
theorem ok_check_branch {f : Addr} {fd : FuncData} {k : Nat} (F : Fun K "check_branch" "check_branch" s_check_branch f fd) (c_is_number : Callee P w K mg base k "is_number" (spF K m_is_number)) (c_branches_of : Callee P w K mg base k "branches_of" (spF K m_branches_of)) (c_check_scene : Callee P w K mg base k "check_scene" (spF K m_check_scene)) (c_check_script : Callee P w K mg base k "check_script" (spF K m_check_script)) (z_len : mg "len" = none) : FnOk P w K mg base CX0 (k + 1) f fd ["script", "scene", "place"] (spF K m_check_branch) := by
  refine RT.ok_fn F sc_check_branch (fun cdv A outer s H E hr => ?_)
  unfold b_check_branch
  exact sss_cons (ss_drop (se_call c_check_script hr (by rfl) (sa_cons (se_var 0) sa_nil)))
      (sss_cons (ss_drop (se_call c_check_scene hr (by rfl) (sa_cons (se_var 1) (sa_cons (se_var 0) sa_nil))))
      (sss_one (ss_if (st_not (st_tru (sb_of (se_call c_is_number hr (by rfl) (sa_cons (se_var 2) (sa_cons se_int (sa_cons (se_op od_sub (sb_of (se_callB cd_len (by rfl) z_len v_len (sbs_cons (sb_of (se_call c_branches_of hr (by rfl) (sa_cons (se_at (hu_of hr) (sb_of (se_at (hu_of hr) (sb_var 0) (sb_of se_int))) (sb_var 1)) sa_nil))) sbs_nil))) (sb_of se_int)) sa_nil))))))) (sss_one ss_no) sss_nil)))
theorem ok_replaced {f : Addr} {fd : FuncData} {k : Nat} (F : Fun K "replaced" "replaced" s_replaced f fd) : FnOk P w K mg base CX0 (k + 1) f fd ["values", "at", "value"] (spF K m_replaced) := by
  refine RT.ok_fn F sc_replaced (fun cdv A outer s H E hr => ?_)
  unfold b_replaced
  exact sss_one (ss_ret (se_op od_addA (sb_of (se_op od_addA (sb_of (se_sl (sb_var 0) so_none (so_some (se_var 1)))) (sb_of (se_tup (sa_cons (se_var 2) sa_nil))))) (sb_of (se_sl (sb_var 0) (so_some (se_op od_addA (sb_var 1) (sb_of se_int))) so_none))))
theorem ok_with_branches {f : Addr} {fd : FuncData} {k : Nat} (F : Fun K "with_branches" "with_branches" s_with_branches f fd) (c_replaced : Callee P w K mg base k "replaced" (spF K m_replaced)) : FnOk P w K mg base CX0 (k + 1) f fd ["script", "scene", "branches"] (spF K m_with_branches) := by
  refine RT.ok_fn F sc_with_branches (fun cdv A outer s H E hr => ?_)
  unfold b_with_branches
  exact sss_cons (ss_unp (se_var 0) (sg_tup (n := 2) rfl (sgs_cons (sg_name 3 (vs := [3, 4]) (sc_with_branches.nd) rfl (by first | exact Or.inl rfl | exact Or.inr rfl) (by decide)) (sgs_cons (sg_name 4 (vs := [3, 4]) (sc_with_branches.nd) rfl (by first | exact Or.inl rfl | exact Or.inr rfl) (by decide)) sgs_nil))))
      (sss_cons (ss_unp (se_at (hu_of hr) (sb_var 4) (sb_var 1)) (sg_tup (n := 2) rfl (sgs_cons (sg_name 5 (vs := [5, 6]) (sc_with_branches.nd) rfl (by first | exact Or.inl rfl | exact Or.inr rfl) (by decide)) (sgs_cons (sg_name 6 (vs := [5, 6]) (sc_with_branches.nd) rfl (by first | exact Or.inl rfl | exact Or.inr rfl) (by decide)) sgs_nil))))
      (sss_one (ss_ret (se_tup (sa_cons (se_var 3) (sa_cons (se_call c_replaced hr (by rfl) (sa_cons (se_var 4) (sa_cons (se_var 1) (sa_cons (se_tup (sa_cons (se_var 5) (sa_cons (se_var 2) sa_nil))) sa_nil)))) sa_nil))))))
theorem ok_led {f : Addr} {fd : FuncData} {k : Nat} (F : Fun K "led" "led" s_led f fd) (c_with_branches : Callee P w K mg base k "with_branches" (spF K m_with_branches)) (c_replaced : Callee P w K mg base k "replaced" (spF K m_replaced)) (c_branches_of : Callee P w K mg base k "branches_of" (spF K m_branches_of)) (c_check_scene : Callee P w K mg base k "check_scene" (spF K m_check_scene)) (c_check_branch : Callee P w K mg base k "check_branch" (spF K m_check_branch)) : FnOk P w K mg base CX0 (k + 1) f fd ["script", "scene", "place", "there"] (spF K m_led) := by
  refine RT.ok_fn F sc_led (fun cdv A outer s H E hr => ?_)
  unfold b_led
  exact sss_cons (ss_drop (se_call c_check_branch hr (by rfl) (sa_cons (se_var 0) (sa_cons (se_var 1) (sa_cons (se_var 2) sa_nil)))))
      (sss_cons (ss_drop (se_call c_check_scene hr (by rfl) (sa_cons (se_var 3) (sa_cons (se_var 0) sa_nil))))
      (sss_cons (ss_set (i := 4) (sc_led.nd) rfl (by first | exact Or.inl rfl | exact Or.inr rfl) (sx_of (se_call c_branches_of hr (by rfl) (sa_cons (se_at (hu_of hr) (sb_of (se_at (hu_of hr) (sb_var 0) (sb_of se_int))) (sb_var 1)) sa_nil))))
      (sss_cons (ss_unp (se_at (hu_of hr) (sb_var 4) (sb_var 2)) (sg_tup (n := 3) rfl (sgs_cons (sg_name 5 (vs := [5, 6, 7]) (sc_led.nd) rfl (by first | exact Or.inl rfl | exact Or.inr rfl) (by decide)) (sgs_cons (sg_name 6 (vs := [5, 6, 7]) (sc_led.nd) rfl (by first | exact Or.inl rfl | exact Or.inr rfl) (by decide)) (sgs_cons (sg_name 7 (vs := [5, 6, 7]) (sc_led.nd) rfl (by first | exact Or.inl rfl | exact Or.inr rfl) (by decide)) sgs_nil)))))
      (sss_one (ss_ret (se_call c_with_branches hr (by rfl) (sa_cons (se_var 0) (sa_cons (se_var 1) (sa_cons (se_call c_replaced hr (by rfl) (sa_cons (se_var 4) (sa_cons (se_var 2) (sa_cons (se_tup (sa_cons (se_var 5) (sa_cons (se_var 6) (sa_cons (se_var 3) sa_nil)))) sa_nil)))) sa_nil)))))))))
theorem ok_renamed_scene {f : Addr} {fd : FuncData} {k : Nat} (F : Fun K "renamed_scene" "renamed_scene" s_renamed_scene f fd) (z_tuple : mg "tuple" = none) : FnOk P w K mg base CX0 (k + 1) f fd ["scene", "names"] (spF K m_renamed_scene) := by
  refine RT.ok_fn F sc_renamed_scene (fun cdv A outer s H E hr => ?_)
  unfold b_renamed_scene
  exact sss_cons (ss_if (st_cmp od_isN (sb_var 0) (sb_of se_non) (nomark _)) (sss_one (ss_ret se_non)) sss_nil)
      (sss_cons (ss_unp (se_var 0) (sg_tup (n := 2) rfl (sgs_cons (sg_name 2 (vs := [2, 3]) (sc_renamed_scene.nd) rfl (by first | exact Or.inl rfl | exact Or.inr rfl) (by decide)) (sgs_cons (sg_name 3 (vs := [2, 3]) (sc_renamed_scene.nd) rfl (by first | exact Or.inl rfl | exact Or.inr rfl) (by decide)) sgs_nil))))
      (sss_one (ss_ret (se_tup (sa_cons (se_var 2) (sa_cons (se_callTy cd_tuple (by rfl) z_tuple v_tuple (sbs_cons (sb_of (se_ofX (sx_lc (own := [("hearer", 4), ("word", 5), ("there", 6)]) rfl (sc_renamed_scene.nd) (si_seq (se_var 3)) (blkOk_by (own := [("hearer", 4), ("word", 5), ("there", 6)]) (N := N_renamed_scene) (sc := defScope s_renamed_scene) (by decide +kernel)) (fun _ _ _ _ _ => sg_tup (n := 3) rfl (sgs_cons (sg_name 4 (vs := [4, 5, 6]) (sc_renamed_scene.nd) rfl (by first | exact Or.inl rfl | exact Or.inr rfl) (by decide)) (sgs_cons (sg_name 5 (vs := [4, 5, 6]) (sc_renamed_scene.nd) rfl (by first | exact Or.inl rfl | exact Or.inr rfl) (by decide)) (sgs_cons (sg_name 6 (vs := [4, 5, 6]) (sc_renamed_scene.nd) rfl (by first | exact Or.inl rfl | exact Or.inr rfl) (by decide)) sgs_nil)))) (fun _ _ _ _ _ => sts_nil) (fun _ _ _ _ _ => se_tup (sa_cons (se_var 4) (sa_cons (se_var 5) (sa_cons (se_at (hu_of hr) (sb_var 1) (sb_var 6)) sa_nil))))))) sbs_nil)) sa_nil))))))
theorem ok_repeated {f : Addr} {fd : FuncData} {k : Nat} (F : Fun K "repeated" "repeated" s_repeated f fd) (c_renamed_scene : Callee P w K mg base k "renamed_scene" (spF K m_renamed_scene)) (c_check_script : Callee P w K mg base k "check_script" (spF K m_check_script)) (z_tuple : mg "tuple" = none) (z_enumerate : mg "enumerate" = none) : FnOk P w K mg base CX0 (k + 1) f fd ["script"] (spF K m_repeated) := by
  refine RT.ok_fn F sc_repeated (fun cdv A outer s H E hr => ?_)
  unfold b_repeated
  exact sss_cons (ss_drop (se_call c_check_script hr (by rfl) (sa_cons (se_var 0) sa_nil)))
      (sss_cons (ss_unp (se_var 0) (sg_tup (n := 2) rfl (sgs_cons (sg_name 1 (vs := [1, 2]) (sc_repeated.nd) rfl (by first | exact Or.inl rfl | exact Or.inr rfl) (by decide)) (sgs_cons (sg_name 2 (vs := [1, 2]) (sc_repeated.nd) rfl (by first | exact Or.inl rfl | exact Or.inr rfl) (by decide)) sgs_nil))))
      (sss_cons (ss_if (st_cmp od_isN (sb_of (se_at (hu_of hr) (sb_var 2) (sb_of se_int))) (sb_of se_non) (nomark _)) (sss_one ss_no) sss_nil)
      (sss_cons (ss_set (i := 3) (sc_repeated.nd) rfl (by first | exact Or.inl rfl | exact Or.inr rfl) (sx_of (se_ofX (sx_dc (own := [("at", 4), ("scene", 5)]) rfl (sc_repeated.nd) (si_en (by rfl) z_enumerate (se_var 2)) (blkOk_by (own := [("at", 4), ("scene", 5)]) (N := N_repeated) (sc := defScope s_repeated) (by decide +kernel)) (fun _ _ _ _ _ => sg_tup (n := 2) rfl (sgs_cons (sg_name 4 (vs := [4, 5]) (sc_repeated.nd) rfl (by first | exact Or.inl rfl | exact Or.inr rfl) (by decide)) (sgs_cons (sg_name 5 (vs := [4, 5]) (sc_repeated.nd) rfl (by first | exact Or.inl rfl | exact Or.inr rfl) (by decide)) sgs_nil))) (fun _ _ _ _ _ => sts_nil) (fun _ _ _ _ _ => se_var 4) (fun _ _ _ _ _ => se_if (st_cmp od_isN (sb_var 5) (sb_of se_non) (nomark _)) se_int (se_var 4))))))
      (sss_one (ss_ret (se_tup (sa_cons (se_var 1) (sa_cons (se_callTy cd_tuple (by rfl) z_tuple v_tuple (sbs_cons (sb_of (se_ofX (sx_lc (own := [("scene", 5)]) rfl (sc_repeated.nd) (si_seq (se_var 2)) (blkOk_by (own := [("scene", 5)]) (N := N_repeated) (sc := defScope s_repeated) (by decide +kernel)) (fun _ _ _ _ _ => sg_name 5 (vs := [5]) (sc_repeated.nd) rfl (by first | exact Or.inl rfl | exact Or.inr rfl) (by decide)) (fun _ _ _ _ _ => sts_nil) (fun _ _ _ _ _ => se_call c_renamed_scene hr (by rfl) (sa_cons (se_var 5) (sa_cons (se_var 3) sa_nil)))))) sbs_nil)) sa_nil))))))))
theorem okx_only_talk {f : Addr} {fd : FuncData} {k : Nat} (F : Fun K "only_talk" "only_talk" s_only_talk f fd) (c_branches_of : Callee P w K mg base k "branches_of" (spF K m_branches_of)) (z_len : mg "len" = none) (e_NotMade : ErrK K mg "NotMade") : FnOk P w K mg base (L2.CX P w) (k + 1) f fd ["scene"] (spX K mx_only_talk) := by
  refine RT.ok_fnX F sc_only_talk (fun cdv A outer s H E hr => ?_)
  unfold bx_only_talk
  exact rss_head (rs_if (st_cmp (od_ne hr.units) (sb_of (se_callB cd_len (by rfl) z_len v_len (sbs_cons (sb_of (se_call c_branches_of hr (by rfl) (sa_cons (se_var 0) sa_nil))) sbs_nil))) (sb_of se_int) (nomark _)) (rss_head (rs_raise e_NotMade rfl (takes_of rfl rfl rfl rfl) (by rfl))) rss_no)
theorem ok_only_talk {f : Addr} {fd : FuncData} {k : Nat} (F : Fun K "only_talk" "only_talk" s_only_talk f fd) (c_branches_of : Callee P w K mg base k "branches_of" (spF K m_branches_of)) (z_len : mg "len" = none) : FnOk P w K mg base CX0 (k + 1) f fd ["scene"] (spF K m_only_talk) := by
  refine RT.ok_fn F sc_only_talk (fun cdv A outer s H E hr => ?_)
  unfold b_only_talk
  exact sss_cons (ss_if (st_cmp (od_ne hr.units) (sb_of (se_callB cd_len (by rfl) z_len v_len (sbs_cons (sb_of (se_call c_branches_of hr (by rfl) (sa_cons (se_var 0) sa_nil))) sbs_nil))) (sb_of se_int) (nomark _)) (sss_one ss_no) sss_nil)
      (sss_cons (ss_unp (se_var 0) (sg_tup (n := 2) rfl (sgs_cons (sg_name 1 (vs := [1, 2]) (sc_only_talk.nd) rfl (by first | exact Or.inl rfl | exact Or.inr rfl) (by decide)) (sgs_cons (sg_name 2 (vs := [1, 2]) (sc_only_talk.nd) rfl (by first | exact Or.inl rfl | exact Or.inr rfl) (by decide)) sgs_nil))))
      (sss_cons (ss_unp (se_at (hu_of hr) (sb_var 2) (sb_of se_int)) (sg_tup (n := 3) rfl (sgs_cons (sg_name 3 (vs := [3, 4, 5]) (sc_only_talk.nd) rfl (by first | exact Or.inl rfl | exact Or.inr rfl) (by decide)) (sgs_cons (sg_name 4 (vs := [3, 4, 5]) (sc_only_talk.nd) rfl (by first | exact Or.inl rfl | exact Or.inr rfl) (by decide)) (sgs_cons (sg_name 5 (vs := [3, 4, 5]) (sc_only_talk.nd) rfl (by first | exact Or.inl rfl | exact Or.inr rfl) (by decide)) sgs_nil)))))
      (sss_one (ss_ret (se_tup (sa_cons (se_var 1) (sa_cons (se_var 3) (sa_cons (se_var 4) (sa_cons (se_var 5) sa_nil)))))))))
theorem okx_check_scenes {f : Addr} {fd : FuncData} {k : Nat} (F : Fun K "check_scenes" "check_scenes" s_check_scenes f fd) {t_MOST_SCENES : Tok} (k_MOST_SCENES : mg "MOST_SCENES" = some (.int 8 t_MOST_SCENES)) (e_TooMany : ErrI P w K mg base "TooMany" "most") (hk2 : 2 ≤ k) : FnOk P w K mg base (L2.CX P w) (k + 1) f fd ["many"] (spX K mx_check_scenes) := by
  refine RT.ok_fnX F sc_check_scenes (fun cdv A outer s H E hr => ?_)
  unfold bx_check_scenes
  exact rss_head (rs_if (st_cmp od_gt (sb_var 0) (sb_of (se_glob (v := .int 8) (by rfl) k_MOST_SCENES ⟨_, rfl⟩ (fun _ _ _ => .int _))) (nomark _)) (rss_head (rs_raiseI e_TooMany (hr.mono hk2) rfl (takes_of rfl rfl rfl rfl) (by rfl) (se_glob (v := .int 8) (by rfl) k_MOST_SCENES ⟨_, rfl⟩ (fun _ _ _ => .int _)))) rss_no)
theorem ok_check_scenes {f : Addr} {fd : FuncData} {k : Nat} (F : Fun K "check_scenes" "check_scenes" s_check_scenes f fd) {t_MOST_SCENES : Tok} (k_MOST_SCENES : mg "MOST_SCENES" = some (.int 8 t_MOST_SCENES)) : FnOk P w K mg base CX0 (k + 1) f fd ["many"] (spF K m_check_scenes) := by
  refine RT.ok_fn F sc_check_scenes (fun cdv A outer s H E hr => ?_)
  unfold b_check_scenes
  exact sss_one (ss_if (st_cmp od_gt (sb_var 0) (sb_of (se_glob (v := .int 8) (by rfl) k_MOST_SCENES ⟨_, rfl⟩ (fun _ _ _ => .int _))) (nomark _)) (sss_one ss_no) sss_nil)
theorem okx_swapped {f : Addr} {fd : FuncData} {k : Nat} (F : Fun K "swapped" "swapped" s_swapped f fd) (c_only_talk : Callee P w K mg base k "only_talk" (spF K m_only_talk)) (c_check_scene : Callee P w K mg base k "check_scene" (spF K m_check_scene)) (c_check_script : Callee P w K mg base k "check_script" (spF K m_check_script)) (cx_check_script : CalleeX P w K mg base k "check_script" (spX K mx_check_script)) (cx_check_scene : CalleeX P w K mg base k "check_scene" (spX K mx_check_scene)) (cx_only_talk : CalleeX P w K mg base k "only_talk" (spX K mx_only_talk)) (cx_check_scenes : CalleeX P w K mg base k "check_scenes" (spX K mx_check_scenes)) (z_len : mg "len" = none) (e_NotMade : ErrK K mg "NotMade") : FnOk P w K mg base (L2.CX P w) (k + 1) f fd ["script", "scene"] (spX K mx_swapped) := by
  refine RT.ok_fnX F sc_swapped (fun cdv A outer s H E hr => ?_)
  unfold bx_swapped
  exact rss_cons (ss_drop (se_call c_check_script hr (by rfl) (sa_cons (se_var 0) sa_nil))) (rs_expr (re_call cx_check_script (takes_of rfl rfl rfl rfl) hr (by rfl) (sa_cons (se_var 0) sa_nil)))
      (rss_cons (ss_drop (se_call c_check_scene hr (by rfl) (sa_cons (se_var 1) (sa_cons (se_var 0) sa_nil)))) (rs_expr (re_call cx_check_scene (takes_of rfl rfl rfl rfl) hr (by rfl) (sa_cons (se_var 1) (sa_cons (se_var 0) sa_nil))))
      (rss_cons (ss_unp (se_var 0) (sg_tup (n := 2) rfl (sgs_cons (sg_name 2 (vs := [2, 3]) (sc_swapped.nd) rfl (by first | exact Or.inl rfl | exact Or.inr rfl) (by decide)) (sgs_cons (sg_name 3 (vs := [2, 3]) (sc_swapped.nd) rfl (by first | exact Or.inl rfl | exact Or.inr rfl) (by decide)) sgs_nil)))) rs_no
      (rss_cons (ss_unp (se_call c_only_talk hr (by rfl) (sa_cons (se_at (hu_of hr) (sb_var 3) (sb_var 1)) sa_nil)) (sg_tup (n := 4) rfl (sgs_cons (sg_name 4 (vs := [4, 5, 6, 7]) (sc_swapped.nd) rfl (by first | exact Or.inl rfl | exact Or.inr rfl) (by decide)) (sgs_cons (sg_name 5 (vs := [4, 5, 6, 7]) (sc_swapped.nd) rfl (by first | exact Or.inl rfl | exact Or.inr rfl) (by decide)) (sgs_cons (sg_name 6 (vs := [4, 5, 6, 7]) (sc_swapped.nd) rfl (by first | exact Or.inl rfl | exact Or.inr rfl) (by decide)) (sgs_cons (sg_name 7 (vs := [4, 5, 6, 7]) (sc_swapped.nd) rfl (by first | exact Or.inl rfl | exact Or.inr rfl) (by decide)) sgs_nil)))))) (rs_asg (re_call cx_only_talk (takes_of rfl rfl rfl rfl) hr (by rfl) (sa_cons (se_at (hu_of hr) (sb_var 3) (sb_var 1)) sa_nil)) (sg_tup (n := 4) rfl (sgs_cons (sg_name 4 (vs := [4, 5, 6, 7]) (sc_swapped.nd) rfl (by first | exact Or.inl rfl | exact Or.inr rfl) (by decide)) (sgs_cons (sg_name 5 (vs := [4, 5, 6, 7]) (sc_swapped.nd) rfl (by first | exact Or.inl rfl | exact Or.inr rfl) (by decide)) (sgs_cons (sg_name 6 (vs := [4, 5, 6, 7]) (sc_swapped.nd) rfl (by first | exact Or.inl rfl | exact Or.inr rfl) (by decide)) (sgs_cons (sg_name 7 (vs := [4, 5, 6, 7]) (sc_swapped.nd) rfl (by first | exact Or.inl rfl | exact Or.inr rfl) (by decide)) sgs_nil))))))
      (rss_cons (ss_unp (se_call c_only_talk hr (by rfl) (sa_cons (se_at (hu_of hr) (sb_var 3) (sb_var 7)) sa_nil)) (sg_tup (n := 4) rfl (sgs_cons (sg_name 8 (vs := [8, 9, 10, 11]) (sc_swapped.nd) rfl (by first | exact Or.inl rfl | exact Or.inr rfl) (by decide)) (sgs_cons (sg_name 9 (vs := [8, 9, 10, 11]) (sc_swapped.nd) rfl (by first | exact Or.inl rfl | exact Or.inr rfl) (by decide)) (sgs_cons (sg_name 10 (vs := [8, 9, 10, 11]) (sc_swapped.nd) rfl (by first | exact Or.inl rfl | exact Or.inr rfl) (by decide)) (sgs_cons (sg_name 11 (vs := [8, 9, 10, 11]) (sc_swapped.nd) rfl (by first | exact Or.inl rfl | exact Or.inr rfl) (by decide)) sgs_nil)))))) (rs_asg (re_call cx_only_talk (takes_of rfl rfl rfl rfl) hr (by rfl) (sa_cons (se_at (hu_of hr) (sb_var 3) (sb_var 7)) sa_nil)) (sg_tup (n := 4) rfl (sgs_cons (sg_name 8 (vs := [8, 9, 10, 11]) (sc_swapped.nd) rfl (by first | exact Or.inl rfl | exact Or.inr rfl) (by decide)) (sgs_cons (sg_name 9 (vs := [8, 9, 10, 11]) (sc_swapped.nd) rfl (by first | exact Or.inl rfl | exact Or.inr rfl) (by decide)) (sgs_cons (sg_name 10 (vs := [8, 9, 10, 11]) (sc_swapped.nd) rfl (by first | exact Or.inl rfl | exact Or.inr rfl) (by decide)) (sgs_cons (sg_name 11 (vs := [8, 9, 10, 11]) (sc_swapped.nd) rfl (by first | exact Or.inl rfl | exact Or.inr rfl) (by decide)) sgs_nil))))))
      (rss_cons (ss_if (st_w (sw_or (st_inA (room65 hr) (sb_var 4) (sb_of (se_tup (sa_cons (se_var 8) (sa_cons (se_var 9) sa_nil))))) (sw_or1 (st_inA (room65 hr) (sb_var 5) (sb_of (se_tup (sa_cons (se_var 8) (sa_cons (se_var 9) sa_nil)))))))) (sss_one ss_no) sss_nil) (rs_if (st_w (sw_or (st_inA (room65 hr) (sb_var 4) (sb_of (se_tup (sa_cons (se_var 8) (sa_cons (se_var 9) sa_nil))))) (sw_or1 (st_inA (room65 hr) (sb_var 5) (sb_of (se_tup (sa_cons (se_var 8) (sa_cons (se_var 9) sa_nil)))))))) (rss_head (rs_raise e_NotMade rfl (takes_of rfl rfl rfl rfl) (by rfl))) rss_no)
      (rss_head (rs_expr (re_call cx_check_scenes (takes_of rfl rfl rfl rfl) hr (by rfl) (sa_cons (se_op od_addA (sb_of (se_callB cd_len (by rfl) z_len v_len (sbs_cons (sb_var 3) sbs_nil))) (sb_of se_int)) sa_nil)))))))))
theorem ok_swapped {f : Addr} {fd : FuncData} {k : Nat} (F : Fun K "swapped" "swapped" s_swapped f fd) (c_replaced : Callee P w K mg base k "replaced" (spF K m_replaced)) (c_check_scenes : Callee P w K mg base k "check_scenes" (spF K m_check_scenes)) (c_only_talk : Callee P w K mg base k "only_talk" (spF K m_only_talk)) (c_check_scene : Callee P w K mg base k "check_scene" (spF K m_check_scene)) (c_check_script : Callee P w K mg base k "check_script" (spF K m_check_script)) (z_len : mg "len" = none) : FnOk P w K mg base CX0 (k + 1) f fd ["script", "scene"] (spF K m_swapped) := by
  refine RT.ok_fn F sc_swapped (fun cdv A outer s H E hr => ?_)
  unfold b_swapped
  exact sss_cons (ss_drop (se_call c_check_script hr (by rfl) (sa_cons (se_var 0) sa_nil)))
      (sss_cons (ss_drop (se_call c_check_scene hr (by rfl) (sa_cons (se_var 1) (sa_cons (se_var 0) sa_nil))))
      (sss_cons (ss_unp (se_var 0) (sg_tup (n := 2) rfl (sgs_cons (sg_name 2 (vs := [2, 3]) (sc_swapped.nd) rfl (by first | exact Or.inl rfl | exact Or.inr rfl) (by decide)) (sgs_cons (sg_name 3 (vs := [2, 3]) (sc_swapped.nd) rfl (by first | exact Or.inl rfl | exact Or.inr rfl) (by decide)) sgs_nil))))
      (sss_cons (ss_unp (se_call c_only_talk hr (by rfl) (sa_cons (se_at (hu_of hr) (sb_var 3) (sb_var 1)) sa_nil)) (sg_tup (n := 4) rfl (sgs_cons (sg_name 4 (vs := [4, 5, 6, 7]) (sc_swapped.nd) rfl (by first | exact Or.inl rfl | exact Or.inr rfl) (by decide)) (sgs_cons (sg_name 5 (vs := [4, 5, 6, 7]) (sc_swapped.nd) rfl (by first | exact Or.inl rfl | exact Or.inr rfl) (by decide)) (sgs_cons (sg_name 6 (vs := [4, 5, 6, 7]) (sc_swapped.nd) rfl (by first | exact Or.inl rfl | exact Or.inr rfl) (by decide)) (sgs_cons (sg_name 7 (vs := [4, 5, 6, 7]) (sc_swapped.nd) rfl (by first | exact Or.inl rfl | exact Or.inr rfl) (by decide)) sgs_nil))))))
      (sss_cons (ss_unp (se_call c_only_talk hr (by rfl) (sa_cons (se_at (hu_of hr) (sb_var 3) (sb_var 7)) sa_nil)) (sg_tup (n := 4) rfl (sgs_cons (sg_name 8 (vs := [8, 9, 10, 11]) (sc_swapped.nd) rfl (by first | exact Or.inl rfl | exact Or.inr rfl) (by decide)) (sgs_cons (sg_name 9 (vs := [8, 9, 10, 11]) (sc_swapped.nd) rfl (by first | exact Or.inl rfl | exact Or.inr rfl) (by decide)) (sgs_cons (sg_name 10 (vs := [8, 9, 10, 11]) (sc_swapped.nd) rfl (by first | exact Or.inl rfl | exact Or.inr rfl) (by decide)) (sgs_cons (sg_name 11 (vs := [8, 9, 10, 11]) (sc_swapped.nd) rfl (by first | exact Or.inl rfl | exact Or.inr rfl) (by decide)) sgs_nil))))))
      (sss_cons (ss_if (st_w (sw_or (st_inA (room65 hr) (sb_var 4) (sb_of (se_tup (sa_cons (se_var 8) (sa_cons (se_var 9) sa_nil))))) (sw_or1 (st_inA (room65 hr) (sb_var 5) (sb_of (se_tup (sa_cons (se_var 8) (sa_cons (se_var 9) sa_nil)))))))) (sss_one ss_no) sss_nil)
      (sss_cons (ss_drop (se_call c_check_scenes hr (by rfl) (sa_cons (se_op od_addA (sb_of (se_callB cd_len (by rfl) z_len v_len (sbs_cons (sb_var 3) sbs_nil))) (sb_of se_int)) sa_nil)))
      (sss_cons (ss_set (i := 12) (sc_swapped.nd) rfl (by first | exact Or.inl rfl | exact Or.inr rfl) (sx_of (se_tup (sa_cons (se_var 8) (sa_cons (se_tup (sa_cons (se_tup (sa_cons (se_var 9) (sa_cons (se_var 10) (sa_cons (se_callB cd_len (by rfl) z_len v_len (sbs_cons (sb_var 3) sbs_nil)) sa_nil)))) sa_nil)) sa_nil)))))
      (sss_one (ss_ret (se_tup (sa_cons (se_var 2) (sa_cons (se_op od_addA (sb_of (se_call c_replaced hr (by rfl) (sa_cons (se_var 3) (sa_cons (se_var 1) (sa_cons (se_var 12) sa_nil))))) (sb_of (se_tup (sa_cons (se_tup (sa_cons (se_var 4) (sa_cons (se_tup (sa_cons (se_tup (sa_cons (se_var 5) (sa_cons (se_var 6) (sa_cons (se_var 11) sa_nil)))) sa_nil)) sa_nil))) sa_nil)))) sa_nil))))))))))))
theorem okx_without {f : Addr} {fd : FuncData} {k : Nat} (F : Fun K "without" "without" s_without f fd) (c_branches_of : Callee P w K mg base k "branches_of" (spF K m_branches_of)) (c_check_branch : Callee P w K mg base k "check_branch" (spF K m_check_branch)) (cx_check_branch : CalleeX P w K mg base k "check_branch" (spX K mx_check_branch)) (z_len : mg "len" = none) (e_NotMade : ErrK K mg "NotMade") : FnOk P w K mg base (L2.CX P w) (k + 1) f fd ["script", "scene", "place"] (spX K mx_without) := by
  refine RT.ok_fnX F sc_without (fun cdv A outer s H E hr => ?_)
  unfold bx_without
  exact rss_cons (ss_drop (se_call c_check_branch hr (by rfl) (sa_cons (se_var 0) (sa_cons (se_var 1) (sa_cons (se_var 2) sa_nil))))) (rs_expr (re_call cx_check_branch (takes_of rfl rfl rfl rfl) hr (by rfl) (sa_cons (se_var 0) (sa_cons (se_var 1) (sa_cons (se_var 2) sa_nil)))))
      (rss_cons (ss_set (i := 3) (sc_without.nd) rfl (by first | exact Or.inl rfl | exact Or.inr rfl) (sx_of (se_call c_branches_of hr (by rfl) (sa_cons (se_at (hu_of hr) (sb_of (se_at (hu_of hr) (sb_var 0) (sb_of se_int))) (sb_var 1)) sa_nil)))) rs_no
      (rss_head (rs_if (st_cmp (od_eq hr.units) (sb_of (se_callB cd_len (by rfl) z_len v_len (sbs_cons (sb_var 3) sbs_nil))) (sb_of se_int) (nomark _)) (rss_head (rs_raise e_NotMade rfl (takes_of rfl rfl rfl rfl) (by rfl))) rss_no)))
theorem ok_without {f : Addr} {fd : FuncData} {k : Nat} (F : Fun K "without" "without" s_without f fd) (c_with_branches : Callee P w K mg base k "with_branches" (spF K m_with_branches)) (c_branches_of : Callee P w K mg base k "branches_of" (spF K m_branches_of)) (c_check_branch : Callee P w K mg base k "check_branch" (spF K m_check_branch)) (z_len : mg "len" = none) : FnOk P w K mg base CX0 (k + 1) f fd ["script", "scene", "place"] (spF K m_without) := by
  refine RT.ok_fn F sc_without (fun cdv A outer s H E hr => ?_)
  unfold b_without
  exact sss_cons (ss_drop (se_call c_check_branch hr (by rfl) (sa_cons (se_var 0) (sa_cons (se_var 1) (sa_cons (se_var 2) sa_nil)))))
      (sss_cons (ss_set (i := 3) (sc_without.nd) rfl (by first | exact Or.inl rfl | exact Or.inr rfl) (sx_of (se_call c_branches_of hr (by rfl) (sa_cons (se_at (hu_of hr) (sb_of (se_at (hu_of hr) (sb_var 0) (sb_of se_int))) (sb_var 1)) sa_nil))))
      (sss_cons (ss_if (st_cmp (od_eq hr.units) (sb_of (se_callB cd_len (by rfl) z_len v_len (sbs_cons (sb_var 3) sbs_nil))) (sb_of se_int) (nomark _)) (sss_one ss_no) sss_nil)
      (sss_one (ss_ret (se_call c_with_branches hr (by rfl) (sa_cons (se_var 0) (sa_cons (se_var 1) (sa_cons (se_op od_addA (sb_of (se_sl (sb_var 3) so_none (so_some (se_var 2)))) (sb_of (se_sl (sb_var 3) (so_some (se_op od_addA (sb_var 2) (sb_of se_int))) so_none))) sa_nil))))))))
theorem okx_check_actors_alike {f : Addr} {fd : FuncData} {k : Nat} (F : Fun K "check_actors_alike" "check_actors_alike" s_check_actors_alike f fd) (e_NotMade : ErrK K mg "NotMade") : FnOk P w K mg base (L2.CX P w) (k + 1) f fd ["one", "other"] (spX K mx_check_actors_alike) := by
  refine RT.ok_fnX F sc_check_actors_alike (fun cdv A outer s H E hr => ?_)
  unfold bx_check_actors_alike
  exact rss_head (rs_if (st_cmp (od_ne hr.units) (sb_of (se_at (hu_of hr) (sb_var 0) (sb_of se_int))) (sb_of (se_at (hu_of hr) (sb_var 1) (sb_of se_int))) (nomark _)) (rss_head (rs_raise e_NotMade rfl (takes_of rfl rfl rfl rfl) (by rfl))) rss_no)
theorem ok_check_actors_alike {f : Addr} {fd : FuncData} {k : Nat} (F : Fun K "check_actors_alike" "check_actors_alike" s_check_actors_alike f fd) : FnOk P w K mg base CX0 (k + 1) f fd ["one", "other"] (spF K m_check_actors_alike) := by
  refine RT.ok_fn F sc_check_actors_alike (fun cdv A outer s H E hr => ?_)
  unfold b_check_actors_alike
  exact sss_one (ss_if (st_cmp (od_ne hr.units) (sb_of (se_at (hu_of hr) (sb_var 0) (sb_of se_int))) (sb_of (se_at (hu_of hr) (sb_var 1) (sb_of se_int))) (nomark _)) (sss_one ss_no) sss_nil)
theorem ok_moved {f : Addr} {fd : FuncData} {k : Nat} (F : Fun K "moved" "moved" s_moved f fd) (c_renamed_scene : Callee P w K mg base k "renamed_scene" (spF K m_renamed_scene)) (z_tuple : mg "tuple" = none) (z_range : mg "range" = none) (z_len : mg "len" = none) : FnOk P w K mg base CX0 (k + 1) f fd ["scenes", "by"] (spF K m_moved) := by
  refine RT.ok_fn F sc_moved (fun cdv A outer s H E hr => ?_)
  unfold b_moved
  exact sss_cons (ss_set (i := 2) (sc_moved.nd) rfl (by first | exact Or.inl rfl | exact Or.inr rfl) (sx_of (se_ofX (sx_dc (own := [("at", 3)]) rfl (sc_moved.nd) (si_rg1 (by rfl) z_range (se_callB cd_len (by rfl) z_len v_len (sbs_cons (sb_var 0) sbs_nil))) (blkOk_by (own := [("at", 3)]) (N := N_moved) (sc := defScope s_moved) (by decide +kernel)) (fun _ _ _ _ _ => sg_name 3 (vs := [3]) (sc_moved.nd) rfl (by first | exact Or.inl rfl | exact Or.inr rfl) (by decide)) (fun _ _ _ _ _ => sts_nil) (fun _ _ _ _ _ => se_var 3) (fun _ _ _ _ _ => se_op od_addA (sb_var 3) (sb_var 1))))))
      (sss_one (ss_ret (se_callTy cd_tuple (by rfl) z_tuple v_tuple (sbs_cons (sb_of (se_ofX (sx_lc (own := [("scene", 4)]) rfl (sc_moved.nd) (si_seq (se_var 0)) (blkOk_by (own := [("scene", 4)]) (N := N_moved) (sc := defScope s_moved) (by decide +kernel)) (fun _ _ _ _ _ => sg_name 4 (vs := [4]) (sc_moved.nd) rfl (by first | exact Or.inl rfl | exact Or.inr rfl) (by decide)) (fun _ _ _ _ _ => sts_nil) (fun _ _ _ _ _ => se_call c_renamed_scene hr (by rfl) (sa_cons (se_var 4) (sa_cons (se_var 2) sa_nil)))))) sbs_nil))))
theorem okx_followed_by {f : Addr} {fd : FuncData} {k : Nat} (F : Fun K "followed_by" "followed_by" s_followed_by f fd) (c_check_actors_alike : Callee P w K mg base k "check_actors_alike" (spF K m_check_actors_alike)) (c_check_script : Callee P w K mg base k "check_script" (spF K m_check_script)) (cx_check_script : CalleeX P w K mg base k "check_script" (spX K mx_check_script)) (cx_check_actors_alike : CalleeX P w K mg base k "check_actors_alike" (spX K mx_check_actors_alike)) (cx_check_scenes : CalleeX P w K mg base k "check_scenes" (spX K mx_check_scenes)) (z_len : mg "len" = none) : FnOk P w K mg base (L2.CX P w) (k + 1) f fd ["one", "other"] (spX K mx_followed_by) := by
  refine RT.ok_fnX F sc_followed_by (fun cdv A outer s H E hr => ?_)
  unfold bx_followed_by
  exact rss_cons (ss_drop (se_call c_check_script hr (by rfl) (sa_cons (se_var 0) sa_nil))) (rs_expr (re_call cx_check_script (takes_of rfl rfl rfl rfl) hr (by rfl) (sa_cons (se_var 0) sa_nil)))
      (rss_cons (ss_drop (se_call c_check_script hr (by rfl) (sa_cons (se_var 1) sa_nil))) (rs_expr (re_call cx_check_script (takes_of rfl rfl rfl rfl) hr (by rfl) (sa_cons (se_var 1) sa_nil)))
      (rss_cons (ss_drop (se_call c_check_actors_alike hr (by rfl) (sa_cons (se_var 0) (sa_cons (se_var 1) sa_nil)))) (rs_expr (re_call cx_check_actors_alike (takes_of rfl rfl rfl rfl) hr (by rfl) (sa_cons (se_var 0) (sa_cons (se_var 1) sa_nil))))
      (rss_cons (ss_unp (se_var 0) (sg_tup (n := 2) rfl (sgs_cons (sg_name 2 (vs := [2, 3]) (sc_followed_by.nd) rfl (by first | exact Or.inl rfl | exact Or.inr rfl) (by decide)) (sgs_cons (sg_name 3 (vs := [2, 3]) (sc_followed_by.nd) rfl (by first | exact Or.inl rfl | exact Or.inr rfl) (by decide)) sgs_nil)))) rs_no
      (rss_head (rs_expr (re_call cx_check_scenes (takes_of rfl rfl rfl rfl) hr (by rfl) (sa_cons (se_op od_addA (sb_of (se_callB cd_len (by rfl) z_len v_len (sbs_cons (sb_var 3) sbs_nil))) (sb_of (se_callB cd_len (by rfl) z_len v_len (sbs_cons (sb_of (se_at (hu_of hr) (sb_var 1) (sb_of se_int))) sbs_nil)))) sa_nil)))))))
theorem ok_followed_by {f : Addr} {fd : FuncData} {k : Nat} (F : Fun K "followed_by" "followed_by" s_followed_by f fd) (c_moved : Callee P w K mg base k "moved" (spF K m_moved)) (c_check_scenes : Callee P w K mg base k "check_scenes" (spF K m_check_scenes)) (c_check_actors_alike : Callee P w K mg base k "check_actors_alike" (spF K m_check_actors_alike)) (c_check_script : Callee P w K mg base k "check_script" (spF K m_check_script)) (z_tuple : mg "tuple" = none) (z_len : mg "len" = none) : FnOk P w K mg base CX0 (k + 1) f fd ["one", "other"] (spF K m_followed_by) := by
  refine RT.ok_fn F sc_followed_by (fun cdv A outer s H E hr => ?_)
  unfold b_followed_by
  exact sss_cons (ss_drop (se_call c_check_script hr (by rfl) (sa_cons (se_var 0) sa_nil)))
      (sss_cons (ss_drop (se_call c_check_script hr (by rfl) (sa_cons (se_var 1) sa_nil)))
      (sss_cons (ss_drop (se_call c_check_actors_alike hr (by rfl) (sa_cons (se_var 0) (sa_cons (se_var 1) sa_nil))))
      (sss_cons (ss_unp (se_var 0) (sg_tup (n := 2) rfl (sgs_cons (sg_name 2 (vs := [2, 3]) (sc_followed_by.nd) rfl (by first | exact Or.inl rfl | exact Or.inr rfl) (by decide)) (sgs_cons (sg_name 3 (vs := [2, 3]) (sc_followed_by.nd) rfl (by first | exact Or.inl rfl | exact Or.inr rfl) (by decide)) sgs_nil))))
      (sss_cons (ss_drop (se_call c_check_scenes hr (by rfl) (sa_cons (se_op od_addA (sb_of (se_callB cd_len (by rfl) z_len v_len (sbs_cons (sb_var 3) sbs_nil))) (sb_of (se_callB cd_len (by rfl) z_len v_len (sbs_cons (sb_of (se_at (hu_of hr) (sb_var 1) (sb_of se_int))) sbs_nil)))) sa_nil)))
      (sss_cons (ss_set (i := 4) (sc_followed_by.nd) rfl (by first | exact Or.inl rfl | exact Or.inr rfl) (sx_of (se_call c_moved hr (by rfl) (sa_cons (se_at (hu_of hr) (sb_var 1) (sb_of se_int)) (sa_cons (se_callB cd_len (by rfl) z_len v_len (sbs_cons (sb_var 3) sbs_nil)) sa_nil)))))
      (sss_one (ss_ret (se_tup (sa_cons (se_var 2) (sa_cons (se_op od_addA (sb_of (se_callTy cd_tuple (by rfl) z_tuple v_tuple (sbs_cons (sb_of (se_ofX (sx_lc (own := [("scene", 5)]) rfl (sc_followed_by.nd) (si_seq (se_var 3)) (blkOk_by (own := [("scene", 5)]) (N := N_followed_by) (sc := defScope s_followed_by) (by decide +kernel)) (fun _ _ _ _ _ => sg_name 5 (vs := [5]) (sc_followed_by.nd) rfl (by first | exact Or.inl rfl | exact Or.inr rfl) (by decide)) (fun _ _ _ _ _ => sts_nil) (fun _ _ _ _ _ => se_if (st_cmp od_isN (sb_var 5) (sb_of se_non) (nomark _)) (se_at (hu_of hr) (sb_var 4) (sb_of se_int)) (se_var 5))))) sbs_nil))) (sb_var 4)) sa_nil))))))))))
theorem okx_check_actor {f : Addr} {fd : FuncData} {k : Nat} (F : Fun K "check_actor" "check_actor" s_check_actor f fd) (c_is_number : Callee P w K mg base k "is_number" (spF K m_is_number)) (e_BadActor : ErrK K mg "BadActor") : FnOk P w K mg base (L2.CX P w) (k + 1) f fd ["value", "actors"] (spX K mx_check_actor) := by
  refine RT.ok_fnX F sc_check_actor (fun cdv A outer s H E hr => ?_)
  unfold bx_check_actor
  exact rss_head (rs_if (st_not (st_tru (sb_of (se_call c_is_number hr (by rfl) (sa_cons (se_var 0) (sa_cons se_int (sa_cons (se_op od_sub (sb_var 1) (sb_of se_int)) sa_nil))))))) (rss_head (rs_raiseF e_BadActor rfl (takes_of rfl rfl rfl rfl) (by rfl) (.con (by decide) (.fld (se_op od_sub (sb_var 1) (sb_of se_int)) .nil)))) rss_no)
theorem ok_check_actor {f : Addr} {fd : FuncData} {k : Nat} (F : Fun K "check_actor" "check_actor" s_check_actor f fd) (c_is_number : Callee P w K mg base k "is_number" (spF K m_is_number)) : FnOk P w K mg base CX0 (k + 1) f fd ["value", "actors"] (spF K m_check_actor) := by
  refine RT.ok_fn F sc_check_actor (fun cdv A outer s H E hr => ?_)
  unfold b_check_actor
  exact sss_one (ss_if (st_not (st_tru (sb_of (se_call c_is_number hr (by rfl) (sa_cons (se_var 0) (sa_cons se_int (sa_cons (se_op od_sub (sb_var 1) (sb_of se_int)) sa_nil))))))) (sss_one ss_no) sss_nil)
theorem okx_chosen {f : Addr} {fd : FuncData} {k : Nat} (F : Fun K "chosen" "chosen" s_chosen f fd) (c_check_actors_alike : Callee P w K mg base k "check_actors_alike" (spF K m_check_actors_alike)) (c_check_actor : Callee P w K mg base k "check_actor" (spF K m_check_actor)) (c_check_script : Callee P w K mg base k "check_script" (spF K m_check_script)) (cx_check_script : CalleeX P w K mg base k "check_script" (spX K mx_check_script)) (cx_check_actor : CalleeX P w K mg base k "check_actor" (spX K mx_check_actor)) (cx_check_actors_alike : CalleeX P w K mg base k "check_actors_alike" (spX K mx_check_actors_alike)) (cx_check_scenes : CalleeX P w K mg base k "check_scenes" (spX K mx_check_scenes)) (z_len : mg "len" = none) (e_NotMade : ErrK K mg "NotMade") : FnOk P w K mg base (L2.CX P w) (k + 1) f fd ["speaker", "hearer", "one", "other"] (spX K mx_chosen) := by
  refine RT.ok_fnX F sc_chosen (fun cdv A outer s H E hr => ?_)
  unfold bx_chosen
  exact rss_cons (ss_drop (se_call c_check_script hr (by rfl) (sa_cons (se_var 2) sa_nil))) (rs_expr (re_call cx_check_script (takes_of rfl rfl rfl rfl) hr (by rfl) (sa_cons (se_var 2) sa_nil)))
      (rss_cons (ss_drop (se_call c_check_script hr (by rfl) (sa_cons (se_var 3) sa_nil))) (rs_expr (re_call cx_check_script (takes_of rfl rfl rfl rfl) hr (by rfl) (sa_cons (se_var 3) sa_nil)))
      (rss_cons (ss_unp (se_var 2) (sg_tup (n := 2) rfl (sgs_cons (sg_name 4 (vs := [4, 5]) (sc_chosen.nd) rfl (by first | exact Or.inl rfl | exact Or.inr rfl) (by decide)) (sgs_cons (sg_name 5 (vs := [4, 5]) (sc_chosen.nd) rfl (by first | exact Or.inl rfl | exact Or.inr rfl) (by decide)) sgs_nil)))) rs_no
      (rss_cons (ss_drop (se_call c_check_actor hr (by rfl) (sa_cons (se_var 0) (sa_cons (se_var 4) sa_nil)))) (rs_expr (re_call cx_check_actor (takes_of rfl rfl rfl rfl) hr (by rfl) (sa_cons (se_var 0) (sa_cons (se_var 4) sa_nil))))
      (rss_cons (ss_drop (se_call c_check_actor hr (by rfl) (sa_cons (se_var 1) (sa_cons (se_var 4) sa_nil)))) (rs_expr (re_call cx_check_actor (takes_of rfl rfl rfl rfl) hr (by rfl) (sa_cons (se_var 1) (sa_cons (se_var 4) sa_nil))))
      (rss_cons (ss_drop (se_call c_check_actors_alike hr (by rfl) (sa_cons (se_var 2) (sa_cons (se_var 3) sa_nil)))) (rs_expr (re_call cx_check_actors_alike (takes_of rfl rfl rfl rfl) hr (by rfl) (sa_cons (se_var 2) (sa_cons (se_var 3) sa_nil))))
      (rss_cons (ss_if (st_cmp (od_eq hr.units) (sb_var 0) (sb_var 1) (nomark _)) (sss_one ss_no) sss_nil) (rs_if (st_cmp (od_eq hr.units) (sb_var 0) (sb_var 1) (nomark _)) (rss_head (rs_raise e_NotMade rfl (takes_of rfl rfl rfl rfl) (by rfl))) rss_no)
      (rss_cons (ss_set (i := 6) (sc_chosen.nd) rfl (by first | exact Or.inl rfl | exact Or.inr rfl) (sx_of (se_op od_addA (sb_of se_int) (sb_of (se_callB cd_len (by rfl) z_len v_len (sbs_cons (sb_var 5) sbs_nil)))))) rs_no
      (rss_head (rs_expr (re_call cx_check_scenes (takes_of rfl rfl rfl rfl) hr (by rfl) (sa_cons (se_op od_addA (sb_var 6) (sb_of (se_callB cd_len (by rfl) z_len v_len (sbs_cons (sb_of (se_at (hu_of hr) (sb_var 3) (sb_of se_int))) sbs_nil)))) sa_nil)))))))))))
theorem ok_chosen {f : Addr} {fd : FuncData} {k : Nat} (F : Fun K "chosen" "chosen" s_chosen f fd) (c_moved : Callee P w K mg base k "moved" (spF K m_moved)) (c_check_scenes : Callee P w K mg base k "check_scenes" (spF K m_check_scenes)) (c_check_actors_alike : Callee P w K mg base k "check_actors_alike" (spF K m_check_actors_alike)) (c_check_actor : Callee P w K mg base k "check_actor" (spF K m_check_actor)) (c_check_script : Callee P w K mg base k "check_script" (spF K m_check_script)) (z_len : mg "len" = none) : FnOk P w K mg base CX0 (k + 1) f fd ["speaker", "hearer", "one", "other"] (spF K m_chosen) := by
  refine RT.ok_fn F sc_chosen (fun cdv A outer s H E hr => ?_)
  unfold b_chosen
  exact sss_cons (ss_drop (se_call c_check_script hr (by rfl) (sa_cons (se_var 2) sa_nil)))
      (sss_cons (ss_drop (se_call c_check_script hr (by rfl) (sa_cons (se_var 3) sa_nil)))
      (sss_cons (ss_unp (se_var 2) (sg_tup (n := 2) rfl (sgs_cons (sg_name 4 (vs := [4, 5]) (sc_chosen.nd) rfl (by first | exact Or.inl rfl | exact Or.inr rfl) (by decide)) (sgs_cons (sg_name 5 (vs := [4, 5]) (sc_chosen.nd) rfl (by first | exact Or.inl rfl | exact Or.inr rfl) (by decide)) sgs_nil))))
      (sss_cons (ss_drop (se_call c_check_actor hr (by rfl) (sa_cons (se_var 0) (sa_cons (se_var 4) sa_nil))))
      (sss_cons (ss_drop (se_call c_check_actor hr (by rfl) (sa_cons (se_var 1) (sa_cons (se_var 4) sa_nil))))
      (sss_cons (ss_drop (se_call c_check_actors_alike hr (by rfl) (sa_cons (se_var 2) (sa_cons (se_var 3) sa_nil))))
      (sss_cons (ss_if (st_cmp (od_eq hr.units) (sb_var 0) (sb_var 1) (nomark _)) (sss_one ss_no) sss_nil)
      (sss_cons (ss_set (i := 6) (sc_chosen.nd) rfl (by first | exact Or.inl rfl | exact Or.inr rfl) (sx_of (se_op od_addA (sb_of se_int) (sb_of (se_callB cd_len (by rfl) z_len v_len (sbs_cons (sb_var 5) sbs_nil))))))
      (sss_cons (ss_drop (se_call c_check_scenes hr (by rfl) (sa_cons (se_op od_addA (sb_var 6) (sb_of (se_callB cd_len (by rfl) z_len v_len (sbs_cons (sb_of (se_at (hu_of hr) (sb_var 3) (sb_of se_int))) sbs_nil)))) sa_nil)))
      (sss_cons (ss_set (i := 7) (sc_chosen.nd) rfl (by first | exact Or.inl rfl | exact Or.inr rfl) (sx_of (se_tup (sa_cons (se_var 0) (sa_cons (se_tup (sa_cons (se_tup (sa_cons (se_var 1) (sa_cons se_int (sa_cons se_int sa_nil)))) (sa_cons (se_tup (sa_cons (se_var 1) (sa_cons se_int (sa_cons (se_var 6) sa_nil)))) sa_nil))) sa_nil)))))
      (sss_one (ss_ret (se_tup (sa_cons (se_var 4) (sa_cons (se_op od_addA (sb_of (se_op od_addA (sb_of (se_tup (sa_cons (se_var 7) sa_nil))) (sb_of (se_call c_moved hr (by rfl) (sa_cons (se_var 5) (sa_cons se_int sa_nil)))))) (sb_of (se_call c_moved hr (by rfl) (sa_cons (se_at (hu_of hr) (sb_var 3) (sb_of se_int)) (sa_cons (se_var 6) sa_nil))))) sa_nil))))))))))))))
theorem ok_law {f : Addr} {fd : FuncData} {k : Nat} (F : Fun K "law" "law" s_law f fd) (c_law_alike : Callee P w K mg base (k + 2) "_law_alike" (spF K (m_law_alike 9))) (c_repeated : Callee P w K mg base (k + 2) "repeated" (spF K m_repeated)) (c_law_moved : Callee P w K mg base (k + 2) "_law_moved" (spF K m_law_moved)) (c_led : Callee P w K mg base (k + 2) "led" (spF K m_led)) (c_law_taken : Callee P w K mg base (k + 2) "_law_taken" (spR K m_law_taken)) (c_renamed_words : Callee P w K mg base (k + 2) "renamed_words" (spF K m_renamed_words)) (c_renamed_actors : Callee P w K mg base (k + 2) "renamed_actors" (spF K m_renamed_actors)) (c_law_order : Callee P w K mg base (k + 2) "_law_order" (spR K m_law_order)) (c_law_script : Callee P w K mg base (k + 2) "_law_script" (spR K m_law_script)) (cl_swapped : Callee P w K mg base k "swapped" (spF K m_swapped)) (cl_chosen : Callee P w K mg base k "chosen" (spF K m_chosen)) (cl_followed_by : Callee P w K mg base k "followed_by" (spF K m_followed_by)) (cl_without : Callee P w K mg base k "without" (spF K m_without)) (cx_swapped : CalleeX P w K mg base k "swapped" (spX K mx_swapped)) (cx_chosen : CalleeX P w K mg base k "chosen" (spX K mx_chosen)) (cx_followed_by : CalleeX P w K mg base k "followed_by" (spX K mx_followed_by)) (cx_without : CalleeX P w K mg base k "without" (spX K mx_without)) {CS CN : Addr} (T_law_told : Teller K mg "_law_told" (TTA K CS CN (Str.ofString "other"))) (hL_law_told : ∀ p ∈ LE, ErrA K CS CN p.1 p.2) {cc_law pp_law : Addr} (a_law : PySem.W.nsIn K mainGlobals "law" = some (some (.ref f))) (ti_law : PySem.W.tabIn K "law" = some (cc_law, pp_law)) (tb_law : LamX.TabB base mg cc_law pp_law) (z_isinstance : mg "isinstance" = none) (z_len : mg "len" = none) (z_tuple : mg "tuple" = none) (z_sorted : mg "sorted" = none) : FnOk P w K mg base CX0 (k + 3) f fd ["script"] (spLaw K b_law 25 10120) := by
  refine RT.ok_lawM (k := k + 2) F sc_law rfl a_law ti_law (fun A outer s H E => ps_set (i := 1) sc_law.nd rfl (by first | exact Or.inl rfl | exact Or.inr rfl) (pe_lst (pa_cons (pv 0) (pa_cons pe_int (pa_cons pe_int (pa_cons pe_int pa_nil)))))) (fun A outer s H E hr => ?_)
  unfold b_law
  exact sss_cons (ss_set (i := 2) (sc_law.nd) rfl (by first | exact Or.inl rfl | exact Or.inr rfl) (sx_of (se_op od_addA (sb_of se_int) (sb_of (se_callR (i := 1) c_law_taken hr (by rfl) (sa_cons se_int sa_nil))))))
      (sss_cons (ss_parT (is := [21, 19]) rfl (sc_law.nd) (.cons rfl (by first | exact Or.inl rfl | exact Or.inr rfl) (Or.inl rfl) rfl (.cons rfl (by first | exact Or.inl rfl | exact Or.inr rfl) (Or.inl rfl) rfl .nil)) (sxs_cons (sx_of (se_callR (i := 1) c_law_script hr (by rfl) (sa_cons (se_var 2) (sa_cons se_int (sa_cons se_bl sa_nil))))) (sxs_cons (sx_of (se_callR (i := 1) c_law_script hr (by rfl) (sa_cons (se_var 2) (sa_cons se_int (sa_cons se_bl sa_nil))))) sxs_nil)) (by decide) rfl rfl rfl rfl rfl)
      (sss_cons (ss_parT (is := [3, 4, 5]) rfl (sc_law.nd) (.cons rfl (by first | exact Or.inl rfl | exact Or.inr rfl) (Or.inl rfl) rfl (.cons rfl (by first | exact Or.inl rfl | exact Or.inr rfl) (Or.inl rfl) rfl (.cons rfl (by first | exact Or.inl rfl | exact Or.inr rfl) (Or.inl rfl) rfl .nil))) (sxs_cons (sx_of (se_callR (i := 1) c_law_order hr (by rfl) (sa_cons (se_var 2) sa_nil))) (sxs_cons (sx_of (se_callR (i := 1) c_law_order hr (by rfl) (sa_cons se_int sa_nil))) (sxs_cons (sx_of (se_at (hu_of hr) (sb_var 21) (sb_of se_int))) sxs_nil))) (by decide) rfl rfl rfl rfl rfl)
      (sss_cons (ss_par2 (i := 6) (j := 7) rfl (sc_law.nd) rfl rfl (by decide) rfl rfl (sxs_cons (sx_lst sa_nil) (sxs_cons (sx_lst sa_nil) sxs_nil)) rfl)
      (sss_cons (ss_for PassesOwn.never rfl (si_seq (se_var 5)) (sg_name 8 (vs := [8]) (sc_law.nd) rfl (by first | exact Or.inl rfl | exact Or.inr rfl) (by decide)) (sss_cons (ss_app (i := 6) (se_if (st_cmp od_isN (sb_var 8) (sb_of se_non) (nomark _)) se_non (se_tup (sa_cons (se_at (hu_of hr) (sb_var 3) (sb_of (se_at (hu_of hr) (sb_var 8) (sb_of se_int)))) (sa_cons (se_callTy cd_tuple (by rfl) z_tuple v_tuple (sbs_cons (sb_of (se_callB (cd_sortX (room66 hr)) (by rfl) z_sorted v_sorted (sbs_cons (sb_of (se_ofX (sx_lc (own := [("to", 25), ("word", 26), ("spot", 9)]) rfl (sc_law.nd) (si_seq (se_at (hu_of hr) (sb_var 8) (sb_of se_int))) (blkOk_by (own := [("to", 25), ("word", 26), ("spot", 9)]) (N := N_law) (sc := defScope s_law) (by decide +kernel)) (fun _ _ _ _ _ => sg_tup (n := 3) rfl (sgs_cons (sg_name 25 (vs := [25, 26, 9]) (sc_law.nd) rfl (by first | exact Or.inl rfl | exact Or.inr rfl) (by decide)) (sgs_cons (sg_name 26 (vs := [25, 26, 9]) (sc_law.nd) rfl (by first | exact Or.inl rfl | exact Or.inr rfl) (by decide)) (sgs_cons (sg_name 9 (vs := [25, 26, 9]) (sc_law.nd) rfl (by first | exact Or.inl rfl | exact Or.inr rfl) (by decide)) sgs_nil)))) (fun _ _ _ _ _ => sts_nil) (fun _ _ _ _ _ => se_tup (sa_cons (se_at (hu_of hr) (sb_var 3) (sb_var 25)) (sa_cons (se_var 26) (sa_cons (se_var 9) sa_nil))))))) sbs_nil))) sbs_nil)) sa_nil)))))
      (sss_one (ss_app (i := 7) (se_if (st_cmp od_isN (sb_var 8) (sb_of se_non) (nomark _)) se_non (se_tup (sa_cons (se_at (hu_of hr) (sb_var 8) (sb_of se_int)) (sa_cons (se_callTy cd_tuple (by rfl) z_tuple v_tuple (sbs_cons (sb_of (se_callB (cd_sortX (room66 hr)) (by rfl) z_sorted v_sorted (sbs_cons (sb_of (se_ofX (sx_lc (own := [("to", 25), ("word", 26), ("spot", 9)]) rfl (sc_law.nd) (si_seq (se_at (hu_of hr) (sb_var 8) (sb_of se_int))) (blkOk_by (own := [("to", 25), ("word", 26), ("spot", 9)]) (N := N_law) (sc := defScope s_law) (by decide +kernel)) (fun _ _ _ _ _ => sg_tup (n := 3) rfl (sgs_cons (sg_name 25 (vs := [25, 26, 9]) (sc_law.nd) rfl (by first | exact Or.inl rfl | exact Or.inr rfl) (by decide)) (sgs_cons (sg_name 26 (vs := [25, 26, 9]) (sc_law.nd) rfl (by first | exact Or.inl rfl | exact Or.inr rfl) (by decide)) (sgs_cons (sg_name 9 (vs := [25, 26, 9]) (sc_law.nd) rfl (by first | exact Or.inl rfl | exact Or.inr rfl) (by decide)) sgs_nil)))) (fun _ _ _ _ _ => sts_nil) (fun _ _ _ _ _ => se_tup (sa_cons (se_var 25) (sa_cons (se_at (hu_of hr) (sb_var 4) (sb_var 26)) (sa_cons (se_var 9) sa_nil))))))) sbs_nil))) sbs_nil)) sa_nil))))))))
      (sss_cons (ss_if (st_not (st_tru (sb_of (se_call c_law_alike hr (by rfl) (sa_cons (se_call c_renamed_actors hr (by rfl) (sa_cons (se_var 21) (sa_cons (se_var 3) sa_nil))) (sa_cons (se_tup (sa_cons (se_var 2) (sa_cons (se_callTy cd_tuple (by rfl) z_tuple v_tuple (sbs_cons (sb_var 6) sbs_nil)) sa_nil))) sa_nil)))))) (sss_one (ss_ret se_bl)) sss_nil)
      (sss_cons (ss_if (st_not (st_tru (sb_of (se_call c_law_alike hr (by rfl) (sa_cons (se_call c_renamed_words hr (by rfl) (sa_cons (se_var 21) (sa_cons (se_var 4) sa_nil))) (sa_cons (se_tup (sa_cons (se_var 2) (sa_cons (se_callTy cd_tuple (by rfl) z_tuple v_tuple (sbs_cons (sb_var 7) sbs_nil)) sa_nil))) sa_nil)))))) (sss_one (ss_ret se_bl)) sss_nil)
      (sss_cons (ss_set (i := 22) (sc_law.nd) rfl (by first | exact Or.inl rfl | exact Or.inr rfl) (sx_of (se_callR (i := 1) c_law_taken hr (by rfl) (sa_cons (se_op od_sub (sb_of (se_callB cd_len (by rfl) z_len v_len (sbs_cons (sb_var 5) sbs_nil))) (sb_of se_int)) sa_nil))))
      (sss_cons (ss_unp (se_at (hu_of hr) (sb_var 5) (sb_var 22)) (sg_tup (n := 2) rfl (sgs_cons (sg_name 10 (vs := [10, 11]) (sc_law.nd) rfl (by first | exact Or.inl rfl | exact Or.inr rfl) (by decide)) (sgs_cons (sg_name 11 (vs := [10, 11]) (sc_law.nd) rfl (by first | exact Or.inl rfl | exact Or.inr rfl) (by decide)) sgs_nil))))
      (sss_cons (ss_parT (is := [20, 9]) rfl (sc_law.nd) (.cons rfl (by first | exact Or.inl rfl | exact Or.inr rfl) (Or.inl rfl) rfl (.cons rfl (by first | exact Or.inl rfl | exact Or.inr rfl) (Or.inl rfl) rfl .nil)) (sxs_cons (sx_of (se_callR (i := 1) c_law_taken hr (by rfl) (sa_cons (se_callB cd_len (by rfl) z_len v_len (sbs_cons (sb_var 11) sbs_nil)) sa_nil))) (sxs_cons (sx_of (se_callR (i := 1) c_law_taken hr (by rfl) (sa_cons (se_callB cd_len (by rfl) z_len v_len (sbs_cons (sb_var 5) sbs_nil)) sa_nil))) sxs_nil)) (by decide) rfl rfl rfl rfl rfl)
      (sss_cons (ss_par2 (i := 12) (j := 13) rfl (sc_law.nd) rfl rfl (by decide) rfl rfl (sxs_cons (sx_of (se_op od_addA (sb_of (se_sl (sb_var 11) so_none (so_some (se_var 20)))) (sb_of (se_sl (sb_var 11) (so_some (se_op od_addA (sb_var 20) (sb_of se_int))) so_none)))) (sxs_cons (sx_of (se_op od_addA (sb_of (se_op od_addA (sb_of (se_sl (sb_var 11) so_none (so_some (se_var 20)))) (sb_of (se_tup (sa_cons (se_op od_addA (sb_of (se_sl (sb_of (se_at (hu_of hr) (sb_var 11) (sb_var 20))) so_none (so_some se_int))) (sb_of (se_tup (sa_cons (se_var 9) sa_nil)))) sa_nil))))) (sb_of (se_sl (sb_var 11) (so_some (se_op od_addA (sb_var 20) (sb_of se_int))) so_none)))) sxs_nil)) rfl)
      (sss_cons (ss_if (st_not (st_tru (sb_of (se_call c_law_alike hr (by rfl) (sa_cons (se_toldA T_law_told hL_law_told hr (by rfl) tb_law rfl ti_law (by decide) rfl (LamX.lamS_by (show LamX.lamSB (defScope s_law) _ = true by decide +kernel)) rfl (fun _ _ _ _ _ => rfl) (fun _ _ _ _ _ _ _ hr => se_call cl_without hr (by rfl) (sa_cons (se_var 21) (sa_cons (se_var 22) (sa_cons (se_var 20) sa_nil)))) (fun _ _ _ _ _ _ _ hr => re_call cx_without (takes_of rfl rfl rfl rfl) hr (by rfl) (sa_cons (se_var 21) (sa_cons (se_var 22) (sa_cons (se_var 20) sa_nil))))) (sa_cons (se_if (st_cmp (od_ne hr.units) (sb_var 12) (sb_of (se_tup sa_nil)) (nomark _)) (se_tup (sa_cons (se_var 2) (sa_cons (se_op od_addA (sb_of (se_op od_addA (sb_of (se_sl (sb_var 5) so_none (so_some (se_var 22)))) (sb_of (se_tup (sa_cons (se_tup (sa_cons (se_var 10) (sa_cons (se_var 12) sa_nil))) sa_nil))))) (sb_of (se_sl (sb_var 5) (so_some (se_op od_addA (sb_var 22) (sb_of se_int))) so_none))) sa_nil))) se_non) sa_nil)))))) (sss_one (ss_ret se_bl)) sss_nil)
      (sss_cons (ss_if (st_not (st_tru (sb_of (se_call c_law_alike hr (by rfl) (sa_cons (se_call c_led hr (by rfl) (sa_cons (se_var 21) (sa_cons (se_var 22) (sa_cons (se_var 20) (sa_cons (se_var 9) sa_nil))))) (sa_cons (se_tup (sa_cons (se_var 2) (sa_cons (se_op od_addA (sb_of (se_op od_addA (sb_of (se_sl (sb_var 5) so_none (so_some (se_var 22)))) (sb_of (se_tup (sa_cons (se_tup (sa_cons (se_var 10) (sa_cons (se_var 13) sa_nil))) sa_nil))))) (sb_of (se_sl (sb_var 5) (so_some (se_op od_addA (sb_var 22) (sb_of se_int))) so_none))) sa_nil))) sa_nil)))))) (sss_one (ss_ret se_bl)) sss_nil)
      (sss_cons (ss_set (i := 14) (sc_law.nd) rfl (by first | exact Or.inl rfl | exact Or.inr rfl) (sx_of (se_ofX (sx_lc (own := [("told", 8)]) rfl (sc_law.nd) (si_seq (se_at (hu_of hr) (sb_var 19) (sb_of se_int))) (blkOk_by (own := [("told", 8)]) (N := N_law) (sc := defScope s_law) (by decide +kernel)) (fun _ _ _ _ _ => sg_name 8 (vs := [8]) (sc_law.nd) rfl (by first | exact Or.inl rfl | exact Or.inr rfl) (by decide)) (fun _ _ _ _ _ => sts_nil) (fun _ _ _ _ _ => se_call c_law_moved hr (by rfl) (sa_cons (se_var 8) (sa_cons (se_callB cd_len (by rfl) z_len v_len (sbs_cons (sb_var 5) sbs_nil)) sa_nil)))))))
      (sss_cons (ss_set (i := 15) (sc_law.nd) rfl (by first | exact Or.inl rfl | exact Or.inr rfl) (sx_of (se_op od_addA (sb_of (se_callTy cd_tuple (by rfl) z_tuple v_tuple (sbs_cons (sb_of (se_ofX (sx_lc (own := [("told", 8)]) rfl (sc_law.nd) (si_seq (se_var 5)) (blkOk_by (own := [("told", 8)]) (N := N_law) (sc := defScope s_law) (by decide +kernel)) (fun _ _ _ _ _ => sg_name 8 (vs := [8]) (sc_law.nd) rfl (by first | exact Or.inl rfl | exact Or.inr rfl) (by decide)) (fun _ _ _ _ _ => sts_nil) (fun _ _ _ _ _ => se_if (st_cmp od_isN (sb_var 8) (sb_of se_non) (nomark _)) (se_at (hu_of hr) (sb_var 14) (sb_of se_int)) (se_var 8))))) sbs_nil))) (sb_of (se_callTy cd_tuple (by rfl) z_tuple v_tuple (sbs_cons (sb_var 14) sbs_nil))))))
      (sss_cons (ss_if (st_not (st_tru (sb_of (se_call c_law_alike hr (by rfl) (sa_cons (se_toldA T_law_told hL_law_told hr (by rfl) tb_law rfl ti_law (by decide) rfl (LamX.lamS_by (show LamX.lamSB (defScope s_law) _ = true by decide +kernel)) rfl (fun _ _ _ _ _ => rfl) (fun _ _ _ _ _ _ _ hr => se_call cl_followed_by hr (by rfl) (sa_cons (se_var 21) (sa_cons (se_var 19) sa_nil))) (fun _ _ _ _ _ _ _ hr => re_call cx_followed_by (takes_of rfl rfl rfl rfl) hr (by rfl) (sa_cons (se_var 21) (sa_cons (se_var 19) sa_nil)))) (sa_cons (se_if (st_cmp (od_ltX hr.units) (sb_of (se_callB cd_len (by rfl) z_len v_len (sbs_cons (sb_var 15) sbs_nil))) (sb_of se_int) (nomark _)) (se_tup (sa_cons (se_var 2) (sa_cons (se_var 15) sa_nil))) se_str) sa_nil)))))) (sss_one (ss_ret se_bl)) sss_nil)
      (sss_cons (ss_set (i := 15) (sc_law.nd) rfl (by first | exact Or.inl rfl | exact Or.inr rfl) (sx_of (se_op od_addA (sb_of (se_op od_addA (sb_of (se_tup (sa_cons (se_tup (sa_cons se_int (sa_cons (se_tup (sa_cons (se_tup (sa_cons se_int (sa_cons se_int (sa_cons se_int sa_nil)))) (sa_cons (se_tup (sa_cons se_int (sa_cons se_int (sa_cons (se_op od_addA (sb_of se_int) (sb_of (se_callB cd_len (by rfl) z_len v_len (sbs_cons (sb_var 5) sbs_nil)))) sa_nil)))) sa_nil))) sa_nil))) sa_nil))) (sb_of (se_callTy cd_tuple (by rfl) z_tuple v_tuple (sbs_cons (sb_of (se_ofX (sx_lc (own := [("told", 8)]) rfl (sc_law.nd) (si_seq (se_var 5)) (blkOk_by (own := [("told", 8)]) (N := N_law) (sc := defScope s_law) (by decide +kernel)) (fun _ _ _ _ _ => sg_name 8 (vs := [8]) (sc_law.nd) rfl (by first | exact Or.inl rfl | exact Or.inr rfl) (by decide)) (fun _ _ _ _ _ => sts_nil) (fun _ _ _ _ _ => se_call c_law_moved hr (by rfl) (sa_cons (se_var 8) (sa_cons se_int sa_nil)))))) sbs_nil))))) (sb_of (se_callTy cd_tuple (by rfl) z_tuple v_tuple (sbs_cons (sb_of (se_ofX (sx_lc (own := [("told", 8)]) rfl (sc_law.nd) (si_seq (se_at (hu_of hr) (sb_var 19) (sb_of se_int))) (blkOk_by (own := [("told", 8)]) (N := N_law) (sc := defScope s_law) (by decide +kernel)) (fun _ _ _ _ _ => sg_name 8 (vs := [8]) (sc_law.nd) rfl (by first | exact Or.inl rfl | exact Or.inr rfl) (by decide)) (fun _ _ _ _ _ => sts_nil) (fun _ _ _ _ _ => se_call c_law_moved hr (by rfl) (sa_cons (se_var 8) (sa_cons (se_op od_addA (sb_of se_int) (sb_of (se_callB cd_len (by rfl) z_len v_len (sbs_cons (sb_var 5) sbs_nil)))) sa_nil)))))) sbs_nil))))))
      (sss_cons (ss_if (st_not (st_tru (sb_of (se_call c_law_alike hr (by rfl) (sa_cons (se_toldA T_law_told hL_law_told hr (by rfl) tb_law rfl ti_law (by decide) rfl (LamX.lamS_by (show LamX.lamSB (defScope s_law) _ = true by decide +kernel)) rfl (fun _ _ _ _ _ => rfl) (fun _ _ _ _ _ _ _ hr => se_call cl_chosen hr (by rfl) (sa_cons se_int (sa_cons se_int (sa_cons (se_var 21) (sa_cons (se_var 19) sa_nil))))) (fun _ _ _ _ _ _ _ hr => re_call cx_chosen (takes_of rfl rfl rfl rfl) hr (by rfl) (sa_cons se_int (sa_cons se_int (sa_cons (se_var 21) (sa_cons (se_var 19) sa_nil)))))) (sa_cons (se_if (st_cmp (od_ltX hr.units) (sb_of (se_callB cd_len (by rfl) z_len v_len (sbs_cons (sb_var 15) sbs_nil))) (sb_of se_int) (nomark _)) (se_tup (sa_cons (se_var 2) (sa_cons (se_var 15) sa_nil))) se_str) sa_nil)))))) (sss_one (ss_ret se_bl)) sss_nil)
      (sss_cons (ss_set (i := 6) (sc_law.nd) rfl (by first | exact Or.inl rfl | exact Or.inr rfl) (sx_lst sa_nil))
      (sss_cons (ss_for PassesOwn.never rfl (si_seq (se_var 5)) (sg_name 8 (vs := [8]) (sc_law.nd) rfl (by first | exact Or.inl rfl | exact Or.inr rfl) (by decide)) (sss_one (ss_app (i := 6) (se_if (st_cmp od_isN (sb_var 8) (sb_of se_non) (nomark _)) se_non (se_tup (sa_cons (se_at (hu_of hr) (sb_var 8) (sb_of se_int)) (sa_cons (se_callTy cd_tuple (by rfl) z_tuple v_tuple (sbs_cons (sb_of (se_ofX (sx_lc (own := [("branch", 24)]) rfl (sc_law.nd) (si_seq (se_at (hu_of hr) (sb_var 8) (sb_of se_int))) (blkOk_by (own := [("branch", 24)]) (N := N_law) (sc := defScope s_law) (by decide +kernel)) (fun _ _ _ _ _ => sg_name 24 (vs := [24]) (sc_law.nd) rfl (by first | exact Or.inl rfl | exact Or.inr rfl) (by decide)) (fun _ _ _ _ _ => sts_nil) (fun _ _ _ _ _ => se_op od_addA (sb_of (se_sl (sb_var 24) so_none (so_some se_int))) (sb_of (se_tup (sa_cons (se_if (st_cmp od_isN (sb_of (se_at (hu_of hr) (sb_var 5) (sb_of (se_at (hu_of hr) (sb_var 24) (sb_of se_int))))) (sb_of se_non) (nomark _)) se_int (se_at (hu_of hr) (sb_var 24) (sb_of se_int))) sa_nil))))))) sbs_nil)) sa_nil)))))))
      (sss_cons (ss_if (st_not (st_tru (sb_of (se_call c_law_alike hr (by rfl) (sa_cons (se_call c_repeated hr (by rfl) (sa_cons (se_var 21) sa_nil)) (sa_cons (se_tup (sa_cons (se_var 2) (sa_cons (se_callTy cd_tuple (by rfl) z_tuple v_tuple (sbs_cons (sb_var 6) sbs_nil)) sa_nil))) sa_nil)))))) (sss_one (ss_ret se_bl)) sss_nil)
      (sss_cons (ss_set (i := 16) (sc_law.nd) rfl (by first | exact Or.inl rfl | exact Or.inr rfl) (sx_of (se_at (hu_of hr) (sb_var 5) (sb_of (se_at (hu_of hr) (sb_of (se_at (hu_of hr) (sb_var 11) (sb_of se_int))) (sb_of se_int))))))
      (sss_cons (ss_set (i := 17) (sc_law.nd) rfl (by first | exact Or.inl rfl | exact Or.inr rfl) (sx_of (se_and (se_cmp (od_eq hr.units) (sb_of (se_callB cd_len (by rfl) z_len v_len (sbs_cons (sb_var 11) sbs_nil))) (sb_of se_int) (nomark _)) (se_and (se_cmp od_notN (sb_var 16) (sb_of se_non) (nomark _)) (se_and (se_cmp (od_eq hr.units) (sb_of (se_callB cd_len (by rfl) z_len v_len (sbs_cons (sb_of (se_at (hu_of hr) (sb_var 16) (sb_of se_int))) sbs_nil))) (sb_of se_int) (nomark _)) (se_one (se_cmp (od_eq hr.units) (sb_of (se_ofX (sx_lc (own := [("a", 23)]) rfl (sc_law.nd) (si_seq (se_tup (sa_cons (se_var 10) (sa_cons (se_at (hu_of hr) (sb_of (se_at (hu_of hr) (sb_var 11) (sb_of se_int))) (sb_of se_int)) sa_nil)))) (blkOk_by (own := [("a", 23)]) (N := N_law) (sc := defScope s_law) (by decide +kernel)) (fun _ _ _ _ _ => sg_name 23 (vs := [23]) (sc_law.nd) rfl (by first | exact Or.inl rfl | exact Or.inr rfl) (by decide)) (fun _ _ _ _ _ => sts_one (st_inA (room65 hr) (sb_var 23) (sb_of (se_tup (sa_cons (se_at (hu_of hr) (sb_var 16) (sb_of se_int)) (sa_cons (se_at (hu_of hr) (sb_of (se_at (hu_of hr) (sb_of (se_at (hu_of hr) (sb_var 16) (sb_of se_int))) (sb_of se_int))) (sb_of se_int)) sa_nil)))))) (fun _ _ _ _ _ => se_var 23)))) (sb_of (se_lst sa_nil)) (nomark _))))))))
      (sss_cons (ss_set (i := 18) (sc_law.nd) rfl (by first | exact Or.inl rfl | exact Or.inr rfl) (sx_of se_non))
      (sss_cons (ss_if (st_tru (sb_var 17)) (sss_one (ss_set (i := 18) (sc_law.nd) rfl (by first | exact Or.inl rfl | exact Or.inr rfl) (sx_of (se_tup (sa_cons (se_var 2) (sa_cons (se_op od_addA (sb_of (se_op od_addA (sb_of (se_op od_addA (sb_of (se_sl (sb_var 5) so_none (so_some (se_var 22)))) (sb_of (se_tup (sa_cons (se_tup (sa_cons (se_at (hu_of hr) (sb_var 16) (sb_of se_int)) (sa_cons (se_tup (sa_cons (se_op od_addA (sb_of (se_sl (sb_of (se_at (hu_of hr) (sb_of (se_at (hu_of hr) (sb_var 16) (sb_of se_int))) (sb_of se_int))) so_none (so_some se_int))) (sb_of (se_tup (sa_cons (se_callB cd_len (by rfl) z_len v_len (sbs_cons (sb_var 5) sbs_nil)) sa_nil)))) sa_nil)) sa_nil))) sa_nil))))) (sb_of (se_sl (sb_var 5) (so_some (se_op od_addA (sb_var 22) (sb_of se_int))) so_none)))) (sb_of (se_tup (sa_cons (se_tup (sa_cons (se_var 10) (sa_cons (se_tup (sa_cons (se_op od_addA (sb_of (se_sl (sb_of (se_at (hu_of hr) (sb_var 11) (sb_of se_int))) so_none (so_some se_int))) (sb_of (se_tup (sa_cons (se_at (hu_of hr) (sb_of (se_at (hu_of hr) (sb_of (se_at (hu_of hr) (sb_var 16) (sb_of se_int))) (sb_of se_int))) (sb_of se_int)) sa_nil)))) sa_nil)) sa_nil))) sa_nil)))) sa_nil)))))) sss_nil)
      (sss_one (ss_ret (se_call c_law_alike hr (by rfl) (sa_cons (se_toldA T_law_told hL_law_told hr (by rfl) tb_law rfl ti_law (by decide) rfl (LamX.lamS_by (show LamX.lamSB (defScope s_law) _ = true by decide +kernel)) rfl (fun _ _ _ _ _ => rfl) (fun _ _ _ _ _ _ _ hr => se_call cl_swapped hr (by rfl) (sa_cons (se_var 21) (sa_cons (se_var 22) sa_nil))) (fun _ _ _ _ _ _ _ hr => re_call cx_swapped (takes_of rfl rfl rfl rfl) hr (by rfl) (sa_cons (se_var 21) (sa_cons (se_var 22) sa_nil)))) (sa_cons (se_var 18) sa_nil)))))))))))))))))))))))))))))
end
end Lw
namespace Lw
open PySem RT
abbrev Br := Int × Int × Int
abbrev Sc := Option (Int × List Br)
def eB (b : Br) : D := .tuple [.int b.1, .int b.2.1, .int b.2.2]
def eS : Sc → D
  | none => .none
  | some (s, bs) => .tuple [.int s, .tuple (bs.map eB)]
def eX (n : Int) (ss : List Sc) : D := .tuple [.int n, .tuple (ss.map eS)]
theorem compL_gen {α : Type} {gt : FGt} {t : FT} {fe : FE} {env : FEn} {x : FRow} (enc : α → D) (p : α → Bool) (g : α → D) : ∀ (l : List α), (∀ a ∈ l, ∃ e, gt (enc a) env = some e ∧ t e x = some (p a, x) ∧ (p a = true → fe e x = some (g a, x))) → compL gt t fe env (l.map enc) x = some ((l.filter p).map g, x)
  | [], _ => rfl
  | a :: l, h => by
    obtain ⟨e, h1, h2, h3⟩ := h a (by simp)
    have ih := compL_gen enc p g l fun b hb => h b (by simp [hb])
    cases hp : p a with
    | true => simp [compL, h1, h2, h3 hp, hp, ih]
    | false => simp [compL, h1, h2, hp, ih]
theorem compL_map {α : Type} {gt : FGt} {t : FT} {fe : FE} {env : FEn} {x : FRow} (enc : α → D) (g : α → D) (l : List α) (h : ∀ a ∈ l, ∃ e, gt (enc a) env = some e ∧ t e x = some (true, x) ∧ fe e x = some (g a, x)) : compL gt t fe env (l.map enc) x = some (l.map g, x) := by
  rw [compL_gen enc (fun _ => true) g l fun a ha => by obtain ⟨e, h1, h2, h3⟩ := h a ha; exact ⟨e, h1, h2, fun _ => h3⟩]
  rw [List.filter_eq_self.mpr (by simp)]
theorem forL_inv {α β : Type} {gt : FGt} {b : FS} {x : FRow} (enc : α → D) (f : β → α → β) (R : β → FEn → Prop) : ∀ (l : List α) (s : β) (env : FEn), (∀ a ∈ l, ∀ s env, R s env → ∃ e e2, gt (enc a) env = some e ∧ b e x = some (.nx e2, x) ∧ R (f s a) e2) → R s env → ∃ e2, forL gt b (l.map enc) env x = some (.nx e2, x) ∧ R (l.foldl f s) e2
  | [], s, env, _, r => ⟨env, rfl, r⟩
  | a :: l, s, env, h, r => by
    obtain ⟨e, e2, h1, h2, h3⟩ := h a (by simp) s env r
    obtain ⟨e3, h4, h5⟩ := forL_inv enc f R l (f s a) e2 (fun b hb => h b (by simp [hb])) h3
    exact ⟨e3, by simp [forL, h1, h2, h4], h5⟩
theorem sSeq_nx {f h : FS} {env e1 : FEn} {x x1 : FRow} (a : f env x = some (.nx e1, x1)) : sSeq f h env x = h e1 x1 := by simp [sSeq, a]
theorem rgD_map (n : Nat) : rgD 0 n = (List.range n).map fun (i : Nat) => D.int (i : Int) := by simp [rgD]
theorem enD_map {α : Type} (enc : α → D) (l : List α) : enD (l.map enc) = l.zipIdx.map fun p => D.tuple [.int (p.2 : Int), enc p.1] := by
  unfold enD
  apply List.ext_getElem (by simp)
  intro i h1 h2
  simp
theorem atI_nat {α : Type} {l : List α} {i : Nat} {z : α} (h : l[i]? = some z) : L2.atI l (i : Int) = some z := by
  have hi : i < l.length := by
    by_cases c : i < l.length
    · exact c
    · rw [List.getElem?_eq_none (by omega)] at h; exact absurd h (by simp)
  unfold L2.atI L2.ixN
  rw [if_pos (by omega), if_pos (by omega)]
  simpa using h
theorem atI_int {α : Type} {l : List α} {i : Int} {z : α} (h0 : 0 ≤ i) (h : l[i.toNat]? = some z) : L2.atI l i = some z := by
  rw [show i = ((i.toNat : Nat) : Int) by omega]; exact atI_nat h
theorem atI_z0 {α : Type} {a : α} {l : List α} : L2.atI (a :: l) 0 = some a := atI_nat (i := 0) rfl
theorem atI_z1 {α : Type} {a b : α} {l : List α} : L2.atI (a :: b :: l) 1 = some b := atI_nat (i := 1) rfl
def P0 (d : D) : Prop := d = .none ∨ (∃ i, d = .int i) ∨ (∃ b, d = .str b ∧ PyData.strOk b = true) ∨ ∃ b, d = .bool b
def Pt : Nat → D → Prop
  | 0, d => P0 d
  | k + 1, d => P0 d ∨ ∃ ds, (d = .tuple ds ∨ d = .list ds) ∧ ds.length ≤ 1000 ∧ ∀ e ∈ ds, Pt k e
theorem lay_all : ∀ ds : List D, (∀ e ∈ ds, e.py.canLay0 = true) → PyData.canLayAll0 (pyAll ds) = true
  | [], _ => by simp [pyAll, PyData.canLayAll0]
  | d :: ds, h => by
    simp only [pyAll, PyData.canLayAll0, h d (by simp), lay_all ds fun e he => h e (by simp [he])]; rfl
theorem dep_all (k : Nat) : ∀ ds : List D, (∀ e ∈ ds, e.py.depth ≤ k) → PyData.depthAll (pyAll ds) ≤ k
  | [], _ => by simp [pyAll, PyData.depthAll]
  | d :: ds, h => by
    simp only [pyAll, PyData.depthAll]
    have := h d (by simp)
    have := dep_all k ds fun e he => h e (by simp [he])
    omega
theorem eq_all : ∀ ds : List D, (∀ e ∈ ds, PyData.eqv e.py e.py = true) → PyData.eqvAll (pyAll ds) (pyAll ds) = true
  | [], _ => by simp [pyAll, PyData.eqvAll]
  | d :: ds, h => by
    simp only [pyAll, PyData.eqvAll, h d (by simp), eq_all ds fun e he => h e (by simp [he])]; rfl
theorem P0.ok {d : D} (h : P0 d) : d.py.canLay0 = true ∧ d.py.depth = 0 ∧ PyData.eqv d.py d.py = true := by
  rcases h with rfl | ⟨i, rfl⟩ | ⟨b, rfl, hb⟩ | ⟨b, rfl⟩ <;> simp_all [D.py, PyData.canLay0, PyData.depth, PyData.eqv]
theorem Pt.ok : ∀ {k : Nat} {d : D}, Pt k d → d.py.canLay0 = true ∧ d.py.depth ≤ k ∧ PyData.eqv d.py d.py = true
  | 0, d, h => by have := P0.ok h; exact ⟨this.1, by omega, this.2.2⟩
  | k + 1, d, h => by
    rcases h with h | ⟨ds, e, _, h⟩
    · have := P0.ok h; exact ⟨this.1, by omega, this.2.2⟩
    · have h1 := lay_all ds fun e he => (Pt.ok (h e he)).1
      have h2 := dep_all k ds fun e he => (Pt.ok (h e he)).2.1
      have h3 := eq_all ds fun e he => (Pt.ok (h e he)).2.2
      rcases e with rfl | rfl <;> simp [D.py, PyData.canLay0, PyData.depth, PyData.eqv, h1, h2, h3]
theorem Pt.sh {k : Nat} {d : D} (h : Pt k d) (hk : k ≤ 64) : shapedD d = true := by
  have := h.ok
  simp [shapedD, SeqAt.shaped, this.1, Nat.le_trans this.2.1 hk]
theorem Pt.rf {k : Nat} {d : D} (h : Pt k d) (hk : k ≤ 64) : gEq d d = some (.bool true) := by
  simp [gEq, h.sh hk, eqD, h.ok.2.2]
theorem Pt.up : ∀ {k : Nat} {d : D}, Pt k d → Pt (k + 1) d
  | 0, d, h => Or.inl h
  | k + 1, d, h => by
    rcases h with h | ⟨ds, e, l, h⟩
    · exact Or.inl h
    · exact Or.inr ⟨ds, e, l, fun z hz => Pt.up (h z hz)⟩
theorem Pt.le {k j : Nat} {d : D} (h : Pt k d) (hj : k ≤ j) : Pt j d := by
  induction j with
  | zero => have : k = 0 := by omega
            subst this; exact h
  | succ j ih =>
    by_cases c : k = j + 1
    · subst c; exact h
    · exact (ih (by omega)).up
theorem sh_int (i : Int) : shapedD (.int i) = true := by simp [shapedD, SeqAt.shaped, D.py, PyData.canLay0, PyData.depth]
theorem sh_bool (i : Bool) : shapedD (.bool i) = true := by simp [shapedD, SeqAt.shaped, D.py, PyData.canLay0, PyData.depth]
theorem sh_ints (l : List Int) : shapedD (.list (l.map .int)) = true := by
  have h1 := lay_all (l.map D.int) (by simp [D.py, PyData.canLay0])
  have h2 := dep_all 0 (l.map D.int) (by simp [D.py, PyData.depth])
  simp only [shapedD, SeqAt.shaped, D.py, PyData.canLay0, PyData.depth, h1, Bool.true_and, decide_eq_true_eq]
  omega
theorem ne_int (i j : Int) : gNe (.int i) (.int j) = some (.bool (!decide (i = j))) := by
  simp [gNe, sh_int, eqD, D.py, PyData.eqv]
  by_cases h : i = j <;> simp [h]
theorem eq_int (i j : Int) : gEq (.int i) (.int j) = some (.bool (decide (i = j))) := by
  simp [gEq, sh_int, eqD, D.py, PyData.eqv]
  by_cases h : i = j <;> simp [h]
theorem ne_bool (i j : Bool) : gNe (.bool i) (.bool j) = some (.bool (i != j)) := by
  cases i <;> cases j <;> simp [gNe, sh_bool, eqD, D.py, PyData.eqv]
theorem eq_bool (i j : Bool) : gEq (.bool i) (.bool j) = some (.bool (i == j)) := by
  cases i <;> cases j <;> simp [gEq, sh_bool, eqD, D.py, PyData.eqv]
theorem ne_nil (l : List Int) : gNe (.list (l.map .int)) (.list []) = some (.bool (!l.isEmpty)) := by
  have h := sh_ints l
  have h0 := sh_ints []
  rw [List.map_nil] at h0
  simp only [gNe, h, h0, Bool.true_and, if_true]
  cases l <;> simp [eqD, D.py, pyAll, PyData.eqv, PyData.eqvAll]
theorem alike_base {k : Nat} {d : D} (h0 : P0 d) : m_law_alike (k + 1) [d, d] = some (.bool true) := by
  have e := Pt.rf (k := 0) h0 (by omega)
  rcases h0 with rfl | ⟨i, rfl⟩ | ⟨b, rfl, hb⟩ | ⟨b, rfl⟩ <;> simp [m_law_alike, b_law_alike, fVar, fBor, fC, aNil, aCons, fTup, fLst, fBin, fTst, fChain, fAnd, fOr, fNot, fNeg, tAndF, tOrF, tNotF, fTru, fIf, fSl, oNone, oSome, fCall, fCallR, fRow, fRowLen, fRowAt, sSet, sPars, setsE, xVal, xLst, xNew, xDict1, sRet, sNo, sNil, sSeq, sIf, eFrz, sFrz, sUnp, gtName, gtNil, gtCons, gtTup, fSeq, sAug, sDrop, sApp, sExt, sDPut, fOfX, sRow, xsNil, xsCons, fIsi, fIsi2, okRg, fRg1, fRg2, fEn, mkF, mkR, startE, tYesF, OwD.d, sFor, xLc, xDc, wipeE, truD, isNoneD, gIsN, gNotN, isiD, maxLen, gI, gOr, gAdd, gMul, gCatT, gCatL, gLtX, gLt, gLen, gInt, gTupOf, gListOf, gAt, pMod, pDiv, pMul, pPow, e, eq_bool]
theorem lc_eq {f : FA} {gt : FGt} {t : FT} {fe : FE} {vs : List Nat} {env : FEn} {x : FRow} {ds rs : List D} (h1 : f env x = some (ds, x)) (h2 : compL gt t fe (wipeE env vs) ds x = some (rs, x)) (h3 : rs.length < maxLen) : fOfX (xLc f gt t fe vs) env x = some (.list rs, x) := by
  simp [fOfX, xLc, h1, h2, h3, OwD.d]
theorem law_alike_s (k : Nat) (ds : List D) : m_law_alike (k + 1) ds = mkF 3 2 (b_law_alike (m_law_alike k)) ds := by
  rfl
theorem mkF_rt {n k : Nat} {b : FS} {ds : List D} {d : D} {x : FRow} (hk : ds.length = k) (h : b (startE n ds) row0 = some (.rt d, x)) : mkF n k b ds = some d := by
  simp [mkF, hk, h]
theorem rg_ok {n : Nat} (h : n ≤ 1000) : okRg (n : Int) = true := by
  simp only [okRg, decide_eq_true_eq]; omega
theorem alike_step {rec : List D → Option D} {d : D} {ds : List D} (e : d = .tuple ds ∨ d = .list ds) (hl : ds.length ≤ 1000) (h : compL (gtName 2) (tNotF (fTru (fCall rec (aCons (fBin gAt (fBor 0) (fBor 2)) (aCons (fBin gAt (fBor 1) (fBor 2)) aNil))))) (fVar 2) [.va d, .va d, .no] (rgD 0 ds.length) row0 = some ([], row0)) : mkF 3 2 (b_law_alike rec) [d, d] = some (.bool true) := by
  have e0 : gEq (.list []) (.list []) = some (.bool true) := Pt.rf (k := 1) (Or.inr ⟨[], Or.inr rfl, by simp, by simp⟩) (by omega)
  have hk := rg_ok hl
  have h3 : fOfX (xLc (fRg1 (fCall gLen (aCons (fBor 1) aNil))) (gtName 2) (tNotF (fTru (fCall rec (aCons (fBin gAt (fBor 0) (fBor 2)) (aCons (fBin gAt (fBor 1) (fBor 2)) aNil))))) (fVar 2) [2]) [.va d, .va d, .no] row0 = some (.list [], row0) := by
    refine lc_eq (ds := rgD 0 ds.length) ?_ ?_ (by simp [maxLen])
    · rcases e with rfl | rfl <;> simp [fRg1, fCall, fBor, aCons, aNil, gLen, hk]
    · exact h
  have hl0 : fLst aNil [.va d, .va d, .no] row0 = some (.list [], row0) := by simp [fLst, aNil]
  have t1 : fTru (fIsi2 .tuple .list (fBor 1)) [.va d, .va d, .no] row0 = some (true, row0) := by
    rcases e with rfl | rfl <;> simp [fTru, fIsi2, fBor, isiD, truD]
  have t0 : fTru (fIsi2 .tuple .list (fBor 0)) [.va d, .va d, .no] row0 = some (true, row0) := by
    rcases e with rfl | rfl <;> simp [fTru, fIsi2, fBor, isiD, truD]
  have t2 : fTst (fBin gNe (fIsi .list (fBor 0)) (fIsi .list (fBor 1))) [.va d, .va d, .no] row0 = some (false, row0) := by
    rcases e with rfl | rfl <;> simp [fTst, fBin, fIsi, fBor, isiD, ne_bool]
  have t3 : fTst (fBin gNe (fCall gLen (aCons (fBor 0) aNil)) (fCall gLen (aCons (fBor 1) aNil))) [.va d, .va d, .no] row0 = some (false, row0) := by
    rcases e with rfl | rfl <;> simp [fTst, fBin, fCall, aCons, aNil, fBor, gLen, ne_int]
  have t4 : b_law_alike rec [.va d, .va d, .no] row0 = some (.rt (.bool true), row0) := by
    simp only [b_law_alike, sSeq, sIf, tOrF, tNotF, t0, t1, t2, t3, sNil, sRet, fBin, h3, hl0, e0, Bool.not_true]
  exact mkF_rt rfl t4
theorem alike_ok (k : Nat) : ∀ {d : D}, Pt k d → m_law_alike (k + 1) [d, d] = some (.bool true) := by
  induction k with
  | zero => exact fun h => alike_base h
  | succ k ih =>
    intro d h
    rcases h with h | ⟨ds, e, hl, h⟩
    · exact alike_base h
    · have hr : ∀ x : FRow, ∀ d' : D, (d' = .tuple ds ∨ d' = .list ds) → compL (gtName 2) (tNotF (fTru (fCall (m_law_alike (k + 1)) (aCons (fBin gAt (fBor 0) (fBor 2)) (aCons (fBin gAt (fBor 1) (fBor 2)) aNil))))) (fVar 2) [.va d', .va d', .no] (rgD 0 ds.length) x = some ([], x) := by
        intro x d' hd'
        rw [rgD_map]
        rw [compL_gen (fun (i : Nat) => D.int (i : Int)) (fun _ => false) (fun _ => .none) (List.range ds.length)]
        · simp
        · intro i hi
          have hi' : i < ds.length := by simpa using hi
          have hz : ds[i]? = some ds[i] := List.getElem?_eq_getElem hi'
          have ha := atI_nat hz
          have hm := ih (h ds[i] (List.getElem_mem hi'))
          refine ⟨_, rfl, ?_, by simp⟩
          rcases hd' with rfl | rfl <;> simp [fVar, fBor, fC, aNil, aCons, fTup, fLst, fBin, fTst, fChain, fAnd, fOr, fNot, fNeg, tAndF, tOrF, tNotF, fTru, fIf, fSl, oNone, oSome, fCall, fCallR, fRow, fRowLen, fRowAt, sSet, sPars, setsE, xVal, xLst, xNew, xDict1, sRet, sNo, sNil, sSeq, sIf, eFrz, sFrz, sUnp, gtName, gtNil, gtCons, gtTup, fSeq, sAug, sDrop, sApp, sExt, sDPut, fOfX, sRow, xsNil, xsCons, fIsi, fIsi2, okRg, fRg1, fRg2, fEn, mkF, mkR, startE, tYesF, OwD.d, sFor, xLc, xDc, wipeE, truD, isNoneD, gIsN, gNotN, isiD, maxLen, gI, gOr, gAdd, gMul, gCatT, gCatL, gLtX, gLt, gLen, gInt, gTupOf, gListOf, gAt, pMod, pDiv, pMul, pPow, ha, hm]
      rw [law_alike_s]
      exact alike_step e hl (hr row0 d e)
theorem is_number_eq (i a b : Int) : m_is_number [.int i, .int a, .int b] = some (.bool (decide (a ≤ i) && decide (i ≤ b))) := by
  by_cases h1 : a ≤ i <;> by_cases h2 : i ≤ b <;> simp [m_is_number, b_is_number, fVar, fBor, fC, aNil, aCons, fTup, fLst, fBin, fTst, fChain, fAnd, fOr, fNot, fNeg, tAndF, tOrF, tNotF, fTru, fIf, fSl, oNone, oSome, fCall, fCallR, fRow, fRowLen, fRowAt, sSet, sPars, setsE, xVal, xLst, xNew, xDict1, sRet, sNo, sNil, sSeq, sIf, eFrz, sFrz, sUnp, gtName, gtNil, gtCons, gtTup, fSeq, sAug, sDrop, sApp, sExt, sDPut, fOfX, sRow, xsNil, xsCons, fIsi, fIsi2, okRg, fRg1, fRg2, fEn, mkF, mkR, startE, tYesF, OwD.d, sFor, xLc, xDc, wipeE, truD, isNoneD, gIsN, gNotN, isiD, maxLen, gI, gOr, gAdd, gMul, gCatT, gCatL, gLtX, gLt, gLen, gInt, gTupOf, gListOf, gAt, pMod, pDiv, pMul, pPow, h1, h2]
theorem has_items_eq (ds : List D) (a b : Int) : m_has_items [.tuple ds, .int a, .int b] = some (.bool (decide (a ≤ ds.length) && decide ((ds.length : Int) ≤ b))) := by
  by_cases h1 : a ≤ ds.length <;> by_cases h2 : (ds.length : Int) ≤ b <;> simp [m_has_items, b_has_items, fVar, fBor, fC, aNil, aCons, fTup, fLst, fBin, fTst, fChain, fAnd, fOr, fNot, fNeg, tAndF, tOrF, tNotF, fTru, fIf, fSl, oNone, oSome, fCall, fCallR, fRow, fRowLen, fRowAt, sSet, sPars, setsE, xVal, xLst, xNew, xDict1, sRet, sNo, sNil, sSeq, sIf, eFrz, sFrz, sUnp, gtName, gtNil, gtCons, gtTup, fSeq, sAug, sDrop, sApp, sExt, sDPut, fOfX, sRow, xsNil, xsCons, fIsi, fIsi2, okRg, fRg1, fRg2, fEn, mkF, mkR, startE, tYesF, OwD.d, sFor, xLc, xDc, wipeE, truD, isNoneD, gIsN, gNotN, isiD, maxLen, gI, gOr, gAdd, gMul, gCatT, gCatL, gLtX, gLt, gLen, gInt, gTupOf, gListOf, gAt, pMod, pDiv, pMul, pPow, h1, h2]
theorem is_talk_ok {s h w n : Int} (hs : 0 ≤ s ∧ s < n) (hh : 0 ≤ h ∧ h < n) (hn : h ≠ s) (hw : 0 ≤ w ∧ w ≤ 5) : m_is_talk [.tuple [.int s, .int h, .int w], .int n] = some (.bool true) := by
  have e1 : s ≤ n - 1 := by omega
  have e2 : h ≤ n - 1 := by omega
  have e3 : gNe (.int s) (.int h) = some (.bool true) := by
    rw [ne_int]; simp; omega
  simp [m_is_talk, b_is_talk, fVar, fBor, fC, aNil, aCons, fTup, fLst, fBin, fTst, fChain, fAnd, fOr, fNot, fNeg, tAndF, tOrF, tNotF, fTru, fIf, fSl, oNone, oSome, fCall, fCallR, fRow, fRowLen, fRowAt, sSet, sPars, setsE, xVal, xLst, xNew, xDict1, sRet, sNo, sNil, sSeq, sIf, eFrz, sFrz, sUnp, gtName, gtNil, gtCons, gtTup, fSeq, sAug, sDrop, sApp, sExt, sDPut, fOfX, sRow, xsNil, xsCons, fIsi, fIsi2, okRg, fRg1, fRg2, fEn, mkF, mkR, startE, tYesF, OwD.d, sFor, xLc, xDc, wipeE, truD, isNoneD, gIsN, gNotN, isiD, maxLen, gI, gOr, gAdd, gMul, gCatT, gCatL, gLtX, gLt, gLen, gInt, gTupOf, gListOf, gAt, pMod, pDiv, pMul, pPow, has_items_eq, is_number_eq, e1, e2, hs.1, hh.1, hw.1, hw.2, e3]
structure OkB (n : Int) (m : Nat) (s : Int) (b : Br) : Prop where
  h : 0 ≤ b.1 ∧ b.1 < n
  ne : b.1 ≠ s
  w : 0 ≤ b.2.1 ∧ b.2.1 ≤ 5
  t : 0 ≤ b.2.2 ∧ b.2.2 < m
def Two (bs : List Br) : Prop := (∃ b, bs = [b]) ∨ ∃ b c, bs = [b, c] ∧ HT.lexLt [b.1, b.2.1] [c.1, c.2.1] = true
structure Ok (n : Int) (ss : List Sc) : Prop where
  n2 : 2 ≤ n ∧ n ≤ 4
  m : 1 ≤ ss.length ∧ ss.length ≤ 8
  sc : ∀ s bs, some (s, bs) ∈ ss → (0 ≤ s ∧ s < n) ∧ Two bs ∧ ∀ b ∈ bs, OkB n ss.length s b
theorem is_branch_ok {n : Int} {m : Nat} {s : Int} {b : Br} (hs : 0 ≤ s ∧ s < n) (k : OkB n m s b) : m_is_branch [eB b, .int s, .int n, .int m] = some (.bool true) := by
  have e1 : b.2.2 ≤ (m : Int) - 1 := by have := k.t; omega
  simp [m_is_branch, b_is_branch, eB, fVar, fBor, fC, aNil, aCons, fTup, fLst, fBin, fTst, fChain, fAnd, fOr, fNot, fNeg, tAndF, tOrF, tNotF, fTru, fIf, fSl, oNone, oSome, fCall, fCallR, fRow, fRowLen, fRowAt, sSet, sPars, setsE, xVal, xLst, xNew, xDict1, sRet, sNo, sNil, sSeq, sIf, eFrz, sFrz, sUnp, gtName, gtNil, gtCons, gtTup, fSeq, sAug, sDrop, sApp, sExt, sDPut, fOfX, sRow, xsNil, xsCons, fIsi, fIsi2, okRg, fRg1, fRg2, fEn, mkF, mkR, startE, tYesF, OwD.d, sFor, xLc, xDc, wipeE, truD, isNoneD, gIsN, gNotN, isiD, maxLen, gI, gOr, gAdd, gMul, gCatT, gCatL, gLtX, gLt, gLen, gInt, gTupOf, gListOf, gAt, pMod, pDiv, pMul, pPow, has_items_eq, is_number_eq, is_talk_ok hs k.h k.ne k.w, k.t.1, e1]
end Lw
namespace Lw
open PySem RT
theorem mkF_nx {n k : Nat} {b : FS} {ds : List D} {e : FEn} {x : FRow} (hk : ds.length = k) (h : b (startE n ds) row0 = some (.nx e, x)) : mkF n k b ds = some .none := by
  simp [mkF, hk, h]
theorem intsD_map : ∀ l : List Int, intsD (l.map .int) = some l
  | [] => rfl
  | a :: l => by simp [intsD, intsD_map l]
theorem bools_map {α : Type} (f : α → Bool) : ∀ l : List α, bools (l.map fun a => .bool (f a)) = some (l.map f)
  | [] => rfl
  | a :: l => by simp [bools, bools_map f l]
theorem rising1 (b : Br) : m_is_rising [.list [.tuple [.int b.1, .int b.2.1]]] = some (.bool true) := by
  refine mkF_rt (x := row0) rfl ?_
  simp [b_is_rising, fBin, fBor, fVar, fC, fCall, fOfX, xLc, fRg1, okRg, rgD, compL, aCons, aNil, sRet, gLen, gI, gAll, bools, startE, OwD.d, maxLen]
theorem rising2 (b c : Br) (h : HT.lexLt [b.1, b.2.1] [c.1, c.2.1] = true) : m_is_rising [.list [.tuple [.int b.1, .int b.2.1], .tuple [.int c.1, .int c.2.1]]] = some (.bool true) := by
  refine mkF_rt (x := row0) rfl ?_
  simp [b_is_rising, fBin, fBor, fVar, fC, fCall, fOfX, xLc, fRg1, okRg, rgD, compL, aCons, aNil, sRet, gLen, gI, gAll, bools, startE, OwD.d, maxLen, gtName, tYesF, gAt, gLtX, gLt, gOr, gLtT, intsD, atI_z0, atI_z1, gAdd, wipeE, h]
theorem cut2 (b : Br) : cutL [D.int b.1, .int b.2.1, .int b.2.2] none (some 2) = [.int b.1, .int b.2.1] := by
  simp [cutL, HT.sIx]
theorem is_scene_none (n m : Int) : m_is_scene [.none, .int n, .int m] = some (.bool true) := by
  refine mkF_rt (x := row0) rfl ?_
  simp [b_is_scene, sSeq, sIf, fTst, fBin, fBor, fC, gIsN, isNoneD, sRet, startE]
theorem is_scene_ok {n : Int} {m : Nat} {s : Int} {bs : List Br} (hs : 0 ≤ s ∧ s < n) (h2 : Two bs) (hb : ∀ b ∈ bs, OkB n m s b) : m_is_scene [eS (some (s, bs)), .int n, .int m] = some (.bool true) := by
  refine mkF_rt (x := row0) rfl ?_
  have e0 := has_items_eq [.int s, .tuple (bs.map eB)] 2 2
  have c1 : fOfX (xLc (fSeq (fVar 4)) (gtName 5) tYesF (fCall m_is_branch (aCons (fVar 5) (aCons (fVar 3) (aCons (fVar 1) (aCons (fVar 2) aNil))))) [5]) [.va (eS (some (s, bs))), .va (.int n), .va (.int m), .va (.int s), .va (.tuple (bs.map eB)), .no] row0 = some (.list (bs.map fun _ => .bool true), row0) := by
    refine lc_eq (ds := bs.map eB) (by simp [fSeq, fVar]) (compL_map eB _ bs fun b hb' => ⟨_, rfl, rfl, ?_⟩) ?_
    · simp [fCall, aCons, aNil, fVar, wipeE, gtName, is_branch_ok hs (hb b hb')]
    · rcases h2 with ⟨b, rfl⟩ | ⟨b, c, rfl, _⟩ <;> simp [maxLen]
  have c2 : ∀ z, fOfX (xLc (fSeq (fVar 4)) (gtName 5) tYesF (fSl (fBor 5) oNone (oSome (fC (.int 2)))) [5]) [.va (eS (some (s, bs))), .va (.int n), .va (.int m), .va (.int s), .va (.tuple (bs.map eB)), z] row0 = some (.list (bs.map fun b => .tuple [.int b.1, .int b.2.1]), row0) := by
    intro z
    refine lc_eq (ds := bs.map eB) (by simp [fSeq, fVar]) (compL_map eB _ bs fun b hb' => ⟨_, rfl, rfl, ?_⟩) ?_
    · simp [fSl, fBor, oNone, oSome, fC, wipeE, gtName, eB, gSl, cut2]
    · rcases h2 with ⟨b, rfl⟩ | ⟨b, c, rfl, _⟩ <;> simp [maxLen]
  have c3 : m_is_rising [.list (bs.map fun b => .tuple [.int b.1, .int b.2.1])] = some (.bool true) := by
    rcases h2 with ⟨b, rfl⟩ | ⟨b, c, rfl, hl⟩
    · exact rising1 b
    · exact rising2 b c hl
  have c4 : gAll [.list (bs.map fun _ => .bool true)] = some (.bool true) := by
    simp only [gAll, bools_map (fun _ => true)]; simp
  have c5 : (bs.length : Int) ≠ 0 := by rcases h2 with ⟨b, rfl⟩ | ⟨b, c, rfl, _⟩ <;> simp
  have c6 : fTst (fBin gIsN (fBor 0) (fC .none)) [.va (eS (some (s, bs))), .va (.int n), .va (.int m), .no, .no, .no] row0 = some (false, row0) := by
    simp [fTst, fBin, fBor, fC, gIsN, isNoneD, eS]
  have c7 : tNotF (fTru (fCall m_has_items (aCons (fVar 0) (aCons (fC (.int 2)) (aCons (fC (.int 2)) aNil))))) [.va (eS (some (s, bs))), .va (.int n), .va (.int m), .no, .no, .no] row0 = some (false, row0) := by
    simp [tNotF, fTru, fCall, aCons, aNil, fVar, fC, eS, e0, truD]
  have c8 : sUnp (fVar 0) (gtTup 2 (gtCons (gtName 3) (gtCons (gtName 4) gtNil))) [.va (eS (some (s, bs))), .va (.int n), .va (.int m), .no, .no, .no] row0 = some (.nx [.va (eS (some (s, bs))), .va (.int n), .va (.int m), .va (.int s), .va (.tuple (bs.map eB)), .no], row0) := by
    simp [sUnp, fVar, gtTup, gtCons, gtName, gtNil, eS]
  have c9 : tOrF (tNotF (fTru (fIsi .tuple (fBor 4)))) (fTst (fBin gEq (fCall gLen (aCons (fBor 4) aNil)) (fC (.int 0)))) [.va (eS (some (s, bs))), .va (.int n), .va (.int m), .va (.int s), .va (.tuple (bs.map eB)), .no] row0 = some (false, row0) := by
    simp [tOrF, tNotF, fTru, fIsi, fBor, isiD, truD, fTst, fBin, fCall, aCons, aNil, gLen, fC, eq_int, c5]
    intro h; simp [h] at c5
  show b_is_scene [.va (eS (some (s, bs))), .va (.int n), .va (.int m), .no, .no, .no] row0 = _
  simp only [b_is_scene, sSeq, sIf, c6, c7, c8, c9, sNil]
  simp only [fCall, aCons, aNil, c1, c4, tNotF, fTru, truD, Bool.not_true, sRet, c2, c3]
theorem sc_ok {n : Int} {ss : List Sc} (k : Ok n ss) {sc : Sc} (h : sc ∈ ss) : m_is_scene [eS sc, .int n, .int ss.length] = some (.bool true) := by
  cases sc with
  | none => exact is_scene_none n ss.length
  | some p => obtain ⟨h1, h2, h3⟩ := k.sc p.1 p.2 h; exact is_scene_ok h1 h2 h3
theorem form_ok {n : Int} {ss : List Sc} (k : Ok n ss) : m_has_script_form [eX n ss] = some (.bool true) := by
  refine mkF_rt (x := row0) rfl ?_
  have e0 := has_items_eq [.int n, .tuple (ss.map eS)] 2 2
  have e1 := has_items_eq (ss.map eS) 1 8
  have h1 : (1 : Int) ≤ ss.length ∧ (ss.length : Int) ≤ 8 := by have := k.m; omega
  rw [List.length_map] at e1
  have h2 := k.n2
  have h3 := is_number_eq n 2 4
  simp [b_has_script_form, sSeq, sIf, tNotF, fTru, fCall, aCons, aNil, fVar, fC, eX, e0, truD, sNil, sUnp, gtTup, gtCons, gtName, gtNil, sRet, fAnd, e1, h3, startE, h1, h2]
theorem check_ok {n : Int} {ss : List Sc} (k : Ok n ss) : ∃ d, m_check_script [eX n ss] = some d := by
  have hf := form_ok k
  obtain ⟨e2, h4, _⟩ := forL_inv (x := row0) (gt := gtTup 2 (gtCons (gtName 3) (gtCons (gtName 4) gtNil))) (b := sIf (tNotF (fTru (fCall m_is_scene (aCons (fVar 4) (aCons (fVar 1) (aCons (fCall gLen (aCons (fBor 2) aNil)) aNil)))))) sNo sNil) (fun p : Sc × Nat => D.tuple [.int (p.2 : Int), eS p.1]) (fun (_ : Unit) _ => ()) (fun _ env => ∃ z u, env = [.va (eX n ss), .va (.int n), .va (.tuple (ss.map eS)), z, u]) ss.zipIdx () [.va (eX n ss), .va (.int n), .va (.tuple (ss.map eS)), .no, .no] (by
    rintro ⟨sc, i⟩ hp _ env ⟨z, u, rfl⟩
    have hm : sc ∈ ss := by
      have := List.mem_zipIdx hp; rw [this.2.2]; exact List.getElem_mem _
    refine ⟨_, [.va (eX n ss), .va (.int n), .va (.tuple (ss.map eS)), .va (.int i), .va (eS sc)], rfl, ?_, _, _, rfl⟩
    simp [sIf, tNotF, fTru, fCall, aCons, aNil, fVar, fBor, gLen, sc_ok k hm, truD, sNil]) ⟨_, _, rfl⟩
  refine ⟨_, mkF_nx (e := e2) (x := row0) rfl ?_⟩
  have c1 : tNotF (fTru (fCall m_has_script_form (aCons (fVar 0) aNil))) [.va (eX n ss), .no, .no, .no, .no] row0 = some (false, row0) := by
    simp [tNotF, fTru, fCall, aCons, aNil, fVar, hf, truD]
  have c2 : sUnp (fVar 0) (gtTup 2 (gtCons (gtName 1) (gtCons (gtName 2) gtNil))) [.va (eX n ss), .no, .no, .no, .no] row0 = some (.nx [.va (eX n ss), .va (.int n), .va (.tuple (ss.map eS)), .no, .no], row0) := by
    simp [sUnp, fVar, gtTup, gtCons, gtName, gtNil, eX]
  have c3 : fEn (fVar 2) [.va (eX n ss), .va (.int n), .va (.tuple (ss.map eS)), .no, .no] row0 = some (ss.zipIdx.map (fun p : Sc × Nat => D.tuple [.int (p.2 : Int), eS p.1]), row0) := by
    simp only [fEn, fVar]; rw [← enD_map]; rfl
  show b_check_script [.va (eX n ss), .no, .no, .no, .no] row0 = _
  simp only [b_check_script, sSeq, sIf, c1, sNil, c2, sFor, c3]
  exact h4
end Lw
namespace Lw
open PySem RT
def eT (s : Int) (b : Br) : D := .tuple [.tuple [.int s, .int b.1, .int b.2.1], .int b.2.2]
def tk : Sc → List D
  | none => []
  | some (s, bs) => bs.map (eT s)
def scAt (ss : List Sc) (v : Int) : Sc := match ss[v.toNat]? with
  | some sc => sc
  | none => none
def bsOf : Sc → List Br
  | none => []
  | some (_, bs) => bs
def brs (ss : List Sc) (v : Int) : List Br := bsOf (scAt ss v)
theorem Two.len {bs : List Br} (h : Two bs) : 1 ≤ bs.length ∧ bs.length ≤ 2 := by
  rcases h with ⟨b, rfl⟩ | ⟨b, c, rfl, _⟩ <;> simp
theorem Ok.bsl {n : Int} {ss : List Sc} (k : Ok n ss) {sc : Sc} (h : sc ∈ ss) : (bsOf sc).length ≤ 2 := by
  cases sc with
  | none => simp [bsOf]
  | some p => exact (k.sc p.1 p.2 h).2.1.len.2
theorem scAt_mem {ss : List Sc} {v : Int} (h0 : 0 ≤ v) (h1 : v < ss.length) : ss[v.toNat]? = some (scAt ss v) ∧ scAt ss v ∈ ss := by
  have : v.toNat < ss.length := by omega
  have e : ss[v.toNat]? = some ss[v.toNat] := List.getElem?_eq_getElem this
  have e2 : scAt ss v = ss[v.toNat] := by unfold scAt; rw [e]
  rw [e2]; exact ⟨e, List.getElem_mem this⟩
end Lw
namespace Lw
open PySem RT
variable {n : Int} {ss : List Sc}
theorem eX_at {n : Int} {ss : List Sc} {v : Int} (h0 : 0 ≤ v) (h1 : v < ss.length) : gAt (.tuple (ss.map eS)) (.int v) = some (eS (scAt ss v)) := by
  have e := (scAt_mem h0 h1).1
  simp only [gAt]
  exact atI_int h0 (by rw [List.getElem?_map, e]; rfl)
theorem eX_1 (n : Int) (ss : List Sc) : gAt (eX n ss) (.int 1) = some (.tuple (ss.map eS)) := by simp [gAt, eX, atI_z1]
theorem eX_0 (n : Int) (ss : List Sc) : gAt (eX n ss) (.int 0) = some (.int n) := by simp [gAt, eX, atI_z0]
def isEnd (ss : List Sc) (v : Int) : Bool := (scAt ss v).isNone
theorem none_eS (sc : Sc) : gIsN (eS sc) .none = some (.bool sc.isNone) := by
  cases sc <;> simp [gIsN, eS, isNoneD]
theorem brs_len (k : Ok n ss) {v : Int} (hv : 0 ≤ v ∧ v < ss.length) : (brs ss v).length ≤ 2 := k.bsl (scAt_mem hv.1 hv.2).2
theorem P0i (i : Int) : P0 (.int i) := Or.inr (Or.inl ⟨i, rfl⟩)
theorem tupOf_ok {F : FE} {env : FEn} {x x1 : FRow} {ds : List D} (h : F env x = some (.list ds, x1)) : fCall gTupOf (aCons F aNil) env x = some (.tuple ds, x1) := by
  simp only [fCall, aCons, aNil, h, gTupOf]
theorem fTup_ok {t : FA} {env : FEn} {x x1 : FRow} {ds : List D} (h : t env x = some (ds, x1)) (hl : ds.length ≤ maxLen) : fTup t env x = some (.tuple ds, x1) := by
  simp only [fTup, h, if_pos hl]
theorem fBin_cat {fa fb : FE} {env : FEn} {x x1 x2 : FRow} {xs ys : List D} (h : fa env x = some (.tuple xs, x1)) (h' : fb env x1 = some (.tuple ys, x2)) (hl : xs.length + ys.length ≤ maxLen) : fBin gAdd fa fb env x = some (.tuple (xs ++ ys), x2) := by
  simp only [fBin, h, h', gAdd, gOr, gI, gCatT, if_pos hl]
theorem aCons2 {fa fb : FE} {env : FEn} {x x1 x2 : FRow} {d e : D} (h : fa env x = some (d, x1)) (h' : fb env x1 = some (e, x2)) : aCons fa (aCons fb aNil) env x = some ([d, e], x2) := by
  simp only [aCons, aNil, h, h']
theorem fLst_ok {t : FA} {env : FEn} {x x1 : FRow} {ds : List D} (h : t env x = some (ds, x1)) (hl : ds.length ≤ maxLen) : fLst t env x = some (.list ds, x1) := by
  simp only [fLst, h, if_pos hl]
theorem ml (k : Nat) (h : k ≤ 1000) : k ≤ maxLen := by simp only [maxLen]; omega
theorem sSet_va {i : Nat} {f : FE} {env : FEn} {x x1 : FRow} {d : D} (h : f env x = some (d, x1)) : sSet i (xVal f) env x = some (.nx (env.set i (.va d)), x1) := by
  simp only [sSet, xVal, h]
theorem fBin_eq {gd : D → D → Option D} {fa fb : FE} {env : FEn} {x x1 x2 : FRow} {d e r : D} (h : fa env x = some (d, x1)) (h' : fb env x1 = some (e, x2)) (hg : gd d e = some r) : fBin gd fa fb env x = some (r, x2) := by
  simp only [fBin, h, h', hg]
theorem fCall_eq {m : List D → Option D} {fa : FA} {env : FEn} {x x1 : FRow} {ds : List D} {r : D} (h : fa env x = some (ds, x1)) (hm : m ds = some r) : fCall m fa env x = some (r, x1) := by
  simp only [fCall, h, hm]
theorem aCons1 {fa : FE} {env : FEn} {x x1 : FRow} {d : D} (h : fa env x = some (d, x1)) : aCons fa aNil env x = some ([d], x1) := by
  simp only [aCons, aNil, h]
theorem fCallR_eq {i : Nat} {m : List D → FRow → Option (D × FRow)} {fa : FA} {env : FEn} {x x1 x2 : FRow} {ds : List D} {r : D} (he : env[i]? = some .rw) (h : fa env x = some (ds, x1)) (hm : m ds x1 = some (r, x2)) : fCallR i m fa env x = some (r, x2) := by
  simp only [fCallR, he, h, hm]
theorem aCons_eq {f : FE} {t : FA} {env : FEn} {x x1 x2 : FRow} {d : D} {ds : List D} (h : f env x = some (d, x1)) (h' : t env x1 = some (ds, x2)) : aCons f t env x = some (d :: ds, x2) := by
  simp only [aCons, h, h']
theorem if_no {t : FT} {f : FS} {env : FEn} {x : FRow} (h : t env x = some (false, x)) : sIf t f sNil env x = some (.nx env, x) := by
  simp only [sIf, h, sNil]
theorem prog {m : List D → Option D} {i : Nat} {env : FEn} {x : FRow} {d r : D} (h : fVar i env x = some (d, x)) (hm : m [d] = some r) : fCall m (aCons (fVar i) aNil) env x = some (r, x) := fCall_eq (aCons1 h) hm
theorem for_eq {f : FA} {gt : FGt} {b : FS} {env : FEn} {x x1 : FRow} {ds : List D} {r : Option (FRs × FRow)} (h : f env x = some (ds, x1)) (hr : forL gt b ds env x1 = r) : sFor f gt b env x = r := by
  simp only [sFor, h, hr]
theorem xLst_ok {t : FA} {env : FEn} {x x1 : FRow} {ds : List D} (h : t env x = some (ds, x1)) (hl : ds.length ≤ maxLen) : xLst t env x = some (.ow (.lst ds), x1) := by
  simp only [xLst, h, if_pos hl]
end Lw
namespace Wb
abbrev Web (μ : Type) := List (List (μ × Int))
variable {μ : Type}
def stp (w : Web μ) (v : Int) : List (μ × Int) := (w[v.toNat]?).getD []
def cnt (w : Web μ) (gs : List Int) : Nat → Int → Int
  | 0, v => if v ∈ gs then 1 else 0
  | k + 1, v => ((stp w v).map fun p => cnt w gs k p.2).sum
def nxt (w : Web μ) (r : List μ × Int) : List (List μ × Int) := (stp w r.2).map fun p => (r.1 ++ [p.1], p.2)
def lev (w : Web μ) : Nat → List (List μ × Int)
  | 0 => [([], 0)]
  | k + 1 => (lev w k).flatMap (nxt w)
variable {w : Web μ} {gs : List Int}
def kp (w : Web μ) (gs : List Int) (k i : Nat) : List (List μ × Int) := (lev w i).filter fun r => cnt w gs k r.2 != 0
/-! order of rows -/
variable {lt : μ → μ → Prop}
/-! the rows in the order of coming -/
def G (w : Web μ) (v : Int) : List Int := (stp w v).map (·.2)
end Wb
namespace Lw
open PySem RT Wb
/-! webs of marks that are tuples of ints and texts -/
abbrev Mk := List L2.Key
theorem nob_n {k : Nat} (h : k ≤ 100000) : k < maxLen := by simp only [maxLen]; omega
theorem one_ml {d : D} : [d].length ≤ maxLen := by rw [List.length_singleton]; exact ml 1 (by omega)
theorem two_ml {d e : D} : [d, e].length ≤ maxLen := by rw [List.length_cons, List.length_singleton]; exact ml 2 (by omega)
theorem tri_ml {d e f : D} : [d, e, f].length ≤ maxLen := by rw [List.length_cons, List.length_cons, List.length_singleton]; exact ml 3 (by omega)
theorem nil_ml : ([] : List D).length ≤ maxLen := by rw [List.length_nil]; exact ml 0 (by omega)
theorem fB {gd : D → D → Option D} {fa fb : FE} {env : FEn} {x : FRow} {d e r : D} (h : fa env x = some (d, x)) (h' : fb env x = some (e, x)) (hg : gd d e = some r) : fBin gd fa fb env x = some (r, x) := fBin_eq h h' hg
theorem fK {m : List D → Option D} {fa : FA} {env : FEn} {x : FRow} {ds : List D} {r : D} (h : fa env x = some (ds, x)) (hm : m ds = some r) : fCall m fa env x = some (r, x) := fCall_eq h hm
theorem aC1 {fa : FE} {env : FEn} {x : FRow} {d : D} (h : fa env x = some (d, x)) : aCons fa aNil env x = some ([d], x) := aCons1 h
theorem aC2 {fa fb : FE} {env : FEn} {x : FRow} {d e : D} (h : fa env x = some (d, x)) (h' : fb env x = some (e, x)) : aCons fa (aCons fb aNil) env x = some ([d, e], x) := aCons2 h h'
theorem aC3 {fa fb fc : FE} {env : FEn} {x : FRow} {d e f : D} (h : fa env x = some (d, x)) (h' : fb env x = some (e, x)) (h'' : fc env x = some (f, x)) : aCons fa (aCons fb (aCons fc aNil)) env x = some ([d, e, f], x) := aCons_eq h (aCons2 h' h'')
theorem vV {i : Nat} {env : FEn} {x : FRow} {d : D} (h : env[i]? = some (.va d)) : fVar i env x = some (d, x) := by simp only [fVar, h]
theorem vB {i : Nat} {env : FEn} {x : FRow} {d : D} (h : env[i]? = some (.va d)) : fBor i env x = some (d, x) := by simp only [fBor, h]
theorem vO {i : Nat} {env : FEn} {x : FRow} {d : OwD} (h : env[i]? = some (.ow d)) : fBor i env x = some (d.d, x) := by simp only [fBor, h]
theorem sqT {f : FE} {env : FEn} {x : FRow} {ds : List D} (h : f env x = some (.tuple ds, x)) : fSeq f env x = some (ds, x) := by simp only [fSeq, h]
theorem sA {i : Nat} {f : FE} {env : FEn} {x : FRow} {d : D} {ds : List D} (h : f env x = some (d, x)) (he : env[i]? = some (.ow (.lst ds))) (hl : ds.length ≤ 100000) : sApp i f env x = some (.nx (env.set i (.ow (.lst (ds ++ [d])))), x) := by
  have : ds.length < maxLen := by simp only [maxLen]; omega
  simp only [sApp, h, he, if_pos this]
theorem sR {f : FE} {env : FEn} {x : FRow} {d : D} (h : f env x = some (d, x)) : sRet f env x = some (.rt d, x) := by simp only [sRet, h]
theorem sV {i : Nat} {f : FE} {env : FEn} {x : FRow} {d : D} (h : f env x = some (d, x)) : sSet i (xVal f) env x = some (.nx (env.set i (.va d)), x) := sSet_va h
variable {W : Web Mk} {gs : List Int}
/-! counts_to -/
/-! rows_to -/
/-! place_behind -/
def go (W : Web Mk) : Int → List Mk → Option Int
  | v, [] => some v
  | v, m :: r => match (stp W v).find? (fun p => decide (p.1 = m)) with
    | some p => go W p.2 r
    | none => none
end Lw
namespace Lw
open PySem RT Wb
variable {n : Int} {ss : List Sc}
abbrev alls (ss : List Sc) : List Int := (List.range ss.length).map fun (i : Nat) => (i : Int)
/-! shortest_way -/
/-! follow -/
end Lw
namespace Lw
open PySem RT
theorem taken_ok {x : FRow} {many : Int} (ha : 0 ≤ x.a) (hm : 0 < many) (hs : many < 1073741824) : ∃ r x', m_law_taken [.int many] x = some (.int r, x') ∧ 0 ≤ r ∧ r < many ∧ 0 ≤ x'.a := by
  obtain ⟨ns, a, b, c⟩ := x
  simp only at ha
  have hmod : ∀ z : Int, 0 ≤ z % many ∧ z % many < many := fun z => ⟨Int.emod_nonneg _ (by omega), Int.emod_lt_of_pos _ hm⟩
  simp only [m_law_taken, mkR, startE, b_law_taken]
  by_cases hc : 0 < c
  · refine ⟨c % many, ⟨ns, a, b, c / many⟩, ?_, (hmod c).1, (hmod c).2, ha⟩
    simp [sSeq, sIf, sSet, sRow, sRet, sNil, sAug, fTst, fBin, fRow, fC, fCall, fRowLen, fRowAt, fVar, fBor, xVal, aCons, aNil, gI, gInt, gOr, gAdd, gMul, gAddI, gMulI, pMod, pDiv, pMul, hc, hm, hs]
  · by_cases hl : (ns.length : Int) < a + 1
    · refine ⟨((b * 48271 + 11) % 2147483647 / 7) % many, ⟨ns, a + 1, (b * 48271 + 11) % 2147483647, c⟩, ?_, (hmod _).1, (hmod _).2, by simp only; omega⟩
      simp [sSeq, sIf, sSet, sRow, sRet, sNil, sAug, fTst, fBin, fRow, fC, fCall, fRowLen, fRowAt, fVar, fBor, xVal, aCons, aNil, gI, gInt, gOr, gAdd, gMul, gAddI, gMulI, pMod, pDiv, pMul, hc, hm, hs, hl]
    · have hlt : a.toNat < ns.length := by omega
      have hat : L2.atI ns a = some ns[a.toNat] := atI_int ha (List.getElem?_eq_getElem hlt)
      generalize ns[a.toNat] = f at hat
      by_cases hf : (1000000000000000000 : Int) ≤ f
      · refine ⟨f % many, ⟨ns, a + 1, (b * 48271 + f + 11) % 2147483647, f / many⟩, ?_, (hmod _).1, (hmod _).2, by simp only; omega⟩
        simp [sSeq, sIf, sSet, sRow, sRet, sNil, sAug, fTst, fBin, fRow, fC, fCall, fRowLen, fRowAt, fVar, fBor, xVal, aCons, aNil, gI, gInt, gOr, gAdd, gMul, gAddI, gMulI, pMod, pDiv, pMul, pPow, hc, hm, hs, hl, hat, hf]
      · refine ⟨f % many, ⟨ns, a + 1, (b * 48271 + f + 11) % 2147483647, c⟩, ?_, (hmod _).1, (hmod _).2, by simp only; omega⟩
        simp [sSeq, sIf, sSet, sRow, sRet, sNil, sAug, fTst, fBin, fRow, fC, fCall, fRowLen, fRowAt, fVar, fBor, xVal, aCons, aNil, gI, gInt, gOr, gAdd, gMul, gAddI, gMulI, pMod, pDiv, pMul, pPow, hc, hm, hs, hl, hat, hf]
def kB (b : Br) : D := .tuple [.int b.1, .int b.2.1]
def hd (acc : List Br) : List (D × D) := acc.map fun b => (kB b, .int b.2.2)
theorem kB_key (b : Br) : dKeyT (kB b) = some [.inl b.1, .inl b.2.1] := by simp [kB, dKeyT, dKeys, dKey]
theorem put0 (b : Br) : putD dKeyT (hd []) (kB b) [.inl b.1, .inl b.2.1] (.int b.2.2) = hd [b] := by
  simp [putD, hd]
theorem put1 (a b : Br) : ∃ acc : List Br, putD dKeyT (hd [a]) (kB b) [.inl b.1, .inl b.2.1] (.int b.2.2) = hd acc ∧ ((acc = [(a.1, a.2.1, b.2.2)] ∧ a.1 = b.1 ∧ a.2.1 = b.2.1) ∨ (acc = [a, b] ∧ ¬ (a.1 = b.1 ∧ a.2.1 = b.2.1))) := by
  by_cases c : a.1 = b.1 ∧ a.2.1 = b.2.1
  · refine ⟨[(a.1, a.2.1, b.2.2)], ?_, Or.inl ⟨rfl, c⟩⟩
    simp [putD, hd, kB, dKeyT, dKeys, dKey, c.1, c.2]
  · refine ⟨[a, b], ?_, Or.inr ⟨rfl, c⟩⟩
    have : ¬ (a.1 = b.1 ∧ a.2.1 = b.2.1) := c
    simp [putD, hd, kB, dKeyT, dKeys, dKey, this]
structure Dr (n : Int) (m : Nat) (s : Int) (q : Int → Prop) (b : Br) : Prop extends OkB n m s b where
  w2 : b.2.1 < 2
  qt : q b.2.2
abbrev bTurn : FS := sSeq (sSet 8 (xVal (fBin gModI (fCall gInt (aCons (fBin gAdd (fBin gAdd (fBor 5) (fC (.int 1))) (fCallR 0 m_law_taken (aCons (fBin gSubI (fBor 1) (fC (.int 1))) aNil))) aNil)) (fBor 1))))
    (sSeq (sSet 9 (xVal (fIf (fTru (fBor 4)) (fCallR 0 m_law_taken (aCons (fBin gAdd (fBor 3) (fC (.int 1))) aNil)) (fBin gAdd (fBin gAdd (fBor 2) (fC (.int 1))) (fCallR 0 m_law_taken (aCons (fBin gSubI (fBor 3) (fBor 2)) aNil))))))
    (sDPut 6 (fTup (aCons (fVar 8) (aCons (fCallR 0 m_law_taken (aCons (fC (.int 2)) aNil)) aNil))) (fVar 9)))
theorem other_mod {n s r : Int} (hn : 2 ≤ n ∧ n ≤ 4) (hs : 0 ≤ s ∧ s < n) (hr : 0 ≤ r ∧ r < n - 1) : 0 ≤ (s + 1 + r) % n ∧ (s + 1 + r) % n < n ∧ (s + 1 + r) % n ≠ s := by
  have : n = 2 ∨ n = 3 ∨ n = 4 := by omega
  rcases this with rfl | rfl | rfl <;> omega
def scE (n at' size : Int) (lp : Bool) (s : Int) (acc : List Br) (p q r : FSl) : FEn := [.rw, .va (.int n), .va (.int at'), .va (.int size), .va (.bool lp), .va (.int s), .ow (.dt (hd acc)), p, q, r, .no]
theorem turn_ok {n at' s : Int} {size : Nat} {lp : Bool} (hn : 2 ≤ n ∧ n ≤ 4) (hs : 0 ≤ s ∧ s < n) (hz : 1 ≤ size ∧ size ≤ 6) (ha : 0 ≤ at' ∧ at' < size) (acc : List Br) (hacc : acc.length ≤ 2) (p q r : FSl) {x : FRow} (hx : 0 ≤ x.a) :
    ∃ (b : Br) (x' : FRow) (q' r' : FSl), bTurn (scE n at' size lp s acc p q r) x = some (.nx [.rw, .va (.int n), .va (.int at'), .va (.int size), .va (.bool lp), .va (.int s), .ow (.dt (putD dKeyT (hd acc) (kB b) [.inl b.1, .inl b.2.1] (.int b.2.2))), p, q', r', .no], x') ∧ 0 ≤ x'.a ∧ Dr n (size + 1) s (fun t => lp = false → at' < t) b := by
  obtain ⟨r1, x1, h1, h1a, h1b, hx1⟩ := taken_ok (many := n - 1) hx (by omega) (by omega)
  have ho := other_mod hn hs ⟨h1a, h1b⟩
  have c1 : sSet 8 (xVal (fBin gModI (fCall gInt (aCons (fBin gAdd (fBin gAdd (fBor 5) (fC (.int 1))) (fCallR 0 m_law_taken (aCons (fBin gSubI (fBor 1) (fC (.int 1))) aNil))) aNil)) (fBor 1))) (scE n at' size lp s acc p q r) x = some (.nx (scE n at' size lp s acc p (.va (.int ((s + 1 + r1) % n))) r), x1) := by
    have : 0 < n := by omega
    simp [sSet, xVal, fBin, fCall, aCons, aNil, fBor, fC, fCallR, gAdd, gOr, gI, gInt, pMod, scE, h1, this]
  have ht : ∃ (t : Int) (x2 : FRow), sSet 9 (xVal (fIf (fTru (fBor 4)) (fCallR 0 m_law_taken (aCons (fBin gAdd (fBor 3) (fC (.int 1))) aNil)) (fBin gAdd (fBin gAdd (fBor 2) (fC (.int 1))) (fCallR 0 m_law_taken (aCons (fBin gSubI (fBor 3) (fBor 2)) aNil))))) (scE n at' size lp s acc p (.va (.int ((s + 1 + r1) % n))) r) x1 = some (.nx (scE n at' size lp s acc p (.va (.int ((s + 1 + r1) % n))) (.va (.int t))), x2) ∧ ((0 ≤ t ∧ t < ((size + 1 : Nat) : Int)) ∧ (lp = false → at' < t)) ∧ 0 ≤ x2.a := by
    cases lp with
    | true =>
      obtain ⟨t, x2, h2, h2a, h2b, hx2⟩ := taken_ok (many := (size : Int) + 1) hx1 (by omega) (by omega)
      refine ⟨t, x2, ?_, ⟨⟨h2a, by omega⟩, fun h => nomatch h⟩, hx2⟩
      simp [sSet, xVal, fIf, fTru, truD, fBin, aCons, aNil, fBor, fC, fCallR, gAdd, gOr, gI, scE, h2]
    | false =>
      obtain ⟨t, x2, h2, h2a, h2b, hx2⟩ := taken_ok (many := (size : Int) - at') hx1 (by omega) (by omega)
      refine ⟨at' + 1 + t, x2, ?_, ⟨⟨by omega, by omega⟩, fun _ => by omega⟩, hx2⟩
      simp [sSet, xVal, fIf, fTru, truD, fBin, aCons, aNil, fBor, fC, fCallR, gAdd, gOr, gI, scE, h2]
  obtain ⟨t, x2, c2, ht, hx2⟩ := ht
  obtain ⟨w, x3, h3, h3a, h3b, hx3⟩ := taken_ok (many := 2) hx2 (by omega) (by omega)
  refine ⟨((s + 1 + r1) % n, w, t), x3, .va (.int ((s + 1 + r1) % n)), .va (.int t), ?_, hx3, ⟨⟨⟨ho.1, ho.2.1⟩, ho.2.2, ⟨h3a, by simp only; omega⟩, ht.1⟩, h3b, ht.2⟩⟩
  have hle : (hd acc).length < maxLen := by simp only [hd, List.length_map, maxLen]; omega
  have hk := kB_key ((s + 1 + r1) % n, w, t)
  simp only [kB] at hk
  unfold bTurn
  rw [sSeq_nx c1, sSeq_nx c2]
  simp only [maxLen] at hle
  simp [sDPut, fTup, aCons, aNil, fVar, fC, fCallR, scE, h3, hk, hle, kB, maxLen]
theorem Dr.tup {n : Int} {m : Nat} {s : Int} {q : Int → Prop} {b : Br} (hn : n ≤ 4) (hm : m ≤ 8) (h : Dr n m s q b) : okTup 3 [b.1, b.2.1, b.2.2] = true := by
  have h1 := h.h; have h2 := h.w; have h3 := h.t; have h4 := h.w2
  simp only [okTup, List.length_cons, List.length_nil, List.all_cons, List.all_nil, Bool.and_true, Bool.and_eq_true, decide_eq_true_eq]
  refine ⟨trivial, ⟨h1.1, by omega⟩, ⟨h2.1, by omega⟩, ⟨h3.1, by omega⟩⟩
theorem sortX_of {l : List D} {d : D} (h : gSort l = some d) : gSortX l = some d := by simp only [gSortX, cOr, h]
theorem sortB1 {n : Int} {m : Nat} {s : Int} {q : Int → Prop} {a : Br} (hn : n ≤ 4) (hm : m ≤ 8) (h : Dr n m s q a) : gSort [.list [eB a]] = some (.list [eB a]) := by
  have h1 := h.tup hn hm
  simp [gSort, cOr, gSortI, intsD, gSortT, eB, tupsD, h1, sortT, insT, tupD]
theorem code3 (b : Br) : cdT [b.1, b.2.1, b.2.2] = b.1 * 4096 + b.2.1 * 64 + b.2.2 := by
  simp [cdT, TS.code]; omega
theorem sortB2 {n : Int} {m : Nat} {s : Int} {q : Int → Prop} {a b : Br} (hn : n ≤ 4) (hm : m ≤ 8) (h : Dr n m s q a) (h' : Dr n m s q b) (hk : ¬ (a.1 = b.1 ∧ a.2.1 = b.2.1)) : ∃ bs : List Br, gSort [.list [eB a, eB b]] = some (.list (bs.map eB)) ∧ Two bs ∧ ∀ c ∈ bs, c = a ∨ c = b := by
  have h1 := h.tup hn hm
  have h2 := h'.tup hn hm
  have k1 := code3 a
  have k2 := code3 b
  have ha := h.h; have hb := h.w; have hc := h.t
  have ha' := h'.h; have hb' := h'.w; have hc' := h'.t
  by_cases c : cdT [a.1, a.2.1, a.2.2] ≤ cdT [b.1, b.2.1, b.2.2]
  · refine ⟨[a, b], ?_, Or.inr ⟨a, b, rfl, ?_⟩, by simp⟩
    · simp only [gSort, cOr, gSortI, intsD, gSortT, eB, tupsD, List.length_cons, List.length_nil, h1, h2, sortT, insT, if_pos c]
      simp [eB, tupD, h1, h2, sortT, insT, c]
    · rw [k1, k2] at c
      simp only [HT.lexLt]
      split
      · split
        · omega
        · simp only [decide_eq_true_eq]; omega
      · simp only [decide_eq_true_eq]; omega
  · refine ⟨[b, a], ?_, Or.inr ⟨b, a, rfl, ?_⟩, by simp⟩
    · simp only [gSort, cOr, gSortI, intsD, gSortT, eB, tupsD, List.length_cons, List.length_nil, h1, h2, sortT, insT, if_neg c]
      simp [eB, tupD, h1, h2, sortT, insT, c]
    · rw [k1, k2] at c
      simp only [HT.lexLt]
      split
      · split
        · omega
        · simp only [decide_eq_true_eq]; omega
      · simp only [decide_eq_true_eq]; omega
theorem Dr.ok {n : Int} {m : Nat} {s : Int} {q : Int → Prop} {b : Br} (h : Dr n m s q b) : OkB n m s b := h.toOkB
def Acc (n : Int) (m : Nat) (s : Int) (q : Int → Prop) (acc : List Br) : Prop := (∃ a, acc = [a] ∧ Dr n m s q a) ∨ ∃ a b, acc = [a, b] ∧ Dr n m s q a ∧ Dr n m s q b ∧ ¬ (a.1 = b.1 ∧ a.2.1 = b.2.1)
theorem scene_lc {n at' size s : Int} {lp : Bool} {m : Nat} {Q : Int → Prop} {acc : List Br} (h : Acc n m s Q acc) (p q r : FSl) (x : FRow) :
    fOfX (xLc (fSeq (fCall gListOf (aCons (fBor 6) aNil))) (gtName 10) tYesF (fBin gAdd (fBor 10) (fTup (aCons (fBin gAt (fBor 6) (fBor 10)) aNil))) [10]) (scE n at' size lp s acc p q r) x = some (.list (acc.map eB), x) := by
  have hval : ∀ b ∈ acc, valD dKeyT (hd acc) [.inl b.1, .inl b.2.1] = some (.int b.2.2) := by
    rcases h with ⟨a, rfl, _⟩ | ⟨a, b, rfl, _, _, hk⟩
    · intro b hb
      simp only [List.mem_singleton] at hb
      subst hb
      simp [valD, hd, kB, dKeyT, dKeys, dKey]
    · intro c hc
      simp only [List.mem_cons, List.not_mem_nil, or_false] at hc
      rcases hc with rfl | rfl
      · simp [valD, hd, kB, dKeyT, dKeys, dKey]
      · have hk' : ¬ (a.1 = c.1 ∧ a.2.1 = c.2.1) := hk
        simp [valD, hd, kB, dKeyT, dKeys, dKey, List.find?_cons, hk']
  have hl : acc.length ≤ 2 := by rcases h with ⟨a, rfl, _⟩ | ⟨a, b, rfl, _⟩ <;> simp
  refine lc_eq (ds := acc.map kB) ?_ (compL_map kB eB acc fun b hb => ⟨_, rfl, rfl, ?_⟩) ?_
  · simp [fSeq, fCall, aCons, aNil, fBor, scE, OwD.d, gListOf, hd]
  · have hv := hval b hb
    have hk := kB_key b
    simp only [kB] at hk
    simp [fBin, fBor, fTup, aCons, aNil, scE, wipeE, gtName, OwD.d, gAt, gDAt, gDGet, kB, hk, hv, gAdd, gOr, gI, gCatT, maxLen, eB]
  · simp only [List.length_map, maxLen]; omega
theorem scene_ok {n at' : Int} {size : Nat} {lp : Bool} (hn : 2 ≤ n ∧ n ≤ 4) (hz : 1 ≤ size ∧ size ≤ 6) (ha : 0 ≤ at' ∧ at' < size) {x : FRow} (hx : 0 ≤ x.a) :
    ∃ s bs x', m_law_scene [.int n, .int at', .int size, .bool lp] x = some (eS (some (s, bs)), x') ∧ 0 ≤ x'.a ∧ (0 ≤ s ∧ s < n) ∧ Two bs ∧ ∀ b ∈ bs, OkB n (size + 1) s b ∧ (lp = false → at' < b.2.2) := by
  obtain ⟨s, x1, h1, h1a, h1b, hx1⟩ := taken_ok (many := n) hx (by omega) (by omega)
  obtain ⟨t2, x2, h2, h2a, h2b, hx2⟩ := taken_ok (many := 2) hx1 (by omega) (by omega)
  have hs : 0 ≤ s ∧ s < n := ⟨h1a, h1b⟩
  obtain ⟨b1, x3, q1, r1, e1, hx3, d1⟩ := turn_ok (lp := lp) (x := x2) hn hs hz ha [] (by simp) (.va (.int 0)) .no .no hx2
  rw [put0] at e1
  have hloop : ∃ acc x' p q r, forL (gtName 7) bTurn (rgD 0 (1 + t2).toNat) (scE n at' size lp s [] .no .no .no) x2 = some (.nx (scE n at' size lp s acc p q r), x') ∧ 0 ≤ x'.a ∧ Acc n (size + 1) s (fun t => lp = false → at' < t) acc := by
    have ht : t2 = 0 ∨ t2 = 1 := by omega
    rcases ht with rfl | rfl
    · refine ⟨[b1], x3, .va (.int 0), q1, r1, ?_, hx3, Or.inl ⟨b1, rfl, d1⟩⟩
      rw [show rgD 0 ((1 : Int) + 0).toNat = [.int 0] from rfl, forL]
      simp only [gtName]
      rw [show (scE n at' size lp s [] .no .no .no).set 7 (.va (.int 0)) = scE n at' size lp s [] (.va (.int 0)) .no .no from rfl, e1]
      rfl
    · obtain ⟨b2, x4, q2, r2, e2, hx4, d2⟩ := turn_ok (lp := lp) (x := x3) hn hs hz ha [b1] (by simp) (.va (.int 1)) q1 r1 hx3
      obtain ⟨acc, hp, hacc⟩ := put1 b1 b2
      rw [hp] at e2
      refine ⟨acc, x4, .va (.int 1), q2, r2, ?_, hx4, ?_⟩
      · rw [show rgD 0 ((1 : Int) + 1).toNat = [.int 0, .int 1] from rfl, forL]
        simp only [gtName]
        rw [show (scE n at' size lp s [] .no .no .no).set 7 (.va (.int 0)) = scE n at' size lp s [] (.va (.int 0)) .no .no from rfl, e1]
        simp only [forL, gtName]
        rw [show ([FSl.rw, .va (.int n), .va (.int at'), .va (.int size), .va (.bool lp), .va (.int s), .ow (.dt (hd [b1])), .va (.int 0), q1, r1, .no] : FEn).set 7 (.va (.int 1)) = scE n at' size lp s [b1] (.va (.int 1)) q1 r1 from rfl, e2]
        rfl
      · rcases hacc with ⟨rfl, k1, k2⟩ | ⟨rfl, hk⟩
        · exact Or.inl ⟨_, rfl, ⟨⟨d1.h, d1.ne, d1.w, d2.t⟩, d1.w2, d2.qt⟩⟩
        · exact Or.inr ⟨_, _, rfl, d1, d2, hk⟩
  obtain ⟨acc, x', p, q, r, e, hx', hacc⟩ := hloop
  have hsort : ∃ bs : List Br, gSortX [.list (acc.map eB)] = some (.list (bs.map eB)) ∧ Two bs ∧ ∀ b ∈ bs, OkB n (size + 1) s b ∧ (lp = false → at' < b.2.2) := by
    rcases hacc with ⟨a, rfl, ha⟩ | ⟨a, b, rfl, ha, hb, hk⟩
    · exact ⟨[a], sortX_of (sortB1 hn.2 (by omega) ha), Or.inl ⟨a, rfl⟩, by simpa using ⟨ha.ok, ha.qt⟩⟩
    · obtain ⟨bs, h1, h2, h3⟩ := sortB2 hn.2 (by omega) ha hb hk
      refine ⟨bs, sortX_of h1, h2, fun c hc => ?_⟩
      rcases h3 c hc with rfl | rfl
      · exact ⟨ha.ok, ha.qt⟩
      · exact ⟨hb.ok, hb.qt⟩
  obtain ⟨bs, hs1, hs2, hs3⟩ := hsort
  have hlc := scene_lc (n := n) (at' := at') (size := size) (lp := lp) hacc p q r x'
  refine ⟨s, bs, x', ?_, hx', hs, hs2, hs3⟩
  have c1 : sPars [5, 6] (xsCons (xVal (fCallR 0 m_law_taken (aCons (fVar 1) aNil))) (xsCons (xNew (.dt [])) xsNil)) [.rw, .va (.int n), .va (.int at'), .va (.int size), .va (.bool lp), .no, .no, .no, .no, .no, .no] x = some (.nx (scE n at' size lp s [] .no .no .no), x1) := by
    simp [sPars, xsCons, xsNil, xVal, xNew, fCallR, aCons, aNil, fVar, h1, setsE, scE, hd]
  have c2 : fRg1 (fBin gAdd (fC (.int 1)) (fCallR 0 m_law_taken (aCons (fC (.int 2)) aNil))) (scE n at' size lp s [] .no .no .no) x1 = some (rgD 0 (1 + t2).toNat, x2) := by
    have : okRg (1 + t2) = true := by simp only [okRg, decide_eq_true_eq]; omega
    simp [fRg1, fBin, fC, fCallR, aCons, aNil, scE, h2, gAdd, gOr, gI, this]
  have c3 : b_law_scene [.rw, .va (.int n), .va (.int at'), .va (.int size), .va (.bool lp), .no, .no, .no, .no, .no, .no] x = some (.rt (eS (some (s, bs))), x') := by
    unfold b_law_scene
    rw [sSeq_nx c1, sSeq_nx (by simp only [sFor, c2]; exact e)]
    have v5 : fVar 5 (scE n at' size lp s acc p q r) x' = some (.int s, x') := rfl
    simp only [sRet, fTup, fCall, aCons, aNil, v5, hlc, hs1, gTupOf]
    simp [maxLen, eS]
  show mkR 10 4 b_law_scene _ x = _
  simp only [mkR, List.length_cons, List.length_nil, if_true]
  rw [show FSl.rw :: startE 10 [.int n, .int at', .int size, .bool lp] = [.rw, .va (.int n), .va (.int at'), .va (.int size), .va (.bool lp), .no, .no, .no, .no, .no, .no] from rfl, c3]
end Lw
namespace Lw
open PySem RT
theorem compL_row {gt : FGt} {t : FT} {fe : FE} {env : FEn} (Good : Int → Sc → Prop) : ∀ (l : List Int), (∀ a ∈ l, ∀ x : FRow, 0 ≤ x.a → ∃ e sc x', gt (.int a) env = some e ∧ t e x = some (true, x) ∧ fe e x = some (eS sc, x') ∧ 0 ≤ x'.a ∧ Good a sc) → ∀ x : FRow, 0 ≤ x.a → ∃ (scs : List Sc) (x' : FRow), compL gt t fe env (l.map .int) x = some (scs.map eS, x') ∧ 0 ≤ x'.a ∧ scs.length = l.length ∧ ∀ (i : Nat) a sc, l[i]? = some a → scs[i]? = some sc → Good a sc
  | [], _, x, hx => ⟨[], x, rfl, hx, rfl, by simp⟩
  | a :: l, h, x, hx => by
    obtain ⟨e, sc, x1, h1, h2, h3, h4, h5⟩ := h a (by simp) x hx
    obtain ⟨scs, x2, g1, g2, g3, g4⟩ := compL_row Good l (fun b hb => h b (by simp [hb])) x1 h4
    refine ⟨sc :: scs, x2, by simp [compL, h1, h2, h3, g1], g2, by simp [g3], ?_⟩
    intro i b z hb hz
    cases i with
    | zero => simp only [List.getElem?_cons_zero, Option.some.injEq] at hb hz; subst hb; subst hz; exact h5
    | succ i => simp only [List.getElem?_cons_succ] at hb hz; exact g4 i b z hb hz
def Dag (ss : List Sc) : Prop := ∀ v, 0 ≤ v → v < (ss.length : Int) → ∀ b ∈ brs ss v, v < b.2.2
end Lw
namespace Lw
open PySem RT Wb
variable {n : Int} {ss rs : List Sc}
/-! slices -/
theorem ix_nat (n d k : Nat) (h : k ≤ n) : HT.sIx n d (some (k : Int)) = k := by
  simp only [HT.sIx]
  rw [if_neg (by omega), Int.toNat_natCast]; omega
theorem cut_to {α : Type} (xs : List α) (k : Nat) (h : k ≤ xs.length) : cutL xs none (some (k : Int)) = xs.take k := by
  unfold cutL
  rw [ix_nat _ _ _ h]; rfl
theorem cut_from {α : Type} (xs : List α) (k : Nat) (h : k ≤ xs.length) : cutL xs (some (k : Int)) none = xs.drop k := by
  unfold cutL
  rw [ix_nat _ _ _ h]
  show (xs.drop k).take (xs.length - k) = _
  rw [List.take_of_length_le (by simp)]
theorem sl_to {f g : FE} {env : FEn} {x : FRow} {xs : List D} {k : Nat} (hf : f env x = some (.tuple xs, x)) (hg : g env x = some (.int (k : Int), x)) (hk : k ≤ xs.length) : fSl f oNone (oSome g) env x = some (.tuple (xs.take k), x) := by
  simp only [fSl, hf, oNone, oSome, hg, gSl, cut_to _ _ hk]
theorem sl_from {f g : FE} {env : FEn} {x : FRow} {xs : List D} {k : Nat} (hf : f env x = some (.tuple xs, x)) (hg : g env x = some (.int (k : Int), x)) (hk : k ≤ xs.length) : fSl f (oSome g) oNone env x = some (.tuple (xs.drop k), x) := by
  simp only [fSl, hf, oNone, oSome, hg, gSl, cut_from _ _ hk]
theorem cat_T {xs ys : List D} (h : xs.length + ys.length ≤ maxLen) : gAdd (.tuple xs) (.tuple ys) = some (.tuple (xs ++ ys)) := by
  simp [gAdd, gOr, gCatT, gI, gAddI, h]
/-! names, by a function -/
def rnf (f : Int → Int) : Sc → Sc
  | none => none
  | some (s, bs) => some (s, bs.map fun b => (b.1, b.2.1, f b.2.2))
theorem renamedf_eq {N : D} {f : Int → Int} {sc : Sc} (h2 : (bsOf sc).length ≤ 2) (h : ∀ b ∈ bsOf sc, gAt N (.int b.2.2) = some (.int (f b.2.2))) : m_renamed_scene [eS sc, N] = some (eS (rnf f sc)) := by
  cases sc with
  | none =>
    refine mkF_rt (x := row0) rfl ?_
    simp [b_renamed_scene, sSeq, sIf, fTst, fBin, fBor, fC, gIsN, isNoneD, sRet, startE, eS, rnf]
  | some p =>
    obtain ⟨s, bs⟩ := p
    simp only [bsOf] at h2 h
    refine mkF_rt (x := row0) rfl ?_
    have c1 : fOfX (xLc (fSeq (fVar 3)) (gtTup 3 (gtCons (gtName 4) (gtCons (gtName 5) (gtCons (gtName 6) gtNil)))) tYesF (fTup (aCons (fVar 4) (aCons (fVar 5) (aCons (fBin gAt (fBor 1) (fBor 6)) aNil)))) [4, 5, 6]) [.va (eS (some (s, bs))), .va N, .va (.int s), .va (.tuple (bs.map eB)), .no, .no, .no] row0 = some (.list (bs.map fun b => eB (b.1, b.2.1, f b.2.2)), row0) := by
      refine lc_eq (ds := bs.map eB) (by simp [fSeq, fVar]) (compL_map eB _ bs fun b hb' => ⟨_, rfl, rfl, ?_⟩) ?_
      · have := h b hb'
        simp [fTup, aCons, aNil, fVar, fBin, fBor, wipeE, gtName, eB, maxLen, this]
      · simp only [List.length_map, maxLen]; omega
    have c2 : fTst (fBin gIsN (fBor 0) (fC .none)) [.va (eS (some (s, bs))), .va N, .no, .no, .no, .no, .no] row0 = some (false, row0) := by
      simp [fTst, fBin, fBor, fC, gIsN, isNoneD, eS]
    have c3 : sUnp (fVar 0) (gtTup 2 (gtCons (gtName 2) (gtCons (gtName 3) gtNil))) [.va (eS (some (s, bs))), .va N, .no, .no, .no, .no, .no] row0 = some (.nx [.va (eS (some (s, bs))), .va N, .va (.int s), .va (.tuple (bs.map eB)), .no, .no, .no], row0) := by
      simp [sUnp, fVar, gtTup, gtCons, gtName, gtNil, eS]
    show b_renamed_scene [.va (eS (some (s, bs))), .va N, .no, .no, .no, .no, .no] row0 = _
    simp only [b_renamed_scene, sSeq, sIf, c2, sNil, c3, sRet]
    simp [fTup, aCons, aNil, fVar, fCall, c1, gTupOf, maxLen]
    simp [eS, rnf, Function.comp_def]
def nfD (f : Int → Int) (l : List Int) : List (D × D) := l.map fun v => (D.int v, D.int (f v))
theorem nf_any (f : Int → Int) (t : Int) (l : List Int) : ((nfD f l).any fun p => decide (dKey p.1 = some (.inl t))) = decide (t ∈ l) := by
  induction l with
  | nil => rfl
  | cons a l ih =>
    have : nfD f (a :: l) = (D.int a, D.int (f a)) :: nfD f l := rfl
    rw [this, List.any_cons, ih]
    simp only [dKey, List.mem_cons, Option.some.injEq, Sum.inl.injEq]
    by_cases h : a = t
    · simp [h]
    · have : ¬ t = a := fun h2 => h h2.symm
      simp [h, this]
theorem nf_put {f : Int → Int} {t : Int} {l : List Int} (h : t ∉ l) : putD dKey (nfD f l) (.int t) (.inl t) (.int (f t)) = nfD f (l ++ [t]) := by
  unfold putD
  rw [nf_any, if_neg (by simpa using h)]
  simp [nfD]
theorem nf_dc {gt : FGt} {fk fv : FE} {env : FEn} {f : Int → Int} {enc : Int → D} {x : FRow} : ∀ (l acc : List Int), (∀ v ∈ l, ∃ e, gt (enc v) env = some e ∧ fk e x = some (.int v, x) ∧ fv e x = some (.int (f v), x)) → (acc ++ l).Nodup → (acc ++ l).length ≤ 100 → dcL gt tYesF fk fv env (l.map enc) (nfD f acc) x = some (nfD f (acc ++ l), x)
  | [], acc, _, _, _ => by simp [dcL]
  | v :: l, acc, h, hn, hl => by
    obtain ⟨e, h1, h2, h3⟩ := h v (by simp)
    have ih := nf_dc l (acc ++ [v]) (fun u hu => h u (by simp [hu])) (by simpa using hn) (by simpa using hl)
    have hno : v ∉ acc := by
      intro hm
      rw [List.nodup_append] at hn
      exact hn.2.2 v hm v (by simp) rfl
    have hle : (nfD f acc).length < maxLen := by simp only [List.length_append, List.length_cons] at hl; simp only [nfD, List.length_map, maxLen]; omega
    rw [List.map_cons, dcL, h1]
    simp only [tYesF, h2, dKey, h3, if_pos hle, nf_put hno, ih]
    simp
theorem nf_val (f : Int → Int) (t : Int) : ∀ (l : List Int), t ∈ l → valD dKey (nfD f l) (.inl t) = some (.int (f t))
  | [], h => by simp at h
  | a :: l, h => by
    have e : nfD f (a :: l) = (D.int a, D.int (f a)) :: nfD f l := rfl
    rw [e]
    by_cases c : a = t
    · subst c; simp [valD, dKey]
    · have ht : t ∈ l := by
        rcases List.mem_cons.mp h with h | h
        · exact absurd h.symm c
        · exact h
      have ih := nf_val f t l ht
      unfold valD at ih ⊢
      rw [List.find?_cons_of_neg (by simp [dKey, c]), ih]
theorem nf_at {f : Int → Int} {t : Int} {l : List Int} (h : t ∈ l) : gAt (.dict (nfD f l)) (.int t) = some (.int (f t)) := by
  simp only [gAt, gDAt, gDGet, dKey, nf_val f t l h]
theorem alls_mem {v : Int} (h : 0 ≤ v ∧ v < (ss.length : Int)) : v ∈ alls ss := by
  refine List.mem_map.mpr ⟨v.toNat, List.mem_range.mpr (by omega), by omega⟩
theorem alls_nd : (alls ss).Nodup := by
  unfold alls
  exact List.Pairwise.map _ (fun a b h e => h (Int.ofNat_inj.mp e)) List.nodup_range
theorem Ok.tt (k : Ok n ss) {sc : Sc} (h : sc ∈ ss) : ∀ b ∈ bsOf sc, 0 ≤ b.2.2 ∧ b.2.2 < (ss.length : Int) := fun b hb => by
  cases sc with
  | none => cases hb
  | some p => exact ((k.sc p.1 p.2 h).2.2 b hb).t
theorem renamed_all (k : Ok n ss) {f : Int → Int} {gx : Nat} {env : FEn} {fx : FA} {fs fn : FE} (hx : fx env row0 = some (ss.map eS, row0)) {vs : List Nat} {gt : FGt} (hg : ∀ sc ∈ ss, ∃ e, gt (eS sc) (wipeE env vs) = some e ∧ fs e row0 = some (eS sc, row0) ∧ fn e row0 = some (.dict (nfD f (alls ss)), row0)) :
    fCall gTupOf (aCons (fOfX (xLc fx gt tYesF (fCall m_renamed_scene (aCons fs (aCons fn aNil))) vs)) aNil) env row0 = some (.tuple ((ss.map (rnf f)).map eS), row0) := by
  have hm := k.m
  refine tupOf_ok (x := row0) (lc_eq hx ?_ (by rw [List.length_map, List.length_map]; exact nob_n (by omega)))
  rw [List.map_map]
  refine compL_map eS _ ss fun sc hsc => ?_
  obtain ⟨e, h1, h2, h3⟩ := hg sc hsc
  exact ⟨e, h1, rfl, fK (aC2 h2 h3) (renamedf_eq (k.bsl hsc) fun b hb => nf_at (alls_mem (k.tt hsc b hb)))⟩
def shf (a : Int) (v : Int) : Int := v + a
theorem xDc_ok {f : FA} {gt : FGt} {t : FT} {fk fv : FE} {vs : List Nat} {env : FEn} {x x1 x2 : FRow} {ds : List D} {r : List (D × D)} (h1 : f env x = some (ds, x1)) (h2 : dcL gt t fk fv (wipeE env vs) ds [] x1 = some (r, x2)) : fOfX (xDc f gt t fk fv vs) env x = some (.dict r, x2) := by
  simp only [fOfX, xDc, h1, h2, OwD.d]
theorem rg_alls (k : Ok n ss) (rest : List FSl) : fRg1 (fCall gLen (aCons (fBor 0) aNil)) (.va (.tuple (ss.map eS)) :: rest) row0 = some ((alls ss).map .int, row0) := by
  have hm := k.m
  have q : fCall gLen (aCons (fBor 0) aNil) (.va (.tuple (ss.map eS)) :: rest) row0 = some (.int (ss.length : Nat), row0) := fK (aC1 (vB rfl)) (by simp [gLen])
  have o : okRg ((ss.length : Nat) : Int) = true := rg_ok (by omega)
  simp only [fRg1, q, o, if_true, Int.toNat_natCast, rgD_map, alls, List.map_map]
  rfl
theorem mv_d (k : Ok n ss) (a : Int) : fOfX (xDc (fRg1 (fCall gLen (aCons (fBor 0) aNil))) (gtName 3) tYesF (fVar 3) (fBin gAdd (fBor 3) (fBor 1)) [3]) [.va (.tuple (ss.map eS)), .va (.int a), .no, .no, .no] row0 = some (.dict (nfD (shf a) (alls ss)), row0) := by
  have hm := k.m
  refine xDc_ok (rg_alls k _) ?_
  refine nf_dc (f := shf a) (enc := D.int) (alls ss) [] (fun v _ => ⟨[.va (.tuple (ss.map eS)), .va (.int a), .no, .va (.int v), .no], rfl, vV rfl, fB (vB rfl) (vB rfl) rfl⟩) (by simpa using alls_nd) (by simp [alls]; omega)
theorem moved_eq (k : Ok n ss) (a : Int) : m_moved [.tuple (ss.map eS), .int a] = some (.tuple ((ss.map (rnf (shf a))).map eS)) := by
  refine mkF_rt (x := row0) rfl ?_
  show b_moved [.va (.tuple (ss.map eS)), .va (.int a), .no, .no, .no] row0 = _
  unfold b_moved
  refine (sSeq_nx (sV (mv_d k a))).trans ?_
  refine sR (renamed_all k (gx := 0) (f := shf a) (sqT (vV rfl)) fun sc _ => ⟨[.va (.tuple (ss.map eS)), .va (.int a), .va (.dict (nfD (shf a) (alls ss))), .no, .va (eS sc)], rfl, vV rfl, vV rfl⟩)
end Lw
namespace Lw
open PySem RT Wb
variable {n : Int} {ss rs : List Sc}
theorem fIf_t {t : FT} {f g : FE} {env : FEn} {x : FRow} {r : Option (D × FRow)} (h : t env x = some (true, x)) (hr : f env x = r) : fIf t f g env x = r := by simp only [fIf, h, hr]
theorem fIf_f {t : FT} {f g : FE} {env : FEn} {x : FRow} {r : Option (D × FRow)} (h : t env x = some (false, x)) (hr : g env x = r) : fIf t f g env x = r := by simp only [fIf, h, hr]
theorem tst_b {f : FE} {env : FEn} {x x1 : FRow} {b : Bool} (h : f env x = some (.bool b, x1)) : fTst f env x = some (b, x1) := by simp only [fTst, h]
theorem drop_c {m : List D → Option D} {fa : FA} {env : FEn} {x : FRow} {ds : List D} {r : D} (h : fa env x = some (ds, x)) (hm : m ds = some r) : sDrop (fCall m fa) env x = some (.nx env, x) := by
  simp only [sDrop, fK h hm]
theorem len_T (ds : List D) : gLen [.tuple ds] = some (.int (ds.length : Nat)) := by simp [gLen]
theorem alike_a (n : Int) (ss rs : List Sc) : m_check_actors_alike [eX n ss, eX n rs] = some .none := by
  refine mkF_nx (e := [.va (eX n ss), .va (eX n rs)]) (x := row0) rfl ?_
  show b_check_actors_alike [.va (eX n ss), .va (eX n rs)] row0 = _
  have q : fTst (fBin gNe (fBin gAt (fBor 0) (fC (.int 0))) (fBin gAt (fBor 1) (fC (.int 0)))) [.va (eX n ss), .va (eX n rs)] row0 = some (false, row0) := by
    refine tst_b (fB (d := .int n) (e := .int n) (fB (vB rfl) (show fC (.int 0) _ _ = some (.int 0, row0) from rfl) (eX_0 n ss)) (fB (vB rfl) (show fC (.int 0) _ _ = some (.int 0, row0) from rfl) (eX_0 n rs)) ?_)
    rw [ne_int]; simp
  simp only [b_check_actors_alike, sIf, q, sNil]
theorem check_scenes_ok {m : Nat} (h : m ≤ 8) : m_check_scenes [.int (m : Int)] = some .none := by
  refine mkF_nx (e := [.va (.int m)]) (x := row0) rfl ?_
  show b_check_scenes [.va (.int m)] row0 = _
  have q : fTst (fBin (gI yes2 fun i j => .bool (decide (j < i))) (fBor 0) (fC (.int 8))) [.va (.int (m : Int))] row0 = some (false, row0) := by
    refine tst_b (fB (vB rfl) (show fC (.int 8) _ _ = some (.int 8, row0) from rfl) ?_)
    simp [gI, yes2]; omega
  simp only [b_check_scenes, sIf, q, sNil]
def fst0 (a : Nat) (B : List Sc) : Sc := rnf (shf a) (scAt B 0)
def fnx (a : Nat) (B : List Sc) : Sc → Sc
  | none => fst0 a B
  | some p => some p
def fol (A B : List Sc) : List Sc := A.map (fnx A.length B) ++ B.map (rnf (shf A.length))
theorem fol_len : (fol ss rs).length = ss.length + rs.length := by simp [fol]
theorem scAt0 (k : Ok n rs) : rs.head? = some (scAt rs 0) := by
  have := (scAt_mem (ss := rs) (v := 0) (by omega) (by have := k.m; omega)).1
  rw [List.head?_eq_getElem?]; exact this
theorem unp_eX {f : FE} {env : FEn} {i j : Nat} (h : f env row0 = some (eX n ss, row0)) : sUnp f (gtTup 2 (gtCons (gtName i) (gtCons (gtName j) gtNil))) env row0 = some (.nx ((env.set i (.va (.int n))).set j (.va (.tuple (ss.map eS)))), row0) := by
  simp only [sUnp, h, eX, gtTup, gtCons, gtName, gtNil, List.length_cons, List.length_nil]
  rfl
theorem isn_eS (sc : Sc) : gIsN (eS sc) .none = some (.bool sc.isNone) := none_eS sc
theorem followed_eq (k : Ok n ss) (k' : Ok n rs) (h8 : ss.length + rs.length ≤ 8) : m_followed_by [eX n ss, eX n rs] = some (eX n (fol ss rs)) := by
  have hm := k.m
  have hm' := k'.m
  refine mkF_rt (x := row0) rfl ?_
  show b_followed_by [.va (eX n ss), .va (eX n rs), .no, .no, .no, .no] row0 = _
  unfold b_followed_by
  obtain ⟨d1, c1⟩ := check_ok k
  obtain ⟨d2, c2⟩ := check_ok k'
  refine (sSeq_nx (drop_c (aC1 (vV rfl)) c1)).trans ?_
  refine (sSeq_nx (drop_c (aC1 (vV rfl)) c2)).trans ?_
  refine (sSeq_nx (drop_c (aC2 (vV rfl) (vV rfl)) (alike_a n ss rs))).trans ?_
  refine (sSeq_nx (unp_eX (ss := ss) (n := n) (vV rfl))).trans ?_
  generalize hE : ((([FSl.va (eX n ss), .va (eX n rs), .no, .no, .no, .no] : FEn).set 2 (.va (.int n))).set 3 (.va (.tuple (ss.map eS)))) = E
  have g0 : E[0]? = some (.va (eX n ss)) := by rw [← hE]; rfl
  have g1 : E[1]? = some (.va (eX n rs)) := by rw [← hE]; rfl
  have g3 : E[3]? = some (.va (.tuple (ss.map eS))) := by rw [← hE]; rfl
  have l1 : fCall gLen (aCons (fBor 3) aNil) E row0 = some (.int (ss.length : Nat), row0) := fK (aC1 (vB g3)) (by rw [len_T, List.length_map])
  have q1 : fBin gAt (fBor 1) (fC (.int 1)) E row0 = some (.tuple (rs.map eS), row0) := fB (vB g1) (show fC (.int 1) _ _ = some (.int 1, row0) from rfl) (eX_1 n rs)
  have l2 : fCall gLen (aCons (fBin gAt (fBor 1) (fC (.int 1))) aNil) E row0 = some (.int (rs.length : Nat), row0) := fK (aC1 q1) (by rw [len_T, List.length_map])
  have s1 : fBin gAdd (fCall gLen (aCons (fBor 3) aNil)) (fCall gLen (aCons (fBin gAt (fBor 1) (fC (.int 1))) aNil)) E row0 = some (.int ((ss.length + rs.length : Nat) : Int), row0) := fB l1 l2 rfl
  refine (sSeq_nx (drop_c (aC1 s1) (check_scenes_ok h8))).trans ?_
  have m1 : fCall m_moved (aCons (fBin gAt (fBor 1) (fC (.int 1))) (aCons (fCall gLen (aCons (fBor 3) aNil)) aNil)) E row0 = some (.tuple ((rs.map (rnf (shf ss.length))).map eS), row0) := fK (aC2 q1 l1) (moved_eq k' _)
  refine (sSeq_nx (sV (i := 4) m1)).trans ?_
  have hE2 : E.set 4 (.va (.tuple ((rs.map (rnf (shf ss.length))).map eS))) = [.va (eX n ss), .va (eX n rs), .va (.int n), .va (.tuple (ss.map eS)), .va (.tuple ((rs.map (rnf (shf ss.length))).map eS)), .no] := by rw [← hE]; rfl
  rw [hE2]
  have at0 : gAt (.tuple ((rs.map (rnf (shf ss.length))).map eS)) (.int 0) = some (eS (fst0 ss.length rs)) := by
    have := scAt0 k'
    cases rs with
    | nil => simp at hm'
    | cons r rs =>
      have e : r = scAt (r :: rs) 0 := by simpa using this
      simp only [List.map_cons, gAt, atI_z0, fst0, ← e]
  have lc : fCall gTupOf (aCons (fOfX (xLc (fSeq (fVar 3)) (gtName 5) tYesF (fIf (fTst (fBin gIsN (fBor 5) (fC .none))) (fBin gAt (fBor 4) (fC (.int 0))) (fVar 5)) [5])) aNil) [.va (eX n ss), .va (eX n rs), .va (.int n), .va (.tuple (ss.map eS)), .va (.tuple ((rs.map (rnf (shf ss.length))).map eS)), .no] row0 = some (.tuple ((ss.map (fnx ss.length rs)).map eS), row0) := by
    refine tupOf_ok (x := row0) (lc_eq (sqT (vV rfl)) ?_ (by rw [List.length_map, List.length_map]; exact nob_n (by omega)))
    rw [List.map_map (f := fnx ss.length rs)]
    refine compL_map eS _ ss fun sc hsc => ?_
    refine ⟨[.va (eX n ss), .va (eX n rs), .va (.int n), .va (.tuple (ss.map eS)), .va (.tuple ((rs.map (rnf (shf ss.length))).map eS)), .va (eS sc)], rfl, rfl, ?_⟩
    have t := tst_b (fB (gd := gIsN) (vB (i := 5) (env := [.va (eX n ss), .va (eX n rs), .va (.int n), .va (.tuple (ss.map eS)), .va (.tuple ((rs.map (rnf (shf ss.length))).map eS)), .va (eS sc)]) rfl) (show fC .none _ _ = some (D.none, row0) from rfl) (isn_eS sc))
    cases sc with
    | none => exact fIf_t t (fB (vB rfl) (show fC (.int 0) _ _ = some (.int 0, row0) from rfl) at0)
    | some p => exact fIf_f t (vV rfl)
  refine (sR (fTup_ok (aC2 (vV rfl) (fB lc (vB rfl) (cat_T (by simp only [List.length_map]; exact ml _ (by omega))))) two_ml)).trans ?_
  simp only [eX, fol, List.map_append]
end Lw
namespace Lw
open PySem RT Wb
variable {n : Int} {ss rs : List Sc}
/-! with its ends led to its beginning -/
def zf (ss : List Sc) (v : Int) : Int := if isEnd ss v then 0 else v
def rep (ss : List Sc) : List Sc := ss.map (rnf (zf ss))
theorem en_alls : enD (ss.map eS) = (alls ss).map fun v => .tuple [.int v, eS (scAt ss v)] := by
  rw [enD_map, alls, List.map_map]
  apply List.ext_getElem
  · simp
  · intro i h1 h2
    simp only [List.length_map, List.length_zipIdx] at h1
    simp only [List.getElem_map, List.getElem_zipIdx, List.getElem_range, Function.comp, Nat.zero_add]
    have : scAt ss (i : Int) = ss[i] := by simp [scAt, h1]
    rw [this]
theorem repeated_eq (k : Ok n ss) (h0 : isEnd ss 0 = false) : m_repeated [eX n ss] = some (eX n (rep ss)) := by
  have hm := k.m
  refine mkF_rt (x := row0) rfl ?_
  show b_repeated [.va (eX n ss), .no, .no, .no, .no, .no] row0 = _
  unfold b_repeated
  obtain ⟨d1, c1⟩ := check_ok k
  refine (sSeq_nx (drop_c (aC1 (vV rfl)) c1)).trans ?_
  refine (sSeq_nx (unp_eX (ss := ss) (n := n) (vV rfl))).trans ?_
  have hE : ((([FSl.va (eX n ss), .no, .no, .no, .no, .no] : FEn).set 1 (.va (.int n))).set 2 (.va (.tuple (ss.map eS)))) = [.va (eX n ss), .va (.int n), .va (.tuple (ss.map eS)), .no, .no, .no] := rfl
  rw [hE]
  have t0 : fTst (fBin gIsN (fBin gAt (fBor 2) (fC (.int 0))) (fC .none)) [.va (eX n ss), .va (.int n), .va (.tuple (ss.map eS)), .no, .no, .no] row0 = some (false, row0) := by
    have q := fB (gd := gIsN) (fB (gd := gAt) (vB (i := 2) (env := [.va (eX n ss), .va (.int n), .va (.tuple (ss.map eS)), .no, .no, .no]) rfl) (show fC (.int 0) _ _ = some (.int 0, row0) from rfl) (eX_at (ss := ss) (n := n) (v := 0) (by omega) (by omega))) (show fC .none _ _ = some (D.none, row0) from rfl) (isn_eS (scAt ss 0))
    have e : (scAt ss 0).isNone = false := h0
    rw [e] at q
    exact tst_b q
  refine (sSeq_nx (if_no t0)).trans ?_
  have c2 : fEn (fVar 2) [.va (eX n ss), .va (.int n), .va (.tuple (ss.map eS)), .no, .no, .no] row0 = some ((alls ss).map fun v => .tuple [.int v, eS (scAt ss v)], row0) := by
    rw [← en_alls]; rfl
  have c3 : fOfX (xDc (fEn (fVar 2)) (gtTup 2 (gtCons (gtName 4) (gtCons (gtName 5) gtNil))) tYesF (fVar 4) (fIf (fTst (fBin gIsN (fBor 5) (fC .none))) (fC (.int 0)) (fVar 4)) [4, 5]) [.va (eX n ss), .va (.int n), .va (.tuple (ss.map eS)), .no, .no, .no] row0 = some (.dict (nfD (zf ss) (alls ss)), row0) := by
    refine xDc_ok c2 ?_
    refine nf_dc (f := zf ss) (alls ss) [] (fun v _ => ?_) (by simpa using alls_nd) (by simp [alls]; omega)
    refine ⟨[.va (eX n ss), .va (.int n), .va (.tuple (ss.map eS)), .no, .va (.int v), .va (eS (scAt ss v))], rfl, vV rfl, ?_⟩
    have t := tst_b (fB (gd := gIsN) (vB (i := 5) (env := [.va (eX n ss), .va (.int n), .va (.tuple (ss.map eS)), .no, .va (.int v), .va (eS (scAt ss v))]) rfl) (show fC .none _ _ = some (D.none, row0) from rfl) (isn_eS (scAt ss v)))
    by_cases c : isEnd ss v
    · have e : (scAt ss v).isNone = true := c
      rw [e] at t
      rw [zf, if_pos c]
      exact fIf_t t rfl
    · have e : (scAt ss v).isNone = false := Bool.eq_false_iff.mpr c
      rw [e] at t
      rw [zf, if_neg c]
      exact fIf_f t (vV rfl)
  refine (sSeq_nx (sV (i := 3) c3)).trans ?_
  have hE2 : ([.va (eX n ss), .va (.int n), .va (.tuple (ss.map eS)), .no, .no, .no] : FEn).set 3 (.va (.dict (nfD (zf ss) (alls ss)))) = [.va (eX n ss), .va (.int n), .va (.tuple (ss.map eS)), .va (.dict (nfD (zf ss) (alls ss))), .no, .no] := rfl
  rw [hE2]
  have r := renamed_all k (gx := 0) (f := zf ss) (env := [.va (eX n ss), .va (.int n), .va (.tuple (ss.map eS)), .va (.dict (nfD (zf ss) (alls ss))), .no, .no]) (fx := fSeq (fVar 2)) (fs := fVar 5) (fn := fVar 3) (vs := [5]) (gt := gtName 5) (sqT (vV rfl)) fun sc _ => ⟨[.va (eX n ss), .va (.int n), .va (.tuple (ss.map eS)), .va (.dict (nfD (zf ss) (alls ss))), .no, .va (eS sc)], rfl, vV rfl, vV rfl⟩
  exact sR (fTup_ok (aC2 (vV rfl) r) two_ml)
/-! the one or the other, as is chosen -/
def cho (s h : Int) (A B : List Sc) : List Sc := some (s, [(h, 0, 1), (h, 1, 1 + (A.length : Int))]) :: (A.map (rnf (shf 1)) ++ B.map (rnf (shf (1 + (A.length : Int)))))
theorem cho_len {s h : Int} : (cho s h ss rs).length = 1 + ss.length + rs.length := by simp [cho]; omega
theorem check_actor_ok' {a : Int} (h : 0 ≤ a ∧ a < n) : m_check_actor [.int a, .int n] = some .none := by
  refine mkF_nx (e := [.va (.int a), .va (.int n)]) (x := row0) rfl ?_
  show b_check_actor [.va (.int a), .va (.int n)] row0 = _
  have q : fCall m_is_number (aCons (fVar 0) (aCons (fC (.int 0)) (aCons (fBin gSubI (fBor 1) (fC (.int 1))) aNil))) [.va (.int a), .va (.int n)] row0 = some (.bool true, row0) := by
    refine fK (aC3 (vV rfl) (show fC (.int 0) _ _ = some (.int 0, row0) from rfl) (fB (vB rfl) (show fC (.int 1) _ _ = some (.int 1, row0) from rfl) (show gSubI (.int n) (.int 1) = some (.int (n - 1)) from rfl))) ?_
    rw [is_number_eq]
    have : a ≤ n - 1 := by omega
    simp [h.1, this]
  simp only [b_check_actor, sIf, tNotF, fTru, q, truD, Bool.not_true, sNil]
theorem chosen_eq (k : Ok n ss) (k' : Ok n rs) (h8 : 1 + ss.length + rs.length ≤ 8) {s h : Int} (hs : 0 ≤ s ∧ s < n) (hh : 0 ≤ h ∧ h < n) (hne : s ≠ h) : m_chosen [.int s, .int h, eX n ss, eX n rs] = some (eX n (cho s h ss rs)) := by
  have hm := k.m
  have hm' := k'.m
  refine mkF_rt (x := row0) rfl ?_
  show b_chosen [.va (.int s), .va (.int h), .va (eX n ss), .va (eX n rs), .no, .no, .no, .no] row0 = _
  unfold b_chosen
  obtain ⟨d1, c1⟩ := check_ok k
  obtain ⟨d2, c2⟩ := check_ok k'
  refine (sSeq_nx (drop_c (aC1 (vV rfl)) c1)).trans ?_
  refine (sSeq_nx (drop_c (aC1 (vV rfl)) c2)).trans ?_
  refine (sSeq_nx (unp_eX (ss := ss) (n := n) (vV rfl))).trans ?_
  have hE : ((([FSl.va (.int s), .va (.int h), .va (eX n ss), .va (eX n rs), .no, .no, .no, .no] : FEn).set 4 (.va (.int n))).set 5 (.va (.tuple (ss.map eS)))) = [.va (.int s), .va (.int h), .va (eX n ss), .va (eX n rs), .va (.int n), .va (.tuple (ss.map eS)), .no, .no] := rfl
  rw [hE]
  refine (sSeq_nx (drop_c (aC2 (vV rfl) (vV rfl)) (check_actor_ok' hs))).trans ?_
  refine (sSeq_nx (drop_c (aC2 (vV rfl) (vV rfl)) (check_actor_ok' hh))).trans ?_
  refine (sSeq_nx (drop_c (aC2 (vV rfl) (vV rfl)) (alike_a n ss rs))).trans ?_
  have t0 : fTst (fBin gEq (fBor 0) (fBor 1)) [.va (.int s), .va (.int h), .va (eX n ss), .va (eX n rs), .va (.int n), .va (.tuple (ss.map eS)), .no, .no] row0 = some (false, row0) := by
    refine tst_b (fB (vB rfl) (vB rfl) ?_)
    rw [eq_int]; simp [hne]
  refine (sSeq_nx (if_no t0)).trans ?_
  have l1 : fBin gAdd (fC (.int 1)) (fCall gLen (aCons (fBor 5) aNil)) [.va (.int s), .va (.int h), .va (eX n ss), .va (eX n rs), .va (.int n), .va (.tuple (ss.map eS)), .no, .no] row0 = some (.int (1 + (ss.length : Int)), row0) :=
    fB (show fC (.int 1) _ _ = some (.int 1, row0) from rfl) (fK (aC1 (vB rfl)) (by rw [len_T, List.length_map])) rfl
  refine (sSeq_nx (sV (i := 6) l1)).trans ?_
  have hE2 : ([FSl.va (.int s), .va (.int h), .va (eX n ss), .va (eX n rs), .va (.int n), .va (.tuple (ss.map eS)), .no, .no] : FEn).set 6 (.va (.int (1 + (ss.length : Int)))) = [.va (.int s), .va (.int h), .va (eX n ss), .va (eX n rs), .va (.int n), .va (.tuple (ss.map eS)), .va (.int (1 + (ss.length : Int))), .no] := rfl
  rw [hE2]
  have q1 : ∀ z, fBin gAt (fBor 3) (fC (.int 1)) [.va (.int s), .va (.int h), .va (eX n ss), .va (eX n rs), .va (.int n), .va (.tuple (ss.map eS)), .va (.int (1 + (ss.length : Int))), z] row0 = some (.tuple (rs.map eS), row0) := fun z => fB (vB rfl) (show fC (.int 1) _ _ = some (.int 1, row0) from rfl) (eX_1 n rs)
  refine (sSeq_nx (drop_c (aC1 (fB (vB rfl) (fK (aC1 (q1 .no)) (by rw [len_T, List.length_map])) (show gAdd (.int (1 + (ss.length : Int))) (.int (rs.length : Nat)) = some (.int (((1 + ss.length + rs.length : Nat) : Int))) from rfl))) (check_scenes_ok h8))).trans ?_
  have f1 : fTup (aCons (fVar 0) (aCons (fTup (aCons (fTup (aCons (fVar 1) (aCons (fC (.int 0)) (aCons (fC (.int 1)) aNil)))) (aCons (fTup (aCons (fVar 1) (aCons (fC (.int 1)) (aCons (fVar 6) aNil)))) aNil))) aNil)) [.va (.int s), .va (.int h), .va (eX n ss), .va (eX n rs), .va (.int n), .va (.tuple (ss.map eS)), .va (.int (1 + (ss.length : Int))), .no] row0 = some (eS (some (s, [(h, 0, 1), (h, 1, 1 + (ss.length : Int))])), row0) :=
    fTup_ok (aC2 (vV rfl) (fTup_ok (aC2 (fTup_ok (aC3 (vV rfl) (show fC (.int 0) _ _ = some (.int 0, row0) from rfl) (show fC (.int 1) _ _ = some (.int 1, row0) from rfl)) tri_ml) (fTup_ok (aC3 (vV rfl) (show fC (.int 1) _ _ = some (.int 1, row0) from rfl) (vV rfl)) tri_ml)) two_ml)) two_ml
  refine (sSeq_nx (sV (i := 7) f1)).trans ?_
  generalize hS : eS (some (s, [(h, 0, 1), (h, 1, 1 + (ss.length : Int))])) = S
  have hE3 : ([FSl.va (.int s), .va (.int h), .va (eX n ss), .va (eX n rs), .va (.int n), .va (.tuple (ss.map eS)), .va (.int (1 + (ss.length : Int))), .no] : FEn).set 7 (.va S) = [.va (.int s), .va (.int h), .va (eX n ss), .va (eX n rs), .va (.int n), .va (.tuple (ss.map eS)), .va (.int (1 + (ss.length : Int))), .va S] := rfl
  rw [hE3]
  have m1 := fK (env := [.va (.int s), .va (.int h), .va (eX n ss), .va (eX n rs), .va (.int n), .va (.tuple (ss.map eS)), .va (.int (1 + (ss.length : Int))), .va S]) (x := row0) (aC2 (vV (i := 5) rfl) (show fC (.int 1) _ _ = some (.int 1, row0) from rfl)) (moved_eq k 1)
  have m2 := fK (aC2 (q1 (.va S)) (vV (i := 6) rfl)) (moved_eq k' (1 + (ss.length : Int)))
  have t1 := fTup_ok (aC1 (vV (i := 7) (env := [.va (.int s), .va (.int h), .va (eX n ss), .va (eX n rs), .va (.int n), .va (.tuple (ss.map eS)), .va (.int (1 + (ss.length : Int))), .va S]) (x := row0) rfl)) one_ml
  refine (sR (fTup_ok (aC2 (vV rfl) (fB (fB t1 m1 (cat_T (by simp only [List.length_map, List.length_singleton]; exact ml _ (by omega)))) m2 (cat_T (by simp only [List.length_append, List.length_map, List.length_singleton]; exact ml _ (by omega))))) two_ml)).trans ?_
  rw [← hS]
  simp only [eX, cho, List.map_append, List.map_cons, List.cons_append, List.nil_append, List.singleton_append]
end Lw
namespace Lw
open PySem RT Wb
variable {n : Int} {ss rs : List Sc}
theorem c_int {i : Int} {env : FEn} {x : FRow} : fC (.int i) env x = some (.int i, x) := rfl
theorem replacedD_eq {ds : List D} {k : Nat} (hk : k < ds.length) (hl : ds.length ≤ 1000) (d : D) : m_replaced [.tuple ds, .int (k : Int), d] = some (.tuple (ds.set k d)) := by
  rw [List.set_eq_take_append_cons_drop, if_pos hk]
  refine mkF_rt (x := row0) rfl ?_
  show b_replaced [.va (.tuple ds), .va (.int (k : Int)), .va d] row0 = _
  have c1 : fSl (fBor 0) oNone (oSome (fVar 1)) [.va (.tuple ds), .va (.int (k : Int)), .va d] row0 = some (.tuple (ds.take k), row0) := sl_to (vB rfl) (vV rfl) (by omega)
  have c2 : fTup (aCons (fVar 2) aNil) [.va (.tuple ds), .va (.int (k : Int)), .va d] row0 = some (.tuple [d], row0) := fTup_ok (aC1 (vV rfl)) one_ml
  have q : fBin gAdd (fBor 1) (fC (.int 1)) [.va (.tuple ds), .va (.int (k : Int)), .va d] row0 = some (.int ((k + 1 : Nat) : Int), row0) := fB (vB rfl) c_int rfl
  have c3 : fSl (fBor 0) (oSome (fBin gAdd (fBor 1) (fC (.int 1)))) oNone [.va (.tuple ds), .va (.int (k : Int)), .va d] row0 = some (.tuple (ds.drop (k + 1)), row0) := sl_from (vB rfl) q (by omega)
  have l1 : (ds.take k).length + [d].length ≤ maxLen := by rw [List.length_take, List.length_singleton]; exact ml _ (by omega)
  have l2 : (ds.take k ++ [d]).length + (ds.drop (k + 1)).length ≤ maxLen := by rw [List.length_append, List.length_take, List.length_drop, List.length_singleton]; exact ml _ (by omega)
  refine (sR (fB (fB c1 c2 (cat_T l1)) c3 (cat_T l2))).trans ?_
  simp
theorem branches_of_eq (sc : Sc) : m_branches_of [eS sc] = some (.tuple ((bsOf sc).map eB)) := by
  cases sc with
  | none =>
    refine mkF_rt (x := row0) rfl ?_
    simp [b_branches_of, sSeq, sIf, fTst, fBin, fBor, fC, gIsN, isNoneD, sRet, startE, eS, bsOf, fTup, aNil, maxLen]
  | some p =>
    obtain ⟨s, bs⟩ := p
    refine mkF_rt (x := row0) rfl ?_
    show b_branches_of [.va (eS (some (s, bs))), .no, .no] row0 = _
    have c2 : fTst (fBin gIsN (fBor 0) (fC .none)) [.va (eS (some (s, bs))), .no, .no] row0 = some (false, row0) := tst_b (fB (vB rfl) rfl (isn_eS (some (s, bs))))
    have c3 : sUnp (fVar 0) (gtTup 2 (gtCons (gtName 1) (gtCons (gtName 2) gtNil))) [.va (eS (some (s, bs))), .no, .no] row0 = some (.nx [.va (eS (some (s, bs))), .va (.int s), .va (.tuple (bs.map eB))], row0) := by
      simp [sUnp, fVar, gtTup, gtCons, gtName, gtNil, eS]
    unfold b_branches_of
    exact (sSeq_nx (if_no c2)).trans ((sSeq_nx c3).trans (sR (vV rfl)))
theorem len_eX {env : FEn} {f : FE} (h : f env row0 = some (eX n ss, row0)) : fCall gLen (aCons (fBin gAt f (fC (.int 1))) aNil) env row0 = some (.int (ss.length : Nat), row0) :=
  fK (aC1 (fB h c_int (eX_1 n ss))) (by rw [len_T, List.length_map])
theorem check_scene_ok {v : Int} (hv : 0 ≤ v ∧ v < (ss.length : Int)) : m_check_scene [.int v, eX n ss] = some .none := by
  refine mkF_nx (e := [.va (.int v), .va (eX n ss)]) (x := row0) rfl ?_
  show b_check_scene [.va (.int v), .va (eX n ss)] row0 = _
  have q : fCall m_is_number (aCons (fVar 0) (aCons (fC (.int 0)) (aCons (fBin gSubI (fCall gLen (aCons (fBin gAt (fBor 1) (fC (.int 1))) aNil)) (fC (.int 1))) aNil))) [.va (.int v), .va (eX n ss)] row0 = some (.bool true, row0) := by
    refine fK (aC3 (vV rfl) c_int (fB (len_eX (vB rfl)) c_int (show gSubI (.int (ss.length : Nat)) (.int 1) = some (.int ((ss.length : Int) - 1)) from rfl))) ?_
    rw [is_number_eq]
    have : v ≤ (ss.length : Int) - 1 := by omega
    simp [hv.1, this]
  simp only [b_check_scene, sIf, tNotF, fTru, q, truD, Bool.not_true, sNil]
theorem at_sc {env : FEn} {f g : FE} {v : Int} (hv : 0 ≤ v ∧ v < (ss.length : Int)) (h : f env row0 = some (eX n ss, row0)) (hg : g env row0 = some (.int v, row0)) : fBin gAt (fBin gAt f (fC (.int 1))) g env row0 = some (eS (scAt ss v), row0) :=
  fB (fB h c_int (eX_1 n ss)) hg (eX_at (n := n) hv.1 hv.2)
theorem check_branch_ok (k : Ok n ss) {v p : Int} (hv : 0 ≤ v ∧ v < (ss.length : Int)) (hp : 0 ≤ p ∧ p < ((brs ss v).length : Int)) : m_check_branch [eX n ss, .int v, .int p] = some .none := by
  refine mkF_nx (e := [.va (eX n ss), .va (.int v), .va (.int p)]) (x := row0) rfl ?_
  show b_check_branch [.va (eX n ss), .va (.int v), .va (.int p)] row0 = _
  unfold b_check_branch
  obtain ⟨d1, c1⟩ := check_ok k
  refine (sSeq_nx (drop_c (aC1 (vV rfl)) c1)).trans ?_
  refine (sSeq_nx (drop_c (aC2 (vV rfl) (vV rfl)) (check_scene_ok hv))).trans ?_
  have l : fCall gLen (aCons (fCall m_branches_of (aCons (fBin gAt (fBin gAt (fBor 0) (fC (.int 1))) (fBor 1)) aNil)) aNil) [.va (eX n ss), .va (.int v), .va (.int p)] row0 = some (.int ((brs ss v).length : Nat), row0) :=
    fK (aC1 (fK (aC1 (at_sc hv (vB rfl) (vB rfl))) (branches_of_eq _))) (by rw [len_T, List.length_map]; rfl)
  have q : fCall m_is_number (aCons (fVar 2) (aCons (fC (.int 0)) (aCons (fBin gSubI (fCall gLen (aCons (fCall m_branches_of (aCons (fBin gAt (fBin gAt (fBor 0) (fC (.int 1))) (fBor 1)) aNil)) aNil)) (fC (.int 1))) aNil))) [.va (eX n ss), .va (.int v), .va (.int p)] row0 = some (.bool true, row0) := by
    refine fK (aC3 (vV rfl) c_int (fB l c_int (show gSubI (.int ((brs ss v).length : Nat)) (.int 1) = some (.int (((brs ss v).length : Int) - 1)) from rfl))) ?_
    rw [is_number_eq]
    have : p ≤ ((brs ss v).length : Int) - 1 := by omega
    simp [hp.1, this]
  simp only [sIf, tNotF, fTru, q, truD, Bool.not_true, sNil]
def setSc (ss : List Sc) (v : Int) (sc : Sc) : List Sc := ss.set v.toNat sc
theorem unp2' {f : FE} {env : FEn} {x : FRow} {a b : D} {i j : Nat} (h : f env x = some (.tuple [a, b], x)) : sUnp f (gtTup 2 (gtCons (gtName i) (gtCons (gtName j) gtNil))) env x = some (.nx ((env.set i (.va a)).set j (.va b)), x) := by
  simp only [sUnp, h, gtTup, gtCons, gtName, gtNil, List.length_cons, List.length_nil]
  rfl
theorem with_branches_eq (k : Ok n ss) {v : Int} (hv : 0 ≤ v ∧ v < (ss.length : Int)) {s : Int} {bs cs : List Br} (e : scAt ss v = some (s, bs)) : m_with_branches [eX n ss, .int v, .tuple (cs.map eB)] = some (eX n (setSc ss v (some (s, cs)))) := by
  have hm := k.m
  refine mkF_rt (x := row0) rfl ?_
  show b_with_branches [.va (eX n ss), .va (.int v), .va (.tuple (cs.map eB)), .no, .no, .no, .no] row0 = _
  unfold b_with_branches
  refine (sSeq_nx (unp_eX (ss := ss) (n := n) (vV rfl))).trans ?_
  have hE : ((([FSl.va (eX n ss), .va (.int v), .va (.tuple (cs.map eB)), .no, .no, .no, .no] : FEn).set 3 (.va (.int n))).set 4 (.va (.tuple (ss.map eS)))) = [.va (eX n ss), .va (.int v), .va (.tuple (cs.map eB)), .va (.int n), .va (.tuple (ss.map eS)), .no, .no] := rfl
  rw [hE]
  have q : fBin gAt (fBor 4) (fBor 1) [.va (eX n ss), .va (.int v), .va (.tuple (cs.map eB)), .va (.int n), .va (.tuple (ss.map eS)), .no, .no] row0 = some (.tuple [.int s, .tuple (bs.map eB)], row0) := by
    refine fB (vB rfl) (vB rfl) ?_
    rw [eX_at (n := n) hv.1 hv.2, e]; rfl
  refine (sSeq_nx (unp2' q)).trans ?_
  have hE2 : ((([FSl.va (eX n ss), .va (.int v), .va (.tuple (cs.map eB)), .va (.int n), .va (.tuple (ss.map eS)), .no, .no] : FEn).set 5 (.va (.int s))).set 6 (.va (.tuple (bs.map eB)))) = [.va (eX n ss), .va (.int v), .va (.tuple (cs.map eB)), .va (.int n), .va (.tuple (ss.map eS)), .va (.int s), .va (.tuple (bs.map eB))] := rfl
  rw [hE2]
  have r := replacedD_eq (ds := ss.map eS) (k := v.toNat) (by rw [List.length_map]; omega) (by rw [List.length_map]; omega) (eS (some (s, cs)))
  rw [Int.toNat_of_nonneg hv.1] at r
  refine (sR (fTup_ok (aC2 (vV rfl) (fK (aC3 (vV rfl) (vV rfl) (fTup_ok (aC2 (vV rfl) (vV rfl)) two_ml)) r)) two_ml)).trans ?_
  simp only [eX, setSc, List.map_set]
theorem atB0 (b : Br) (bs : List Br) : gAt (.tuple ((b :: bs).map eB)) (.int 0) = some (eB b) := by rw [List.map_cons, gAt, atI_z0]
end Lw
namespace Lw
open PySem RT Wb
theorem mkR_rt {n k : Nat} {b : FS} {ds : List D} {x x' : FRow} {d : D} (h1 : ds.length = k) (h : b (.rw :: startE n ds) x = some (.rt d, x')) : mkR n k b ds x = some (d, x') := by
  simp only [mkR, if_pos h1, h]
theorem forL_rgR {gt : FGt} {b : FS} (n : Nat) (E : Nat → FEn → FRow → Prop) (env : FEn) (x : FRow) (r : E 0 env x) (h : ∀ i, i < n → ∀ env x, E i env x → ∃ e e2 x2, gt (.int (i : Nat)) env = some e ∧ b e x = some (.nx e2, x2) ∧ E (i + 1) e2 x2) :
    ∃ e x', forL gt b (rgD 0 n) env x = some (.nx e, x') ∧ E n e x' := by
  rw [rgD_map]
  have aux : ∀ (m k : Nat), k + m = n → ∀ env x, E k env x → ∃ e x', forL gt b (((List.range n).drop k).map fun (i : Nat) => D.int (i : Int)) env x = some (.nx e, x') ∧ E n e x' := by
    intro m
    induction m with
    | zero =>
      intro k hk env x r
      have : k = n := by omega
      subst this
      exact ⟨env, x, by rw [List.drop_eq_nil_of_le (by simp)]; rfl, r⟩
    | succ m ih =>
      intro k hk env x r
      obtain ⟨e, e2, x2, h1, h2, h3⟩ := h k (by omega) env x r
      obtain ⟨e3, x', h4, h5⟩ := ih (k + 1) (by omega) e2 x2 h3
      refine ⟨e3, x', ?_, h5⟩
      have hl : k < (List.range n).length := by simp; omega
      rw [List.drop_eq_getElem_cons hl, List.map_cons, forL, List.getElem_range, h1]
      simp only [h2]
      exact h4
  exact aux n 0 (by omega) env x r
theorem eraseIdx_map' : ∀ (L : List Int) (k : Nat), (L.map D.int).eraseIdx k = (L.eraseIdx k).map .int
  | [], _ => rfl
  | _ :: _, 0 => rfl
  | a :: L, k + 1 => by simp only [List.map_cons, List.eraseIdx_cons_succ, eraseIdx_map' L k]
abbrev oB : FS := sAppPop 3 2 (fCallR 0 m_law_taken (aCons (fCall gLen (aCons (fBor 2) aNil)) aNil))
def orE (N : Nat) (L F : List Int) (p : FSl) : FEn := [.rw, .va (.int (N : Int)), .ow (.lst (L.map .int)), .ow (.lst (F.map .int)), p]
theorem oB_eq {N : Nat} {L F : List Int} (hL : 1 ≤ L.length ∧ L.length ≤ 100) (hF : F.length ≤ 100) (p : FSl) {x : FRow} (hx : 0 ≤ x.a) :
    ∃ i x', i < L.length ∧ oB (orE N L F p) x = some (.nx (orE N (L.eraseIdx i) (F ++ [L[i]!]) p), x') ∧ 0 ≤ x'.a := by
  obtain ⟨r, x', h1, h2, h3, h4⟩ := taken_ok (many := (L.length : Int)) hx (by omega) (by omega)
  refine ⟨r.toNat, x', by omega, ?_, h4⟩
  have q : fCallR 0 m_law_taken (aCons (fCall gLen (aCons (fBor 2) aNil)) aNil) (orE N L F p) x = some (.int r, x') := by
    refine fCallR_eq (env := orE N L F p) (x1 := x) rfl (aC1 (fK (ds := [.list (L.map .int)]) (aC1 (vO (d := .lst (L.map .int)) rfl)) (show gLen [.list (L.map D.int)] = some (.int (L.length : Nat)) by simp [gLen]))) h1
  have hr : r.toNat < L.length := by omega
  have e1 : (if 0 ≤ r then (L.map D.int)[r.toNat]? else none) = some (.int L[r.toNat]!) := by
    rw [if_pos h2, List.getElem?_map, List.getElem?_eq_getElem hr, getElem!_pos L r.toNat hr]; rfl
  have g2 : (orE N L F p)[2]? = some (.ow (.lst (L.map .int))) := rfl
  have e2 : (L.map D.int).eraseIdx r.toNat = (L.eraseIdx r.toNat).map .int := eraseIdx_map' L r.toNat
  have g3 : ((orE N L F p).set 2 (.ow (.lst ((L.eraseIdx r.toNat).map .int))))[3]? = some (.ow (.lst (F.map .int))) := rfl
  have l1 : (F.map D.int).length < maxLen := nob_n (by rw [List.length_map]; omega)
  have l2 : (L.map D.int).length < maxLen := nob_n (by rw [List.length_map]; omega)
  have c : (3 : Nat) ≠ 2 ∧ (F.map D.int).length < maxLen ∧ (L.map D.int).length < maxLen := ⟨by decide, l1, l2⟩
  unfold oB
  simp only [sAppPop, q, g2, e1, e2, g3, if_pos c]
  simp only [orE, List.map_append, List.map_cons, List.map_nil]
  rfl
theorem perm_erase : ∀ (L : List Int) (j : Nat) (h : j < L.length), (L[j] :: L.eraseIdx j).Perm L
  | a :: L, 0, _ => List.Perm.refl _
  | a :: L, j + 1, h => by
    have ih := perm_erase L j (by simpa using h)
    exact (List.Perm.swap _ _ _).trans (ih.cons a)
theorem sPars2 {i j : Nat} {f g : FX} {env : FEn} {x x1 x2 : FRow} {a b : FSl} (h : f env x = some (a, x1)) (h' : g env x1 = some (b, x2)) : sPars [i, j] (xsCons f (xsCons g xsNil)) env x = some (.nx (setsE env [i, j] [a, b]), x2) := by
  simp only [sPars, xsCons, xsNil, h, h', List.length_cons, List.length_nil, if_true]
theorem fLrg1_ok {f : FE} {env : FEn} {x : FRow} {N : Nat} (h : f env x = some (.int (N : Int), x)) (hN : N ≤ 1000) : fLrg1 f env x = some (.list (rgD 0 N), x) := by
  have o : (okRg (N : Int) && decide ((N : Int) ≤ 16777216)) = true := by rw [rg_ok hN]; simp; omega
  simp only [fLrg1, h, o, if_true, Int.toNat_natCast]
theorem fRg1_ok {f : FE} {env : FEn} {x : FRow} {N : Nat} (h : f env x = some (.int (N : Int), x)) (hN : N ≤ 1000) : fRg1 f env x = some (rgD 0 N, x) := by
  have o : okRg (N : Int) = true := rg_ok hN
  simp only [fRg1, h, o, if_true, Int.toNat_natCast]
theorem xOwn_ok {f : FE} {env : FEn} {x x1 : FRow} {ds : List D} (h : f env x = some (.list ds, x1)) (hl : ds.length ≤ maxLen) : xOwn f env x = some (.ow (.lst ds), x1) := by
  simp only [xOwn, h, if_pos hl]
theorem law_order_ok {N : Nat} (hN : N ≤ 100) {x : FRow} (hx : 0 ≤ x.a) : ∃ (fs : List Int) (x' : FRow), m_law_order [.int (N : Int)] x = some (.tuple (fs.map .int), x') ∧ 0 ≤ x'.a ∧ fs.Nodup ∧ fs.length = N ∧ ∀ v ∈ fs, 0 ≤ v ∧ v < (N : Int) := by
  have r1 : rgD 0 N = ((List.range N).map fun (i : Nat) => (i : Int)).map D.int := by rw [rgD_map N, List.map_map]; rfl
  have l0 : (rgD 0 N).length ≤ maxLen := by rw [r1]; simp only [List.length_map, List.length_range]; exact ml _ (by omega)
  have c2 : sPars [2, 3] (xsCons (xOwn (fLrg1 (fVar 1))) (xsCons (xLst aNil) xsNil)) [.rw, .va (.int (N : Int)), .no, .no, .no] x = some (.nx (orE N ((List.range N).map fun (i : Nat) => (i : Int)) [] .no), x) := by
    refine (sPars2 (xOwn_ok (fLrg1_ok (vV rfl) (by omega)) l0) (xLst_ok (ds := []) (by rfl) nil_ml)).trans ?_
    rw [r1]
    rfl
  obtain ⟨e, x', h1, L, F, p, h2, h3, h4, h5, h6, h7⟩ := forL_rgR (gt := gtName 4) (b := oB) N (fun i env x => ∃ L F p, env = orE N L F p ∧ L.length + i = N ∧ F.length = i ∧ (F ++ L).Nodup ∧ (∀ v ∈ F ++ L, 0 ≤ v ∧ v < (N : Int)) ∧ 0 ≤ x.a)
    (orE N ((List.range N).map fun (i : Nat) => (i : Int)) [] .no) x ⟨_, _, _, rfl, by simp, rfl, by rw [List.nil_append]; exact List.Pairwise.map _ (fun a b h e => h (Int.ofNat_inj.mp e)) List.nodup_range, by
      intro v hv
      rw [List.nil_append] at hv
      obtain ⟨i, hi, rfl⟩ := List.mem_map.mp hv
      have := List.mem_range.mp hi
      omega, hx⟩ fun i hi env x ⟨L, F, p, he, h1, h2, h3, h4, h5⟩ => by
      obtain ⟨j, x', hj, hb, hx'⟩ := oB_eq (N := N) (L := L) (F := F) (by omega) (by omega) (.va (.int (i : Nat))) h5
      have pm : (F ++ [L[j]!] ++ L.eraseIdx j).Perm (F ++ L) := by
        rw [List.append_assoc]
        refine List.Perm.append_left F ?_
        rw [getElem!_pos L j hj]
        exact perm_erase L j hj
      exact ⟨orE N L F (.va (.int (i : Nat))), _, x', by rw [he]; rfl, hb, _, _, _, rfl, by rw [List.length_eraseIdx, if_pos hj]; omega, by simp [h2], pm.nodup_iff.mpr h3, fun v hv => h4 v (pm.mem_iff.mp hv), hx'⟩
  subst h2
  have hL : L = [] := List.length_eq_zero_iff.mp (by omega)
  subst hL
  rw [List.append_nil] at h5 h6
  refine ⟨F, x', mkR_rt rfl ?_, h7, h5, h4, h6⟩
  show b_law_order [.rw, .va (.int (N : Int)), .no, .no, .no] x = _
  unfold b_law_order
  rw [sSeq_nx c2]
  have c3 := fRg1_ok (f := fVar 1) (env := orE N ((List.range N).map fun (i : Nat) => (i : Int)) [] .no) (x := x) (vV (i := 1) rfl) (show N ≤ 1000 by omega)
  refine (sSeq_nx (for_eq c3 h1)).trans ?_
  refine sR (tupOf_ok (x := x') ?_)
  exact vO (d := .lst (F.map .int)) rfl
end Lw
namespace Lw
open PySem RT Wb
variable {n : Int} {ss : List Sc}
/-! branches sorted -/
def Sm (b : Br) : Prop := (0 ≤ b.1 ∧ b.1 < 64) ∧ (0 ≤ b.2.1 ∧ b.2.1 < 64) ∧ (0 ≤ b.2.2 ∧ b.2.2 < 64)
theorem Sm.tup {b : Br} (h : Sm b) : okTup 3 [b.1, b.2.1, b.2.2] = true := by
  obtain ⟨h1, h2, h3⟩ := h
  simp only [okTup, List.length_cons, List.length_nil, List.all_cons, List.all_nil, Bool.and_true, Bool.and_eq_true, decide_eq_true_eq]
  exact ⟨trivial, h1, h2, h3⟩
theorem sort_any {l : List Br} (h : ∀ b ∈ l, Sm b) (hl : l.length ≤ 2) : ∃ bs : List Br, gSortX [.list (l.map eB)] = some (.list (bs.map eB)) ∧ bs.length = l.length ∧ ∀ c ∈ bs, c ∈ l := by
  match l, h, hl with
  | [], _, _ => exact ⟨[], by simp [gSortX, gSort, cOr, gSortI, intsD, sortI], rfl, by simp⟩
  | [a], h, _ =>
    have h1 := (h a (by simp)).tup
    exact ⟨[a], sortX_of (by simp [gSort, cOr, gSortI, intsD, gSortT, eB, tupsD, h1, sortT, insT, tupD]), rfl, by simp⟩
  | [a, b], h, _ =>
    have h1 := (h a (by simp)).tup
    have h2 := (h b (by simp)).tup
    by_cases c : cdT [a.1, a.2.1, a.2.2] ≤ cdT [b.1, b.2.1, b.2.2]
    · refine ⟨[a, b], sortX_of ?_, rfl, by simp⟩
      show gSort [.list [eB a, eB b]] = _
      simp only [gSort, cOr, gSortI, intsD, gSortT, eB, tupsD, List.length_cons, List.length_nil, h1, h2, sortT, insT, if_pos c]
      simp [eB, tupD, h1, h2, sortT, insT, c]
    · refine ⟨[b, a], sortX_of ?_, rfl, by intro z hz; simp at hz ⊢; exact hz.symm⟩
      show gSort [.list [eB a, eB b]] = _
      simp only [gSort, cOr, gSortI, intsD, gSortT, eB, tupsD, List.length_cons, List.length_nil, h1, h2, sortT, insT, if_neg c]
      simp [eB, tupD, h1, h2, sortT, insT, c]
def srtB3 (l : List Br) : List D := match gSortX [.list (l.map eB)] with
  | some (.list S) => S
  | _ => []
theorem sort_srt {l : List Br} (h : ∀ b ∈ l, Sm b) (hl : l.length ≤ 2) : gSortX [.list (l.map eB)] = some (.list (srtB3 l)) ∧ (srtB3 l).length ≤ 2 ∧ ∀ z ∈ srtB3 l, ∃ b, z = eB b := by
  obtain ⟨bs, e, h1, h2⟩ := sort_any h hl
  unfold srtB3
  rw [e]
  exact ⟨rfl, by simp; omega, fun z hz => by obtain ⟨b, _, rfl⟩ := List.mem_map.mp hz; exact ⟨b, rfl⟩⟩
/-! a scene with new names -/
def nw (A W : Int → Int) (b : Br) : Br := (A b.1, W b.2.1, b.2.2)
def nwD (A W : Int → Int) : Sc → D
  | none => .none
  | some (s, bs) => .tuple [.int (A s), .tuple (srtB3 (bs.map (nw A W)))]
structure NmOk (n : Int) (NA NW : D) (A W : Int → Int) : Prop where
  a : ∀ i, 0 ≤ i → i < n → gAt NA (.int i) = some (.int (A i)) ∧ 0 ≤ A i ∧ A i < 64
  w : ∀ i, 0 ≤ i → i ≤ 5 → gAt NW (.int i) = some (.int (W i)) ∧ 0 ≤ W i ∧ W i < 64
theorem Ok.at (k : Ok n ss) {s : Int} {bs : List Br} (h : some (s, bs) ∈ ss) : (0 ≤ s ∧ s < n) ∧ bs.length ≤ 2 ∧ 1 ≤ bs.length ∧ ∀ b ∈ bs, OkB n ss.length s b := by
  obtain ⟨h1, h2, h3⟩ := k.sc s bs h
  refine ⟨h1, ?_, ?_, h3⟩ <;> rcases h2 with ⟨b, rfl⟩ | ⟨b, c, rfl, _⟩ <;> simp
theorem nw_sm (k : Ok n ss) {NA NW : D} {A W : Int → Int} (hN : NmOk n NA NW A W) {s : Int} {bs : List Br} (h : some (s, bs) ∈ ss) : ∀ b ∈ bs.map (nw A W), Sm b := fun b hb => by
  obtain ⟨c, hc, rfl⟩ := List.mem_map.mp hb
  have o := (k.at h).2.2.2 c hc
  have hm := k.m
  exact ⟨(hN.a _ o.h.1 o.h.2).2, (hN.w _ o.w.1 o.w.2).2, o.t.1, by have := o.t.2; show c.2.2 < 64; omega⟩
theorem nw_list (k : Ok n ss) {NA NW : D} {A W : Int → Int} (hN : NmOk n NA NW A W) {s : Int} {bs : List Br} (h : some (s, bs) ∈ ss) {f g1 g2 : FE} {i j l : Nat} {env : FEn} {x : FRow} (hf : fSeq f env x = some (bs.map eB, x))
    (hg : ∀ b ∈ bs, ∃ e, gtTup 3 (gtCons (gtName i) (gtCons (gtName j) (gtCons (gtName l) gtNil))) (eB b) (wipeE env [i, j, l]) = some e ∧ g1 e x = some (.int (A b.1), x) ∧ g2 e x = some (.int (W b.2.1), x) ∧ e[l]? = some (.va (.int b.2.2))) :
    fOfX (xLc (fSeq f) (gtTup 3 (gtCons (gtName i) (gtCons (gtName j) (gtCons (gtName l) gtNil)))) tYesF (fTup (aCons g1 (aCons g2 (aCons (fVar l) aNil)))) [i, j, l]) env x = some (.list ((bs.map (nw A W)).map eB), x) := by
  rw [List.map_map]
  refine lc_eq (ds := bs.map eB) hf (compL_map eB (eB ∘ nw A W) bs fun b hb => ?_) (by rw [List.length_map]; have := (k.at h).2.1; exact nob_n (by omega))
  obtain ⟨e, h1, h2, h3, h4⟩ := hg b hb
  exact ⟨e, h1, rfl, fTup_ok (aC3 h2 h3 (vV h4)) tri_ml⟩
def wE (X NA NW : D) (nD S : D) (acc : List D) (s6 s7 s8 s9 : FSl) : FEn := [.va X, .va NA, .va NW, .va nD, .va S, .ow (.lst acc), s6, s7, s8, s9, .no, .no, .no]
abbrev wnB : FS := sIf (fTst (fBin gIsN (fBor 6) (fC .none))) (sApp 5 (fC .none)) (sSeq (sUnp (fVar 6) (gtTup 2 (gtCons (gtName 7) (gtCons (gtName 8) gtNil))))
    (sSeq (sSet 9 ((fun f => xVal (fOfX f)) (xLc (fSeq (fVar 8)) (gtTup 3 (gtCons (gtName 10) (gtCons (gtName 11) (gtCons (gtName 12) gtNil)))) tYesF (fTup (aCons (fBin gAt (fBor 1) (fBor 10)) (aCons (fBin gAt (fBor 2) (fBor 11)) (aCons (fVar 12) aNil)))) [10, 11, 12])))
    (sApp 5 (fTup (aCons (fBin gAt (fBor 1) (fBor 7)) (aCons (fCall gTupOf (aCons (fCall gSortX (aCons (fBor 9) aNil)) aNil)) aNil))))))
theorem wn_step (k : Ok n ss) {NA NW : D} {A W : Int → Int} (hN : NmOk n NA NW A W) {sc : Sc} (h : sc ∈ ss) {X nD S : D} {acc : List D} (hl : acc.length ≤ 100) (s7 s8 s9 : FSl) :
    ∃ s7' s8' s9', wnB (wE X NA NW nD S acc (.va (eS sc)) s7 s8 s9) row0 = some (.nx (wE X NA NW nD S (acc ++ [nwD A W sc]) (.va (eS sc)) s7' s8' s9'), row0) := by
  cases sc with
  | none =>
    refine ⟨s7, s8, s9, ?_⟩
    have t : fTst (fBin gIsN (fBor 6) (fC .none)) (wE X NA NW nD S acc (.va (eS none)) s7 s8 s9) row0 = some (true, row0) := tst_b (fB (vB rfl) rfl rfl)
    simp only [wnB, sIf, t]
    exact sA (f := fC .none) rfl rfl (by omega)
  | some p =>
    obtain ⟨s, bs⟩ := p
    obtain ⟨hs, h2, h1, hb⟩ := k.at h
    refine ⟨.va (.int s), .va (.tuple (bs.map eB)), .va (.list ((bs.map (nw A W)).map eB)), ?_⟩
    have t : fTst (fBin gIsN (fBor 6) (fC .none)) (wE X NA NW nD S acc (.va (eS (some (s, bs)))) s7 s8 s9) row0 = some (false, row0) := tst_b (fB (vB rfl) rfl rfl)
    simp only [wnB, sIf, t]
    have u : sUnp (fVar 6) (gtTup 2 (gtCons (gtName 7) (gtCons (gtName 8) gtNil))) (wE X NA NW nD S acc (.va (eS (some (s, bs)))) s7 s8 s9) row0 = some (.nx (wE X NA NW nD S acc (.va (eS (some (s, bs)))) (.va (.int s)) (.va (.tuple (bs.map eB))) s9), row0) := unp2' (vV rfl)
    rw [sSeq_nx u]
    have q := nw_list k hN h (f := fVar 8) (g1 := fBin gAt (fBor 1) (fBor 10)) (g2 := fBin gAt (fBor 2) (fBor 11)) (i := 10) (j := 11) (l := 12) (env := wE X NA NW nD S acc (.va (eS (some (s, bs)))) (.va (.int s)) (.va (.tuple (bs.map eB))) s9) (x := row0) (sqT (vV rfl)) (fun b hbb => by
      have o := hb b hbb
      exact ⟨[.va X, .va NA, .va NW, .va nD, .va S, .ow (.lst acc), .va (eS (some (s, bs))), .va (.int s), .va (.tuple (bs.map eB)), s9, .va (.int b.1), .va (.int b.2.1), .va (.int b.2.2)], rfl, fB (vB rfl) (vB rfl) (hN.a _ o.h.1 o.h.2).1, fB (vB rfl) (vB rfl) (hN.w _ o.w.1 o.w.2).1, rfl⟩)
    have c2 : sSet 9 ((fun f => xVal (fOfX f)) (xLc (fSeq (fVar 8)) (gtTup 3 (gtCons (gtName 10) (gtCons (gtName 11) (gtCons (gtName 12) gtNil)))) tYesF (fTup (aCons (fBin gAt (fBor 1) (fBor 10)) (aCons (fBin gAt (fBor 2) (fBor 11)) (aCons (fVar 12) aNil)))) [10, 11, 12])) (wE X NA NW nD S acc (.va (eS (some (s, bs)))) (.va (.int s)) (.va (.tuple (bs.map eB))) s9) row0 = some (.nx (wE X NA NW nD S acc (.va (eS (some (s, bs)))) (.va (.int s)) (.va (.tuple (bs.map eB))) (.va (.list ((bs.map (nw A W)).map eB)))), row0) := sV (i := 9) q
    rw [sSeq_nx c2]
    have so := (sort_srt (nw_sm k hN h) (by rw [List.length_map]; exact h2)).1
    exact sA (i := 5) (d := nwD A W (some (s, bs))) (fTup_ok (aC2 (fB (vB rfl) (vB rfl) (hN.a _ hs.1 hs.2).1) (tupOf_ok (fK (aC1 (vB rfl)) so))) two_ml) rfl (by omega)
theorem wn_loop (k : Ok n ss) {NA NW : D} {A W : Int → Int} (hN : NmOk n NA NW A W) {X nD S : D} : ∀ (l : List Sc) (acc : List D) (s6 s7 s8 s9 : FSl), (∀ sc ∈ l, sc ∈ ss) → acc.length + l.length ≤ 100 →
    ∃ s6' s7' s8' s9', forL (gtName 6) wnB (l.map eS) (wE X NA NW nD S acc s6 s7 s8 s9) row0 = some (.nx (wE X NA NW nD S (acc ++ l.map (nwD A W)) s6' s7' s8' s9'), row0)
  | [], acc, s6, s7, s8, s9, _, _ => ⟨s6, s7, s8, s9, by simp [forL]⟩
  | sc :: l, acc, s6, s7, s8, s9, h, hl => by
    rw [List.length_cons] at hl
    obtain ⟨a, b, c, e⟩ := wn_step k hN (h sc (by simp)) (X := X) (nD := nD) (S := S) (acc := acc) (by omega) s7 s8 s9
    obtain ⟨a', b', c', d', e'⟩ := wn_loop k hN (X := X) (nD := nD) (S := S) l (acc ++ [nwD A W sc]) (.va (eS sc)) a b c (fun z hz => h z (by simp [hz])) (by rw [List.length_append, List.length_singleton]; omega)
    refine ⟨a', b', c', d', ?_⟩
    have g6 : gtName 6 (eS sc) (wE X NA NW nD S acc s6 s7 s8 s9) = some (wE X NA NW nD S acc (.va (eS sc)) s7 s8 s9) := rfl
    rw [List.map_cons, forL, g6]
    simp only [e, e', List.map_cons, List.append_assoc, List.singleton_append]
theorem with_names_eq (k : Ok n ss) {NA NW : D} {A W : Int → Int} (hN : NmOk n NA NW A W) : m_with_new_names [eX n ss, NA, NW] = some (.tuple [.int n, .tuple (ss.map (nwD A W))]) := by
  have hm := k.m
  refine mkF_rt (x := row0) rfl ?_
  show b_with_new_names [.va (eX n ss), .va NA, .va NW, .no, .no, .no, .no, .no, .no, .no, .no, .no, .no] row0 = _
  obtain ⟨a', b', c', d', e⟩ := wn_loop k hN (X := eX n ss) (nD := .int n) (S := .tuple (ss.map eS)) ss [] .no .no .no .no (fun _ h => h) (by simp; omega)
  unfold b_with_new_names
  refine (sSeq_nx (unp_eX (ss := ss) (n := n) (vV rfl))).trans ?_
  refine (sSeq_nx (e1 := wE (eX n ss) NA NW (.int n) (.tuple (ss.map eS)) [] .no .no .no .no) (x1 := row0) rfl).trans ?_
  have c3 : sFor (fSeq (fVar 4)) (gtName 6) wnB (wE (eX n ss) NA NW (.int n) (.tuple (ss.map eS)) [] .no .no .no .no) row0 = some (.nx (wE (eX n ss) NA NW (.int n) (.tuple (ss.map eS)) ([] ++ ss.map (nwD A W)) a' b' c' d'), row0) := by
    simp only [sFor, sqT (vV (i := 4) (env := wE (eX n ss) NA NW (.int n) (.tuple (ss.map eS)) [] .no .no .no .no) rfl), e]
  refine (sSeq_nx c3).trans ?_
  rw [List.nil_append]
  exact sR (fTup_ok (aC2 (vV rfl) (tupOf_ok (by simp only [fBor, wE]; rfl))) two_ml)
end Lw
namespace Lw
open PySem RT Wb
variable {n : Int} {ss : List Sc}
theorem nubI_id {l : List Int} (h : l.Nodup) : nubI l = l := by
  have key : ∀ (l acc : List Int), (acc ++ l).Nodup → l.foldl (fun acc k => if k ∈ acc then acc else acc ++ [k]) acc = acc ++ l := by
    intro l
    induction l with
    | nil => intro acc _; simp
    | cons a l ih =>
      intro acc h
      have hn : a ∉ acc := fun z => by
        rw [List.nodup_append] at h
        exact h.2.2 a z a (by simp) rfl
      rw [List.foldl_cons, if_neg hn, ih (acc ++ [a]) (by simpa using h)]
      simp
  exact key l [] (by simpa using h)
/-- names: each number below N once -/
structure Nms (N : Nat) (fs : List Int) : Prop where
  l : fs.length = N
  nd : fs.Nodup
  r : ∀ v ∈ fs, 0 ≤ v ∧ v < (N : Int)
def nmsD (fs : List Int) : D := .tuple (fs.map .int)
def nmAt (fs : List Int) (i : Int) : Int := (fs[i.toNat]?).getD 0
theorem Nms.at {N : Nat} {fs : List Int} (h : Nms N fs) {i : Int} (h0 : 0 ≤ i) (h1 : i < (N : Int)) : gAt (nmsD fs) (.int i) = some (.int (nmAt fs i)) ∧ 0 ≤ nmAt fs i ∧ nmAt fs i < (N : Int) := by
  obtain ⟨k, rfl⟩ : ∃ k : Nat, i = (k : Int) := ⟨i.toNat, by omega⟩
  have hk : k < fs.length := by rw [h.l]; omega
  have e : nmAt fs (k : Int) = fs[k] := by unfold nmAt; rw [Int.toNat_natCast, List.getElem?_eq_getElem hk]; rfl
  rw [e]
  refine ⟨?_, h.r _ (List.getElem_mem hk)⟩
  unfold nmsD
  simp only [gAt]
  refine atI_nat ?_
  rw [List.getElem?_map, List.getElem?_eq_getElem hk]; rfl
theorem check_names_eq {N : Nat} {fs : List Int} (h : Nms N fs) (hN : N ≤ 20) : m_check_names [nmsD fs, .int (N : Int)] = some .none := by
  refine mkF_nx (e := [.va (nmsD fs), .va (.int (N : Int)), .no]) (x := row0) rfl ?_
  show b_check_names [.va (nmsD fs), .va (.int (N : Int)), .no] row0 = _
  have d1 : fCall m_has_items (aCons (fVar 0) (aCons (fVar 1) (aCons (fVar 1) aNil))) [.va (nmsD fs), .va (.int (N : Int)), .no] row0 = some (.bool true, row0) := by
    refine fK (aC3 (vV rfl) (vV rfl) (vV rfl)) ?_
    unfold nmsD
    rw [has_items_eq]
    simp [h.l]
  have d2 : fOfX (xLc (fSeq (fVar 0)) (gtName 2) tYesF (fCall m_is_number (aCons (fVar 2) (aCons (fC (.int 0)) (aCons (fBin gSubI (fBor 1) (fC (.int 1))) aNil)))) [2]) [.va (nmsD fs), .va (.int (N : Int)), .no] row0 = some (.list (fs.map fun _ => .bool true), row0) := by
    refine lc_eq (ds := fs.map .int) (sqT (vV rfl)) (compL_map D.int _ fs fun v hv => ⟨_, rfl, rfl, ?_⟩) (by rw [List.length_map, h.l]; exact nob_n (by omega))
    refine fK (aC3 (vV rfl) rfl (fB (r := .int ((N : Int) - 1)) (vB rfl) rfl rfl)) ?_
    have := h.r v hv
    rw [is_number_eq]
    have h1 : v ≤ (N : Int) - 1 := by omega
    simp [this.1, h1]
  have d3 : fCall gAll (aCons (fOfX (xLc (fSeq (fVar 0)) (gtName 2) tYesF (fCall m_is_number (aCons (fVar 2) (aCons (fC (.int 0)) (aCons (fBin gSubI (fBor 1) (fC (.int 1))) aNil)))) [2])) aNil) [.va (nmsD fs), .va (.int (N : Int)), .no] row0 = some (.bool true, row0) := by
    refine fK (aC1 d2) ?_
    simp only [gAll, bools_map (fun _ => true)]; simp
  have c1 : sIf (tOrF (tNotF (fTru (fCall m_has_items (aCons (fVar 0) (aCons (fVar 1) (aCons (fVar 1) aNil)))))) (tNotF (fTru (fCall gAll (aCons (fOfX (xLc (fSeq (fVar 0)) (gtName 2) tYesF (fCall m_is_number (aCons (fVar 2) (aCons (fC (.int 0)) (aCons (fBin gSubI (fBor 1) (fC (.int 1))) aNil)))) [2])) aNil))))) sNo sNil [.va (nmsD fs), .va (.int (N : Int)), .no] row0 = some (.nx [.va (nmsD fs), .va (.int (N : Int)), .no], row0) := by
    refine if_no ?_
    simp only [tOrF, tNotF, fTru, d1, d3, truD, Bool.not_true]
  unfold b_check_names
  rw [sSeq_nx c1]
  refine if_no (tst_b ?_)
  have e : intsD (fs.map .int) = some fs := intsD_map fs
  have q : fLenS (nSetT (fVar 0)) [.va (nmsD fs), .va (.int (N : Int)), .no] row0 = some (.int (N : Int), row0) := by
    have v0 : fVar 0 [.va (nmsD fs), .va (.int (N : Int)), .no] row0 = some (.tuple (fs.map .int), row0) := vV rfl
    have hl : fs.length < 64 := by rw [h.l]; omega
    simp only [fLenS, nSetT, v0, e, if_pos hl, nubI_id h.nd]
    rw [h.l]
  exact fB q (vB rfl) (by simp [gLtX, gLt, gOr, gI])
theorem rg_at {N : Nat} {i : Int} (h0 : 0 ≤ i) (h1 : i < (N : Int)) : gAt (.list (rgD 0 N)) (.int i) = some (.int i) := by
  obtain ⟨k, rfl⟩ : ∃ k : Nat, i = (k : Int) := ⟨i.toNat, by omega⟩
  rw [rgD_map]
  simp only [gAt]
  refine atI_nat ?_
  rw [List.getElem?_map, List.getElem?_range (by omega)]; rfl
theorem renamed_actors_eq (k : Ok n ss) {N : Nat} (hn : n = (N : Int)) {fs : List Int} (h : Nms N fs) : m_renamed_actors [eX n ss, nmsD fs] = some (.tuple [.int n, .tuple (ss.map (nwD (nmAt fs) id))]) := by
  have hn2 := k.n2
  refine mkF_rt (x := row0) rfl ?_
  show b_renamed_actors [.va (eX n ss), .va (nmsD fs)] row0 = _
  obtain ⟨d1, c1⟩ := check_ok k
  unfold b_renamed_actors
  refine (sSeq_nx (drop_c (aC1 (vV rfl)) c1)).trans ?_
  refine (sSeq_nx (drop_c (aC2 (vV rfl) (fB (vB rfl) c_int (eX_0 n ss))) (by rw [hn]; exact check_names_eq h (by omega)))).trans ?_
  have q : fLrg1 (fBin gAdd (fC (.int 5)) (fC (.int 1))) [.va (eX n ss), .va (nmsD fs)] row0 = some (.list (rgD 0 6), row0) := fLrg1_ok (N := 6) (fB (d := .int 5) (e := .int 1) rfl rfl rfl) (by omega)
  exact sR (fK (aC3 (vV rfl) (vV rfl) q) (with_names_eq k ⟨fun i h0 h1 => by
    obtain ⟨e, r1, r2⟩ := h.at h0 (by omega)
    exact ⟨e, r1, by omega⟩, fun i h0 h1 => ⟨rg_at h0 (by omega), h0, by show i < 64; omega⟩⟩))
theorem renamed_words_eq (k : Ok n ss) {fs : List Int} (h : Nms 6 fs) : m_renamed_words [eX n ss, nmsD fs] = some (.tuple [.int n, .tuple (ss.map (nwD id (nmAt fs)))]) := by
  have hn2 := k.n2
  refine mkF_rt (x := row0) rfl ?_
  show b_renamed_words [.va (eX n ss), .va (nmsD fs)] row0 = _
  obtain ⟨d1, c1⟩ := check_ok k
  unfold b_renamed_words
  refine (sSeq_nx (drop_c (aC1 (vV rfl)) c1)).trans ?_
  refine (sSeq_nx (drop_c (aC2 (vV rfl) (fB (gd := gAdd) (d := .int 5) (e := .int 1) (r := .int 6) rfl rfl rfl)) (check_names_eq (N := 6) h (by omega)))).trans ?_
  obtain ⟨N, rfl⟩ : ∃ N : Nat, n = (N : Int) := ⟨n.toNat, by omega⟩
  have q : fLrg1 (fBin gAt (fBor 0) (fC (.int 0))) [.va (eX N ss), .va (nmsD fs)] row0 = some (.list (rgD 0 N), row0) := fLrg1_ok (N := N) (fB (vB rfl) c_int (eX_0 N ss)) (by omega)
  exact sR (fK (aC3 (vV rfl) q (vV rfl)) (with_names_eq k ⟨fun i h0 h1 => ⟨rg_at h0 h1, h0, by show i < 64; omega⟩, fun i h0 h1 => by
    obtain ⟨e, r1, r2⟩ := h.at (i := i) h0 (by omega)
    exact ⟨e, r1, by omega⟩⟩))
end Lw
namespace Lw
open PySem RT Wb
variable {n : Int} {ss rs : List Sc}
abbrev NM : Er := ⟨Str.ofString "NotMade", []⟩
abbrev TM : Er := ⟨Str.ofString "TooMany", [(Str.ofString "most", .int 8)]⟩
theorem xSeq_nx {f : FS} {fx gx : FZs} {env e1 : FEn} {x x1 : FRow} (h : f env x = some (.nx e1, x1)) : xSeq f fx gx env x = gx e1 x1 := by simp only [xSeq, h]
theorem xSeq_x {f : FS} {fx gx : FZs} {env : FEn} {x : FRow} (h : f env x = none) : xSeq f fx gx env x = fx env x := by simp only [xSeq, h]
theorem xIf_t {t : FT} {f g : FZs} {env : FEn} {x x1 : FRow} (h : t env x = some (true, x1)) : xIf t f g env x = f env x1 := by simp only [xIf, h]
theorem xOf_c {m : List D → Option Er} {fa : FA} {env : FEn} {x : FRow} {ds : List D} {er : Er} (h : fa env x = some (ds, x)) (hm : m ds = some er) : xOf (xCall m fa) env x = some er := by simp only [xOf, xCall, h, hm, Option.map]
theorem drop_none {m : List D → Option D} {fa : FA} {env : FEn} {x : FRow} {ds : List D} (h : fa env x = some (ds, x)) (hm : m ds = none) : sDrop (fCall m fa) env x = none := by simp only [sDrop, fCall, h, hm]
theorem mkF_none {n k : Nat} {b : FS} {ds : List D} (h : b (startE n ds) row0 = none) : mkF n k b ds = none := by
  unfold mkF; split
  · rw [h]
  · rfl
theorem mkX_eq {n k : Nat} {b : FZs} {ds : List D} {er : Er} (hk : ds.length = k) (h : b (startE n ds) row0 = some er) : mkX n k b ds = some er := by unfold mkX; rw [if_pos hk, h]
theorem seq_none {f g : FS} {env : FEn} {x : FRow} (h : f env x = none) : sSeq f g env x = none := by simp only [sSeq, h]
theorem ifx {t : FT} {env : FEn} {x : FRow} (h : t env x = some (true, x)) {g : FS} : sIf t sNo g env x = none := by simp only [sIf, h, sNo]
/-! without -/
def lessB (bs : List Br) (p : Nat) : List Br := bs.take p ++ bs.drop (p + 1)
theorem lessB_map (bs : List Br) (p : Nat) : (lessB bs p).map eB = (bs.map eB).take p ++ (bs.map eB).drop (p + 1) := by simp [lessB, List.map_append, List.map_take, List.map_drop]
theorem less_fe {bs : List Br} {p : Nat} (hp : p < bs.length) (hl : bs.length ≤ 100) {f g g' : FE} {env : FEn} {x : FRow} (hf : f env x = some (.tuple (bs.map eB), x)) (hg : g env x = some (.int (p : Int), x)) (hg' : g' env x = some (.int (p : Int), x)) :
    fBin gAdd (fSl f oNone (oSome g)) (fSl f (oSome (fBin gAdd g' (fC (.int 1)))) oNone) env x = some (.tuple ((lessB bs p).map eB), x) := by
  have c1 := sl_to hf hg (by rw [List.length_map]; omega)
  have q : fBin gAdd g' (fC (.int 1)) env x = some (.int ((p + 1 : Nat) : Int), x) := fB hg' c_int (by show some (D.int ((p : Int) + 1)) = _; congr 2)
  have c2 := sl_from hf q (by rw [List.length_map]; omega)
  rw [lessB_map]
  refine fB c1 c2 (cat_T ?_)
  rw [List.length_take, List.length_drop, List.length_map]
  exact ml _ (by omega)
section
variable (k : Ok n ss) {v : Int} (hv : 0 ≤ v ∧ v < (ss.length : Int)) {s : Int} {bs : List Br} (e : scAt ss v = some (s, bs)) {p : Nat} (hp : p < bs.length)
include k hv e hp
theorem wo_br : m_check_branch [eX n ss, .int v, .int (p : Int)] = some .none := check_branch_ok k hv ⟨by omega, by unfold brs; rw [e]; show (p : Int) < (bs.length : Int); omega⟩
theorem wo_2 {rest : List FSl} : fCall m_branches_of (aCons (fBin gAt (fBin gAt (fBor 0) (fC (.int 1))) (fBor 1)) aNil) (.va (eX n ss) :: .va (.int v) :: rest) row0 = some (.tuple (bs.map eB), row0) := by
  have q1 := fK (m := m_branches_of) (aC1 (at_sc (n := n) (ss := ss) (env := .va (eX n ss) :: .va (.int v) :: rest) hv (vB (i := 0) rfl) (vB (i := 1) rfl))) (branches_of_eq _)
  rw [e] at q1
  exact q1
theorem bs_two : bs.length ≤ 2 := by
  have := brs_len k hv
  unfold brs at this
  rw [e] at this
  exact this
theorem without_ok (h1 : bs.length ≠ 1) : m_without [eX n ss, .int v, .int (p : Int)] = some (eX n (setSc ss v (some (s, lessB bs p)))) := by
  have h2 := bs_two k hv e hp
  refine mkF_rt (x := row0) rfl ?_
  show b_without [.va (eX n ss), .va (.int v), .va (.int (p : Int)), .no] row0 = _
  unfold b_without
  refine (sSeq_nx (drop_c (aC3 (vV rfl) (vV rfl) (vV rfl)) (wo_br k hv e hp))).trans ?_
  refine (sSeq_nx (sV (i := 3) (wo_2 k hv e hp))).trans ?_
  have hE : ([.va (eX n ss), .va (.int v), .va (.int (p : Int)), .no] : FEn).set 3 (.va (.tuple (bs.map eB))) = [.va (eX n ss), .va (.int v), .va (.int (p : Int)), .va (.tuple (bs.map eB))] := rfl
  rw [hE]
  have t0 : fTst (fBin gEq (fCall gLen (aCons (fBor 3) aNil)) (fC (.int 1))) [.va (eX n ss), .va (.int v), .va (.int (p : Int)), .va (.tuple (bs.map eB))] row0 = some (false, row0) := by
    refine tst_b (fB (fK (aC1 (vB rfl)) (len_T _)) c_int ?_)
    rw [eq_int, List.length_map]
    have : ¬ ((bs.length : Nat) : Int) = 1 := by omega
    simp [this]
  refine (sSeq_nx (if_no t0)).trans ?_
  exact sR (fK (aC3 (vV rfl) (vV rfl) (less_fe hp (by omega) (vB rfl) (vV rfl) (vB rfl))) (with_branches_eq k hv e))
theorem without_x (h1 : bs.length = 1) : m_without [eX n ss, .int v, .int (p : Int)] = none ∧ mx_without [eX n ss, .int v, .int (p : Int)] = some NM := by
  have hE : ([.va (eX n ss), .va (.int v), .va (.int (p : Int)), .no] : FEn).set 3 (.va (.tuple (bs.map eB))) = [.va (eX n ss), .va (.int v), .va (.int (p : Int)), .va (.tuple (bs.map eB))] := rfl
  have t0 : fTst (fBin gEq (fCall gLen (aCons (fBor 3) aNil)) (fC (.int 1))) [.va (eX n ss), .va (.int v), .va (.int (p : Int)), .va (.tuple (bs.map eB))] row0 = some (true, row0) := by
    refine tst_b (fB (fK (aC1 (vB rfl)) (len_T _)) c_int ?_)
    rw [eq_int, List.length_map, h1]; rfl
  constructor
  · refine mkF_none ?_
    show b_without [.va (eX n ss), .va (.int v), .va (.int (p : Int)), .no] row0 = none
    unfold b_without
    refine (sSeq_nx (drop_c (aC3 (vV rfl) (vV rfl) (vV rfl)) (wo_br k hv e hp))).trans ?_
    refine (sSeq_nx (sV (i := 3) (wo_2 k hv e hp))).trans ?_
    rw [hE]
    exact seq_none (ifx t0)
  · refine mkX_eq rfl ?_
    show bx_without [.va (eX n ss), .va (.int v), .va (.int (p : Int)), .no] row0 = _
    unfold bx_without
    refine (xSeq_nx (drop_c (aC3 (vV rfl) (vV rfl) (vV rfl)) (wo_br k hv e hp))).trans ?_
    refine (xSeq_nx (sV (i := 3) (wo_2 k hv e hp))).trans ?_
    rw [hE]
    exact xIf_t t0
/-! led -/
theorem led_ok {t : Int} (ht : 0 ≤ t ∧ t < (ss.length : Int)) : m_led [eX n ss, .int v, .int (p : Int), .int t] = some (eX n (setSc ss v (some (s, bs.set p ((bs[p]).1, (bs[p]).2.1, t))))) := by
  have h2 := bs_two k hv e hp
  refine mkF_rt (x := row0) rfl ?_
  show b_led [.va (eX n ss), .va (.int v), .va (.int (p : Int)), .va (.int t), .no, .no, .no, .no] row0 = _
  unfold b_led
  refine (sSeq_nx (drop_c (aC3 (vV rfl) (vV rfl) (vV rfl)) (wo_br k hv e hp))).trans ?_
  refine (sSeq_nx (drop_c (aC2 (vV rfl) (vV rfl)) (check_scene_ok ht))).trans ?_
  refine (sSeq_nx (sV (i := 4) (wo_2 k hv e hp))).trans ?_
  have hE : ([.va (eX n ss), .va (.int v), .va (.int (p : Int)), .va (.int t), .no, .no, .no, .no] : FEn).set 4 (.va (.tuple (bs.map eB))) = [.va (eX n ss), .va (.int v), .va (.int (p : Int)), .va (.int t), .va (.tuple (bs.map eB)), .no, .no, .no] := rfl
  rw [hE]
  have q2 : fBin gAt (fBor 4) (fBor 2) [.va (eX n ss), .va (.int v), .va (.int (p : Int)), .va (.int t), .va (.tuple (bs.map eB)), .no, .no, .no] row0 = some (eB bs[p], row0) := fB (vB rfl) (vB rfl) (by
    simp only [gAt]
    exact atI_nat (by rw [List.getElem?_map, List.getElem?_eq_getElem hp]; rfl))
  have q3 : sUnp (fBin gAt (fBor 4) (fBor 2)) (gtTup 3 (gtCons (gtName 5) (gtCons (gtName 6) (gtCons (gtName 7) gtNil)))) [.va (eX n ss), .va (.int v), .va (.int (p : Int)), .va (.int t), .va (.tuple (bs.map eB)), .no, .no, .no] row0 = some (.nx [.va (eX n ss), .va (.int v), .va (.int (p : Int)), .va (.int t), .va (.tuple (bs.map eB)), .va (.int (bs[p]).1), .va (.int (bs[p]).2.1), .va (.int (bs[p]).2.2)], row0) := by
    simp only [sUnp, q2, eB, gtTup, gtCons, gtName, gtNil, List.length_cons, List.length_nil]
    rfl
  refine (sSeq_nx q3).trans ?_
  have r := replacedD_eq (ds := bs.map eB) (k := p) (by rw [List.length_map]; exact hp) (by rw [List.length_map]; omega) (eB ((bs[p]).1, (bs[p]).2.1, t))
  rw [← List.map_set] at r
  have q4 := fTup_ok (x := row0) (env := [.va (eX n ss), .va (.int v), .va (.int (p : Int)), .va (.int t), .va (.tuple (bs.map eB)), .va (.int (bs[p]).1), .va (.int (bs[p]).2.1), .va (.int (bs[p]).2.2)]) (aC3 (vV (i := 5) rfl) (vV (i := 6) rfl) (vV (i := 3) rfl)) tri_ml
  exact sR (fK (aC3 (vV rfl) (vV rfl) (fK (aC3 (vV rfl) (vV rfl) q4) r)) (with_branches_eq k hv e))
end
/-! chosen, too many scenes -/
theorem scenes_x {m : Nat} (h : 8 < m) : m_check_scenes [.int (m : Int)] = none ∧ mx_check_scenes [.int (m : Int)] = some TM := by
  have t0 : fTst (fBin (gI yes2 fun i j => .bool (decide (j < i))) (fBor 0) (fC (.int 8))) [.va (.int (m : Int))] row0 = some (true, row0) := by
    refine tst_b (fB (vB rfl) c_int ?_)
    have : (8 : Int) < (m : Int) := by omega
    simp [gI, this]
  constructor
  · refine mkF_none ?_
    show b_check_scenes [.va (.int (m : Int))] row0 = none
    unfold b_check_scenes
    exact ifx t0
  · refine mkX_eq rfl ?_
    show bx_check_scenes [.va (.int (m : Int))] row0 = _
    unfold bx_check_scenes
    refine (xIf_t t0).trans ?_
    have : fldD (.int 8) = true := by decide
    simp only [xRaiseI, fC, this, if_true]
end Lw
namespace Lw
open PySem RT Wb
variable {n : Int} {ss rs : List Sc}
def chE (s h : Int) (n : Int) (ss rs : List Sc) (p q : FSl) : FEn := [.va (.int s), .va (.int h), .va (eX n ss), .va (eX n rs), .va (.int n), .va (.tuple (ss.map eS)), p, q]
theorem chosen_x (k : Ok n ss) (k' : Ok n rs) (h8 : 8 < 1 + ss.length + rs.length) {s h : Int} (hs : 0 ≤ s ∧ s < n) (hh : 0 ≤ h ∧ h < n) (hne : s ≠ h) : m_chosen [.int s, .int h, eX n ss, eX n rs] = none ∧ mx_chosen [.int s, .int h, eX n ss, eX n rs] = some TM := by
  obtain ⟨d1, c1⟩ := check_ok k
  obtain ⟨d2, c2⟩ := check_ok k'
  have hE : ((([FSl.va (.int s), .va (.int h), .va (eX n ss), .va (eX n rs), .no, .no, .no, .no] : FEn).set 4 (.va (.int n))).set 5 (.va (.tuple (ss.map eS)))) = chE s h n ss rs .no .no := rfl
  have t0 : fTst (fBin gEq (fBor 0) (fBor 1)) (chE s h n ss rs .no .no) row0 = some (false, row0) := by
    refine tst_b (fB (vB rfl) (vB rfl) ?_)
    rw [eq_int]; simp [hne]
  have l1 : fBin gAdd (fC (.int 1)) (fCall gLen (aCons (fBor 5) aNil)) (chE s h n ss rs .no .no) row0 = some (.int (1 + (ss.length : Int)), row0) :=
    fB (show fC (.int 1) _ _ = some (.int 1, row0) from rfl) (fK (aC1 (vB rfl)) (by rw [len_T, List.length_map])) rfl
  have hE2 : (chE s h n ss rs .no .no).set 6 (.va (.int (1 + (ss.length : Int)))) = chE s h n ss rs (.va (.int (1 + (ss.length : Int)))) .no := rfl
  have q1 : fBin gAt (fBor 3) (fC (.int 1)) (chE s h n ss rs (.va (.int (1 + (ss.length : Int)))) .no) row0 = some (.tuple (rs.map eS), row0) := fB (vB rfl) (show fC (.int 1) _ _ = some (.int 1, row0) from rfl) (eX_1 n rs)
  have q2 : aCons (fBin gAdd (fBor 6) (fCall gLen (aCons (fBin gAt (fBor 3) (fC (.int 1))) aNil))) aNil (chE s h n ss rs (.va (.int (1 + (ss.length : Int)))) .no) row0 = some ([.int ((1 + ss.length + rs.length : Nat) : Int)], row0) :=
    aC1 (fB (vB rfl) (fK (aC1 q1) (by rw [len_T, List.length_map])) (show gAdd (.int (1 + (ss.length : Int))) (.int (rs.length : Nat)) = some (.int (((1 + ss.length + rs.length : Nat) : Int))) from rfl))
  obtain ⟨x1, x2⟩ := scenes_x h8
  constructor
  · refine mkF_none ?_
    show b_chosen [.va (.int s), .va (.int h), .va (eX n ss), .va (eX n rs), .no, .no, .no, .no] row0 = none
    unfold b_chosen
    refine (sSeq_nx (drop_c (aC1 (vV rfl)) c1)).trans ?_
    refine (sSeq_nx (drop_c (aC1 (vV rfl)) c2)).trans ?_
    refine (sSeq_nx (unp_eX (ss := ss) (n := n) (vV rfl))).trans ?_
    rw [hE]
    refine (sSeq_nx (drop_c (aC2 (vV rfl) (vV rfl)) (check_actor_ok' hs))).trans ?_
    refine (sSeq_nx (drop_c (aC2 (vV rfl) (vV rfl)) (check_actor_ok' hh))).trans ?_
    refine (sSeq_nx (drop_c (aC2 (vV rfl) (vV rfl)) (alike_a n ss rs))).trans ?_
    refine (sSeq_nx (if_no t0)).trans ?_
    refine (sSeq_nx (sV (i := 6) l1)).trans ?_
    rw [hE2]
    exact seq_none (drop_none q2 x1)
  · refine mkX_eq rfl ?_
    show bx_chosen [.va (.int s), .va (.int h), .va (eX n ss), .va (eX n rs), .no, .no, .no, .no] row0 = _
    unfold bx_chosen
    refine (xSeq_nx (drop_c (aC1 (vV rfl)) c1)).trans ?_
    refine (xSeq_nx (drop_c (aC1 (vV rfl)) c2)).trans ?_
    refine (xSeq_nx (unp_eX (ss := ss) (n := n) (vV rfl))).trans ?_
    rw [hE]
    refine (xSeq_nx (drop_c (aC2 (vV rfl) (vV rfl)) (check_actor_ok' hs))).trans ?_
    refine (xSeq_nx (drop_c (aC2 (vV rfl) (vV rfl)) (check_actor_ok' hh))).trans ?_
    refine (xSeq_nx (drop_c (aC2 (vV rfl) (vV rfl)) (alike_a n ss rs))).trans ?_
    refine (xSeq_nx (if_no t0)).trans ?_
    refine (xSeq_nx (sV (i := 6) l1)).trans ?_
    rw [hE2]
    exact xOf_c q2 x2
/-! swapped -/
theorem talk_ok {s : Int} {b : Br} : m_only_talk [eS (some (s, [b]))] = some (.tuple [.int s, .int b.1, .int b.2.1, .int b.2.2]) := by
  refine mkF_rt (x := row0) rfl ?_
  show b_only_talk [.va (eS (some (s, [b]))), .no, .no, .no, .no, .no] row0 = _
  have t0 : fTst (fBin gNe (fCall gLen (aCons (fCall m_branches_of (aCons (fVar 0) aNil)) aNil)) (fC (.int 1))) [.va (eS (some (s, [b]))), .no, .no, .no, .no, .no] row0 = some (false, row0) := by
    refine tst_b (fB (fK (aC1 (fK (aC1 (vV rfl)) (branches_of_eq _))) (len_T _)) c_int ?_)
    rw [ne_int]; rfl
  unfold b_only_talk
  refine (sSeq_nx (if_no t0)).trans ?_
  refine (sSeq_nx (unp2' (a := .int s) (b := .tuple [eB b]) (vV rfl))).trans ?_
  have hE : ((([FSl.va (eS (some (s, [b]))), .no, .no, .no, .no, .no] : FEn).set 1 (.va (.int s))).set 2 (.va (.tuple [eB b]))) = [.va (eS (some (s, [b]))), .va (.int s), .va (.tuple [eB b]), .no, .no, .no] := rfl
  rw [hE]
  have q2 : fBin gAt (fBor 2) (fC (.int 0)) [.va (eS (some (s, [b]))), .va (.int s), .va (.tuple [eB b]), .no, .no, .no] row0 = some (eB b, row0) := fB (vB rfl) c_int (atB0 b [])
  have q3 : sUnp (fBin gAt (fBor 2) (fC (.int 0))) (gtTup 3 (gtCons (gtName 3) (gtCons (gtName 4) (gtCons (gtName 5) gtNil)))) [.va (eS (some (s, [b]))), .va (.int s), .va (.tuple [eB b]), .no, .no, .no] row0 = some (.nx [.va (eS (some (s, [b]))), .va (.int s), .va (.tuple [eB b]), .va (.int b.1), .va (.int b.2.1), .va (.int b.2.2)], row0) := by
    simp only [sUnp, q2, eB, gtTup, gtCons, gtName, gtNil, List.length_cons, List.length_nil]
    rfl
  refine (sSeq_nx q3).trans ?_
  exact sR (fTup_ok (aCons_eq (vV rfl) (aC3 (vV rfl) (vV rfl) (vV rfl))) (Nat.le_of_lt (nob_n (by simp))))
theorem talk_x {sc : Sc} (h : (bsOf sc).length ≠ 1) : m_only_talk [eS sc] = none ∧ mx_only_talk [eS sc] = some NM := by
  have t0 : fTst (fBin gNe (fCall gLen (aCons (fCall m_branches_of (aCons (fVar 0) aNil)) aNil)) (fC (.int 1))) [.va (eS sc), .no, .no, .no, .no, .no] row0 = some (true, row0) := by
    refine tst_b (fB (fK (aC1 (fK (aC1 (vV rfl)) (branches_of_eq _))) (len_T _)) c_int ?_)
    rw [ne_int, List.length_map]
    have : ¬ (((bsOf sc).length : Nat) : Int) = 1 := by omega
    simp [this]
  constructor
  · refine mkF_none ?_
    show b_only_talk [.va (eS sc), .no, .no, .no, .no, .no] row0 = none
    unfold b_only_talk
    exact seq_none (ifx t0)
  · refine mkX_eq rfl ?_
    show bx_only_talk [.va (eS sc), .no, .no, .no, .no, .no] row0 = _
    unfold bx_only_talk
    exact xIf_t t0
end Lw
namespace Lw
open PySem RT Wb
variable {n : Int} {ss rs : List Sc}
theorem eqD_int (a b : Int) : eqD (.int a) (.int b) = decide (a = b) := by
  have := eq_int a b
  unfold gEq at this
  split at this
  · simpa using this
  · cases this
theorem in2 (a b c : Int) : gInA (.int a) (.tuple [.int b, .int c]) = some (.bool (decide (b = a) || decide (c = a))) := by
  have s1 : shapedD (.int a) = true := Pt.sh (k := 0) (P0i a) (by omega)
  have s2 : shapedD (.tuple [.int b, .int c]) = true := Pt.sh (k := 1) (Or.inr ⟨_, Or.inl rfl, by simp, fun d hd => by
    simp only [List.mem_cons, List.not_mem_nil, or_false] at hd
    rcases hd with rfl | rfl <;> exact P0i _⟩) (by omega)
  simp only [gInA, gInT, s1, s2, Bool.and_self, if_true, List.any_cons, List.any_nil, eqD_int, Bool.or_false]
theorem unp_none {f : FE} {h : FGt} {env : FEn} {x : FRow} (hf : f env x = none) : sUnp f h env x = none := by simp only [sUnp, hf]
theorem call_none {m : List D → Option D} {fa : FA} {env : FEn} {x : FRow} {ds : List D} (h : fa env x = some (ds, x)) (hm : m ds = none) : fCall m fa env x = none := by simp only [fCall, h, hm]
def swE (n : Int) (ss : List Sc) (v : Int) (p4 p5 p6 p7 p8 p9 p10 p11 p12 : FSl) : FEn := [.va (eX n ss), .va (.int v), .va (.int n), .va (.tuple (ss.map eS)), p4, p5, p6, p7, p8, p9, p10, p11, p12]
def swp (ss : List Sc) (v s : Int) (b : Br) (s2 : Int) (c : Br) : List Sc := setSc ss v (some (s2, [(c.1, c.2.1, (ss.length : Int))])) ++ [some (s, [(b.1, b.2.1, c.2.2)])]
def shares (s : Int) (b : Br) (s2 : Int) (c : Br) : Bool := (decide (s2 = s) || decide (c.1 = s)) || (decide (s2 = b.1) || decide (c.1 = b.1))
section
variable (k : Ok n ss) {v : Int} (hv : 0 ≤ v ∧ v < (ss.length : Int))
include k hv
theorem sw_hd {f : FS} {r : Option (FRs × FRow)} (h : f (swE n ss v .no .no .no .no .no .no .no .no .no) row0 = r) : sSeq (sDrop (fCall m_check_script (aCons (fVar 0) aNil))) (sSeq (sDrop (fCall m_check_scene (aCons (fVar 1) (aCons (fVar 0) aNil)))) (sSeq (sUnp (fVar 0) (gtTup 2 (gtCons (gtName 2) (gtCons (gtName 3) gtNil)))) f)) [.va (eX n ss), .va (.int v), .no, .no, .no, .no, .no, .no, .no, .no, .no, .no, .no] row0 = r := by
  obtain ⟨d1, c1⟩ := check_ok k
  refine (sSeq_nx (drop_c (aC1 (vV rfl)) c1)).trans ?_
  refine (sSeq_nx (drop_c (aC2 (vV rfl) (vV rfl)) (check_scene_ok hv))).trans ?_
  refine (sSeq_nx (unp_eX (ss := ss) (n := n) (vV rfl))).trans ?_
  exact h
theorem sw_hx {f : FZs} {g1 g2 g3 : FZs} {r : Option Er} (h : f (swE n ss v .no .no .no .no .no .no .no .no .no) row0 = r) : xSeq (sDrop (fCall m_check_script (aCons (fVar 0) aNil))) g1 (xSeq (sDrop (fCall m_check_scene (aCons (fVar 1) (aCons (fVar 0) aNil)))) g2 (xSeq (sUnp (fVar 0) (gtTup 2 (gtCons (gtName 2) (gtCons (gtName 3) gtNil)))) g3 f)) [.va (eX n ss), .va (.int v), .no, .no, .no, .no, .no, .no, .no, .no, .no, .no, .no] row0 = r := by
  obtain ⟨d1, c1⟩ := check_ok k
  refine (xSeq_nx (drop_c (aC1 (vV rfl)) c1)).trans ?_
  refine (xSeq_nx (drop_c (aC2 (vV rfl) (vV rfl)) (check_scene_ok hv))).trans ?_
  refine (xSeq_nx (unp_eX (ss := ss) (n := n) (vV rfl))).trans ?_
  exact h
theorem sw_at {t : Int} (ht : 0 ≤ t ∧ t < (ss.length : Int)) {f g : FE} {env : FEn} (hf : f env row0 = some (.tuple (ss.map eS), row0)) (hg : g env row0 = some (.int t, row0)) : aCons (fBin gAt f g) aNil env row0 = some ([eS (scAt ss t)], row0) :=
  aC1 (fB hf hg (eX_at (n := n) ht.1 ht.2))
/-- not just one branch -/
theorem swap_x1 (h : (bsOf (scAt ss v)).length ≠ 1) : m_swapped [eX n ss, .int v] = none ∧ mx_swapped [eX n ss, .int v] = some NM := by
  obtain ⟨x1, x2⟩ := talk_x h
  have a := sw_at k hv hv (f := fBor 3) (g := fBor 1) (env := swE n ss v .no .no .no .no .no .no .no .no .no) (vB rfl) (vB rfl)
  constructor
  · exact mkF_none (sw_hd k hv (seq_none (unp_none (call_none a x1))))
  · refine mkX_eq rfl (sw_hx k hv ((xSeq_x (unp_none (call_none a x1))).trans (xOf_c a x2)))
theorem sw_4 {s : Int} {b : Br} (e : scAt ss v = some (s, [b])) : sUnp (fCall m_only_talk (aCons (fBin gAt (fBor 3) (fBor 1)) aNil)) (gtTup 4 (gtCons (gtName 4) (gtCons (gtName 5) (gtCons (gtName 6) (gtCons (gtName 7) gtNil))))) (swE n ss v .no .no .no .no .no .no .no .no .no) row0 = some (.nx (swE n ss v (.va (.int s)) (.va (.int b.1)) (.va (.int b.2.1)) (.va (.int b.2.2)) .no .no .no .no .no), row0) := by
  have a := sw_at k hv hv (f := fBor 3) (g := fBor 1) (env := swE n ss v .no .no .no .no .no .no .no .no .no) (vB rfl) (vB rfl)
  rw [e] at a
  have q := fK a talk_ok
  simp only [sUnp, q]
  rfl
theorem sw_5 {s : Int} {b : Br} (e : scAt ss v = some (s, [b])) {s2 : Int} {c : Br} (e2 : scAt ss b.2.2 = some (s2, [c])) (hb : 0 ≤ b.2.2 ∧ b.2.2 < (ss.length : Int)) : sUnp (fCall m_only_talk (aCons (fBin gAt (fBor 3) (fBor 7)) aNil)) (gtTup 4 (gtCons (gtName 8) (gtCons (gtName 9) (gtCons (gtName 10) (gtCons (gtName 11) gtNil))))) (swE n ss v (.va (.int s)) (.va (.int b.1)) (.va (.int b.2.1)) (.va (.int b.2.2)) .no .no .no .no .no) row0 = some (.nx (swE n ss v (.va (.int s)) (.va (.int b.1)) (.va (.int b.2.1)) (.va (.int b.2.2)) (.va (.int s2)) (.va (.int c.1)) (.va (.int c.2.1)) (.va (.int c.2.2)) .no), row0) := by
  have a := sw_at k hv hb (f := fBor 3) (g := fBor 7) (env := swE n ss v (.va (.int s)) (.va (.int b.1)) (.va (.int b.2.1)) (.va (.int b.2.2)) .no .no .no .no .no) (vB rfl) (vB rfl)
  rw [e2] at a
  have q := fK a talk_ok
  simp only [sUnp, q]
  rfl
theorem swap_x2 {s : Int} {b : Br} (e : scAt ss v = some (s, [b])) (hb : 0 ≤ b.2.2 ∧ b.2.2 < (ss.length : Int)) (h : (bsOf (scAt ss b.2.2)).length ≠ 1) : m_swapped [eX n ss, .int v] = none ∧ mx_swapped [eX n ss, .int v] = some NM := by
  obtain ⟨x1, x2⟩ := talk_x h
  have a := sw_at k hv hb (f := fBor 3) (g := fBor 7) (env := swE n ss v (.va (.int s)) (.va (.int b.1)) (.va (.int b.2.1)) (.va (.int b.2.2)) .no .no .no .no .no) (vB rfl) (vB rfl)
  constructor
  · exact mkF_none (sw_hd k hv ((sSeq_nx (sw_4 k hv e)).trans (seq_none (unp_none (call_none a x1)))))
  · exact mkX_eq rfl (sw_hx k hv ((xSeq_nx (sw_4 k hv e)).trans ((xSeq_x (unp_none (call_none a x1))).trans (xOf_c a x2))))
theorem sw_t {s : Int} {b : Br} {s2 : Int} {c : Br} : tOrF (fTst (fBin gInA (fBor 4) (fTup (aCons (fVar 8) (aCons (fVar 9) aNil))))) (fTst (fBin gInA (fBor 5) (fTup (aCons (fVar 8) (aCons (fVar 9) aNil))))) (swE n ss v (.va (.int s)) (.va (.int b.1)) (.va (.int b.2.1)) (.va (.int b.2.2)) (.va (.int s2)) (.va (.int c.1)) (.va (.int c.2.1)) (.va (.int c.2.2)) .no) row0 = some (shares s b s2 c, row0) := by
  have t1 : fTst (fBin gInA (fBor 4) (fTup (aCons (fVar 8) (aCons (fVar 9) aNil)))) (swE n ss v (.va (.int s)) (.va (.int b.1)) (.va (.int b.2.1)) (.va (.int b.2.2)) (.va (.int s2)) (.va (.int c.1)) (.va (.int c.2.1)) (.va (.int c.2.2)) .no) row0 = some (_, row0) := tst_b (fB (vB rfl) (fTup_ok (aC2 (vV rfl) (vV rfl)) two_ml) (in2 _ _ _))
  have t2 : fTst (fBin gInA (fBor 5) (fTup (aCons (fVar 8) (aCons (fVar 9) aNil)))) (swE n ss v (.va (.int s)) (.va (.int b.1)) (.va (.int b.2.1)) (.va (.int b.2.2)) (.va (.int s2)) (.va (.int c.1)) (.va (.int c.2.1)) (.va (.int c.2.2)) .no) row0 = some (_, row0) := tst_b (fB (vB rfl) (fTup_ok (aC2 (vV rfl) (vV rfl)) two_ml) (in2 _ _ _))
  unfold shares
  cases h : (decide (s2 = s) || decide (c.1 = s)) with
  | true => rw [h] at t1; simp only [tOrF, t1, Bool.true_or]
  | false => rw [h] at t1; simp only [tOrF, t1, t2, Bool.false_or]
theorem swap_x3 {s : Int} {b : Br} (e : scAt ss v = some (s, [b])) (hb : 0 ≤ b.2.2 ∧ b.2.2 < (ss.length : Int)) {s2 : Int} {c : Br} (e2 : scAt ss b.2.2 = some (s2, [c])) (h : shares s b s2 c = true) : m_swapped [eX n ss, .int v] = none ∧ mx_swapped [eX n ss, .int v] = some NM := by
  have t := sw_t k hv (s := s) (b := b) (s2 := s2) (c := c)
  rw [h] at t
  constructor
  · exact mkF_none (sw_hd k hv ((sSeq_nx (sw_4 k hv e)).trans ((sSeq_nx (sw_5 k hv e e2 hb)).trans (seq_none (ifx t)))))
  · refine mkX_eq rfl (sw_hx k hv ((xSeq_nx (sw_4 k hv e)).trans ((xSeq_nx (sw_5 k hv e e2 hb)).trans ((xSeq_x (ifx t)).trans (xIf_t t)))))
theorem swap_ok {s : Int} {b : Br} (e : scAt ss v = some (s, [b])) (hb : 0 ≤ b.2.2 ∧ b.2.2 < (ss.length : Int)) {s2 : Int} {c : Br} (e2 : scAt ss b.2.2 = some (s2, [c])) (h : shares s b s2 c = false) (h7 : ss.length + 1 ≤ 8) : m_swapped [eX n ss, .int v] = some (eX n (swp ss v s b s2 c)) := by
  have t := sw_t k hv (s := s) (b := b) (s2 := s2) (c := c)
  rw [h] at t
  have hm := k.m
  obtain ⟨vn, rfl⟩ : ∃ vn : Nat, v = (vn : Int) := ⟨v.toNat, by omega⟩
  refine mkF_rt (x := row0) rfl (sw_hd k hv ((sSeq_nx (sw_4 k hv e)).trans ((sSeq_nx (sw_5 k hv e e2 hb)).trans ((sSeq_nx (if_no t)).trans ?_))))
  have lS : ∀ (p : FSl), fCall gLen (aCons (fBor 3) aNil) (swE n ss vn (.va (.int s)) (.va (.int b.1)) (.va (.int b.2.1)) (.va (.int b.2.2)) (.va (.int s2)) (.va (.int c.1)) (.va (.int c.2.1)) (.va (.int c.2.2)) p) row0 = some (.int (ss.length : Nat), row0) := fun p => fK (aC1 (vB rfl)) (by rw [len_T, List.length_map])
  refine (sSeq_nx (drop_c (aC1 (fB (lS .no) c_int (show gAdd (.int (ss.length : Nat)) (.int 1) = some (.int ((ss.length + 1 : Nat) : Int)) from rfl))) (check_scenes_ok h7))).trans ?_
  have f1 : fTup (aCons (fVar 8) (aCons (fTup (aCons (fTup (aCons (fVar 9) (aCons (fVar 10) (aCons (fCall gLen (aCons (fBor 3) aNil)) aNil)))) aNil)) aNil)) (swE n ss vn (.va (.int s)) (.va (.int b.1)) (.va (.int b.2.1)) (.va (.int b.2.2)) (.va (.int s2)) (.va (.int c.1)) (.va (.int c.2.1)) (.va (.int c.2.2)) .no) row0 = some (eS (some (s2, [(c.1, c.2.1, (ss.length : Int))])), row0) :=
    fTup_ok (aC2 (vV rfl) (fTup_ok (aC1 (fTup_ok (aC3 (vV rfl) (vV rfl) (lS .no)) tri_ml)) one_ml)) two_ml
  refine (sSeq_nx (sV (i := 12) f1)).trans ?_
  generalize hS : eS (some (s2, [(c.1, c.2.1, (ss.length : Int))])) = S
  have hE : (swE n ss vn (.va (.int s)) (.va (.int b.1)) (.va (.int b.2.1)) (.va (.int b.2.2)) (.va (.int s2)) (.va (.int c.1)) (.va (.int c.2.1)) (.va (.int c.2.2)) .no).set 12 (.va S) = swE n ss vn (.va (.int s)) (.va (.int b.1)) (.va (.int b.2.1)) (.va (.int b.2.2)) (.va (.int s2)) (.va (.int c.1)) (.va (.int c.2.1)) (.va (.int c.2.2)) (.va S) := rfl
  rw [hE]
  have r := replacedD_eq (ds := ss.map eS) (k := vn) (by rw [List.length_map]; omega) (by rw [List.length_map]; omega) S
  have q1 := fK (m := m_replaced) (x := row0) (env := swE n ss vn (.va (.int s)) (.va (.int b.1)) (.va (.int b.2.1)) (.va (.int b.2.2)) (.va (.int s2)) (.va (.int c.1)) (.va (.int c.2.1)) (.va (.int c.2.2)) (.va S)) (aC3 (vV (i := 3) rfl) (vV (i := 1) rfl) (vV (i := 12) rfl)) r
  have q2 : fTup (aCons (fTup (aCons (fVar 4) (aCons (fTup (aCons (fTup (aCons (fVar 5) (aCons (fVar 6) (aCons (fVar 11) aNil)))) aNil)) aNil))) aNil) (swE n ss vn (.va (.int s)) (.va (.int b.1)) (.va (.int b.2.1)) (.va (.int b.2.2)) (.va (.int s2)) (.va (.int c.1)) (.va (.int c.2.1)) (.va (.int c.2.2)) (.va S)) row0 = some (.tuple [eS (some (s, [(b.1, b.2.1, c.2.2)]))], row0) :=
    fTup_ok (aC1 (fTup_ok (aC2 (vV rfl) (fTup_ok (aC1 (fTup_ok (aC3 (vV rfl) (vV rfl) (vV rfl)) tri_ml)) one_ml)) two_ml)) one_ml
  refine (sR (fTup_ok (aC2 (vV rfl) (fB q1 q2 (cat_T (by rw [List.length_set, List.length_map, List.length_singleton]; exact ml _ (by omega))))) two_ml)).trans ?_
  rw [← hS]
  simp only [eX, swp, setSc, List.map_append, List.map_set, Int.toNat_natCast, List.map_cons, List.map_nil]
end
end Lw
namespace Lw
open PySem RT
theorem script_ok3 {n : Int} {lp : Bool} {most : Int} (hmo : 1 ≤ most ∧ most ≤ 6) (hn : 2 ≤ n ∧ n ≤ 4) {x : FRow} (hx : 0 ≤ x.a) : ∃ ss x', m_law_script [.int n, .int most, .bool lp] x = some (eX n ss, x') ∧ 0 ≤ x'.a ∧ Ok n ss ∧ (lp = false → Dag ss) ∧ (ss.length : Int) ≤ most + 1 ∧ ∃ scs : List Sc, ss = scs ++ [none] ∧ 1 ≤ scs.length ∧ ∀ sc ∈ scs, sc.isSome = true := by
  obtain ⟨t, x1, h1, h1a, h1b, hx1⟩ := taken_ok (many := most) hx (by omega) (by omega)
  obtain ⟨size, hsz⟩ : ∃ size : Nat, 1 + t = (size : Int) := ⟨(1 + t).toNat, by omega⟩
  have hz : 1 ≤ size ∧ size ≤ 6 := by omega
  have c1 : sSet 4 (xVal (fBin gAdd (fC (.int 1)) (fCallR 0 m_law_taken (aCons (fVar 2) aNil)))) [.rw, .va (.int n), .va (.int most), .va (.bool lp), .no, .no] x = some (.nx [.rw, .va (.int n), .va (.int most), .va (.bool lp), .va (.int size), .no], x1) := by
    simp [sSet, xVal, fBin, fC, fCallR, aCons, aNil, fVar, h1, gAdd, gOr, gI, hsz]
  obtain ⟨scs, x2, g1, g2, g3, g4⟩ := compL_row (gt := gtName 5) (t := tYesF) (fe := fCallR 0 m_law_scene (aCons (fVar 1) (aCons (fVar 5) (aCons (fVar 4) (aCons (fVar 3) aNil))))) (env := [.rw, .va (.int n), .va (.int most), .va (.bool lp), .va (.int size), .no]) (fun a sc => ∃ s bs, sc = some (s, bs) ∧ (0 ≤ s ∧ s < n) ∧ Two bs ∧ ∀ b ∈ bs, OkB n (size + 1) s b ∧ (lp = false → a < b.2.2)) ((List.range size).map fun (i : Nat) => (i : Int)) (by
    intro a ha x hx
    obtain ⟨i, hi, rfl⟩ := List.mem_map.mp ha
    have hi' : i < size := by simpa using hi
    obtain ⟨s, bs, x', e1, e2, e3, e4, e5⟩ := scene_ok (at' := (i : Int)) (lp := lp) hn hz ⟨by omega, by omega⟩ hx
    refine ⟨_, some (s, bs), x', rfl, rfl, ?_, e2, s, bs, rfl, e3, e4, e5⟩
    simp [fCallR, aCons, aNil, fVar, e1]) x1 hx1
  have hlen : scs.length = size := by simpa using g3
  have c2 : fOfX (xLc (fRg1 (fVar 4)) (gtName 5) tYesF (fCallR 0 m_law_scene (aCons (fVar 1) (aCons (fVar 5) (aCons (fVar 4) (aCons (fVar 3) aNil))))) [5]) [.rw, .va (.int n), .va (.int most), .va (.bool lp), .va (.int size), .no] x1 = some (.list (scs.map eS), x2) := by
    have hr : okRg (size : Int) = true := rg_ok (by omega)
    have hrg : fRg1 (fVar 4) [.rw, .va (.int n), .va (.int most), .va (.bool lp), .va (.int size), .no] x1 = some (((List.range size).map fun (i : Nat) => (i : Int)).map D.int, x1) := by
      simp [fRg1, fVar, hr, rgD_map]
    have hm : (scs.map eS).length < maxLen := by simp only [List.length_map, maxLen]; omega
    rw [fOfX, xLc, hrg]
    simp only
    rw [show wipeE [FSl.rw, .va (.int n), .va (.int most), .va (.bool lp), .va (.int size), .no] [5] = [FSl.rw, .va (.int n), .va (.int most), .va (.bool lp), .va (.int size), .no] from rfl, g1]
    simp only [if_pos hm, OwD.d]
  refine ⟨scs ++ [none], x2, ?_, g2, ⟨hn, by simp; omega, ?_⟩, ?_, by rw [List.length_append, List.length_singleton]; omega, scs, rfl, by omega, ?_⟩
  · have c3 : b_law_script [.rw, .va (.int n), .va (.int most), .va (.bool lp), .no, .no] x = some (.rt (eX n (scs ++ [none])), x2) := by
      unfold b_law_script
      rw [sSeq_nx c1]
      have hm : (scs.map eS).length + [D.none].length ≤ maxLen := by simp only [List.length_map, List.length_cons, List.length_nil, maxLen]; omega
      have h0 : ([] : List D).length ≤ maxLen := Nat.zero_le _
      have h1 : [D.none].length ≤ maxLen := by simp only [List.length_cons, List.length_nil, maxLen]; omega
      have h2 : [D.int n, .tuple (scs.map eS ++ [.none])].length ≤ maxLen := by simp only [List.length_cons, List.length_nil, maxLen]; omega
      have v1 : fVar 1 [.rw, .va (.int n), .va (.int most), .va (.bool lp), .va (.int size), .no] x1 = some (.int n, x1) := rfl
      have q1 := tupOf_ok c2
      have q2 : fTup (aCons (fC .none) aNil) [.rw, .va (.int n), .va (.int most), .va (.bool lp), .va (.int size), .no] x2 = some (.tuple [.none], x2) := fTup_ok rfl h1
      have q3 := fBin_cat q1 q2 hm
      have q4 := fTup_ok (aCons2 v1 q3) h2
      rw [sRet, q4]
      simp only [eX, List.map_append, List.map_cons, List.map_nil, eS]
    show mkR 5 3 b_law_script _ x = _
    simp only [mkR, List.length_cons, List.length_nil, if_true]
    rw [show FSl.rw :: startE 5 [.int n, .int most, .bool lp] = [.rw, .va (.int n), .va (.int most), .va (.bool lp), .no, .no] from rfl, c3]
  · intro s bs hm
    have hm' : some (s, bs) ∈ scs := by simpa using hm
    obtain ⟨i, hi, ei⟩ := List.mem_iff_getElem.mp hm'
    obtain ⟨s', bs', e, h2, h3, h4⟩ := g4 i i _ (by rw [List.getElem?_map, List.getElem?_range (by omega)]; rfl) (List.getElem?_eq_getElem hi)
    rw [ei] at e
    simp only [Option.some.injEq, Prod.mk.injEq] at e
    obtain ⟨rfl, rfl⟩ := e
    refine ⟨h2, h3, fun b hb => ?_⟩
    have := (h4 b hb).1
    rw [List.length_append, hlen]
    exact this
  · intro hlp v v0 v1 b hb
    have hl : (scs ++ [none]).length = size + 1 := by simp [hlen]
    rw [hl] at v1
    have e := (scAt_mem (ss := scs ++ [none]) v0 (by rw [hl]; exact v1)).1
    unfold brs at hb
    by_cases c : v.toNat < scs.length
    · rw [List.getElem?_append_left c] at e
      obtain ⟨s', bs', e', h2, h3, h4⟩ := g4 v.toNat v _ (by rw [List.getElem?_map, List.getElem?_range (by omega)]; simp; omega) e
      rw [e'] at hb
      exact (h4 b hb).2 hlp
    · rw [List.getElem?_append_right (by omega)] at e
      have : v.toNat - scs.length = 0 := by omega
      rw [this] at e
      simp only [List.getElem?_cons_zero, Option.some.injEq] at e
      rw [← e] at hb
      cases hb
  · intro sc hsc
    obtain ⟨i, hi, ei⟩ := List.mem_iff_getElem.mp hsc
    obtain ⟨s', bs', e, h2, h3, h4⟩ := g4 i i _ (by rw [List.getElem?_map, List.getElem?_range (by omega)]; rfl) (List.getElem?_eq_getElem hi)
    rw [ei] at e
    rw [e]; rfl
end Lw
namespace Lw
open PySem RT Wb
variable {n : Int} {ss rs : List Sc}
theorem takE {env : FEn} {i : Nat} (h0 : env[i]? = some .rw) {x : FRow} (hx : 0 ≤ x.a) {f : FE} {many : Int} (hf : f env x = some (.int many, x)) (h1 : 0 < many) (h2 : many < 1073741824) : ∃ r x', fCallR i m_law_taken (aCons f aNil) env x = some (.int r, x') ∧ (0 ≤ r ∧ r < many) ∧ 0 ≤ x'.a := by
  obtain ⟨r, x', e, a, b, c⟩ := taken_ok (many := many) hx h1 h2
  exact ⟨r, x', fCallR_eq h0 (aCons1 hf) e, ⟨a, b⟩, c⟩
theorem repl_fe {f g g' h : FE} {env : FEn} {x : FRow} {xs : List D} {d : D} {k : Nat} (hf : f env x = some (.tuple xs, x)) (hg : g env x = some (.int (k : Int), x)) (hg' : g' env x = some (.int (k : Int), x)) (hh : h env x = some (d, x)) (hk : k < xs.length) (hl : xs.length ≤ 1000) :
    fBin gAdd (fBin gAdd (fSl f oNone (oSome g)) (fTup (aCons h aNil))) (fSl f (oSome (fBin gAdd g' (fC (.int 1)))) oNone) env x = some (.tuple (xs.set k d), x) := by
  have c1 := sl_to hf hg (by omega)
  have c2 : fTup (aCons h aNil) env x = some (.tuple [d], x) := fTup_ok (aC1 hh) one_ml
  have q : fBin gAdd g' (fC (.int 1)) env x = some (.int ((k + 1 : Nat) : Int), x) := fB hg' rfl (by show some (D.int ((k : Int) + 1)) = _; congr 2)
  have c3 := sl_from hf q (by omega)
  have l1 : (xs.take k).length + [d].length ≤ maxLen := by rw [List.length_take, List.length_singleton]; exact ml _ (by omega)
  have l2 : (xs.take k ++ [d]).length + (xs.drop (k + 1)).length ≤ maxLen := by
    rw [List.length_append, List.length_take, List.length_drop, List.length_singleton]; exact ml _ (by omega)
  have := fB (fB c1 c2 (cat_T l1)) c3 (cat_T l2)
  rw [this, List.set_eq_take_append_cons_drop, if_pos hk, List.append_assoc]; rfl
theorem told_v {fn : FE} {fx : FZe} {he : Er → Option D} {env : FEn} {x : FRow} {d : D} (h : fn env x = some (d, x)) : fTold fn fx id he env x = some (d, x) := by simp only [fTold, h, id]
theorem told_x {fn : FE} {fx : FZe} {he : Er → Option D} {env : FEn} {x : FRow} {er : Er} {d : D} (h : fn env x = none) (h' : fx env x = some (er, x)) (hd : he er = some d) : fTold fn fx id he env x = some (d, x) := by simp only [fTold, h, h', hd]
theorem xcall {m : List D → Option Er} {fa : FA} {env : FEn} {x : FRow} {ds : List D} {er : Er} (h : fa env x = some (ds, x)) (hm : m ds = some er) : xCall m fa env x = some (er, x) := by simp only [xCall, h, hm]
def otherS : Str := Str.ofString "other"
theorem heNM : heA LE (Str.ofString "other") NM = some .none := by
  unfold heA Lw.LE NM
  rfl
theorem heTM : heA LE (Str.ofString "other") TM = some (.str otherS) := by
  unfold heA Lw.LE TM otherS
  rfl
theorem exq {f g : FS} {env e1 : FEn} {x x1 : FRow} (h : f env x = some (.nx e1, x1)) (r : ∃ x', g e1 x1 = some (.rt (.bool true), x')) : ∃ x', sSeq f g env x = some (.rt (.bool true), x') := by
  obtain ⟨x', h'⟩ := r
  exact ⟨x', by simp only [sSeq, h, h']⟩
theorem alike_no {fa fb : FE} {env : FEn} {x : FRow} {z : D} {k : Nat} {r : FS} (ha : fa env x = some (z, x)) (hb : fb env x = some (z, x)) (hp : Pt k z) (hk : k ≤ 8) :
    sIf (tNotF (fTru (fCall (m_law_alike 9) (aCons fa (aCons fb aNil))))) r sNil env x = some (.nx env, x) := by
  refine if_no ?_
  have := fK (m := m_law_alike 9) (aC2 ha hb) (alike_ok 8 (hp.le hk))
  simp only [tNotF, fTru, this, truD, Bool.not_true]
theorem fIf_t' {t : FT} {a b : FE} {env : FEn} {x : FRow} (h : t env x = some (true, x)) : fIf t a b env x = a env x := by simp only [fIf, h]
theorem fIf_f' {t : FT} {a b : FE} {env : FEn} {x : FRow} (h : t env x = some (false, x)) : fIf t a b env x = b env x := by simp only [fIf, h]
theorem truV {i : Nat} {b : Bool} {env : FEn} {x : FRow} (h : env[i]? = some (.va (.bool b))) : fTru (fBor i) env x = some (b, x) := by simp only [fTru, vB h, truD]
theorem isn_t {f : FE} {env : FEn} {x : FRow} {sc : Sc} (h : f env x = some (eS sc, x)) : fTst (fBin gIsN f (fC .none)) env x = some (sc.isNone, x) := tst_b (fB h rfl (isn_eS sc))
theorem pt_no : Pt 0 D.none := Or.inl rfl
theorem pt_nwD (k : Ok n ss) {NA NW : D} {A W : Int → Int} (hN : NmOk n NA NW A W) : Pt 6 (.tuple [.int n, .tuple (ss.map (nwD A W))]) := by
  have hm := k.m
  refine Or.inr ⟨_, Or.inl rfl, by simp, fun d hd => ?_⟩
  simp only [List.mem_cons, List.not_mem_nil, or_false] at hd
  rcases hd with rfl | rfl
  · exact Pt.le (k := 0) (P0i _) (by omega)
  refine Or.inr ⟨_, Or.inl rfl, by rw [List.length_map]; omega, fun d hd => ?_⟩
  obtain ⟨sc, hsc, rfl⟩ := List.mem_map.mp hd
  cases sc with
  | none => exact Pt.le (k := 0) pt_no (by omega)
  | some p =>
    obtain ⟨s, bs⟩ := p
    refine Or.inr ⟨_, Or.inl rfl, by simp, fun d hd => ?_⟩
    simp only [List.mem_cons, List.not_mem_nil, or_false] at hd
    rcases hd with rfl | rfl
    · exact Pt.le (k := 0) (P0i _) (by omega)
    obtain ⟨_, h1, h2⟩ := sort_srt (nw_sm k hN hsc) (by rw [List.length_map]; exact (k.at hsc).2.1)
    refine Or.inr ⟨_, Or.inl rfl, Nat.le_trans h1 (by omega), fun d hd => ?_⟩
    obtain ⟨b, rfl⟩ := h2 d hd
    show Pt 2 (eB b)
    refine Pt.le (k := 1) (Or.inr ⟨_, Or.inl rfl, by simp, fun d hd => ?_⟩) (by omega)
    simp only [List.mem_cons, List.not_mem_nil, or_false] at hd
    rcases hd with rfl | rfl | rfl <;> exact P0i _
/-- any scenes -/
theorem pt_any (n : Int) {l : List Sc} (hl : l.length ≤ 1000) (hb : ∀ sc ∈ l, (bsOf sc).length ≤ 1000) : Pt 5 (eX n l) := by
  refine Or.inr ⟨_, Or.inl rfl, by simp, fun d hd => ?_⟩
  simp only [List.mem_cons, List.not_mem_nil, or_false] at hd
  rcases hd with rfl | rfl
  · exact Pt.le (k := 0) (P0i _) (by omega)
  refine Or.inr ⟨_, Or.inl rfl, by rw [List.length_map]; omega, fun d hd => ?_⟩
  obtain ⟨sc, hsc, rfl⟩ := List.mem_map.mp hd
  cases sc with
  | none => exact Pt.le (k := 0) pt_no (by omega)
  | some p =>
    obtain ⟨s, bs⟩ := p
    refine Or.inr ⟨_, Or.inl rfl, by simp, fun d hd => ?_⟩
    simp only [List.mem_cons, List.not_mem_nil, or_false] at hd
    rcases hd with rfl | rfl
    · exact Pt.le (k := 0) (P0i _) (by omega)
    refine Or.inr ⟨_, Or.inl rfl, by rw [List.length_map]; exact hb _ hsc, fun d hd => ?_⟩
    obtain ⟨b, _, rfl⟩ := List.mem_map.mp hd
    refine Or.inr ⟨_, Or.inl rfl, by simp, fun d hd => ?_⟩
    simp only [List.mem_cons, List.not_mem_nil, or_false] at hd
    rcases hd with rfl | rfl | rfl <;> exact P0i _
theorem rnf_len (f : Int → Int) (sc : Sc) : (bsOf (rnf f sc)).length = (bsOf sc).length := by
  cases sc with
  | none => rfl
  | some p => obtain ⟨s, bs⟩ := p; simp [rnf, bsOf]
theorem Ok.b2 (k : Ok n ss) {sc : Sc} (h : sc ∈ ss) : (bsOf sc).length ≤ 2 := by
  cases sc with
  | none => simp [bsOf]
  | some p => obtain ⟨s, bs⟩ := p; exact (k.at h).2.1
/-- a slice of the first two, and another target -/
theorem two_fe {f h : FE} {env : FEn} {x : FRow} {b : Br} {t : Int} (hf : f env x = some (eB b, x)) (hh : h env x = some (.int t, x)) : fBin gAdd (fSl f oNone (oSome (fC (.int 2)))) (fTup (aCons h aNil)) env x = some (eB (b.1, b.2.1, t), x) := by
  have c1 := sl_to (g := fC (.int 2)) (k := 2) hf rfl (by simp)
  exact fB c1 (fTup_ok (aC1 hh) one_ml) (cat_T (by simp [maxLen]))
/-! moved on -/
theorem eB_2' (b : Br) : gAt (eB b) (.int 2) = some (.int b.2.2) := by
  unfold eB
  simp only [gAt]
  exact atI_nat (i := 2) rfl
theorem eS_0 (s : Int) (bs : List Br) : gAt (eS (some (s, bs))) (.int 0) = some (.int s) := by
  simp only [eS, gAt]
  exact atI_nat (i := 0) rfl
theorem eS_1 (s : Int) (bs : List Br) : gAt (eS (some (s, bs))) (.int 1) = some (.tuple (bs.map eB)) := by
  simp only [eS, gAt]
  exact atI_nat (i := 1) rfl
theorem law_moved_eq {sc : Sc} (h2 : (bsOf sc).length ≤ 2) (a : Int) : m_law_moved [eS sc, .int a] = some (eS (rnf (shf a) sc)) := by
  refine mkF_rt (x := row0) rfl ?_
  show b_law_moved [.va (eS sc), .va (.int a), .no] row0 = _
  unfold b_law_moved
  refine sR ?_
  have t := isn_t (f := fBor 0) (env := [.va (eS sc), .va (.int a), .no]) (x := row0) (sc := sc) (vB rfl)
  cases sc with
  | none => rw [fIf_t' t]; rfl
  | some p =>
    obtain ⟨s, bs⟩ := p
    rw [fIf_f' t]
    have a0 : fBin gAt (fBor 0) (fC (.int 0)) [.va (eS (some (s, bs))), .va (.int a), .no] row0 = some (.int s, row0) := fB (vB rfl) rfl (eS_0 s bs)
    have a1 : fBin gAt (fBor 0) (fC (.int 1)) [.va (eS (some (s, bs))), .va (.int a), .no] row0 = some (.tuple (bs.map eB), row0) := fB (vB rfl) rfl (eS_1 s bs)
    have l1 := lc_eq (vs := [2]) (gt := gtName 2) (t := tYesF) (fe := fBin gAdd (fSl (fBor 2) oNone (oSome (fC (.int 2)))) (fTup (aCons (fBin gAdd (fBin gAt (fBor 2) (fC (.int 2))) (fBor 1)) aNil))) (sqT a1) (compL_map eB (fun b => eB (b.1, b.2.1, b.2.2 + a)) bs fun b _ => ⟨[.va (eS (some (s, bs))), .va (.int a), .va (eB b)], rfl, rfl, two_fe (vB rfl) (fB (fB (vB rfl) rfl (eB_2' b)) (vB rfl) rfl)⟩) (by rw [List.length_map]; simp only [bsOf] at h2; exact nob_n (by omega))
    rw [fTup_ok (aC2 a0 (tupOf_ok l1)) two_ml]
    simp only [eS, rnf, shf, List.map_map, Function.comp_def]
end Lw
namespace Lw
open PySem RT Wb
abbrev st3 : FS := sPars [3, 4, 5] (xsCons (xVal (fCallR 1 m_law_order (aCons (fVar 2) aNil))) (xsCons (xVal (fCallR 1 m_law_order (aCons (fC (.int 6)) aNil))) (xsCons (xVal (fBin gAt (fBor 21) (fC (.int 1)))) xsNil)))
abbrev st5 : FS := sFor (fSeq (fVar 5)) (gtName 8) (sSeq (sApp 6 (fIf (fTst (fBin gIsN (fBor 8) (fC .none))) (fC .none) (fTup (aCons (fBin gAt (fBor 3) (fBin gAt (fBor 8) (fC (.int 0)))) (aCons (fCall gTupOf (aCons (fCall gSortX (aCons (fOfX (xLc (fSeq (fBin gAt (fBor 8) (fC (.int 1)))) (gtTup 3 (gtCons (gtName 25) (gtCons (gtName 26) (gtCons (gtName 9) gtNil)))) tYesF (fTup (aCons (fBin gAt (fBor 3) (fBor 25)) (aCons (fVar 26) (aCons (fVar 9) aNil)))) [25, 26, 9])) aNil)) aNil)) aNil)))))
    (sApp 7 (fIf (fTst (fBin gIsN (fBor 8) (fC .none))) (fC .none) (fTup (aCons (fBin gAt (fBor 8) (fC (.int 0))) (aCons (fCall gTupOf (aCons (fCall gSortX (aCons (fOfX (xLc (fSeq (fBin gAt (fBor 8) (fC (.int 1)))) (gtTup 3 (gtCons (gtName 25) (gtCons (gtName 26) (gtCons (gtName 9) gtNil)))) tYesF (fTup (aCons (fVar 25) (aCons (fBin gAt (fBor 4) (fBor 26)) (aCons (fVar 9) aNil)))) [25, 26, 9])) aNil)) aNil)) aNil))))))
abbrev st6 : FS := sIf (tNotF (fTru (fCall (m_law_alike 9) (aCons (fCall m_renamed_actors (aCons (fVar 21) (aCons (fVar 3) aNil))) (aCons (fTup (aCons (fVar 2) (aCons (fCall gTupOf (aCons (fBor 6) aNil)) aNil))) aNil))))) (sRet (fC (.bool false))) sNil
abbrev st7 : FS := sIf (tNotF (fTru (fCall (m_law_alike 9) (aCons (fCall m_renamed_words (aCons (fVar 21) (aCons (fVar 4) aNil))) (aCons (fTup (aCons (fVar 2) (aCons (fCall gTupOf (aCons (fBor 7) aNil)) aNil))) aNil))))) (sRet (fC (.bool false))) sNil
abbrev st9 : FS := sUnp (fBin gAt (fBor 5) (fBor 22)) (gtTup 2 (gtCons (gtName 10) (gtCons (gtName 11) gtNil)))
abbrev st11 : FS := sPars [12, 13] (xsCons (xVal (fBin gAdd (fSl (fBor 11) oNone (oSome (fVar 20))) (fSl (fBor 11) (oSome (fBin gAdd (fBor 20) (fC (.int 1)))) oNone))) (xsCons (xVal (fBin gAdd (fBin gAdd (fSl (fBor 11) oNone (oSome (fVar 20))) (fTup (aCons (fBin gAdd (fSl (fBin gAt (fBor 11) (fBor 20)) oNone (oSome (fC (.int 2)))) (fTup (aCons (fVar 9) aNil))) aNil))) (fSl (fBor 11) (oSome (fBin gAdd (fBor 20) (fC (.int 1)))) oNone))) xsNil))
abbrev st12 : FS := sIf (tNotF (fTru (fCall (m_law_alike 9) (aCons (fTold (fCall m_without (aCons (fVar 21) (aCons (fVar 22) (aCons (fVar 20) aNil)))) (xCall mx_without (aCons (fVar 21) (aCons (fVar 22) (aCons (fVar 20) aNil)))) id (heA LE (Str.ofString "other"))) (aCons (fIf (fTst (fBin gNe (fBor 12) (fTup aNil))) (fTup (aCons (fVar 2) (aCons (fBin gAdd (fBin gAdd (fSl (fBor 5) oNone (oSome (fVar 22))) (fTup (aCons (fTup (aCons (fVar 10) (aCons (fVar 12) aNil))) aNil))) (fSl (fBor 5) (oSome (fBin gAdd (fBor 22) (fC (.int 1)))) oNone)) aNil))) (fC .none)) aNil))))) (sRet (fC (.bool false))) sNil
abbrev st13 : FS := sIf (tNotF (fTru (fCall (m_law_alike 9) (aCons (fCall m_led (aCons (fVar 21) (aCons (fVar 22) (aCons (fVar 20) (aCons (fVar 9) aNil))))) (aCons (fTup (aCons (fVar 2) (aCons (fBin gAdd (fBin gAdd (fSl (fBor 5) oNone (oSome (fVar 22))) (fTup (aCons (fTup (aCons (fVar 10) (aCons (fVar 13) aNil))) aNil))) (fSl (fBor 5) (oSome (fBin gAdd (fBor 22) (fC (.int 1)))) oNone)) aNil))) aNil))))) (sRet (fC (.bool false))) sNil
abbrev st14 : FS := sSet 14 (xVal (fOfX (xLc (fSeq (fBin gAt (fBor 19) (fC (.int 1)))) (gtName 8) tYesF (fCall m_law_moved (aCons (fVar 8) (aCons (fCall gLen (aCons (fBor 5) aNil)) aNil))) [8])))
abbrev st15 : FS := sSet 15 (xVal (fBin gAdd (fCall gTupOf (aCons (fOfX (xLc (fSeq (fVar 5)) (gtName 8) tYesF (fIf (fTst (fBin gIsN (fBor 8) (fC .none))) (fBin gAt (fBor 14) (fC (.int 0))) (fVar 8)) [8])) aNil)) (fCall gTupOf (aCons (fBor 14) aNil))))
abbrev st16 : FS := sIf (tNotF (fTru (fCall (m_law_alike 9) (aCons (fTold (fCall m_followed_by (aCons (fVar 21) (aCons (fVar 19) aNil))) (xCall mx_followed_by (aCons (fVar 21) (aCons (fVar 19) aNil))) id (heA LE (Str.ofString "other"))) (aCons (fIf (fTst (fBin gLtX (fCall gLen (aCons (fBor 15) aNil)) (fC (.int 9)))) (fTup (aCons (fVar 2) (aCons (fVar 15) aNil))) (fC (.str (Str.ofString "other")))) aNil))))) (sRet (fC (.bool false))) sNil
abbrev st17 : FS := sSet 15 (xVal (fBin gAdd (fBin gAdd (fTup (aCons (fTup (aCons (fC (.int 0)) (aCons (fTup (aCons (fTup (aCons (fC (.int 1)) (aCons (fC (.int 0)) (aCons (fC (.int 1)) aNil)))) (aCons (fTup (aCons (fC (.int 1)) (aCons (fC (.int 1)) (aCons (fBin gAdd (fC (.int 1)) (fCall gLen (aCons (fBor 5) aNil))) aNil)))) aNil))) aNil))) aNil)) (fCall gTupOf (aCons (fOfX (xLc (fSeq (fVar 5)) (gtName 8) tYesF (fCall m_law_moved (aCons (fVar 8) (aCons (fC (.int 1)) aNil))) [8])) aNil))) (fCall gTupOf (aCons (fOfX (xLc (fSeq (fBin gAt (fBor 19) (fC (.int 1)))) (gtName 8) tYesF (fCall m_law_moved (aCons (fVar 8) (aCons (fBin gAdd (fC (.int 1)) (fCall gLen (aCons (fBor 5) aNil))) aNil))) [8])) aNil))))
abbrev st18 : FS := sIf (tNotF (fTru (fCall (m_law_alike 9) (aCons (fTold (fCall m_chosen (aCons (fC (.int 0)) (aCons (fC (.int 1)) (aCons (fVar 21) (aCons (fVar 19) aNil))))) (xCall mx_chosen (aCons (fC (.int 0)) (aCons (fC (.int 1)) (aCons (fVar 21) (aCons (fVar 19) aNil))))) id (heA LE (Str.ofString "other"))) (aCons (fIf (fTst (fBin gLtX (fCall gLen (aCons (fBor 15) aNil)) (fC (.int 9)))) (fTup (aCons (fVar 2) (aCons (fVar 15) aNil))) (fC (.str (Str.ofString "other")))) aNil))))) (sRet (fC (.bool false))) sNil
abbrev st20 : FS := sFor (fSeq (fVar 5)) (gtName 8) (sApp 6 (fIf (fTst (fBin gIsN (fBor 8) (fC .none))) (fC .none) (fTup (aCons (fBin gAt (fBor 8) (fC (.int 0))) (aCons (fCall gTupOf (aCons (fOfX (xLc (fSeq (fBin gAt (fBor 8) (fC (.int 1)))) (gtName 24) tYesF (fBin gAdd (fSl (fBor 24) oNone (oSome (fC (.int 2)))) (fTup (aCons (fIf (fTst (fBin gIsN (fBin gAt (fBor 5) (fBin gAt (fBor 24) (fC (.int 2)))) (fC .none))) (fC (.int 0)) (fBin gAt (fBor 24) (fC (.int 2)))) aNil))) [24])) aNil)) aNil)))))
abbrev st21 : FS := sIf (tNotF (fTru (fCall (m_law_alike 9) (aCons (fCall m_repeated (aCons (fVar 21) aNil)) (aCons (fTup (aCons (fVar 2) (aCons (fCall gTupOf (aCons (fBor 6) aNil)) aNil))) aNil))))) (sRet (fC (.bool false))) sNil
abbrev st22 : FS := sSet 16 (xVal (fBin gAt (fBor 5) (fBin gAt (fBin gAt (fBor 11) (fC (.int 0))) (fC (.int 2)))))
abbrev st23 : FS := sSet 17 (xVal (fAnd (fBin gEq (fCall gLen (aCons (fBor 11) aNil)) (fC (.int 1))) (fAnd (fBin gNotN (fBor 16) (fC .none)) (fAnd (fBin gEq (fCall gLen (aCons (fBin gAt (fBor 16) (fC (.int 1))) aNil)) (fC (.int 1))) (fBin gEq (fOfX (xLc (fSeq (fTup (aCons (fVar 10) (aCons (fBin gAt (fBin gAt (fBor 11) (fC (.int 0))) (fC (.int 0))) aNil)))) (gtName 23) (fTst (fBin gInA (fBor 23) (fTup (aCons (fBin gAt (fBor 16) (fC (.int 0))) (aCons (fBin gAt (fBin gAt (fBin gAt (fBor 16) (fC (.int 1))) (fC (.int 0))) (fC (.int 0))) aNil))))) (fVar 23) [23])) (fLst aNil))))))
abbrev st25 : FS := sIf (fTru (fBor 17)) (sSet 18 (xVal (fTup (aCons (fVar 2) (aCons (fBin gAdd (fBin gAdd (fBin gAdd (fSl (fBor 5) oNone (oSome (fVar 22))) (fTup (aCons (fTup (aCons (fBin gAt (fBor 16) (fC (.int 0))) (aCons (fTup (aCons (fBin gAdd (fSl (fBin gAt (fBin gAt (fBor 16) (fC (.int 1))) (fC (.int 0))) oNone (oSome (fC (.int 2)))) (fTup (aCons (fCall gLen (aCons (fBor 5) aNil)) aNil))) aNil)) aNil))) aNil))) (fSl (fBor 5) (oSome (fBin gAdd (fBor 22) (fC (.int 1)))) oNone)) (fTup (aCons (fTup (aCons (fVar 10) (aCons (fTup (aCons (fBin gAdd (fSl (fBin gAt (fBor 11) (fC (.int 0))) oNone (oSome (fC (.int 2)))) (fTup (aCons (fBin gAt (fBin gAt (fBin gAt (fBor 16) (fC (.int 1))) (fC (.int 0))) (fC (.int 2))) aNil))) aNil)) aNil))) aNil))) aNil))))) sNil
abbrev st26 : FS := sRet (fCall (m_law_alike 9) (aCons (fTold (fCall m_swapped (aCons (fVar 21) (aCons (fVar 22) aNil))) (xCall mx_swapped (aCons (fVar 21) (aCons (fVar 22) aNil))) id (heA LE (Str.ofString "other"))) (aCons (fVar 18) aNil)))
def lE (n : Int) (ss rs : List Sc) (fs gs : List Int) (s6 s7 s8 s9 s10 s11 s12 s13 s14 s15 s16 s17 s18 s20 s22 : FSl) : FEn := [.no, .rw, .va (.int n), .va (nmsD fs), .va (nmsD gs), .va (.tuple (ss.map eS)), s6, s7, s8, s9, s10, s11, s12, s13, s14, s15, s16, s17, s18, .va (eX n rs), s20, .va (eX n ss), s22, .no, .no, .no, .no]
end Lw
namespace Lw
open PySem RT Wb
variable {n : Int} {ss rs : List Sc} {fs gs : List Int} {s6 s7 s8 s9 s10 s11 s12 s13 s14 s15 s16 s17 s18 s20 s22 : FSl}
/-! names -/
theorem nmA {N : Nat} (hn : n = (N : Int)) (hN : N ≤ 20) (h : Nms N fs) : NmOk n (nmsD fs) (.list (rgD 0 6)) (nmAt fs) id := ⟨fun i h0 h1 => by
    obtain ⟨e, r1, r2⟩ := h.at h0 (by omega)
    exact ⟨e, r1, by omega⟩, fun i h0 h1 => ⟨rg_at h0 (by omega), h0, by show i < 64; omega⟩⟩
theorem nmW {N : Nat} (hn : n = (N : Int)) (hN : N ≤ 20) (h : Nms 6 gs) : NmOk n (.list (rgD 0 N)) (nmsD gs) id (nmAt gs) := ⟨fun i h0 h1 => ⟨rg_at h0 (by omega), h0, by show i < 64; omega⟩, fun i h0 h1 => by
    obtain ⟨e, r1, r2⟩ := h.at (i := i) h0 (by omega)
    exact ⟨e, r1, by omega⟩⟩
abbrev iA : FE := fIf (fTst (fBin gIsN (fBor 8) (fC .none))) (fC .none) (fTup (aCons (fBin gAt (fBor 3) (fBin gAt (fBor 8) (fC (.int 0)))) (aCons (fCall gTupOf (aCons (fCall gSortX (aCons (fOfX (xLc (fSeq (fBin gAt (fBor 8) (fC (.int 1)))) (gtTup 3 (gtCons (gtName 25) (gtCons (gtName 26) (gtCons (gtName 9) gtNil)))) tYesF (fTup (aCons (fBin gAt (fBor 3) (fBor 25)) (aCons (fVar 26) (aCons (fVar 9) aNil)))) [25, 26, 9])) aNil)) aNil)) aNil)))
abbrev iW : FE := fIf (fTst (fBin gIsN (fBor 8) (fC .none))) (fC .none) (fTup (aCons (fBin gAt (fBor 8) (fC (.int 0))) (aCons (fCall gTupOf (aCons (fCall gSortX (aCons (fOfX (xLc (fSeq (fBin gAt (fBor 8) (fC (.int 1)))) (gtTup 3 (gtCons (gtName 25) (gtCons (gtName 26) (gtCons (gtName 9) gtNil)))) tYesF (fTup (aCons (fVar 25) (aCons (fBin gAt (fBor 4) (fBor 26)) (aCons (fVar 9) aNil)))) [25, 26, 9])) aNil)) aNil)) aNil)))
section
variable (k : Ok n ss) {N : Nat} (hn : n = (N : Int)) (hN : N ≤ 20)
include k hn hN
theorem iA_ok (hA : Nms N fs) {sc : Sc} (h : sc ∈ ss) (x : FRow) : iA (lE n ss rs fs gs s6 s7 (.va (eS sc)) s9 s10 s11 s12 s13 s14 s15 s16 s17 s18 s20 s22) x = some (nwD (nmAt fs) id sc, x) := by
  have hK := nmA (n := n) hn hN hA
  have t := isn_t (f := fBor 8) (env := lE n ss rs fs gs s6 s7 (.va (eS sc)) s9 s10 s11 s12 s13 s14 s15 s16 s17 s18 s20 s22) (x := x) (sc := sc) (vB rfl)
  cases sc with
  | none => exact (fIf_t' t).trans rfl
  | some p =>
    obtain ⟨s, bs⟩ := p
    obtain ⟨hs, h2, h1, hb⟩ := k.at h
    refine (fIf_f' t).trans ?_
    have a0 : fBin gAt (fBor 8) (fC (.int 0)) (lE n ss rs fs gs s6 s7 (.va (eS (some (s, bs)))) s9 s10 s11 s12 s13 s14 s15 s16 s17 s18 s20 s22) x = some (.int s, x) := fB (vB rfl) rfl (eS_0 s bs)
    have a1 : fBin gAt (fBor 8) (fC (.int 1)) (lE n ss rs fs gs s6 s7 (.va (eS (some (s, bs)))) s9 s10 s11 s12 s13 s14 s15 s16 s17 s18 s20 s22) x = some (.tuple (bs.map eB), x) := fB (vB rfl) rfl (eS_1 s bs)
    have q := nw_list k hK h (g1 := fBin gAt (fBor 3) (fBor 25)) (g2 := fVar 26) (i := 25) (j := 26) (l := 9) (sqT a1) (fun b hbb => by
      have o := hb b hbb
      exact ⟨[.no, .rw, .va (.int n), .va (nmsD fs), .va (nmsD gs), .va (.tuple (ss.map eS)), s6, s7, .va (eS (some (s, bs))), .va (.int b.2.2), s10, s11, s12, s13, s14, s15, s16, s17, s18, .va (eX n rs), s20, .va (eX n ss), s22, .no, .no, .va (.int b.1), .va (.int b.2.1)], rfl, fB (vB rfl) (vB rfl) (hK.a _ o.h.1 o.h.2).1, vV rfl, rfl⟩)
    have so := (sort_srt (nw_sm k hK h) (by rw [List.length_map]; exact h2)).1
    exact fTup_ok (aC2 (fB (vB rfl) a0 (hK.a _ hs.1 hs.2).1) (tupOf_ok (fK (aC1 q) so))) two_ml
theorem iW_ok (hW : Nms 6 gs) {sc : Sc} (h : sc ∈ ss) (x : FRow) : iW (lE n ss rs fs gs s6 s7 (.va (eS sc)) s9 s10 s11 s12 s13 s14 s15 s16 s17 s18 s20 s22) x = some (nwD id (nmAt gs) sc, x) := by
  have hK := nmW (n := n) hn hN hW
  have t := isn_t (f := fBor 8) (env := lE n ss rs fs gs s6 s7 (.va (eS sc)) s9 s10 s11 s12 s13 s14 s15 s16 s17 s18 s20 s22) (x := x) (sc := sc) (vB rfl)
  cases sc with
  | none => exact (fIf_t' t).trans rfl
  | some p =>
    obtain ⟨s, bs⟩ := p
    obtain ⟨hs, h2, h1, hb⟩ := k.at h
    refine (fIf_f' t).trans ?_
    have a0 : fBin gAt (fBor 8) (fC (.int 0)) (lE n ss rs fs gs s6 s7 (.va (eS (some (s, bs)))) s9 s10 s11 s12 s13 s14 s15 s16 s17 s18 s20 s22) x = some (.int s, x) := fB (vB rfl) rfl (eS_0 s bs)
    have a1 : fBin gAt (fBor 8) (fC (.int 1)) (lE n ss rs fs gs s6 s7 (.va (eS (some (s, bs)))) s9 s10 s11 s12 s13 s14 s15 s16 s17 s18 s20 s22) x = some (.tuple (bs.map eB), x) := fB (vB rfl) rfl (eS_1 s bs)
    have q := nw_list k hK h (g1 := fVar 25) (g2 := fBin gAt (fBor 4) (fBor 26)) (i := 25) (j := 26) (l := 9) (sqT a1) (fun b hbb => by
      have o := hb b hbb
      exact ⟨[.no, .rw, .va (.int n), .va (nmsD fs), .va (nmsD gs), .va (.tuple (ss.map eS)), s6, s7, .va (eS (some (s, bs))), .va (.int b.2.2), s10, s11, s12, s13, s14, s15, s16, s17, s18, .va (eX n rs), s20, .va (eX n ss), s22, .no, .no, .va (.int b.1), .va (.int b.2.1)], rfl, vV rfl, fB (vB rfl) (vB rfl) (hK.w _ o.w.1 o.w.2).1, rfl⟩)
    have so := (sort_srt (nw_sm k hK h) (by rw [List.length_map]; exact h2)).1
    exact fTup_ok (aC2 a0 (tupOf_ok (fK (aC1 q) so))) two_ml
theorem lp1 (hA : Nms N fs) (hW : Nms 6 gs) (x : FRow) : ∀ (l : List Sc) (A B : List D) (s8 : FSl), (∀ sc ∈ l, sc ∈ ss) → A.length + l.length ≤ 100 → B.length + l.length ≤ 100 →
    ∃ s8', forL (gtName 8) (sSeq (sApp 6 iA) (sApp 7 iW)) (l.map eS) (lE n ss rs fs gs (.ow (.lst A)) (.ow (.lst B)) s8 s9 s10 s11 s12 s13 s14 s15 s16 s17 s18 s20 s22) x = some (.nx (lE n ss rs fs gs (.ow (.lst (A ++ l.map (nwD (nmAt fs) id)))) (.ow (.lst (B ++ l.map (nwD id (nmAt gs))))) s8' s9 s10 s11 s12 s13 s14 s15 s16 s17 s18 s20 s22), x)
  | [], A, B, s8, _, _, _ => ⟨s8, by simp [forL]⟩
  | sc :: l, A, B, s8, h, hl, hl' => by
    rw [List.length_cons] at hl hl'
    obtain ⟨z, e⟩ := lp1 hA hW x l (A ++ [nwD (nmAt fs) id sc]) (B ++ [nwD id (nmAt gs) sc]) (.va (eS sc)) (fun c hc => h c (by simp [hc])) (by rw [List.length_append, List.length_singleton]; omega) (by rw [List.length_append, List.length_singleton]; omega)
    refine ⟨z, ?_⟩
    have a := iA_ok (rs := rs) (gs := gs) (s6 := .ow (.lst A)) (s7 := .ow (.lst B)) (s9 := s9) (s10 := s10) (s11 := s11) (s12 := s12) (s13 := s13) (s14 := s14) (s15 := s15) (s16 := s16) (s17 := s17) (s18 := s18) (s20 := s20) (s22 := s22) k hn hN hA (h sc (by simp)) x
    have b := iW_ok (rs := rs) (fs := fs) (s6 := .ow (.lst (A ++ [nwD (nmAt fs) id sc]))) (s7 := .ow (.lst B)) (s9 := s9) (s10 := s10) (s11 := s11) (s12 := s12) (s13 := s13) (s14 := s14) (s15 := s15) (s16 := s16) (s17 := s17) (s18 := s18) (s20 := s20) (s22 := s22) k hn hN hW (h sc (by simp)) x
    have c1 : sApp 6 iA (lE n ss rs fs gs (.ow (.lst A)) (.ow (.lst B)) (.va (eS sc)) s9 s10 s11 s12 s13 s14 s15 s16 s17 s18 s20 s22) x = some (.nx (lE n ss rs fs gs (.ow (.lst (A ++ [nwD (nmAt fs) id sc]))) (.ow (.lst B)) (.va (eS sc)) s9 s10 s11 s12 s13 s14 s15 s16 s17 s18 s20 s22), x) := sA a rfl (by omega)
    have c2 : sApp 7 iW (lE n ss rs fs gs (.ow (.lst (A ++ [nwD (nmAt fs) id sc]))) (.ow (.lst B)) (.va (eS sc)) s9 s10 s11 s12 s13 s14 s15 s16 s17 s18 s20 s22) x = some (.nx (lE n ss rs fs gs (.ow (.lst (A ++ [nwD (nmAt fs) id sc]))) (.ow (.lst (B ++ [nwD id (nmAt gs) sc]))) (.va (eS sc)) s9 s10 s11 s12 s13 s14 s15 s16 s17 s18 s20 s22), x) := sA b rfl (by omega)
    have c3 : sSeq (sApp 6 iA) (sApp 7 iW) (lE n ss rs fs gs (.ow (.lst A)) (.ow (.lst B)) (.va (eS sc)) s9 s10 s11 s12 s13 s14 s15 s16 s17 s18 s20 s22) x = some (.nx (lE n ss rs fs gs (.ow (.lst (A ++ [nwD (nmAt fs) id sc]))) (.ow (.lst (B ++ [nwD id (nmAt gs) sc]))) (.va (eS sc)) s9 s10 s11 s12 s13 s14 s15 s16 s17 s18 s20 s22), x) := (sSeq_nx c1).trans c2
    have g8 : gtName 8 (eS sc) (lE n ss rs fs gs (.ow (.lst A)) (.ow (.lst B)) s8 s9 s10 s11 s12 s13 s14 s15 s16 s17 s18 s20 s22) = some (lE n ss rs fs gs (.ow (.lst A)) (.ow (.lst B)) (.va (eS sc)) s9 s10 s11 s12 s13 s14 s15 s16 s17 s18 s20 s22) := rfl
    rw [List.map_cons, forL, g8]
    simp only [c3, e, List.map_cons, List.append_assoc, List.singleton_append]
theorem st5_ok (hA : Nms N fs) (hW : Nms 6 gs) (x : FRow) : ∃ s8', st5 (lE n ss rs fs gs (.ow (.lst [])) (.ow (.lst [])) s8 s9 s10 s11 s12 s13 s14 s15 s16 s17 s18 s20 s22) x = some (.nx (lE n ss rs fs gs (.ow (.lst (ss.map (nwD (nmAt fs) id)))) (.ow (.lst (ss.map (nwD id (nmAt gs))))) s8' s9 s10 s11 s12 s13 s14 s15 s16 s17 s18 s20 s22), x) := by
  have hm := k.m
  obtain ⟨z, e⟩ := lp1 (rs := rs) (s9 := s9) (s10 := s10) (s11 := s11) (s12 := s12) (s13 := s13) (s14 := s14) (s15 := s15) (s16 := s16) (s17 := s17) (s18 := s18) (s20 := s20) (s22 := s22) k hn hN hA hW x ss [] [] s8 (fun _ h => h) (by simp; omega) (by simp; omega)
  refine ⟨z, ?_⟩
  have q : fSeq (fVar 5) (lE n ss rs fs gs (.ow (.lst [])) (.ow (.lst [])) s8 s9 s10 s11 s12 s13 s14 s15 s16 s17 s18 s20 s22) x = some (ss.map eS, x) := sqT (vV rfl)
  simp only [st5, sFor, q]
  rw [List.nil_append, List.nil_append] at e
  exact e
theorem st6_ok (hA : Nms N fs) (x : FRow) : st6 (lE n ss rs fs gs (.ow (.lst (ss.map (nwD (nmAt fs) id)))) s7 s8 s9 s10 s11 s12 s13 s14 s15 s16 s17 s18 s20 s22) x = some (.nx (lE n ss rs fs gs (.ow (.lst (ss.map (nwD (nmAt fs) id)))) s7 s8 s9 s10 s11 s12 s13 s14 s15 s16 s17 s18 s20 s22), x) :=
  alike_no (k := 6) (fK (aC2 (vV rfl) (vV rfl)) (renamed_actors_eq k hn hA)) (fTup_ok (aC2 (vV rfl) (tupOf_ok (by simp only [fBor, lE]; rfl))) two_ml) (pt_nwD k (nmA hn hN hA)) (by omega)
theorem st7_ok (hW : Nms 6 gs) (x : FRow) : st7 (lE n ss rs fs gs s6 (.ow (.lst (ss.map (nwD id (nmAt gs))))) s8 s9 s10 s11 s12 s13 s14 s15 s16 s17 s18 s20 s22) x = some (.nx (lE n ss rs fs gs s6 (.ow (.lst (ss.map (nwD id (nmAt gs))))) s8 s9 s10 s11 s12 s13 s14 s15 s16 s17 s18 s20 s22), x) :=
  alike_no (k := 6) (fK (aC2 (vV rfl) (vV rfl)) (renamed_words_eq k hW)) (fTup_ok (aC2 (vV rfl) (tupOf_ok (by simp only [fBor, lE]; rfl))) two_ml) (pt_nwD k (nmW hn hN hW)) (by omega)
end
end Lw
namespace Lw
open PySem RT Wb
variable {n : Int} {ss rs : List Sc} {fs gs : List Int} {s6 s7 s8 s9 s10 s11 s12 s13 s14 s15 s16 s17 s18 s20 s22 : FSl}
/-- the env from the drawn scene on -/
def lD (n : Int) (ss rs : List Sc) (fs gs : List Int) (s6 s7 s8 : FSl) (t s : Int) (bs : List Br) (s12 s13 s14 s15 s16 s17 s18 : FSl) (p : Nat) (v : Int) : FEn := lE n ss rs fs gs s6 s7 s8 (.va (.int t)) (.va (.int s)) (.va (.tuple (bs.map eB))) s12 s13 s14 s15 s16 s17 s18 (.va (.int (p : Int))) (.va (.int v))
def ledB (bs : List Br) (p : Nat) (t : Int) : List Br := bs.set p (((bs[p]?).getD (0, 0, 0)).1, ((bs[p]?).getD (0, 0, 0)).2.1, t)
section
variable (k : Ok n ss) {v : Int} (hv : 0 ≤ v ∧ v < (ss.length : Int)) {s : Int} {bs : List Br} (e : scAt ss v = some (s, bs)) {p : Nat} (hp : p < bs.length) {t : Int} (ht : 0 ≤ t ∧ t < (ss.length : Int))
include k hv e hp
theorem more_fe {env : FEn} {x : FRow} (h11 : env[11]? = some (.va (.tuple (bs.map eB)))) (h20 : env[20]? = some (.va (.int (p : Int)))) (h9 : env[9]? = some (.va (.int t))) :
    fBin gAdd (fBin gAdd (fSl (fBor 11) oNone (oSome (fVar 20))) (fTup (aCons (fBin gAdd (fSl (fBin gAt (fBor 11) (fBor 20)) oNone (oSome (fC (.int 2)))) (fTup (aCons (fVar 9) aNil))) aNil))) (fSl (fBor 11) (oSome (fBin gAdd (fBor 20) (fC (.int 1)))) oNone) env x = some (.tuple ((ledB bs p t).map eB), x) := by
  have h2 := bs_two k hv e hp
  have q : fBin gAt (fBor 11) (fBor 20) env x = some (eB bs[p], x) := fB (vB h11) (vB h20) (by
    simp only [gAt]
    exact atI_nat (by rw [List.getElem?_map, List.getElem?_eq_getElem hp]; rfl))
  have r := repl_fe (k := p) (xs := bs.map eB) (vB h11) (vV h20) (vB h20) (two_fe (t := t) q (vV h9)) (by rw [List.length_map]; exact hp) (by rw [List.length_map]; omega)
  rw [r, ← List.map_set]
  unfold ledB
  rw [List.getElem?_eq_getElem hp]
  rfl
theorem st11_ok (x : FRow) : st11 (lD n ss rs fs gs s6 s7 s8 t s bs s12 s13 s14 s15 s16 s17 s18 p v) x = some (.nx (lD n ss rs fs gs s6 s7 s8 t s bs (.va (.tuple ((lessB bs p).map eB))) (.va (.tuple ((ledB bs p t).map eB))) s14 s15 s16 s17 s18 p v), x) := by
  have h2 := bs_two k hv e hp
  have a := less_fe hp (by omega) (f := fBor 11) (g := fVar 20) (g' := fBor 20) (env := lD n ss rs fs gs s6 s7 s8 t s bs s12 s13 s14 s15 s16 s17 s18 p v) (x := x) (vB rfl) (vV rfl) (vB rfl)
  have b := more_fe k hv e hp (t := t) (env := lD n ss rs fs gs s6 s7 s8 t s bs s12 s13 s14 s15 s16 s17 s18 p v) (x := x) rfl rfl rfl
  exact sPars2 (a := .va (.tuple ((lessB bs p).map eB))) (b := .va (.tuple ((ledB bs p t).map eB))) (x1 := x) (x2 := x) (by simp only [xVal, a]) (by simp only [xVal, b])
/-- the words with another scene -/
theorem put_fe {env : FEn} {x : FRow} {cs : List Br} {h : FE} (hh : h env x = some (.tuple (cs.map eB), x)) (h5 : env[5]? = some (.va (.tuple (ss.map eS)))) (h2 : env[2]? = some (.va (.int n))) (h10 : env[10]? = some (.va (.int s))) (h22 : env[22]? = some (.va (.int v))) :
    fTup (aCons (fVar 2) (aCons (fBin gAdd (fBin gAdd (fSl (fBor 5) oNone (oSome (fVar 22))) (fTup (aCons (fTup (aCons (fVar 10) (aCons h aNil))) aNil))) (fSl (fBor 5) (oSome (fBin gAdd (fBor 22) (fC (.int 1)))) oNone)) aNil)) env x = some (eX n (setSc ss v (some (s, cs))), x) := by
  have hm := k.m
  obtain ⟨vn, rfl⟩ : ∃ vn : Nat, v = (vn : Int) := ⟨v.toNat, by omega⟩
  have r := repl_fe (k := vn) (xs := ss.map eS) (vB h5) (vV h22) (vB h22) (fTup_ok (aC2 (vV h10) hh) two_ml) (by rw [List.length_map]; omega) (by rw [List.length_map]; omega)
  rw [fTup_ok (aC2 (vV h2) r) two_ml]
  simp only [eX, setSc, List.map_set, Int.toNat_natCast]
  rfl
theorem set_pt {cs : List Br} (hc : cs.length ≤ 2) : Pt 5 (eX n (setSc ss v (some (s, cs)))) := by
  have hm := k.m
  refine pt_any n (by unfold setSc; rw [List.length_set]; omega) fun sc hsc => ?_
  rcases List.mem_or_eq_of_mem_set hsc with h | rfl
  · have := k.b2 h; omega
  · show cs.length ≤ 1000; omega
theorem less_len : (lessB bs p).length + 1 = bs.length := by
  simp only [lessB, List.length_append, List.length_take, List.length_drop]; omega
theorem tst12 {env : FEn} {x : FRow} (h12 : env[12]? = some (.va (.tuple ((lessB bs p).map eB)))) : fTst (fBin gNe (fBor 12) (fTup aNil)) env x = some (!decide (bs.length = 1), x) := by
  have h2 := bs_two k hv e hp
  have hl := less_len k hv e hp
  refine tst_b (fB (vB h12) (fTup_ok (ds := []) rfl nil_ml) ?_)
  have sh2 : shapedD (.tuple []) = true := by decide
  match hb : lessB bs p with
  | [] =>
    rw [hb] at hl
    simp only [List.length_nil] at hl
    rw [show decide (bs.length = 1) = true from by simp; omega]
    rfl
  | b :: l =>
    rw [hb] at hl
    simp only [List.length_cons] at hl
    rw [show decide (bs.length = 1) = false from by simp; omega]
    have hl0 : l = [] := List.length_eq_zero_iff.mp (by omega)
    subst hl0
    have sh1 : shapedD (.tuple ([b].map eB)) = true := Pt.sh (k := 2) (Or.inr ⟨_, Or.inl rfl, by simp, fun d hd => by
      simp only [List.map_cons, List.map_nil, List.mem_cons, List.not_mem_nil, or_false] at hd
      subst hd
      refine Or.inr ⟨_, Or.inl rfl, by simp, fun d hd => ?_⟩
      simp only [List.mem_cons, List.not_mem_nil, or_false] at hd
      rcases hd with rfl | rfl | rfl <;> exact P0i _⟩) (by omega)
    simp only [gNe, sh1, sh2, Bool.and_self, if_true]
    rfl
theorem st12_ok (x : FRow) : st12 (lD n ss rs fs gs s6 s7 s8 t s bs (.va (.tuple ((lessB bs p).map eB))) s13 s14 s15 s16 s17 s18 p v) x = some (.nx (lD n ss rs fs gs s6 s7 s8 t s bs (.va (.tuple ((lessB bs p).map eB))) s13 s14 s15 s16 s17 s18 p v), x) := by
  have h2 := bs_two k hv e hp
  have hl := less_len k hv e hp
  have T := tst12 k hv e hp (env := lD n ss rs fs gs s6 s7 s8 t s bs (.va (.tuple ((lessB bs p).map eB))) s13 s14 s15 s16 s17 s18 p v) (x := x) rfl
  have a : aCons (fVar 21) (aCons (fVar 22) (aCons (fVar 20) aNil)) (lD n ss rs fs gs s6 s7 s8 t s bs (.va (.tuple ((lessB bs p).map eB))) s13 s14 s15 s16 s17 s18 p v) x = some ([eX n ss, .int v, .int (p : Int)], x) := aC3 (vV rfl) (vV rfl) (vV rfl)
  by_cases c : bs.length = 1
  · rw [show (!decide (bs.length = 1)) = false from by simp [c]] at T
    obtain ⟨h3, h4⟩ := without_x k hv e hp c
    exact alike_no (k := 0) (told_x (call_none a h3) (xcall a h4) heNM) ((fIf_f' T).trans rfl) pt_no (by omega)
  · rw [show (!decide (bs.length = 1)) = true from by simp [c]] at T
    exact alike_no (k := 5) (told_v (fK a (without_ok k hv e hp c))) ((fIf_t' T).trans (put_fe k hv e hp (h := fVar 12) (vV rfl) rfl rfl rfl rfl)) (set_pt k hv e hp (by omega)) (by omega)
include ht in
theorem st13_ok (x : FRow) : st13 (lD n ss rs fs gs s6 s7 s8 t s bs s12 (.va (.tuple ((ledB bs p t).map eB))) s14 s15 s16 s17 s18 p v) x = some (.nx (lD n ss rs fs gs s6 s7 s8 t s bs s12 (.va (.tuple ((ledB bs p t).map eB))) s14 s15 s16 s17 s18 p v), x) := by
  have h2 := bs_two k hv e hp
  have l := led_ok k hv e hp ht
  have el : bs.set p ((bs[p]).1, (bs[p]).2.1, t) = ledB bs p t := by
    unfold ledB
    rw [List.getElem?_eq_getElem hp]; rfl
  rw [el] at l
  exact alike_no (k := 5) (fK (aCons_eq (vV rfl) (aC3 (vV rfl) (vV rfl) (vV rfl))) l) (put_fe k hv e hp (h := fVar 13) (vV rfl) rfl rfl rfl rfl) (set_pt k hv e hp (by unfold ledB; rw [List.length_set]; omega)) (by omega)
end
end Lw
namespace Lw
open PySem RT Wb
variable {n : Int} {ss rs : List Sc} {fs gs : List Int} {s6 s7 s8 s9 s10 s11 s12 s13 s14 s15 s16 s17 s18 s20 s22 : FSl} {t s v : Int} {bs : List Br} {p : Nat}
def mvL (a : Int) (rs : List Sc) : List D := (rs.map (rnf (shf a))).map eS
/-- scenes moved on, in a list -/
theorem mv_fe {l : List Sc} (h2 : ∀ sc ∈ l, (bsOf sc).length ≤ 2) (hl : l.length ≤ 1000) {env : FEn} {x : FRow} {f h : FE} {a : Int} (hf : f env x = some (.tuple (l.map eS), x)) (hlen : env.length = 27)
    (hh : ∀ sc, h ((wipeE env [8]).set 8 (.va (eS sc))) x = some (.int a, x)) :
    fOfX (xLc (fSeq f) (gtName 8) tYesF (fCall m_law_moved (aCons (fVar 8) (aCons h aNil))) [8]) env x = some (.list (mvL a l), x) := by
  have wl : (wipeE env [8]).length = 27 := by simp only [wipeE, List.foldl_cons, List.foldl_nil, List.length_set, hlen]
  unfold mvL
  rw [List.map_map]
  refine lc_eq (sqT hf) (compL_map eS _ l fun sc hsc => ⟨(wipeE env [8]).set 8 (.va (eS sc)), ?_, rfl, ?_⟩) (by rw [List.length_map]; exact nob_n (by omega))
  · simp only [gtName, wl]
    first | done | rfl
  · exact fK (aC2 (vV (by rw [List.getElem?_set_self (by omega)])) (hh sc)) (law_moved_eq (h2 sc hsc) a)
theorem len5 {env : FEn} {x : FRow} (h5 : env[5]? = some (.va (.tuple (ss.map eS)))) : fCall gLen (aCons (fBor 5) aNil) env x = some (.int (ss.length : Nat), x) := fK (aC1 (vB h5)) (by rw [len_T, List.length_map])
section
variable (k : Ok n ss) (k' : Ok n rs)
include k k'
theorem st14_ok (x : FRow) : st14 (lD n ss rs fs gs s6 s7 s8 t s bs s12 s13 s14 s15 s16 s17 s18 p v) x = some (.nx (lD n ss rs fs gs s6 s7 s8 t s bs s12 s13 (.va (.list (mvL (ss.length : Nat) rs))) s15 s16 s17 s18 p v), x) := by
  have hm := k'.m
  exact sV (i := 14) (mv_fe (fun sc h => k'.b2 h) (by omega) (f := fBin gAt (fBor 19) (fC (.int 1))) (fB (vB rfl) rfl (eX_1 n rs)) rfl fun sc => len5 rfl)
theorem mvL_0 (a : Nat) : gAt (.list (mvL a rs)) (.int 0) = some (eS (fst0 a rs)) := by
  have h := scAt0 k'
  simp only [gAt]
  refine atI_nat (i := 0) ?_
  unfold mvL fst0
  rw [← List.head?_eq_getElem?, List.map_map, List.head?_map, h]; rfl
theorem st15_ok (x : FRow) (h8 : ss.length + rs.length ≤ 8) : st15 (lD n ss rs fs gs s6 s7 s8 t s bs s12 s13 (.va (.list (mvL (ss.length : Nat) rs))) s15 s16 s17 s18 p v) x = some (.nx (lD n ss rs fs gs s6 s7 s8 t s bs s12 s13 (.va (.list (mvL (ss.length : Nat) rs))) (.va (.tuple ((fol ss rs).map eS))) s16 s17 s18 p v), x) := by
  have hm := k.m
  have l1 : fOfX (xLc (fSeq (fVar 5)) (gtName 8) tYesF (fIf (fTst (fBin gIsN (fBor 8) (fC .none))) (fBin gAt (fBor 14) (fC (.int 0))) (fVar 8)) [8]) (lD n ss rs fs gs s6 s7 s8 t s bs s12 s13 (.va (.list (mvL (ss.length : Nat) rs))) s15 s16 s17 s18 p v) x = some (.list ((ss.map (fnx ss.length rs)).map eS), x) := by
    rw [List.map_map]
    refine lc_eq (sqT (ds := ss.map eS) (vV rfl)) (compL_map eS _ ss fun sc hsc => ⟨lD n ss rs fs gs s6 s7 (.va (eS sc)) t s bs s12 s13 (.va (.list (mvL (ss.length : Nat) rs))) s15 s16 s17 s18 p v, rfl, rfl, ?_⟩) (by rw [List.length_map]; exact nob_n (by omega))
    have T := isn_t (f := fBor 8) (env := lD n ss rs fs gs s6 s7 (.va (eS sc)) t s bs s12 s13 (.va (.list (mvL (ss.length : Nat) rs))) s15 s16 s17 s18 p v) (x := x) (sc := sc) (vB rfl)
    cases sc with
    | none => exact (fIf_t' T).trans (fB (vB rfl) rfl (mvL_0 k k' ss.length))
    | some q => exact (fIf_f' T).trans (vV rfl)
  have l2 : fCall gTupOf (aCons (fBor 14) aNil) (lD n ss rs fs gs s6 s7 s8 t s bs s12 s13 (.va (.list (mvL (ss.length : Nat) rs))) s15 s16 s17 s18 p v) x = some (.tuple (mvL (ss.length : Nat) rs), x) := tupOf_ok (vB rfl)
  refine sV (i := 15) (fB (tupOf_ok l1) l2 ?_)
  rw [cat_T (by rw [List.length_map, List.length_map, mvL, List.length_map, List.length_map]; exact ml _ (by omega))]
  unfold fol mvL
  rw [List.map_append]
theorem fol_pt (h8 : ss.length + rs.length ≤ 8) : Pt 5 (eX n (fol ss rs)) := by
  refine pt_any n (by rw [fol_len]; omega) fun sc hsc => ?_
  have key : ∀ sc, sc ∈ fol ss rs → (bsOf sc).length ≤ 2 := fun sc h => by
    rcases List.mem_append.mp h with h | h
    · obtain ⟨c, hc, rfl⟩ := List.mem_map.mp h
      cases c with
      | none =>
        show (bsOf (rnf _ (scAt rs 0))).length ≤ 2
        rw [rnf_len]
        exact k'.b2 (scAt_mem (ss := rs) (v := 0) (by omega) (by have := k'.m; omega)).2
      | some q => exact k.b2 hc
    · obtain ⟨c, hc, rfl⟩ := List.mem_map.mp h
      rw [rnf_len]; exact k'.b2 hc
  have := key sc hsc; omega
theorem lt9 {env : FEn} {x : FRow} {l : List Sc} (h15 : env[15]? = some (.va (.tuple (l.map eS)))) : fTst (fBin gLtX (fCall gLen (aCons (fBor 15) aNil)) (fC (.int 9))) env x = some (decide (l.length < 9), x) := by
  refine tst_b (fB (fK (aC1 (vB h15)) (len_T _)) rfl ?_)
  rw [List.length_map]
  have : decide (((l.length : Nat) : Int) < 9) = decide (l.length < 9) := by
    by_cases c : l.length < 9
    · simp [c]; omega
    · simp [c]; omega
  rw [← this]
  simp [gLtX, gLt, gOr, gI]
theorem st16_ok (x : FRow) (h8 : ss.length + rs.length ≤ 8) : st16 (lD n ss rs fs gs s6 s7 s8 t s bs s12 s13 s14 (.va (.tuple ((fol ss rs).map eS))) s16 s17 s18 p v) x = some (.nx (lD n ss rs fs gs s6 s7 s8 t s bs s12 s13 s14 (.va (.tuple ((fol ss rs).map eS))) s16 s17 s18 p v), x) := by
  have T := lt9 k k' (env := lD n ss rs fs gs s6 s7 s8 t s bs s12 s13 s14 (.va (.tuple ((fol ss rs).map eS))) s16 s17 s18 p v) (x := x) (l := fol ss rs) rfl
  rw [show decide ((fol ss rs).length < 9) = true from by rw [fol_len]; simp; omega] at T
  exact alike_no (k := 5) (told_v (fK (aC2 (vV rfl) (vV rfl)) (followed_eq k k' h8))) ((fIf_t' T).trans (fTup_ok (aC2 (vV rfl) (vV rfl)) two_ml)) (fol_pt k k' h8) (by omega)
theorem cho_pt {a b : Int} : Pt 5 (eX n (cho a b ss rs)) := by
  have hm := k.m
  have hm' := k'.m
  refine pt_any n (by rw [cho_len]; omega) fun sc hsc => ?_
  have key : ∀ sc, sc ∈ cho a b ss rs → (bsOf sc).length ≤ 2 := fun sc h => by
    rcases List.mem_cons.mp h with rfl | h
    · simp [bsOf]
    rcases List.mem_append.mp h with h | h
    · obtain ⟨c, hc, rfl⟩ := List.mem_map.mp h
      rw [rnf_len]; exact k.b2 hc
    · obtain ⟨c, hc, rfl⟩ := List.mem_map.mp h
      rw [rnf_len]; exact k'.b2 hc
  have := key sc hsc; omega
theorem st17_ok (x : FRow) : st17 (lD n ss rs fs gs s6 s7 s8 t s bs s12 s13 s14 s15 s16 s17 s18 p v) x = some (.nx (lD n ss rs fs gs s6 s7 s8 t s bs s12 s13 s14 (.va (.tuple ((cho 0 1 ss rs).map eS))) s16 s17 s18 p v), x) := by
  have hm := k.m
  have hm' := k'.m
  have la : fBin gAdd (fC (.int 1)) (fCall gLen (aCons (fBor 5) aNil)) (lD n ss rs fs gs s6 s7 s8 t s bs s12 s13 s14 s15 s16 s17 s18 p v) x = some (.int (1 + (ss.length : Int)), x) := fB (d := .int 1) rfl (len5 rfl) rfl
  have q1 : fTup (aCons (fTup (aCons (fC (.int 0)) (aCons (fTup (aCons (fTup (aCons (fC (.int 1)) (aCons (fC (.int 0)) (aCons (fC (.int 1)) aNil)))) (aCons (fTup (aCons (fC (.int 1)) (aCons (fC (.int 1)) (aCons (fBin gAdd (fC (.int 1)) (fCall gLen (aCons (fBor 5) aNil))) aNil)))) aNil))) aNil))) aNil) (lD n ss rs fs gs s6 s7 s8 t s bs s12 s13 s14 s15 s16 s17 s18 p v) x = some (.tuple [eS (some (0, [(1, 0, 1), (1, 1, 1 + (ss.length : Int))]))], x) :=
    fTup_ok (aC1 (fTup_ok (aC2 (d := .int 0) rfl (fTup_ok (aC2 (fTup_ok (aC3 (d := .int 1) (e := .int 0) (f := .int 1) rfl rfl rfl) tri_ml) (fTup_ok (aC3 (d := .int 1) (e := .int 1) rfl rfl la) tri_ml)) two_ml)) two_ml)) one_ml
  have q2 := tupOf_ok (mv_fe (l := ss) (a := 1) (env := lD n ss rs fs gs s6 s7 s8 t s bs s12 s13 s14 s15 s16 s17 s18 p v) (x := x) (h := fC (.int 1)) (fun sc h => k.b2 h) (by omega) (f := fVar 5) (vV rfl) rfl fun sc => rfl)
  have q3 := tupOf_ok (mv_fe (l := rs) (a := 1 + (ss.length : Int)) (env := lD n ss rs fs gs s6 s7 s8 t s bs s12 s13 s14 s15 s16 s17 s18 p v) (x := x) (h := fBin gAdd (fC (.int 1)) (fCall gLen (aCons (fBor 5) aNil))) (fun sc h => k'.b2 h) (by omega) (f := fBin gAt (fBor 19) (fC (.int 1))) (fB (vB rfl) rfl (eX_1 n rs)) rfl fun sc => fB (d := .int 1) rfl (len5 rfl) rfl)
  have r := fB (fB q1 q2 (cat_T (by rw [mvL, List.length_map, List.length_map, List.length_singleton]; exact ml _ (by omega)))) q3 (cat_T (by rw [mvL, mvL, List.length_append, List.length_map, List.length_map, List.length_map, List.length_map, List.length_singleton]; exact ml _ (by omega)))
  refine (sV (i := 15) r).trans ?_
  unfold cho mvL
  rw [List.map_cons, List.map_append]
  rfl
theorem st18_ok (x : FRow) : st18 (lD n ss rs fs gs s6 s7 s8 t s bs s12 s13 s14 (.va (.tuple ((cho 0 1 ss rs).map eS))) s16 s17 s18 p v) x = some (.nx (lD n ss rs fs gs s6 s7 s8 t s bs s12 s13 s14 (.va (.tuple ((cho 0 1 ss rs).map eS))) s16 s17 s18 p v), x) := by
  have hn := k.n2
  have T := lt9 k k' (env := lD n ss rs fs gs s6 s7 s8 t s bs s12 s13 s14 (.va (.tuple ((cho 0 1 ss rs).map eS))) s16 s17 s18 p v) (x := x) (l := cho 0 1 ss rs) rfl
  have a : aCons (fC (.int 0)) (aCons (fC (.int 1)) (aCons (fVar 21) (aCons (fVar 19) aNil))) (lD n ss rs fs gs s6 s7 s8 t s bs s12 s13 s14 (.va (.tuple ((cho 0 1 ss rs).map eS))) s16 s17 s18 p v) x = some ([.int 0, .int 1, eX n ss, eX n rs], x) := aCons_eq rfl (aC3 rfl (vV rfl) (vV rfl))
  by_cases c : 1 + ss.length + rs.length ≤ 8
  · rw [show decide ((cho 0 1 ss rs).length < 9) = true from by rw [cho_len]; simp; omega] at T
    exact alike_no (k := 5) (told_v (fK a (chosen_eq k k' c ⟨by omega, by omega⟩ ⟨by omega, by omega⟩ (by omega)))) ((fIf_t' T).trans (fTup_ok (aC2 (vV rfl) (vV rfl)) two_ml)) (cho_pt k k') (by omega)
  · rw [show decide ((cho 0 1 ss rs).length < 9) = false from by rw [cho_len]; simp; omega] at T
    obtain ⟨h3, h4⟩ := chosen_x k k' (by omega) (s := 0) (h := 1) ⟨by omega, by omega⟩ ⟨by omega, by omega⟩ (by omega)
    exact alike_no (k := 0) (told_x (call_none a h3) (xcall a h4) heTM) ((fIf_f' T).trans rfl) (Or.inr (Or.inr (Or.inl ⟨_, rfl, by decide +kernel⟩))) (by omega)
end
end Lw
namespace Lw
open PySem RT Wb
variable {n : Int} {ss rs : List Sc} {fs gs : List Int} {s6 s7 s8 s9 s10 s11 s12 s13 s14 s15 s16 s17 s18 s20 s22 : FSl} {t s v : Int} {bs : List Br} {p : Nat}
abbrev iR : FE := fIf (fTst (fBin gIsN (fBor 8) (fC .none))) (fC .none) (fTup (aCons (fBin gAt (fBor 8) (fC (.int 0))) (aCons (fCall gTupOf (aCons (fOfX (xLc (fSeq (fBin gAt (fBor 8) (fC (.int 1)))) (gtName 24) tYesF (fBin gAdd (fSl (fBor 24) oNone (oSome (fC (.int 2)))) (fTup (aCons (fIf (fTst (fBin gIsN (fBin gAt (fBor 5) (fBin gAt (fBor 24) (fC (.int 2)))) (fC .none))) (fC (.int 0)) (fBin gAt (fBor 24) (fC (.int 2)))) aNil))) [24])) aNil)) aNil)))
section
variable (k : Ok n ss)
include k
theorem iR_ok {sc : Sc} (h : sc ∈ ss) (x : FRow) : iR (lD n ss rs fs gs s6 s7 (.va (eS sc)) t s bs s12 s13 s14 s15 s16 s17 s18 p v) x = some (eS (rnf (zf ss) sc), x) := by
  have T := isn_t (f := fBor 8) (env := lD n ss rs fs gs s6 s7 (.va (eS sc)) t s bs s12 s13 s14 s15 s16 s17 s18 p v) (x := x) (sc := sc) (vB rfl)
  have htt := k.tt h
  cases sc with
  | none => exact (fIf_t' T).trans rfl
  | some q =>
    obtain ⟨g, cs⟩ := q
    refine (fIf_f' T).trans ?_
    have a0 : fBin gAt (fBor 8) (fC (.int 0)) (lD n ss rs fs gs s6 s7 (.va (eS (some (g, cs)))) t s bs s12 s13 s14 s15 s16 s17 s18 p v) x = some (.int g, x) := fB (vB rfl) rfl (eS_0 g cs)
    have a1 : fBin gAt (fBor 8) (fC (.int 1)) (lD n ss rs fs gs s6 s7 (.va (eS (some (g, cs)))) t s bs s12 s13 s14 s15 s16 s17 s18 p v) x = some (.tuple (cs.map eB), x) := fB (vB rfl) rfl (eS_1 g cs)
    have c2 := (k.at h).2.1
    have l1 := lc_eq (vs := [24]) (gt := gtName 24) (t := tYesF) (fe := fBin gAdd (fSl (fBor 24) oNone (oSome (fC (.int 2)))) (fTup (aCons (fIf (fTst (fBin gIsN (fBin gAt (fBor 5) (fBin gAt (fBor 24) (fC (.int 2)))) (fC .none))) (fC (.int 0)) (fBin gAt (fBor 24) (fC (.int 2)))) aNil))) (sqT a1) (compL_map eB (fun b => eB (b.1, b.2.1, zf ss b.2.2)) cs fun b hb => ⟨(lD n ss rs fs gs s6 s7 (.va (eS (some (g, cs)))) t s bs s12 s13 s14 s15 s16 s17 s18 p v).set 24 (.va (eB b)), rfl, rfl, by
      have o := htt b hb
      have q2 : fBin gAt (fBor 24) (fC (.int 2)) ((lD n ss rs fs gs s6 s7 (.va (eS (some (g, cs)))) t s bs s12 s13 s14 s15 s16 s17 s18 p v).set 24 (.va (eB b))) x = some (.int b.2.2, x) := fB (vB rfl) rfl (eB_2' b)
      have T2 := isn_t (f := fBin gAt (fBor 5) (fBin gAt (fBor 24) (fC (.int 2)))) (env := (lD n ss rs fs gs s6 s7 (.va (eS (some (g, cs)))) t s bs s12 s13 s14 s15 s16 s17 s18 p v).set 24 (.va (eB b))) (x := x) (sc := scAt ss b.2.2) (fB (vB rfl) q2 (eX_at (n := n) o.1 o.2))
      refine two_fe (vB rfl) ?_
      by_cases c : isEnd ss b.2.2
      · have e : (scAt ss b.2.2).isNone = true := c
        rw [e] at T2
        rw [zf, if_pos c]
        exact (fIf_t' T2).trans rfl
      · have e : (scAt ss b.2.2).isNone = false := Bool.eq_false_iff.mpr c
        rw [e] at T2
        rw [zf, if_neg c]
        exact (fIf_f' T2).trans q2⟩) (by rw [List.length_map]; exact nob_n (by omega))
    rw [fTup_ok (aC2 a0 (tupOf_ok l1)) two_ml]
    simp only [eS, rnf, List.map_map, Function.comp_def]
theorem lp2 (x : FRow) : ∀ (l : List Sc) (A : List D) (s8 : FSl), (∀ sc ∈ l, sc ∈ ss) → A.length + l.length ≤ 100 →
    ∃ s8', forL (gtName 8) (sApp 6 iR) (l.map eS) (lD n ss rs fs gs (.ow (.lst A)) s7 s8 t s bs s12 s13 s14 s15 s16 s17 s18 p v) x = some (.nx (lD n ss rs fs gs (.ow (.lst (A ++ (l.map (rnf (zf ss))).map eS))) s7 s8' t s bs s12 s13 s14 s15 s16 s17 s18 p v), x)
  | [], A, s8, _, _ => ⟨s8, by simp [forL]⟩
  | sc :: l, A, s8, h, hl => by
    rw [List.length_cons] at hl
    obtain ⟨z, e⟩ := lp2 x l (A ++ [eS (rnf (zf ss) sc)]) (.va (eS sc)) (fun c hc => h c (by simp [hc])) (by rw [List.length_append, List.length_singleton]; omega)
    refine ⟨z, ?_⟩
    have a := iR_ok (rs := rs) (fs := fs) (gs := gs) (s6 := .ow (.lst A)) (s7 := s7) (t := t) (s := s) (bs := bs) (s12 := s12) (s13 := s13) (s14 := s14) (s15 := s15) (s16 := s16) (s17 := s17) (s18 := s18) (p := p) (v := v) k (h sc (by simp)) x
    have c1 : sApp 6 iR (lD n ss rs fs gs (.ow (.lst A)) s7 (.va (eS sc)) t s bs s12 s13 s14 s15 s16 s17 s18 p v) x = some (.nx (lD n ss rs fs gs (.ow (.lst (A ++ [eS (rnf (zf ss) sc)]))) s7 (.va (eS sc)) t s bs s12 s13 s14 s15 s16 s17 s18 p v), x) := sA a rfl (by omega)
    have g8 : gtName 8 (eS sc) (lD n ss rs fs gs (.ow (.lst A)) s7 s8 t s bs s12 s13 s14 s15 s16 s17 s18 p v) = some (lD n ss rs fs gs (.ow (.lst A)) s7 (.va (eS sc)) t s bs s12 s13 s14 s15 s16 s17 s18 p v) := rfl
    rw [List.map_cons, forL, g8]
    simp only [c1, e, List.map_cons, List.append_assoc, List.singleton_append]
theorem st20_ok (x : FRow) : ∃ s8', st20 (lD n ss rs fs gs (.ow (.lst [])) s7 s8 t s bs s12 s13 s14 s15 s16 s17 s18 p v) x = some (.nx (lD n ss rs fs gs (.ow (.lst ((rep ss).map eS))) s7 s8' t s bs s12 s13 s14 s15 s16 s17 s18 p v), x) := by
  have hm := k.m
  obtain ⟨z, e⟩ := lp2 (rs := rs) (fs := fs) (gs := gs) (s7 := s7) (t := t) (s := s) (bs := bs) (s12 := s12) (s13 := s13) (s14 := s14) (s15 := s15) (s16 := s16) (s17 := s17) (s18 := s18) (p := p) (v := v) k x ss [] s8 (fun _ h => h) (by simp; omega)
  refine ⟨z, ?_⟩
  have q : fSeq (fVar 5) (lD n ss rs fs gs (.ow (.lst [])) s7 s8 t s bs s12 s13 s14 s15 s16 s17 s18 p v) x = some (ss.map eS, x) := sqT (vV rfl)
  simp only [st20, sFor, q]
  rw [List.nil_append] at e
  exact e
theorem rep_pt : Pt 5 (eX n (rep ss)) := by
  have hm := k.m
  refine pt_any n (by unfold rep; rw [List.length_map]; omega) fun sc hsc => ?_
  obtain ⟨c, hc, rfl⟩ := List.mem_map.mp hsc
  rw [rnf_len]
  have := k.b2 hc; omega
theorem st21_ok (h0 : isEnd ss 0 = false) (x : FRow) : st21 (lD n ss rs fs gs (.ow (.lst ((rep ss).map eS))) s7 s8 t s bs s12 s13 s14 s15 s16 s17 s18 p v) x = some (.nx (lD n ss rs fs gs (.ow (.lst ((rep ss).map eS))) s7 s8 t s bs s12 s13 s14 s15 s16 s17 s18 p v), x) :=
  alike_no (k := 5) (fK (aC1 (vV rfl)) (repeated_eq k h0)) (fTup_ok (aC2 (vV rfl) (tupOf_ok (by simp only [fBor, lD, lE]; rfl))) two_ml) (rep_pt k) (by omega)
end
end Lw
namespace Lw
open PySem RT Wb
variable {n : Int} {ss rs : List Sc} {fs gs : List Int} {s6 s7 s8 s9 s10 s11 s12 s13 s14 s15 s16 s17 s18 s20 s22 : FSl} {t s v : Int} {bs : List Br} {b : Br} {p : Nat}
theorem eq_nil (l : List Int) : gEq (.list (l.map .int)) (.list []) = some (.bool l.isEmpty) := by
  have h := sh_ints l
  have h0 := sh_ints []
  rw [List.map_nil] at h0
  have q := ne_nil l
  simp only [gNe, h, h0, Bool.true_and, if_true] at q
  simp only [gEq, h, h0, Bool.true_and, if_true]
  simpa using q
theorem notn_eS (sc : Sc) : gNotN (eS sc) .none = some (.bool sc.isSome) := by
  cases sc with
  | none => rfl
  | some q => rfl
theorem and_t {f g : FE} {env : FEn} {x : FRow} (h : f env x = some (.bool true, x)) : fAnd f g env x = g env x := by simp only [fAnd, h]
theorem and_f {f g : FE} {env : FEn} {x : FRow} (h : f env x = some (.bool false, x)) : fAnd f g env x = some (.bool false, x) := by simp only [fAnd, h]
/-- fit: no more than this -/
inductive Fit (ss : List Sc) (s : Int) (b : Br) (bs' : List Br) : Bool → Prop
  | a : bs' ≠ [] → Fit ss s b bs' false
  | b : bs' = [] → (bsOf (scAt ss b.2.2)).length ≠ 1 → Fit ss s b bs' false
  | c (s2 : Int) (c : Br) : bs' = [] → scAt ss b.2.2 = some (s2, [c]) → Fit ss s b bs' (!shares s b s2 c)
theorem eqlen {f : FE} {env : FEn} {x : FRow} {ds : List D} (h : f env x = some (.tuple ds, x)) : fBin gEq (fCall gLen (aCons f aNil)) (fC (.int 1)) env x = some (.bool (decide (ds.length = 1)), x) := by
  refine fB (fK (aC1 h) (len_T _)) rfl ?_
  rw [eq_int]
  congr 2
  by_cases c : ds.length = 1 <;> simp [c] <;> omega
section
variable (k : Ok n ss) {bs' : List Br} (ht : 0 ≤ b.2.2 ∧ b.2.2 < (ss.length : Int)) (x : FRow)
include k ht
theorem at110 : fBin gAt (fBor 11) (fC (.int 0)) (lD n ss rs fs gs s6 s7 s8 t s (b :: bs') s12 s13 s14 s15 s16 s17 s18 p v) x = some (eB b, x) := fB (vB rfl) rfl (atB0 b bs')
theorem st22_ok : st22 (lD n ss rs fs gs s6 s7 s8 t s (b :: bs') s12 s13 s14 s15 s16 s17 s18 p v) x = some (.nx (lD n ss rs fs gs s6 s7 s8 t s (b :: bs') s12 s13 s14 s15 (.va (eS (scAt ss b.2.2))) s17 s18 p v), x) :=
  sV (i := 16) (fB (vB rfl) (fB (at110 k ht x) rfl (eB_2' b)) (eX_at (n := n) ht.1 ht.2))
theorem eB_0' : gAt (eB b) (.int 0) = some (.int b.1) := by
  unfold eB
  simp only [gAt]
  exact atI_nat (i := 0) rfl
theorem st23_ok : ∃ w : Bool, st23 (lD n ss rs fs gs s6 s7 s8 t s (b :: bs') s12 s13 s14 s15 (.va (eS (scAt ss b.2.2))) s17 s18 p v) x = some (.nx (lD n ss rs fs gs s6 s7 s8 t s (b :: bs') s12 s13 s14 s15 (.va (eS (scAt ss b.2.2))) (.va (.bool w)) s18 p v), x) ∧ Fit ss s b bs' w := by
  have q1 := eqlen (f := fBor 11) (env := lD n ss rs fs gs s6 s7 s8 t s (b :: bs') s12 s13 s14 s15 (.va (eS (scAt ss b.2.2))) s17 s18 p v) (x := x) (ds := (b :: bs').map eB) (vB rfl)
  cases bs' with
  | cons c l =>
    rw [show decide (((b :: c :: l).map eB).length = 1) = false from by simp] at q1
    exact ⟨false, sV (i := 17) (and_f q1), .a (by simp)⟩
  | nil =>
    rw [show decide ((([b] : List Br).map eB).length = 1) = true from by simp] at q1
    have q2 : fBin gNotN (fBor 16) (fC .none) (lD n ss rs fs gs s6 s7 s8 t s [b] s12 s13 s14 s15 (.va (eS (scAt ss b.2.2))) s17 s18 p v) x = some (.bool (scAt ss b.2.2).isSome, x) := fB (vB rfl) rfl (notn_eS _)
    generalize hG : scAt ss b.2.2 = G at *
    cases G with
    | none => exact ⟨false, sV (i := 17) ((and_t q1).trans (and_f q2)), .b rfl (by rw [hG]; simp [bsOf])⟩
    | some q =>
      obtain ⟨s2, cs⟩ := q
      have a0 : ∀ {env : FEn}, env[16]? = some (.va (eS (some (s2, cs)))) → fBin gAt (fBor 16) (fC (.int 0)) env x = some (.int s2, x) := fun h => fB (vB h) rfl (eS_0 s2 cs)
      have a1 : ∀ {env : FEn}, env[16]? = some (.va (eS (some (s2, cs)))) → fBin gAt (fBor 16) (fC (.int 1)) env x = some (.tuple (cs.map eB), x) := fun h => fB (vB h) rfl (eS_1 s2 cs)
      have q3 := eqlen (a1 (env := lD n ss rs fs gs s6 s7 s8 t s [b] s12 s13 s14 s15 (.va (eS (some (s2, cs)))) s17 s18 p v) rfl)
      rw [List.length_map] at q3
      by_cases c1 : cs.length = 1
      · rw [show decide (cs.length = 1) = true from by simp [c1]] at q3
        obtain ⟨c, rfl⟩ := List.length_eq_one_iff.mp c1
        have l1 : fSeq (fTup (aCons (fVar 10) (aCons (fBin gAt (fBin gAt (fBor 11) (fC (.int 0))) (fC (.int 0))) aNil))) (lD n ss rs fs gs s6 s7 s8 t s [b] s12 s13 s14 s15 (.va (eS (some (s2, [c])))) s17 s18 p v) x = some (([s, b.1] : List Int).map .int, x) :=
          sqT (fTup_ok (aC2 (vV rfl) (fB (at110 k ht x) rfl (eB_0' k ht))) two_ml)
        have l2 := lc_eq (vs := [23]) (gt := gtName 23) (t := fTst (fBin gInA (fBor 23) (fTup (aCons (fBin gAt (fBor 16) (fC (.int 0))) (aCons (fBin gAt (fBin gAt (fBin gAt (fBor 16) (fC (.int 1))) (fC (.int 0))) (fC (.int 0))) aNil))))) (fe := fVar 23) l1 (compL_gen D.int (fun a => decide (s2 = a) || decide (c.1 = a)) D.int [s, b.1] fun a _ => ⟨(lD n ss rs fs gs s6 s7 s8 t s [b] s12 s13 s14 s15 (.va (eS (some (s2, [c])))) s17 s18 p v).set 23 (.va (.int a)), rfl, tst_b (fB (vB rfl) (fTup_ok (aC2 (a0 rfl) (fB (fB (a1 rfl) rfl (atB0 c [])) rfl (by
            unfold eB
            simp only [gAt]
            exact atI_nat (i := 0) rfl))) two_ml) (in2 a s2 c.1)), fun _ => vV rfl⟩) (nob_n (by rw [List.length_map]; have := List.length_filter_le (fun a => decide (s2 = a) || decide (c.1 = a)) [s, b.1]; simp only [List.length_cons, List.length_nil] at this; omega))
        have q4 := fB (gd := gEq) l2 (fLst_ok (ds := []) (t := aNil) rfl nil_ml) (eq_nil _)
        have e : (([s, b.1] : List Int).filter fun a => decide (s2 = a) || decide (c.1 = a)).isEmpty = !shares s b s2 c := by
          unfold shares
          by_cases z1 : (decide (s2 = s) || decide (c.1 = s)) = true
          · simp [List.filter_cons, z1]
          · rw [Bool.not_eq_true] at z1
            by_cases z2 : (decide (s2 = b.1) || decide (c.1 = b.1)) = true
            · simp [List.filter_cons, z1, z2]
            · rw [Bool.not_eq_true] at z2
              simp [List.filter_cons, z1, z2]
        rw [e] at q4
        exact ⟨_, sV (i := 17) ((and_t q1).trans ((and_t q2).trans ((and_t q3).trans q4))), .c s2 c rfl hG⟩
      · rw [show decide (cs.length = 1) = false from by simp [c1]] at q3
        exact ⟨false, sV (i := 17) ((and_t q1).trans ((and_t q2).trans (and_f q3))), .b rfl (by rw [hG]; exact c1)⟩
end
section
variable (k : Ok n ss) (hv : 0 ≤ v ∧ v < (ss.length : Int)) (ht : 0 ≤ b.2.2 ∧ b.2.2 < (ss.length : Int)) (x : FRow) (h7 : ss.length + 1 ≤ 8)
include k hv ht
theorem st25_f {bs' : List Br} {w : Bool} (hw : w = false) : st25 (lD n ss rs fs gs s6 s7 s8 t s (b :: bs') s12 s13 s14 s15 s16 (.va (.bool w)) (.va .none) p v) x = some (.nx (lD n ss rs fs gs s6 s7 s8 t s (b :: bs') s12 s13 s14 s15 s16 (.va (.bool w)) (.va .none) p v), x) := by
  subst hw
  exact if_no (truV rfl)
include h7 in
theorem st25_t {s2 : Int} {c : Br} {w : Bool} (hw : w = true) : st25 (lD n ss rs fs gs s6 s7 s8 t s [b] s12 s13 s14 s15 (.va (eS (some (s2, [c])))) (.va (.bool w)) (.va .none) p v) x = some (.nx (lD n ss rs fs gs s6 s7 s8 t s [b] s12 s13 s14 s15 (.va (eS (some (s2, [c])))) (.va (.bool w)) (.va (eX n (swp ss v s b s2 c))) p v), x) := by
  subst hw
  have hm := k.m
  obtain ⟨vn, rfl⟩ : ∃ vn : Nat, v = (vn : Int) := ⟨v.toNat, by omega⟩
  have T : fTru (fBor 17) (lD n ss rs fs gs s6 s7 s8 t s [b] s12 s13 s14 s15 (.va (eS (some (s2, [c])))) (.va (.bool true)) (.va .none) p vn) x = some (true, x) := truV rfl
  have a0 : fBin gAt (fBor 16) (fC (.int 0)) (lD n ss rs fs gs s6 s7 s8 t s [b] s12 s13 s14 s15 (.va (eS (some (s2, [c])))) (.va (.bool true)) (.va .none) p vn) x = some (.int s2, x) := fB (vB rfl) rfl (eS_0 s2 [c])
  have a1 : fBin gAt (fBin gAt (fBor 16) (fC (.int 1))) (fC (.int 0)) (lD n ss rs fs gs s6 s7 s8 t s [b] s12 s13 s14 s15 (.va (eS (some (s2, [c])))) (.va (.bool true)) (.va .none) p vn) x = some (eB c, x) := fB (fB (vB rfl) rfl (eS_1 s2 [c])) rfl (atB0 c [])
  have b1 : fTup (aCons (fBin gAt (fBor 16) (fC (.int 0))) (aCons (fTup (aCons (fBin gAdd (fSl (fBin gAt (fBin gAt (fBor 16) (fC (.int 1))) (fC (.int 0))) oNone (oSome (fC (.int 2)))) (fTup (aCons (fCall gLen (aCons (fBor 5) aNil)) aNil))) aNil)) aNil)) (lD n ss rs fs gs s6 s7 s8 t s [b] s12 s13 s14 s15 (.va (eS (some (s2, [c])))) (.va (.bool true)) (.va .none) p vn) x = some (eS (some (s2, [(c.1, c.2.1, (ss.length : Int))])), x) :=
    fTup_ok (aC2 a0 (fTup_ok (aC1 (two_fe a1 (len5 rfl))) one_ml)) two_ml
  have r := repl_fe (k := vn) (xs := ss.map eS) (f := fBor 5) (g := fVar 22) (g' := fBor 22) (vB rfl) (vV rfl) (vB rfl) b1 (by rw [List.length_map]; omega) (by rw [List.length_map]; omega)
  have b2 : fTup (aCons (fTup (aCons (fVar 10) (aCons (fTup (aCons (fBin gAdd (fSl (fBin gAt (fBor 11) (fC (.int 0))) oNone (oSome (fC (.int 2)))) (fTup (aCons (fBin gAt (fBin gAt (fBin gAt (fBor 16) (fC (.int 1))) (fC (.int 0))) (fC (.int 2))) aNil))) aNil)) aNil))) aNil) (lD n ss rs fs gs s6 s7 s8 t s [b] s12 s13 s14 s15 (.va (eS (some (s2, [c])))) (.va (.bool true)) (.va .none) p vn) x = some (.tuple [eS (some (s, [(b.1, b.2.1, c.2.2)]))], x) :=
    fTup_ok (aC1 (fTup_ok (aC2 (vV rfl) (fTup_ok (aC1 (two_fe (fB (vB rfl) rfl (atB0 b [])) (fB a1 rfl (eB_2' c)))) one_ml)) two_ml)) one_ml
  have r2 := fTup_ok (aC2 (vV (i := 2) rfl) (fB r b2 (cat_T (by rw [List.length_set, List.length_map, List.length_singleton]; exact ml _ (by omega))))) two_ml
  simp only [st25, sIf, T]
  refine (sV (i := 18) r2).trans ?_
  simp only [eX, swp, setSc, List.map_append, List.map_set, Int.toNat_natCast, List.map_cons, List.map_nil]
  rfl
theorem swp_pt {s2 : Int} {c : Br} : Pt 5 (eX n (swp ss v s b s2 c)) := by
  have hm := k.m
  refine pt_any n (by unfold swp setSc; rw [List.length_append, List.length_set, List.length_singleton]; omega) fun sc hsc => ?_
  rcases List.mem_append.mp hsc with h | h
  · rcases List.mem_or_eq_of_mem_set h with h | rfl
    · have := k.b2 h; omega
    · simp [bsOf]
  · simp only [List.mem_singleton] at h
    subst h
    simp [bsOf]
theorem alike_r {fa fb : FE} {env : FEn} {z : D} {j : Nat} (ha : fa env x = some (z, x)) (hb : fb env x = some (z, x)) (hp : Pt j z) (hk : j ≤ 8) : ∃ x', sRet (fCall (m_law_alike 9) (aCons fa (aCons fb aNil))) env x = some (.rt (.bool true), x') :=
  ⟨x, sR (fK (m := m_law_alike 9) (aC2 ha hb) (alike_ok 8 (hp.le hk)))⟩
include h7 in
theorem fin_ok {bs' : List Br} (e : scAt ss v = some (s, b :: bs')) {w : Bool} (hf : Fit ss s b bs' w) : ∃ x', sSeq st25 st26 (lD n ss rs fs gs s6 s7 s8 t s (b :: bs') s12 s13 s14 s15 (.va (eS (scAt ss b.2.2))) (.va (.bool w)) (.va .none) p v) x = some (.rt (.bool true), x') := by
  have A : ∀ (s18 : FSl), aCons (fVar 21) (aCons (fVar 22) aNil) (lD n ss rs fs gs s6 s7 s8 t s (b :: bs') s12 s13 s14 s15 (.va (eS (scAt ss b.2.2))) (.va (.bool w)) s18 p v) x = some ([eX n ss, .int v], x) := fun s18 => aC2 (vV rfl) (vV rfl)
  have no : w = false → (m_swapped [eX n ss, .int v] = none ∧ mx_swapped [eX n ss, .int v] = some NM) → ∃ x', sSeq st25 st26 (lD n ss rs fs gs s6 s7 s8 t s (b :: bs') s12 s13 s14 s15 (.va (eS (scAt ss b.2.2))) (.va (.bool w)) (.va .none) p v) x = some (.rt (.bool true), x') := fun hw hx =>
    exq (st25_f k hv ht x hw) (alike_r k hv ht x (j := 0) (told_x (call_none (A _) hx.1) (xcall (A _) hx.2) heNM) (vV rfl) pt_no (by omega))
  cases hf with
  | a h => exact no rfl (swap_x1 k hv (by rw [e]; show (b :: bs').length ≠ 1; cases bs' with | nil => exact absurd rfl h | cons c l => simp))
  | b h0 h => subst h0; exact no rfl (swap_x2 k hv e ht h)
  | c s2 c h0 h =>
    subst h0
    cases hs : shares s b s2 c with
    | true => rw [hs] at no; exact no rfl (swap_x3 k hv e ht h hs)
    | false =>
      rw [hs] at A
      rw [h] at A ⊢
      refine exq (st25_t k hv ht x h7 rfl) (alike_r k hv ht x (j := 5) (told_v (fK (A _) (swap_ok k hv e ht h hs h7))) (vV rfl) (swp_pt k hv ht) (by omega))
end
end Lw
namespace Lw
open PySem RT Wb
theorem law_run {x0 : FRow} (h0 : 0 ≤ x0.a) : ∃ x', b_law (.no :: .rw :: List.replicate 25 .no) x0 = some (.rt (.bool true), x') := by
  unfold b_law
  -- how many actors
  obtain ⟨r, x1, e1, hr, hx1⟩ := takE (env := (.no :: .rw :: List.replicate 25 .no : FEn)) (i := 1) rfl h0 (f := fC (.int 3)) (many := 3) rfl (by omega) (by omega)
  obtain ⟨N, hN⟩ : ∃ N : Nat, 2 + r = (N : Int) := ⟨(2 + r).toNat, by omega⟩
  have q1 : fBin gAdd (fC (.int 2)) (fCallR 1 m_law_taken (aCons (fC (.int 3)) aNil)) (.no :: .rw :: List.replicate 25 .no) x0 = some (.int (N : Int), x1) := by
    rw [← hN]
    exact fBin_eq (fa := fC (.int 2)) rfl e1 rfl
  refine exq (sSet_va (i := 2) q1) ?_
  obtain ⟨E1, hE1⟩ : ∃ E1 : FEn, E1 = (FSl.no :: .rw :: List.replicate 25 .no).set 2 (.va (.int (N : Int))) := ⟨_, rfl⟩
  rw [← hE1]
  have g1 : E1[1]? = some .rw := by rw [hE1]; rfl
  have g2 : E1[2]? = some (.va (.int (N : Int))) := by rw [hE1]; rfl
  -- two scripts
  obtain ⟨ss, x2, e2, hx2, k, _, hl, scs, hss, hc1, hcs⟩ := script_ok3 (n := (N : Int)) (lp := true) (most := 3) (by omega) (by omega) hx1
  obtain ⟨rs, x3, e3, hx3, k', _, hl', _⟩ := script_ok3 (n := (N : Int)) (lp := false) (most := 3) (by omega) (by omega) hx2
  have a2 : fCallR 1 m_law_script (aCons (fVar 2) (aCons (fC (.int 3)) (aCons (fC (.bool true)) aNil))) E1 x1 = some (eX N ss, x2) := fCallR_eq g1 (aC3 (vV g2) rfl rfl) e2
  have a3 : fCallR 1 m_law_script (aCons (fVar 2) (aCons (fC (.int 3)) (aCons (fC (.bool false)) aNil))) E1 x2 = some (eX N rs, x3) := fCallR_eq g1 (aC3 (vV g2) rfl rfl) e3
  refine exq (sPars2 (a := .va (eX N ss)) (b := .va (eX N rs)) (x1 := x2) (x2 := x3) (by simp only [xVal, a2]) (by simp only [xVal, a3])) ?_
  obtain ⟨E2, hE2⟩ : ∃ E2 : FEn, E2 = setsE E1 [21, 19] [.va (eX N ss), .va (eX N rs)] := ⟨_, rfl⟩
  rw [← hE2]
  have h1 : E2[1]? = some .rw := by rw [hE2, hE1]; rfl
  have h2 : E2[2]? = some (.va (.int (N : Int))) := by rw [hE2, hE1]; rfl
  have h21 : E2[21]? = some (.va (eX N ss)) := by rw [hE2, hE1]; rfl
  -- two orders
  obtain ⟨fs, x4, e4, hx4, fn, fl, fr⟩ := law_order_ok (N := N) (by omega) hx3
  obtain ⟨gs, x5, e5, hx5, gn, gl, gr⟩ := law_order_ok (N := 6) (by omega) hx4
  have hA : Nms N fs := ⟨fl, fn, fr⟩
  have hW : Nms 6 gs := ⟨gl, gn, gr⟩
  have b1 : fCallR 1 m_law_order (aCons (fVar 2) aNil) E2 x3 = some (nmsD fs, x4) := fCallR_eq h1 (aC1 (vV h2)) e4
  have b2 : fCallR 1 m_law_order (aCons (fC (.int 6)) aNil) E2 x4 = some (nmsD gs, x5) := fCallR_eq h1 (aC1 (d := .int 6) rfl) e5
  have b3 : fBin gAt (fBor 21) (fC (.int 1)) E2 x5 = some (.tuple (ss.map eS), x5) := fB (vB h21) rfl (eX_1 _ ss)
  have c3 : st3 E2 x3 = some (.nx (lE N ss rs fs gs .no .no .no .no .no .no .no .no .no .no .no .no .no .no .no), x5) := by
    simp only [st3, sPars, xsCons, xVal, b1, b2, b3, xsNil, List.length_cons, List.length_nil, if_true]
    rw [hE2, hE1]; rfl
  refine exq c3 ?_
  refine exq (e1 := lE N ss rs fs gs (.ow (.lst [])) (.ow (.lst [])) .no .no .no .no .no .no .no .no .no .no .no .no .no) (x1 := x5) rfl ?_
  have hN4 : N ≤ 20 := by omega
  obtain ⟨s8, c5⟩ := st5_ok (rs := rs) (s8 := .no) (s9 := .no) (s10 := .no) (s11 := .no) (s12 := .no) (s13 := .no) (s14 := .no) (s15 := .no) (s16 := .no) (s17 := .no) (s18 := .no) (s20 := .no) (s22 := .no) k rfl hN4 hA hW x5
  refine exq c5 ?_
  refine exq (st6_ok k rfl hN4 hA x5) ?_
  refine exq (st7_ok k rfl hN4 hW x5) ?_
  -- a scene
  have hlen : ss.length = scs.length + 1 := by rw [hss]; simp
  have hm := k.m
  obtain ⟨v, x6, e6, hv, hx6⟩ := takE (env := lE N ss rs fs gs (.ow (.lst (ss.map (nwD (nmAt fs) id)))) (.ow (.lst (ss.map (nwD id (nmAt gs))))) s8 .no .no .no .no .no .no .no .no .no .no .no .no) (i := 1) rfl hx5 (f := fBin gSubI (fCall gLen (aCons (fBor 5) aNil)) (fC (.int 1))) (many := (ss.length : Int) - 1) (fB (len5 rfl) rfl rfl) (by omega) (by omega)
  have hv' : 0 ≤ v ∧ v < (ss.length : Int) := by omega
  refine exq (e1 := lE N ss rs fs gs (.ow (.lst (ss.map (nwD (nmAt fs) id)))) (.ow (.lst (ss.map (nwD id (nmAt gs))))) s8 .no .no .no .no .no .no .no .no .no .no .no (.va (.int v))) (sSet_va (i := 22) e6) ?_
  have hsome : ∀ u : Int, 0 ≤ u → u < (ss.length : Int) - 1 → (scAt ss u).isSome = true := fun u u0 u1 => by
    have e := (scAt_mem (ss := ss) (v := u) u0 (by omega)).1
    rw [hss, List.getElem?_append_left (by omega), ← hss] at e
    exact hcs _ (List.mem_of_getElem? e)
  obtain ⟨sq, hsq⟩ := Option.isSome_iff_exists.mp (hsome v hv.1 hv.2)
  obtain ⟨s, bs⟩ := sq
  have hmem := (scAt_mem (ss := ss) (v := v) hv'.1 hv'.2).2
  rw [hsq] at hmem
  obtain ⟨_, bl2, bl1, hb⟩ := k.at hmem
  have c9 : st9 (lE N ss rs fs gs (.ow (.lst (ss.map (nwD (nmAt fs) id)))) (.ow (.lst (ss.map (nwD id (nmAt gs))))) s8 .no .no .no .no .no .no .no .no .no .no .no (.va (.int v))) x6 = some (.nx (lE N ss rs fs gs (.ow (.lst (ss.map (nwD (nmAt fs) id)))) (.ow (.lst (ss.map (nwD id (nmAt gs))))) s8 .no (.va (.int s)) (.va (.tuple (bs.map eB))) .no .no .no .no .no .no .no .no (.va (.int v))), x6) := by
    have q := eX_at (n := (N : Int)) hv'.1 hv'.2
    rw [hsq] at q
    exact unp2' (fB (vB rfl) (vB rfl) q)
  refine exq c9 ?_
  obtain ⟨p, x7, e7, hp, hx7⟩ := takE (env := lE N ss rs fs gs (.ow (.lst (ss.map (nwD (nmAt fs) id)))) (.ow (.lst (ss.map (nwD id (nmAt gs))))) s8 .no (.va (.int s)) (.va (.tuple (bs.map eB))) .no .no .no .no .no .no .no .no (.va (.int v))) (i := 1) rfl hx6 (f := fCall gLen (aCons (fBor 11) aNil)) (many := (bs.length : Int)) (fK (aC1 (vB rfl)) (by rw [len_T, List.length_map])) (by omega) (by omega)
  obtain ⟨t, x8, e8, ht, hx8⟩ := takE (env := lE N ss rs fs gs (.ow (.lst (ss.map (nwD (nmAt fs) id)))) (.ow (.lst (ss.map (nwD id (nmAt gs))))) s8 .no (.va (.int s)) (.va (.tuple (bs.map eB))) .no .no .no .no .no .no .no .no (.va (.int v))) (i := 1) rfl hx7 (f := fCall gLen (aCons (fBor 5) aNil)) (many := (ss.length : Int)) (len5 rfl) (by omega) (by omega)
  obtain ⟨pn, rfl⟩ : ∃ pn : Nat, p = (pn : Int) := ⟨p.toNat, by omega⟩
  have hpn : pn < bs.length := by omega
  refine exq (e1 := lD N ss rs fs gs (.ow (.lst (ss.map (nwD (nmAt fs) id)))) (.ow (.lst (ss.map (nwD id (nmAt gs))))) s8 t s bs .no .no .no .no .no .no .no pn v) (sPars2 (a := .va (.int (pn : Int))) (b := .va (.int t)) (x1 := x7) (x2 := x8) (by simp only [xVal, e7]) (by simp only [xVal, e8])) ?_
  refine exq (st11_ok k hv' hsq hpn x8) ?_
  refine exq (st12_ok k hv' hsq hpn x8) ?_
  refine exq (st13_ok k hv' hsq hpn ht x8) ?_
  refine exq (st14_ok k k' x8) ?_
  refine exq (st15_ok k k' x8 (by omega)) ?_
  refine exq (st16_ok k k' x8 (by omega)) ?_
  refine exq (st17_ok k k' x8) ?_
  refine exq (st18_ok k k' x8) ?_
  refine exq (e1 := lD N ss rs fs gs (.ow (.lst [])) (.ow (.lst (ss.map (nwD id (nmAt gs))))) s8 t s bs (.va (.tuple ((lessB bs pn).map eB))) (.va (.tuple ((ledB bs pn t).map eB))) (.va (.list (mvL (ss.length : Nat) rs))) (.va (.tuple ((cho 0 1 ss rs).map eS))) .no .no .no pn v) (x1 := x8) rfl ?_
  obtain ⟨s8', c20⟩ := st20_ok (rs := rs) (fs := fs) (gs := gs) (s7 := .ow (.lst (ss.map (nwD id (nmAt gs))))) (s8 := s8) (t := t) (s := s) (bs := bs) (s12 := .va (.tuple ((lessB bs pn).map eB))) (s13 := .va (.tuple ((ledB bs pn t).map eB))) (s14 := .va (.list (mvL (ss.length : Nat) rs))) (s15 := .va (.tuple ((cho 0 1 ss rs).map eS))) (s16 := .no) (s17 := .no) (s18 := .no) (p := pn) (v := v) k x8
  refine exq c20 ?_
  have hi0 : isEnd ss 0 = false := by
    have := hsome 0 (by omega) (by omega)
    unfold isEnd
    cases h : scAt ss 0 with
    | none => rw [h] at this; cases this
    | some q => rfl
  refine exq (st21_ok k hi0 x8) ?_
  cases bs with
  | nil => simp at bl1
  | cons b bs' =>
    have htb := k.tt hmem b (by simp [bsOf])
    refine exq (st22_ok k htb x8) ?_
    obtain ⟨w, c23, hf⟩ := st23_ok (rs := rs) (fs := fs) (gs := gs) (s6 := .ow (.lst ((rep ss).map eS))) (s7 := .ow (.lst (ss.map (nwD id (nmAt gs))))) (s8 := s8') (t := t) (s := s) (s12 := .va (.tuple ((lessB (b :: bs') pn).map eB))) (s13 := .va (.tuple ((ledB (b :: bs') pn t).map eB))) (s14 := .va (.list (mvL (ss.length : Nat) rs))) (s15 := .va (.tuple ((cho 0 1 ss rs).map eS))) (s17 := .no) (s18 := .no) (p := pn) (v := v) (bs' := bs') k htb x8
    refine exq c23 ?_
    refine exq (e1 := lD N ss rs fs gs (.ow (.lst ((rep ss).map eS))) (.ow (.lst (ss.map (nwD id (nmAt gs))))) s8' t s (b :: bs') (.va (.tuple ((lessB (b :: bs') pn).map eB))) (.va (.tuple ((ledB (b :: bs') pn t).map eB))) (.va (.list (mvL (ss.length : Nat) rs))) (.va (.tuple ((cho 0 1 ss rs).map eS))) (.va (eS (scAt ss b.2.2))) (.va (.bool w)) (.va .none) pn v) (x1 := x8) rfl ?_
    exact fin_ok k hv' htb x8 (by omega) hsq hf
theorem main (ns : List Int) (h : ns.length ≤ 63) : ∃ x', b_law (.no :: .rw :: List.replicate 25 .no) ⟨ns, 0, 10120, 0⟩ = some (.rt (.bool true), x') := law_run (by simp)
end Lw
namespace Lw
open PySem PySem.Spec PyProof.Rows L2 RT
section
theorem all_mk {l : PySem.W.OpenLaw} {w : World} {K : PySem.W.Frag} {h : Heap} {mg : Str → Option Value} {fa : Addr} (X : K.In h) (G : h.Ns mainGlobals mg) (hfa : mg "law" = some (.ref fa))
    {od_law_taken an_law_taken : Option Addr} {sl_law_taken : Array (Option Value)} {oc_law_taken kV_law_taken dc_law_taken pm_law_taken cd_law_taken ct_law_taken : Value} {f_law_taken : Addr}
    (a_law_taken : PySem.W.nsIn K mainGlobals "_law_taken" = some (some (.ref f_law_taken))) (l_law_taken : K.lookup f_law_taken = some ⟨oc_law_taken, od_law_taken, .func (PySem.W.fnOf "_law_taken" "_law_taken" (defArgs s_law_taken) (defBody s_law_taken) (defScope s_law_taken) .none kV_law_taken dc_law_taken pm_law_taken an_law_taken cd_law_taken ct_law_taken), sl_law_taken⟩) (c_law_taken : PySem.W.codeIn K cd_law_taken "_law_taken" = true) (k_law_taken : PySem.W.keepIn K (.ref f_law_taken) = true)
    {od_law_alike an_law_alike : Option Addr} {sl_law_alike : Array (Option Value)} {oc_law_alike kV_law_alike dc_law_alike pm_law_alike cd_law_alike ct_law_alike : Value} {f_law_alike : Addr}
    (a_law_alike : PySem.W.nsIn K mainGlobals "_law_alike" = some (some (.ref f_law_alike))) (l_law_alike : K.lookup f_law_alike = some ⟨oc_law_alike, od_law_alike, .func (PySem.W.fnOf "_law_alike" "_law_alike" (defArgs s_law_alike) (defBody s_law_alike) (defScope s_law_alike) .none kV_law_alike dc_law_alike pm_law_alike an_law_alike cd_law_alike ct_law_alike), sl_law_alike⟩) (c_law_alike : PySem.W.codeIn K cd_law_alike "_law_alike" = true) (k_law_alike : PySem.W.keepIn K (.ref f_law_alike) = true)
    {od_law_scene an_law_scene : Option Addr} {sl_law_scene : Array (Option Value)} {oc_law_scene kV_law_scene dc_law_scene pm_law_scene cd_law_scene ct_law_scene : Value} {f_law_scene : Addr}
    (a_law_scene : PySem.W.nsIn K mainGlobals "_law_scene" = some (some (.ref f_law_scene))) (l_law_scene : K.lookup f_law_scene = some ⟨oc_law_scene, od_law_scene, .func (PySem.W.fnOf "_law_scene" "_law_scene" (defArgs s_law_scene) (defBody s_law_scene) (defScope s_law_scene) .none kV_law_scene dc_law_scene pm_law_scene an_law_scene cd_law_scene ct_law_scene), sl_law_scene⟩) (c_law_scene : PySem.W.codeIn K cd_law_scene "_law_scene" = true) (k_law_scene : PySem.W.keepIn K (.ref f_law_scene) = true)
    {od_law_script an_law_script : Option Addr} {sl_law_script : Array (Option Value)} {oc_law_script kV_law_script dc_law_script pm_law_script cd_law_script ct_law_script : Value} {f_law_script : Addr}
    (a_law_script : PySem.W.nsIn K mainGlobals "_law_script" = some (some (.ref f_law_script))) (l_law_script : K.lookup f_law_script = some ⟨oc_law_script, od_law_script, .func (PySem.W.fnOf "_law_script" "_law_script" (defArgs s_law_script) (defBody s_law_script) (defScope s_law_script) .none kV_law_script dc_law_script pm_law_script an_law_script cd_law_script ct_law_script), sl_law_script⟩) (c_law_script : PySem.W.codeIn K cd_law_script "_law_script" = true) (k_law_script : PySem.W.keepIn K (.ref f_law_script) = true)
    {od_law_order an_law_order : Option Addr} {sl_law_order : Array (Option Value)} {oc_law_order kV_law_order dc_law_order pm_law_order cd_law_order ct_law_order : Value} {f_law_order : Addr}
    (a_law_order : PySem.W.nsIn K mainGlobals "_law_order" = some (some (.ref f_law_order))) (l_law_order : K.lookup f_law_order = some ⟨oc_law_order, od_law_order, .func (PySem.W.fnOf "_law_order" "_law_order" (defArgs s_law_order) (defBody s_law_order) (defScope s_law_order) .none kV_law_order dc_law_order pm_law_order an_law_order cd_law_order ct_law_order), sl_law_order⟩) (c_law_order : PySem.W.codeIn K cd_law_order "_law_order" = true) (k_law_order : PySem.W.keepIn K (.ref f_law_order) = true)
    {od_law_moved an_law_moved : Option Addr} {sl_law_moved : Array (Option Value)} {oc_law_moved kV_law_moved dc_law_moved pm_law_moved cd_law_moved ct_law_moved : Value} {f_law_moved : Addr}
    (a_law_moved : PySem.W.nsIn K mainGlobals "_law_moved" = some (some (.ref f_law_moved))) (l_law_moved : K.lookup f_law_moved = some ⟨oc_law_moved, od_law_moved, .func (PySem.W.fnOf "_law_moved" "_law_moved" (defArgs s_law_moved) (defBody s_law_moved) (defScope s_law_moved) .none kV_law_moved dc_law_moved pm_law_moved an_law_moved cd_law_moved ct_law_moved), sl_law_moved⟩) (c_law_moved : PySem.W.codeIn K cd_law_moved "_law_moved" = true) (k_law_moved : PySem.W.keepIn K (.ref f_law_moved) = true)
    {od_law_told an_law_told : Option Addr} {sl_law_told : Array (Option Value)} {oc_law_told kV_law_told dc_law_told pm_law_told cd_law_told ct_law_told : Value} {f_law_told : Addr}
    (a_law_told : PySem.W.nsIn K mainGlobals "_law_told" = some (some (.ref f_law_told))) (l_law_told : K.lookup f_law_told = some ⟨oc_law_told, od_law_told, .func (PySem.W.fnOf "_law_told" "_law_told" (defArgs s_law_told) (defBody s_law_told) (defScope s_law_told) .none kV_law_told dc_law_told pm_law_told an_law_told cd_law_told ct_law_told), sl_law_told⟩) (c_law_told : PySem.W.codeIn K cd_law_told "_law_told" = true) (k_law_told : PySem.W.keepIn K (.ref f_law_told) = true)
    {od_has_items an_has_items : Option Addr} {sl_has_items : Array (Option Value)} {oc_has_items kV_has_items dc_has_items pm_has_items cd_has_items ct_has_items : Value} {f_has_items : Addr}
    (a_has_items : PySem.W.nsIn K mainGlobals "has_items" = some (some (.ref f_has_items))) (l_has_items : K.lookup f_has_items = some ⟨oc_has_items, od_has_items, .func (PySem.W.fnOf "has_items" "has_items" (defArgs s_has_items) (defBody s_has_items) (defScope s_has_items) .none kV_has_items dc_has_items pm_has_items an_has_items cd_has_items ct_has_items), sl_has_items⟩) (c_has_items : PySem.W.codeIn K cd_has_items "has_items" = true) (k_has_items : PySem.W.keepIn K (.ref f_has_items) = true)
    {od_is_number an_is_number : Option Addr} {sl_is_number : Array (Option Value)} {oc_is_number kV_is_number dc_is_number pm_is_number cd_is_number ct_is_number : Value} {f_is_number : Addr}
    (a_is_number : PySem.W.nsIn K mainGlobals "is_number" = some (some (.ref f_is_number))) (l_is_number : K.lookup f_is_number = some ⟨oc_is_number, od_is_number, .func (PySem.W.fnOf "is_number" "is_number" (defArgs s_is_number) (defBody s_is_number) (defScope s_is_number) .none kV_is_number dc_is_number pm_is_number an_is_number cd_is_number ct_is_number), sl_is_number⟩) (c_is_number : PySem.W.codeIn K cd_is_number "is_number" = true) (k_is_number : PySem.W.keepIn K (.ref f_is_number) = true)
    {od_has_script_form an_has_script_form : Option Addr} {sl_has_script_form : Array (Option Value)} {oc_has_script_form kV_has_script_form dc_has_script_form pm_has_script_form cd_has_script_form ct_has_script_form : Value} {f_has_script_form : Addr}
    (a_has_script_form : PySem.W.nsIn K mainGlobals "has_script_form" = some (some (.ref f_has_script_form))) (l_has_script_form : K.lookup f_has_script_form = some ⟨oc_has_script_form, od_has_script_form, .func (PySem.W.fnOf "has_script_form" "has_script_form" (defArgs s_has_script_form) (defBody s_has_script_form) (defScope s_has_script_form) .none kV_has_script_form dc_has_script_form pm_has_script_form an_has_script_form cd_has_script_form ct_has_script_form), sl_has_script_form⟩) (c_has_script_form : PySem.W.codeIn K cd_has_script_form "has_script_form" = true) (k_has_script_form : PySem.W.keepIn K (.ref f_has_script_form) = true)
    {od_is_rising an_is_rising : Option Addr} {sl_is_rising : Array (Option Value)} {oc_is_rising kV_is_rising dc_is_rising pm_is_rising cd_is_rising ct_is_rising : Value} {f_is_rising : Addr}
    (a_is_rising : PySem.W.nsIn K mainGlobals "is_rising" = some (some (.ref f_is_rising))) (l_is_rising : K.lookup f_is_rising = some ⟨oc_is_rising, od_is_rising, .func (PySem.W.fnOf "is_rising" "is_rising" (defArgs s_is_rising) (defBody s_is_rising) (defScope s_is_rising) .none kV_is_rising dc_is_rising pm_is_rising an_is_rising cd_is_rising ct_is_rising), sl_is_rising⟩) (c_is_rising : PySem.W.codeIn K cd_is_rising "is_rising" = true) (k_is_rising : PySem.W.keepIn K (.ref f_is_rising) = true)
    {od_is_talk an_is_talk : Option Addr} {sl_is_talk : Array (Option Value)} {oc_is_talk kV_is_talk dc_is_talk pm_is_talk cd_is_talk ct_is_talk : Value} {f_is_talk : Addr}
    (a_is_talk : PySem.W.nsIn K mainGlobals "is_talk" = some (some (.ref f_is_talk))) (l_is_talk : K.lookup f_is_talk = some ⟨oc_is_talk, od_is_talk, .func (PySem.W.fnOf "is_talk" "is_talk" (defArgs s_is_talk) (defBody s_is_talk) (defScope s_is_talk) .none kV_is_talk dc_is_talk pm_is_talk an_is_talk cd_is_talk ct_is_talk), sl_is_talk⟩) (c_is_talk : PySem.W.codeIn K cd_is_talk "is_talk" = true) (k_is_talk : PySem.W.keepIn K (.ref f_is_talk) = true)
    {od_is_branch an_is_branch : Option Addr} {sl_is_branch : Array (Option Value)} {oc_is_branch kV_is_branch dc_is_branch pm_is_branch cd_is_branch ct_is_branch : Value} {f_is_branch : Addr}
    (a_is_branch : PySem.W.nsIn K mainGlobals "is_branch" = some (some (.ref f_is_branch))) (l_is_branch : K.lookup f_is_branch = some ⟨oc_is_branch, od_is_branch, .func (PySem.W.fnOf "is_branch" "is_branch" (defArgs s_is_branch) (defBody s_is_branch) (defScope s_is_branch) .none kV_is_branch dc_is_branch pm_is_branch an_is_branch cd_is_branch ct_is_branch), sl_is_branch⟩) (c_is_branch : PySem.W.codeIn K cd_is_branch "is_branch" = true) (k_is_branch : PySem.W.keepIn K (.ref f_is_branch) = true)
    {od_is_scene an_is_scene : Option Addr} {sl_is_scene : Array (Option Value)} {oc_is_scene kV_is_scene dc_is_scene pm_is_scene cd_is_scene ct_is_scene : Value} {f_is_scene : Addr}
    (a_is_scene : PySem.W.nsIn K mainGlobals "is_scene" = some (some (.ref f_is_scene))) (l_is_scene : K.lookup f_is_scene = some ⟨oc_is_scene, od_is_scene, .func (PySem.W.fnOf "is_scene" "is_scene" (defArgs s_is_scene) (defBody s_is_scene) (defScope s_is_scene) .none kV_is_scene dc_is_scene pm_is_scene an_is_scene cd_is_scene ct_is_scene), sl_is_scene⟩) (c_is_scene : PySem.W.codeIn K cd_is_scene "is_scene" = true) (k_is_scene : PySem.W.keepIn K (.ref f_is_scene) = true)
    {od_check_script an_check_script : Option Addr} {sl_check_script : Array (Option Value)} {oc_check_script kV_check_script dc_check_script pm_check_script cd_check_script ct_check_script : Value} {f_check_script : Addr}
    (a_check_script : PySem.W.nsIn K mainGlobals "check_script" = some (some (.ref f_check_script))) (l_check_script : K.lookup f_check_script = some ⟨oc_check_script, od_check_script, .func (PySem.W.fnOf "check_script" "check_script" (defArgs s_check_script) (defBody s_check_script) (defScope s_check_script) .none kV_check_script dc_check_script pm_check_script an_check_script cd_check_script ct_check_script), sl_check_script⟩) (c_check_script : PySem.W.codeIn K cd_check_script "check_script" = true) (k_check_script : PySem.W.keepIn K (.ref f_check_script) = true)
    {od_check_names an_check_names : Option Addr} {sl_check_names : Array (Option Value)} {oc_check_names kV_check_names dc_check_names pm_check_names cd_check_names ct_check_names : Value} {f_check_names : Addr}
    (a_check_names : PySem.W.nsIn K mainGlobals "check_names" = some (some (.ref f_check_names))) (l_check_names : K.lookup f_check_names = some ⟨oc_check_names, od_check_names, .func (PySem.W.fnOf "check_names" "check_names" (defArgs s_check_names) (defBody s_check_names) (defScope s_check_names) .none kV_check_names dc_check_names pm_check_names an_check_names cd_check_names ct_check_names), sl_check_names⟩) (c_check_names : PySem.W.codeIn K cd_check_names "check_names" = true) (k_check_names : PySem.W.keepIn K (.ref f_check_names) = true)
    {od_with_new_names an_with_new_names : Option Addr} {sl_with_new_names : Array (Option Value)} {oc_with_new_names kV_with_new_names dc_with_new_names pm_with_new_names cd_with_new_names ct_with_new_names : Value} {f_with_new_names : Addr}
    (a_with_new_names : PySem.W.nsIn K mainGlobals "with_new_names" = some (some (.ref f_with_new_names))) (l_with_new_names : K.lookup f_with_new_names = some ⟨oc_with_new_names, od_with_new_names, .func (PySem.W.fnOf "with_new_names" "with_new_names" (defArgs s_with_new_names) (defBody s_with_new_names) (defScope s_with_new_names) .none kV_with_new_names dc_with_new_names pm_with_new_names an_with_new_names cd_with_new_names ct_with_new_names), sl_with_new_names⟩) (c_with_new_names : PySem.W.codeIn K cd_with_new_names "with_new_names" = true) (k_with_new_names : PySem.W.keepIn K (.ref f_with_new_names) = true)
    {od_renamed_actors an_renamed_actors : Option Addr} {sl_renamed_actors : Array (Option Value)} {oc_renamed_actors kV_renamed_actors dc_renamed_actors pm_renamed_actors cd_renamed_actors ct_renamed_actors : Value} {f_renamed_actors : Addr}
    (a_renamed_actors : PySem.W.nsIn K mainGlobals "renamed_actors" = some (some (.ref f_renamed_actors))) (l_renamed_actors : K.lookup f_renamed_actors = some ⟨oc_renamed_actors, od_renamed_actors, .func (PySem.W.fnOf "renamed_actors" "renamed_actors" (defArgs s_renamed_actors) (defBody s_renamed_actors) (defScope s_renamed_actors) .none kV_renamed_actors dc_renamed_actors pm_renamed_actors an_renamed_actors cd_renamed_actors ct_renamed_actors), sl_renamed_actors⟩) (c_renamed_actors : PySem.W.codeIn K cd_renamed_actors "renamed_actors" = true) (k_renamed_actors : PySem.W.keepIn K (.ref f_renamed_actors) = true)
    {od_renamed_words an_renamed_words : Option Addr} {sl_renamed_words : Array (Option Value)} {oc_renamed_words kV_renamed_words dc_renamed_words pm_renamed_words cd_renamed_words ct_renamed_words : Value} {f_renamed_words : Addr}
    (a_renamed_words : PySem.W.nsIn K mainGlobals "renamed_words" = some (some (.ref f_renamed_words))) (l_renamed_words : K.lookup f_renamed_words = some ⟨oc_renamed_words, od_renamed_words, .func (PySem.W.fnOf "renamed_words" "renamed_words" (defArgs s_renamed_words) (defBody s_renamed_words) (defScope s_renamed_words) .none kV_renamed_words dc_renamed_words pm_renamed_words an_renamed_words cd_renamed_words ct_renamed_words), sl_renamed_words⟩) (c_renamed_words : PySem.W.codeIn K cd_renamed_words "renamed_words" = true) (k_renamed_words : PySem.W.keepIn K (.ref f_renamed_words) = true)
    {od_check_scene an_check_scene : Option Addr} {sl_check_scene : Array (Option Value)} {oc_check_scene kV_check_scene dc_check_scene pm_check_scene cd_check_scene ct_check_scene : Value} {f_check_scene : Addr}
    (a_check_scene : PySem.W.nsIn K mainGlobals "check_scene" = some (some (.ref f_check_scene))) (l_check_scene : K.lookup f_check_scene = some ⟨oc_check_scene, od_check_scene, .func (PySem.W.fnOf "check_scene" "check_scene" (defArgs s_check_scene) (defBody s_check_scene) (defScope s_check_scene) .none kV_check_scene dc_check_scene pm_check_scene an_check_scene cd_check_scene ct_check_scene), sl_check_scene⟩) (c_check_scene : PySem.W.codeIn K cd_check_scene "check_scene" = true) (k_check_scene : PySem.W.keepIn K (.ref f_check_scene) = true)
    {od_branches_of an_branches_of : Option Addr} {sl_branches_of : Array (Option Value)} {oc_branches_of kV_branches_of dc_branches_of pm_branches_of cd_branches_of ct_branches_of : Value} {f_branches_of : Addr}
    (a_branches_of : PySem.W.nsIn K mainGlobals "branches_of" = some (some (.ref f_branches_of))) (l_branches_of : K.lookup f_branches_of = some ⟨oc_branches_of, od_branches_of, .func (PySem.W.fnOf "branches_of" "branches_of" (defArgs s_branches_of) (defBody s_branches_of) (defScope s_branches_of) .none kV_branches_of dc_branches_of pm_branches_of an_branches_of cd_branches_of ct_branches_of), sl_branches_of⟩) (c_branches_of : PySem.W.codeIn K cd_branches_of "branches_of" = true) (k_branches_of : PySem.W.keepIn K (.ref f_branches_of) = true)
    {od_check_branch an_check_branch : Option Addr} {sl_check_branch : Array (Option Value)} {oc_check_branch kV_check_branch dc_check_branch pm_check_branch cd_check_branch ct_check_branch : Value} {f_check_branch : Addr}
    (a_check_branch : PySem.W.nsIn K mainGlobals "check_branch" = some (some (.ref f_check_branch))) (l_check_branch : K.lookup f_check_branch = some ⟨oc_check_branch, od_check_branch, .func (PySem.W.fnOf "check_branch" "check_branch" (defArgs s_check_branch) (defBody s_check_branch) (defScope s_check_branch) .none kV_check_branch dc_check_branch pm_check_branch an_check_branch cd_check_branch ct_check_branch), sl_check_branch⟩) (c_check_branch : PySem.W.codeIn K cd_check_branch "check_branch" = true) (k_check_branch : PySem.W.keepIn K (.ref f_check_branch) = true)
    {od_replaced an_replaced : Option Addr} {sl_replaced : Array (Option Value)} {oc_replaced kV_replaced dc_replaced pm_replaced cd_replaced ct_replaced : Value} {f_replaced : Addr}
    (a_replaced : PySem.W.nsIn K mainGlobals "replaced" = some (some (.ref f_replaced))) (l_replaced : K.lookup f_replaced = some ⟨oc_replaced, od_replaced, .func (PySem.W.fnOf "replaced" "replaced" (defArgs s_replaced) (defBody s_replaced) (defScope s_replaced) .none kV_replaced dc_replaced pm_replaced an_replaced cd_replaced ct_replaced), sl_replaced⟩) (c_replaced : PySem.W.codeIn K cd_replaced "replaced" = true) (k_replaced : PySem.W.keepIn K (.ref f_replaced) = true)
    {od_with_branches an_with_branches : Option Addr} {sl_with_branches : Array (Option Value)} {oc_with_branches kV_with_branches dc_with_branches pm_with_branches cd_with_branches ct_with_branches : Value} {f_with_branches : Addr}
    (a_with_branches : PySem.W.nsIn K mainGlobals "with_branches" = some (some (.ref f_with_branches))) (l_with_branches : K.lookup f_with_branches = some ⟨oc_with_branches, od_with_branches, .func (PySem.W.fnOf "with_branches" "with_branches" (defArgs s_with_branches) (defBody s_with_branches) (defScope s_with_branches) .none kV_with_branches dc_with_branches pm_with_branches an_with_branches cd_with_branches ct_with_branches), sl_with_branches⟩) (c_with_branches : PySem.W.codeIn K cd_with_branches "with_branches" = true) (k_with_branches : PySem.W.keepIn K (.ref f_with_branches) = true)
    {od_led an_led : Option Addr} {sl_led : Array (Option Value)} {oc_led kV_led dc_led pm_led cd_led ct_led : Value} {f_led : Addr}
    (a_led : PySem.W.nsIn K mainGlobals "led" = some (some (.ref f_led))) (l_led : K.lookup f_led = some ⟨oc_led, od_led, .func (PySem.W.fnOf "led" "led" (defArgs s_led) (defBody s_led) (defScope s_led) .none kV_led dc_led pm_led an_led cd_led ct_led), sl_led⟩) (c_led : PySem.W.codeIn K cd_led "led" = true) (k_led : PySem.W.keepIn K (.ref f_led) = true)
    {od_renamed_scene an_renamed_scene : Option Addr} {sl_renamed_scene : Array (Option Value)} {oc_renamed_scene kV_renamed_scene dc_renamed_scene pm_renamed_scene cd_renamed_scene ct_renamed_scene : Value} {f_renamed_scene : Addr}
    (a_renamed_scene : PySem.W.nsIn K mainGlobals "renamed_scene" = some (some (.ref f_renamed_scene))) (l_renamed_scene : K.lookup f_renamed_scene = some ⟨oc_renamed_scene, od_renamed_scene, .func (PySem.W.fnOf "renamed_scene" "renamed_scene" (defArgs s_renamed_scene) (defBody s_renamed_scene) (defScope s_renamed_scene) .none kV_renamed_scene dc_renamed_scene pm_renamed_scene an_renamed_scene cd_renamed_scene ct_renamed_scene), sl_renamed_scene⟩) (c_renamed_scene : PySem.W.codeIn K cd_renamed_scene "renamed_scene" = true) (k_renamed_scene : PySem.W.keepIn K (.ref f_renamed_scene) = true)
    {od_repeated an_repeated : Option Addr} {sl_repeated : Array (Option Value)} {oc_repeated kV_repeated dc_repeated pm_repeated cd_repeated ct_repeated : Value} {f_repeated : Addr}
    (a_repeated : PySem.W.nsIn K mainGlobals "repeated" = some (some (.ref f_repeated))) (l_repeated : K.lookup f_repeated = some ⟨oc_repeated, od_repeated, .func (PySem.W.fnOf "repeated" "repeated" (defArgs s_repeated) (defBody s_repeated) (defScope s_repeated) .none kV_repeated dc_repeated pm_repeated an_repeated cd_repeated ct_repeated), sl_repeated⟩) (c_repeated : PySem.W.codeIn K cd_repeated "repeated" = true) (k_repeated : PySem.W.keepIn K (.ref f_repeated) = true)
    {od_only_talk an_only_talk : Option Addr} {sl_only_talk : Array (Option Value)} {oc_only_talk kV_only_talk dc_only_talk pm_only_talk cd_only_talk ct_only_talk : Value} {f_only_talk : Addr}
    (a_only_talk : PySem.W.nsIn K mainGlobals "only_talk" = some (some (.ref f_only_talk))) (l_only_talk : K.lookup f_only_talk = some ⟨oc_only_talk, od_only_talk, .func (PySem.W.fnOf "only_talk" "only_talk" (defArgs s_only_talk) (defBody s_only_talk) (defScope s_only_talk) .none kV_only_talk dc_only_talk pm_only_talk an_only_talk cd_only_talk ct_only_talk), sl_only_talk⟩) (c_only_talk : PySem.W.codeIn K cd_only_talk "only_talk" = true) (k_only_talk : PySem.W.keepIn K (.ref f_only_talk) = true)
    {od_check_scenes an_check_scenes : Option Addr} {sl_check_scenes : Array (Option Value)} {oc_check_scenes kV_check_scenes dc_check_scenes pm_check_scenes cd_check_scenes ct_check_scenes : Value} {f_check_scenes : Addr}
    (a_check_scenes : PySem.W.nsIn K mainGlobals "check_scenes" = some (some (.ref f_check_scenes))) (l_check_scenes : K.lookup f_check_scenes = some ⟨oc_check_scenes, od_check_scenes, .func (PySem.W.fnOf "check_scenes" "check_scenes" (defArgs s_check_scenes) (defBody s_check_scenes) (defScope s_check_scenes) .none kV_check_scenes dc_check_scenes pm_check_scenes an_check_scenes cd_check_scenes ct_check_scenes), sl_check_scenes⟩) (c_check_scenes : PySem.W.codeIn K cd_check_scenes "check_scenes" = true) (k_check_scenes : PySem.W.keepIn K (.ref f_check_scenes) = true)
    {od_swapped an_swapped : Option Addr} {sl_swapped : Array (Option Value)} {oc_swapped kV_swapped dc_swapped pm_swapped cd_swapped ct_swapped : Value} {f_swapped : Addr}
    (a_swapped : PySem.W.nsIn K mainGlobals "swapped" = some (some (.ref f_swapped))) (l_swapped : K.lookup f_swapped = some ⟨oc_swapped, od_swapped, .func (PySem.W.fnOf "swapped" "swapped" (defArgs s_swapped) (defBody s_swapped) (defScope s_swapped) .none kV_swapped dc_swapped pm_swapped an_swapped cd_swapped ct_swapped), sl_swapped⟩) (c_swapped : PySem.W.codeIn K cd_swapped "swapped" = true) (k_swapped : PySem.W.keepIn K (.ref f_swapped) = true)
    {od_without an_without : Option Addr} {sl_without : Array (Option Value)} {oc_without kV_without dc_without pm_without cd_without ct_without : Value} {f_without : Addr}
    (a_without : PySem.W.nsIn K mainGlobals "without" = some (some (.ref f_without))) (l_without : K.lookup f_without = some ⟨oc_without, od_without, .func (PySem.W.fnOf "without" "without" (defArgs s_without) (defBody s_without) (defScope s_without) .none kV_without dc_without pm_without an_without cd_without ct_without), sl_without⟩) (c_without : PySem.W.codeIn K cd_without "without" = true) (k_without : PySem.W.keepIn K (.ref f_without) = true)
    {od_check_actors_alike an_check_actors_alike : Option Addr} {sl_check_actors_alike : Array (Option Value)} {oc_check_actors_alike kV_check_actors_alike dc_check_actors_alike pm_check_actors_alike cd_check_actors_alike ct_check_actors_alike : Value} {f_check_actors_alike : Addr}
    (a_check_actors_alike : PySem.W.nsIn K mainGlobals "check_actors_alike" = some (some (.ref f_check_actors_alike))) (l_check_actors_alike : K.lookup f_check_actors_alike = some ⟨oc_check_actors_alike, od_check_actors_alike, .func (PySem.W.fnOf "check_actors_alike" "check_actors_alike" (defArgs s_check_actors_alike) (defBody s_check_actors_alike) (defScope s_check_actors_alike) .none kV_check_actors_alike dc_check_actors_alike pm_check_actors_alike an_check_actors_alike cd_check_actors_alike ct_check_actors_alike), sl_check_actors_alike⟩) (c_check_actors_alike : PySem.W.codeIn K cd_check_actors_alike "check_actors_alike" = true) (k_check_actors_alike : PySem.W.keepIn K (.ref f_check_actors_alike) = true)
    {od_moved an_moved : Option Addr} {sl_moved : Array (Option Value)} {oc_moved kV_moved dc_moved pm_moved cd_moved ct_moved : Value} {f_moved : Addr}
    (a_moved : PySem.W.nsIn K mainGlobals "moved" = some (some (.ref f_moved))) (l_moved : K.lookup f_moved = some ⟨oc_moved, od_moved, .func (PySem.W.fnOf "moved" "moved" (defArgs s_moved) (defBody s_moved) (defScope s_moved) .none kV_moved dc_moved pm_moved an_moved cd_moved ct_moved), sl_moved⟩) (c_moved : PySem.W.codeIn K cd_moved "moved" = true) (k_moved : PySem.W.keepIn K (.ref f_moved) = true)
    {od_followed_by an_followed_by : Option Addr} {sl_followed_by : Array (Option Value)} {oc_followed_by kV_followed_by dc_followed_by pm_followed_by cd_followed_by ct_followed_by : Value} {f_followed_by : Addr}
    (a_followed_by : PySem.W.nsIn K mainGlobals "followed_by" = some (some (.ref f_followed_by))) (l_followed_by : K.lookup f_followed_by = some ⟨oc_followed_by, od_followed_by, .func (PySem.W.fnOf "followed_by" "followed_by" (defArgs s_followed_by) (defBody s_followed_by) (defScope s_followed_by) .none kV_followed_by dc_followed_by pm_followed_by an_followed_by cd_followed_by ct_followed_by), sl_followed_by⟩) (c_followed_by : PySem.W.codeIn K cd_followed_by "followed_by" = true) (k_followed_by : PySem.W.keepIn K (.ref f_followed_by) = true)
    {od_check_actor an_check_actor : Option Addr} {sl_check_actor : Array (Option Value)} {oc_check_actor kV_check_actor dc_check_actor pm_check_actor cd_check_actor ct_check_actor : Value} {f_check_actor : Addr}
    (a_check_actor : PySem.W.nsIn K mainGlobals "check_actor" = some (some (.ref f_check_actor))) (l_check_actor : K.lookup f_check_actor = some ⟨oc_check_actor, od_check_actor, .func (PySem.W.fnOf "check_actor" "check_actor" (defArgs s_check_actor) (defBody s_check_actor) (defScope s_check_actor) .none kV_check_actor dc_check_actor pm_check_actor an_check_actor cd_check_actor ct_check_actor), sl_check_actor⟩) (c_check_actor : PySem.W.codeIn K cd_check_actor "check_actor" = true) (k_check_actor : PySem.W.keepIn K (.ref f_check_actor) = true)
    {od_chosen an_chosen : Option Addr} {sl_chosen : Array (Option Value)} {oc_chosen kV_chosen dc_chosen pm_chosen cd_chosen ct_chosen : Value} {f_chosen : Addr}
    (a_chosen : PySem.W.nsIn K mainGlobals "chosen" = some (some (.ref f_chosen))) (l_chosen : K.lookup f_chosen = some ⟨oc_chosen, od_chosen, .func (PySem.W.fnOf "chosen" "chosen" (defArgs s_chosen) (defBody s_chosen) (defScope s_chosen) .none kV_chosen dc_chosen pm_chosen an_chosen cd_chosen ct_chosen), sl_chosen⟩) (c_chosen : PySem.W.codeIn K cd_chosen "chosen" = true) (k_chosen : PySem.W.keepIn K (.ref f_chosen) = true)
    {od_law an_law : Option Addr} {sl_law : Array (Option Value)} {oc_law kV_law dc_law pm_law cd_law ct_law : Value} {f_law : Addr}
    (a_law : PySem.W.nsIn K mainGlobals "law" = some (some (.ref f_law))) (l_law : K.lookup f_law = some ⟨oc_law, od_law, .func (PySem.W.fnOf "law" "law" (defArgs s_law) (defBody s_law) (defScope s_law) .none kV_law dc_law pm_law an_law cd_law ct_law), sl_law⟩) (c_law : PySem.W.codeIn K cd_law "law" = true) (k_law : PySem.W.keepIn K (.ref f_law) = true)
    (z_all : PySem.W.nsIn K mainGlobals "all" = some none)
    (z_bool : PySem.W.nsIn K mainGlobals "bool" = some none)
    (z_enumerate : PySem.W.nsIn K mainGlobals "enumerate" = some none)
    (z_int : PySem.W.nsIn K mainGlobals "int" = some none)
    (z_isinstance : PySem.W.nsIn K mainGlobals "isinstance" = some none)
    (z_len : PySem.W.nsIn K mainGlobals "len" = some none)
    (z_list : PySem.W.nsIn K mainGlobals "list" = some none)
    (z_range : PySem.W.nsIn K mainGlobals "range" = some none)
    (z_set : PySem.W.nsIn K mainGlobals "set" = some none)
    (z_sorted : PySem.W.nsIn K mainGlobals "sorted" = some none)
    (z_str : PySem.W.nsIn K mainGlobals "str" = some none)
    (z_tuple : PySem.W.nsIn K mainGlobals "tuple" = some none)
    {t_LAST_WORD : Tok} (q_LAST_WORD : PySem.W.nsIn K mainGlobals "LAST_WORD" = some (some (.int 5 t_LAST_WORD)))
    {t_LEAST_ACTORS : Tok} (q_LEAST_ACTORS : PySem.W.nsIn K mainGlobals "LEAST_ACTORS" = some (some (.int 2 t_LEAST_ACTORS)))
    {t_MOST_ACTORS : Tok} (q_MOST_ACTORS : PySem.W.nsIn K mainGlobals "MOST_ACTORS" = some (some (.int 4 t_MOST_ACTORS)))
    {t_MOST_SCENES : Tok} (q_MOST_SCENES : PySem.W.nsIn K mainGlobals "MOST_SCENES" = some (some (.int 8 t_MOST_SCENES)))
    {C_BadActor : Addr} (aE_BadActor : PySem.W.nsIn K mainGlobals "BadActor" = some (some (.ref C_BadActor))) (sE_BadActor : PySem.W.subIn K (.ref C_BadActor) (.type "BaseException") = some true) (tE_BadActor : PySem.W.typeIn K (.ref C_BadActor) = some (.type "type")) (xE_BadActor : PySem.W.excIn K C_BadActor [.type "ValueError", .type "Exception", .type "BaseException", .type "object"] "ValueError.__new__" = true) (kE_BadActor : PySem.W.keepIn K (.ref C_BadActor) = true) (lE_BadActor : PySem.W.isClsIn K C_BadActor = true) (gE_BadActor : PySem.W.findIn K (.ref C_BadActor) "__getattribute__" = some (some (.builtin "BaseException.__getattribute__"))) (ggE_BadActor : PySem.W.findIn K (.ref C_BadActor) "__getattr__" = some none) (cE_BadActor : PySem.W.findIn K (.ref C_BadActor) "__class__" = some (some (.builtin "object.__class__"))) (mE_BadActor : PySem.W.mroIn K C_BadActor (.type "object") = some true)
    {C_BadBranch : Addr} (aE_BadBranch : PySem.W.nsIn K mainGlobals "BadBranch" = some (some (.ref C_BadBranch))) (sE_BadBranch : PySem.W.subIn K (.ref C_BadBranch) (.type "BaseException") = some true) (tE_BadBranch : PySem.W.typeIn K (.ref C_BadBranch) = some (.type "type")) (xE_BadBranch : PySem.W.excIn K C_BadBranch [.type "ValueError", .type "Exception", .type "BaseException", .type "object"] "ValueError.__new__" = true) (kE_BadBranch : PySem.W.keepIn K (.ref C_BadBranch) = true) (lE_BadBranch : PySem.W.isClsIn K C_BadBranch = true) (gE_BadBranch : PySem.W.findIn K (.ref C_BadBranch) "__getattribute__" = some (some (.builtin "BaseException.__getattribute__"))) (ggE_BadBranch : PySem.W.findIn K (.ref C_BadBranch) "__getattr__" = some none) (cE_BadBranch : PySem.W.findIn K (.ref C_BadBranch) "__class__" = some (some (.builtin "object.__class__"))) (mE_BadBranch : PySem.W.mroIn K C_BadBranch (.type "object") = some true)
    {C_BadScene : Addr} (aE_BadScene : PySem.W.nsIn K mainGlobals "BadScene" = some (some (.ref C_BadScene))) (sE_BadScene : PySem.W.subIn K (.ref C_BadScene) (.type "BaseException") = some true) (tE_BadScene : PySem.W.typeIn K (.ref C_BadScene) = some (.type "type")) (xE_BadScene : PySem.W.excIn K C_BadScene [.type "ValueError", .type "Exception", .type "BaseException", .type "object"] "ValueError.__new__" = true) (kE_BadScene : PySem.W.keepIn K (.ref C_BadScene) = true) (lE_BadScene : PySem.W.isClsIn K C_BadScene = true) (gE_BadScene : PySem.W.findIn K (.ref C_BadScene) "__getattribute__" = some (some (.builtin "BaseException.__getattribute__"))) (ggE_BadScene : PySem.W.findIn K (.ref C_BadScene) "__getattr__" = some none) (cE_BadScene : PySem.W.findIn K (.ref C_BadScene) "__class__" = some (some (.builtin "object.__class__"))) (mE_BadScene : PySem.W.mroIn K C_BadScene (.type "object") = some true)
    {C_BadScript : Addr} (aE_BadScript : PySem.W.nsIn K mainGlobals "BadScript" = some (some (.ref C_BadScript))) (sE_BadScript : PySem.W.subIn K (.ref C_BadScript) (.type "BaseException") = some true) (tE_BadScript : PySem.W.typeIn K (.ref C_BadScript) = some (.type "type")) (kE_BadScript : PySem.W.keepIn K (.ref C_BadScript) = true) (lE_BadScript : PySem.W.isClsIn K C_BadScript = true) (gE_BadScript : PySem.W.findIn K (.ref C_BadScript) "__getattribute__" = some (some (.builtin "BaseException.__getattribute__"))) (ggE_BadScript : PySem.W.findIn K (.ref C_BadScript) "__getattr__" = some none) (cE_BadScript : PySem.W.findIn K (.ref C_BadScript) "__class__" = some (some (.builtin "object.__class__"))) (mE_BadScript : PySem.W.mroIn K C_BadScript (.type "object") = some true)
    {C_NotMade : Addr} (aE_NotMade : PySem.W.nsIn K mainGlobals "NotMade" = some (some (.ref C_NotMade))) (sE_NotMade : PySem.W.subIn K (.ref C_NotMade) (.type "BaseException") = some true) (tE_NotMade : PySem.W.typeIn K (.ref C_NotMade) = some (.type "type")) (xE_NotMade : PySem.W.excIn K C_NotMade [.type "ValueError", .type "Exception", .type "BaseException", .type "object"] "ValueError.__new__" = true) (kE_NotMade : PySem.W.keepIn K (.ref C_NotMade) = true) (lE_NotMade : PySem.W.isClsIn K C_NotMade = true) (gE_NotMade : PySem.W.findIn K (.ref C_NotMade) "__getattribute__" = some (some (.builtin "BaseException.__getattribute__"))) (ggE_NotMade : PySem.W.findIn K (.ref C_NotMade) "__getattr__" = some none) (cE_NotMade : PySem.W.findIn K (.ref C_NotMade) "__class__" = some (some (.builtin "object.__class__"))) (mE_NotMade : PySem.W.mroIn K C_NotMade (.type "object") = some true)
    {C_TalkError : Addr} (aE_TalkError : PySem.W.nsIn K mainGlobals "TalkError" = some (some (.ref C_TalkError))) (sE_TalkError : PySem.W.subIn K (.ref C_TalkError) (.type "BaseException") = some true) (tE_TalkError : PySem.W.typeIn K (.ref C_TalkError) = some (.type "type")) (hE_TalkError : PySem.W.hasDictIn K C_TalkError = true)
    {C_TooMany : Addr} (aE_TooMany : PySem.W.nsIn K mainGlobals "TooMany" = some (some (.ref C_TooMany))) (sE_TooMany : PySem.W.subIn K (.ref C_TooMany) (.type "BaseException") = some true) (tE_TooMany : PySem.W.typeIn K (.ref C_TooMany) = some (.type "type")) (kE_TooMany : PySem.W.keepIn K (.ref C_TooMany) = true) (lE_TooMany : PySem.W.isClsIn K C_TooMany = true) (gE_TooMany : PySem.W.findIn K (.ref C_TooMany) "__getattribute__" = some (some (.builtin "BaseException.__getattribute__"))) (ggE_TooMany : PySem.W.findIn K (.ref C_TooMany) "__getattr__" = some none) (cE_TooMany : PySem.W.findIn K (.ref C_TooMany) "__class__" = some (some (.builtin "object.__class__"))) (mE_TooMany : PySem.W.mroIn K C_TooMany (.type "object") = some true)
    (uE_BadActor : PySem.W.subIn K (.ref C_BadActor) (.ref C_TalkError) = some true) (ktE_BadActor : PySem.W.kitOne K (.ref C_BadActor) (.ref C_NotMade) = some false)
    (uE_BadBranch : PySem.W.subIn K (.ref C_BadBranch) (.ref C_TalkError) = some true) (ktE_BadBranch : PySem.W.kitOne K (.ref C_BadBranch) (.ref C_NotMade) = some false)
    (uE_BadScene : PySem.W.subIn K (.ref C_BadScene) (.ref C_TalkError) = some true) (ktE_BadScene : PySem.W.kitOne K (.ref C_BadScene) (.ref C_NotMade) = some false)
    (uE_BadScript : PySem.W.subIn K (.ref C_BadScript) (.ref C_TalkError) = some true) (ktE_BadScript : PySem.W.kitOne K (.ref C_BadScript) (.ref C_NotMade) = some false)
    (uE_NotMade : PySem.W.subIn K (.ref C_NotMade) (.ref C_TalkError) = some true) (ktE_NotMade : PySem.W.kitOne K (.ref C_NotMade) (.ref C_NotMade) = some true)
    (uE_TooMany : PySem.W.subIn K (.ref C_TooMany) (.ref C_TalkError) = some true) (ktE_TooMany : PySem.W.kitOne K (.ref C_TooMany) (.ref C_NotMade) = some false)
    {nm_BadScript qn_BadScript : Str} {N_BadScript : Addr} {bs_BadScript bm_BadScript : List Value} {sn_BadScript : List Str} {sub_BadScript : List Value} {ab_BadScript : Bool} {col_BadScript : Option Bool} {dd_BadScript : Option Addr} {m0_BadScript m1_BadScript m2_BadScript m3_BadScript m5_BadScript : Option Value}
    {od_EBadScript an_EBadScript : Option Addr} {sl_EBadScript : Array (Option Value)} {oc_EBadScript kV_EBadScript dc_EBadScript pm_EBadScript cd_EBadScript ct_EBadScript : Value} {f_EBadScript : Addr}
    (xL_BadScript : K.lookup C_BadScript = some (excClassObj nm_BadScript qn_BadScript C_BadScript N_BadScript bs_BadScript bm_BadScript true sn_BadScript sub_BadScript ab_BadScript col_BadScript dd_BadScript m0_BadScript m1_BadScript m2_BadScript m3_BadScript m5_BadScript "ValueError.__new__")) (rv_BadScript : PySem.HandSPX.refsVE bm_BadScript = true) (sa_BadScript : PySem.W.findIn K (.ref C_BadScript) "__setattr__" = some (some (.builtin "object.__setattr__"))) (nb_BadScript : PySem.W.findIn K (.ref C_BadScript) "index" = some none)
    (a_EBadScript : PySem.W.findIn K (.ref C_BadScript) "__init__" = some (some (.ref f_EBadScript))) (i_EBadScript : PySem.W.typeIn K (.ref f_EBadScript) = some (.type "function")) (l_EBadScript : K.lookup f_EBadScript = some ⟨oc_EBadScript, od_EBadScript, .func (PySem.W.fnOf "__init__" "BadScript.__init__" (defArgs s_EBadScript) (defBody s_EBadScript) (defScope s_EBadScript) .none kV_EBadScript dc_EBadScript pm_EBadScript an_EBadScript cd_EBadScript ct_EBadScript), sl_EBadScript⟩) (c_EBadScript : PySem.W.codeIn K cd_EBadScript "BadScript.__init__" = true) (k_EBadScript : PySem.W.keepIn K (.ref f_EBadScript) = true)
    {nm_TooMany qn_TooMany : Str} {N_TooMany : Addr} {bs_TooMany bm_TooMany : List Value} {sn_TooMany : List Str} {sub_TooMany : List Value} {ab_TooMany : Bool} {col_TooMany : Option Bool} {dd_TooMany : Option Addr} {m0_TooMany m1_TooMany m2_TooMany m3_TooMany m5_TooMany : Option Value}
    {od_ETooMany an_ETooMany : Option Addr} {sl_ETooMany : Array (Option Value)} {oc_ETooMany kV_ETooMany dc_ETooMany pm_ETooMany cd_ETooMany ct_ETooMany : Value} {f_ETooMany : Addr}
    (xL_TooMany : K.lookup C_TooMany = some (excClassObj nm_TooMany qn_TooMany C_TooMany N_TooMany bs_TooMany bm_TooMany true sn_TooMany sub_TooMany ab_TooMany col_TooMany dd_TooMany m0_TooMany m1_TooMany m2_TooMany m3_TooMany m5_TooMany "ValueError.__new__")) (rv_TooMany : PySem.HandSPX.refsVE bm_TooMany = true) (sa_TooMany : PySem.W.findIn K (.ref C_TooMany) "__setattr__" = some (some (.builtin "object.__setattr__"))) (nb_TooMany : PySem.W.findIn K (.ref C_TooMany) "most" = some none)
    (a_ETooMany : PySem.W.findIn K (.ref C_TooMany) "__init__" = some (some (.ref f_ETooMany))) (i_ETooMany : PySem.W.typeIn K (.ref f_ETooMany) = some (.type "function")) (l_ETooMany : K.lookup f_ETooMany = some ⟨oc_ETooMany, od_ETooMany, .func (PySem.W.fnOf "__init__" "TooMany.__init__" (defArgs s_ETooMany) (defBody s_ETooMany) (defScope s_ETooMany) .none kV_ETooMany dc_ETooMany pm_ETooMany an_ETooMany cd_ETooMany ct_ETooMany), sl_ETooMany⟩) (c_ETooMany : PySem.W.codeIn K cd_ETooMany "TooMany.__init__" = true) (k_ETooMany : PySem.W.keepIn K (.ref f_ETooMany) = true)
    (rdT : PySem.W.readsIn K C_TalkError (.type "type") = true) (spT : PySem.W.specialIn K (.ref C_TalkError) "__getattribute__" = some (some (.builtin "type.__getattribute__"))) (vT : PySem.W.findCls K (.ref C_TalkError) (.type "type") "__init__" = some (.val (.builtin "ValueError.__init__")))
    (spE : PySem.W.specialIn K (.builtin "object.__class__") "__get__" = some (some (.builtin "getset_descriptor.__get__"))) (tkE : PySem.W.takesIn K (.builtin "object.__class__") = some true)
    {cc_law pp_law : Addr} (ti_law : PySem.W.tabIn K "law" = some (cc_law, pp_law)) :
    ∃ fd : FuncData, (∀ (s : Shared) (v : Value), BindsTo s fd ⟨[v], []⟩ [("script", v)]) ∧ ∀ base : Heap, K.In base → base.Ns mainGlobals mg → (∀ p ∈ ([(cc_law, pp_law)] : List (Addr × Addr)), LamX.TabB base mg p.1 p.2) → FnOk l.prog w K mg base CX0 11 fa fd ["script"] (spLaw K b_law 25 10120) := by
  have e := hfa.symm.trans (PySem.W.mg_of X G a_law)
  cases e
  have F_law_taken := fun_mk (st := s_law_taken) l_law_taken c_law_taken k_law_taken
  have F_law_alike := fun_mk (st := s_law_alike) l_law_alike c_law_alike k_law_alike
  have F_law_scene := fun_mk (st := s_law_scene) l_law_scene c_law_scene k_law_scene
  have F_law_script := fun_mk (st := s_law_script) l_law_script c_law_script k_law_script
  have F_law_order := fun_mk (st := s_law_order) l_law_order c_law_order k_law_order
  have F_law_moved := fun_mk (st := s_law_moved) l_law_moved c_law_moved k_law_moved
  have F_law_told := fun_mk (st := s_law_told) l_law_told c_law_told k_law_told
  have F_has_items := fun_mk (st := s_has_items) l_has_items c_has_items k_has_items
  have F_is_number := fun_mk (st := s_is_number) l_is_number c_is_number k_is_number
  have F_has_script_form := fun_mk (st := s_has_script_form) l_has_script_form c_has_script_form k_has_script_form
  have F_is_rising := fun_mk (st := s_is_rising) l_is_rising c_is_rising k_is_rising
  have F_is_talk := fun_mk (st := s_is_talk) l_is_talk c_is_talk k_is_talk
  have F_is_branch := fun_mk (st := s_is_branch) l_is_branch c_is_branch k_is_branch
  have F_is_scene := fun_mk (st := s_is_scene) l_is_scene c_is_scene k_is_scene
  have F_check_script := fun_mk (st := s_check_script) l_check_script c_check_script k_check_script
  have F_check_names := fun_mk (st := s_check_names) l_check_names c_check_names k_check_names
  have F_with_new_names := fun_mk (st := s_with_new_names) l_with_new_names c_with_new_names k_with_new_names
  have F_renamed_actors := fun_mk (st := s_renamed_actors) l_renamed_actors c_renamed_actors k_renamed_actors
  have F_renamed_words := fun_mk (st := s_renamed_words) l_renamed_words c_renamed_words k_renamed_words
  have F_check_scene := fun_mk (st := s_check_scene) l_check_scene c_check_scene k_check_scene
  have F_branches_of := fun_mk (st := s_branches_of) l_branches_of c_branches_of k_branches_of
  have F_check_branch := fun_mk (st := s_check_branch) l_check_branch c_check_branch k_check_branch
  have F_replaced := fun_mk (st := s_replaced) l_replaced c_replaced k_replaced
  have F_with_branches := fun_mk (st := s_with_branches) l_with_branches c_with_branches k_with_branches
  have F_led := fun_mk (st := s_led) l_led c_led k_led
  have F_renamed_scene := fun_mk (st := s_renamed_scene) l_renamed_scene c_renamed_scene k_renamed_scene
  have F_repeated := fun_mk (st := s_repeated) l_repeated c_repeated k_repeated
  have F_only_talk := fun_mk (st := s_only_talk) l_only_talk c_only_talk k_only_talk
  have F_check_scenes := fun_mk (st := s_check_scenes) l_check_scenes c_check_scenes k_check_scenes
  have F_swapped := fun_mk (st := s_swapped) l_swapped c_swapped k_swapped
  have F_without := fun_mk (st := s_without) l_without c_without k_without
  have F_check_actors_alike := fun_mk (st := s_check_actors_alike) l_check_actors_alike c_check_actors_alike k_check_actors_alike
  have F_moved := fun_mk (st := s_moved) l_moved c_moved k_moved
  have F_followed_by := fun_mk (st := s_followed_by) l_followed_by c_followed_by k_followed_by
  have F_check_actor := fun_mk (st := s_check_actor) l_check_actor c_check_actor k_check_actor
  have F_chosen := fun_mk (st := s_chosen) l_chosen c_chosen k_chosen
  have F_law := fun_mk (st := s_law) l_law c_law k_law
  have F_EBadScript := fun_mk (st := s_EBadScript) l_EBadScript c_EBadScript k_EBadScript
  have b_EBadScript := F_EBadScript.binds (ps := ["self", "index"]) fun _ _ _ _ _ _ us hl => match us, hl with | [_, _], _ => rfl
  have EI_BadScript : ∀ base : Heap, ErrI l.prog w K mg base "BadScript" "index" := fun base => ⟨C_BadScript, f_EBadScript, _, aE_BadScript, PySem.W.mg_of X G aE_BadScript, ⟨⟨_, _, _, _, _, _, _, _, _, _, _, _, _, _, _, xL_BadScript, rv_BadScript⟩, sa_BadScript, sE_BadScript, tE_BadScript, kE_BadScript⟩, a_EBadScript, i_EBadScript, ok_initE F_EBadScript sc_EBadScript rfl (fun _ => rfl) (Or.inl rfl) (Or.inl rfl) (by decide) rfl (PySem.W.mg_of X G aE_TalkError) rdT spT vT ⟨by decide, by decide⟩, b_EBadScript, nb_BadScript⟩
  have F_ETooMany := fun_mk (st := s_ETooMany) l_ETooMany c_ETooMany k_ETooMany
  have b_ETooMany := F_ETooMany.binds (ps := ["self", "most"]) fun _ _ _ _ _ _ us hl => match us, hl with | [_, _], _ => rfl
  have EI_TooMany : ∀ base : Heap, ErrI l.prog w K mg base "TooMany" "most" := fun base => ⟨C_TooMany, f_ETooMany, _, aE_TooMany, PySem.W.mg_of X G aE_TooMany, ⟨⟨_, _, _, _, _, _, _, _, _, _, _, _, _, _, _, xL_TooMany, rv_TooMany⟩, sa_TooMany, sE_TooMany, tE_TooMany, kE_TooMany⟩, a_ETooMany, i_ETooMany, ok_initE F_ETooMany sc_ETooMany rfl (fun _ => rfl) (Or.inl rfl) (Or.inl rfl) (by decide) rfl (PySem.W.mg_of X G aE_TalkError) rdT spT vT ⟨by decide, by decide⟩, b_ETooMany, nb_TooMany⟩
  have b_law_taken := F_law_taken.binds (ps := ["row", "many"]) fun _ _ _ _ _ _ us hl => match us, hl with | [_, _], _ => rfl
  have C_law_taken : ∀ base : Heap, (∀ p ∈ ([(cc_law, pp_law)] : List (Addr × Addr)), LamX.TabB base mg p.1 p.2) → Callee l.prog w K mg base 1 "_law_taken" (spR K m_law_taken) := fun base tbs => ⟨f_law_taken, _, _, ok_law_taken (k := 0) F_law_taken (PySem.W.mg_none_of X G z_int) (PySem.W.mg_none_of X G z_len), PySem.W.mg_of X G a_law_taken, k_law_taken, b_law_taken⟩
  have b_law_alike := F_law_alike.binds (ps := ["found", "due"]) fun _ _ _ _ _ _ us hl => match us, hl with | [_, _], _ => rfl
  have C_law_alike : ∀ base : Heap, (∀ p ∈ ([(cc_law, pp_law)] : List (Addr × Addr)), LamX.TabB base mg p.1 p.2) → Callee l.prog w K mg base 10 "_law_alike" (spF K (m_law_alike 9)) := fun base tbs => ⟨f_law_alike, _, _, ok_law_alike (k := 1) F_law_alike (PySem.W.mg_of X G a_law_alike) b_law_alike (PySem.W.mg_none_of X G z_isinstance) (PySem.W.mg_none_of X G z_bool) (PySem.W.mg_none_of X G z_int) (PySem.W.mg_none_of X G z_str) (PySem.W.mg_none_of X G z_tuple) (PySem.W.mg_none_of X G z_list) (PySem.W.mg_none_of X G z_range) (PySem.W.mg_none_of X G z_len) 9, PySem.W.mg_of X G a_law_alike, k_law_alike, b_law_alike⟩
  have b_law_scene := F_law_scene.binds (ps := ["row", "actors", "at", "size", "loops"]) fun _ _ _ _ _ _ us hl => match us, hl with | [_, _, _, _, _], _ => rfl
  have C_law_scene : ∀ base : Heap, (∀ p ∈ ([(cc_law, pp_law)] : List (Addr × Addr)), LamX.TabB base mg p.1 p.2) → Callee l.prog w K mg base 2 "_law_scene" (spR K m_law_scene) := fun base tbs => ⟨f_law_scene, _, _, ok_law_scene (k := 1) F_law_scene ((C_law_taken base tbs).mono (by decide)) (PySem.W.mg_none_of X G z_tuple) (PySem.W.mg_none_of X G z_sorted) (PySem.W.mg_none_of X G z_list) (PySem.W.mg_none_of X G z_range) (PySem.W.mg_none_of X G z_int), PySem.W.mg_of X G a_law_scene, k_law_scene, b_law_scene⟩
  have b_law_script := F_law_script.binds (ps := ["row", "actors", "most", "loops"]) fun _ _ _ _ _ _ us hl => match us, hl with | [_, _, _, _], _ => rfl
  have C_law_script : ∀ base : Heap, (∀ p ∈ ([(cc_law, pp_law)] : List (Addr × Addr)), LamX.TabB base mg p.1 p.2) → Callee l.prog w K mg base 3 "_law_script" (spR K m_law_script) := fun base tbs => ⟨f_law_script, _, _, ok_law_script (k := 2) F_law_script ((C_law_scene base tbs).mono (by decide)) ((C_law_taken base tbs).mono (by decide)) (PySem.W.mg_none_of X G z_tuple) (PySem.W.mg_none_of X G z_range), PySem.W.mg_of X G a_law_script, k_law_script, b_law_script⟩
  have b_law_order := F_law_order.binds (ps := ["row", "many"]) fun _ _ _ _ _ _ us hl => match us, hl with | [_, _], _ => rfl
  have C_law_order : ∀ base : Heap, (∀ p ∈ ([(cc_law, pp_law)] : List (Addr × Addr)), LamX.TabB base mg p.1 p.2) → Callee l.prog w K mg base 2 "_law_order" (spR K m_law_order) := fun base tbs => ⟨f_law_order, _, _, ok_law_order (k := 1) F_law_order ((C_law_taken base tbs).mono (by decide)) (PySem.W.mg_none_of X G z_tuple) (PySem.W.mg_none_of X G z_range) (PySem.W.mg_none_of X G z_len) (PySem.W.mg_none_of X G z_list), PySem.W.mg_of X G a_law_order, k_law_order, b_law_order⟩
  have b_law_moved := F_law_moved.binds (ps := ["told", "base"]) fun _ _ _ _ _ _ us hl => match us, hl with | [_, _], _ => rfl
  have C_law_moved : ∀ base : Heap, (∀ p ∈ ([(cc_law, pp_law)] : List (Addr × Addr)), LamX.TabB base mg p.1 p.2) → Callee l.prog w K mg base 1 "_law_moved" (spF K m_law_moved) := fun base tbs => ⟨f_law_moved, _, _, ok_law_moved (k := 0) F_law_moved (PySem.W.mg_none_of X G z_tuple), PySem.W.mg_of X G a_law_moved, k_law_moved, b_law_moved⟩
  have b_law_told := F_law_told.binds (ps := ["work"]) fun _ _ _ _ _ _ us hl => match us, hl with | [_], _ => rfl
  have T_law_told : Teller K mg "_law_told" (TTA K C_TalkError C_NotMade (Str.ofString "other")) := teller_A F_law_told (PySem.W.mg_of X G a_law_told) b_law_told sc_law_told rfl (Or.inl rfl) rfl rfl rfl rfl (PySem.W.mg_of X G aE_TalkError) rfl (PySem.W.mg_of X G aE_NotMade) rfl (PySem.W.mg_none_of X G z_isinstance) ⟨by decide, by decide⟩ ⟨by decide, by decide⟩ (by decide) (by decide) (fun _ => rfl)
  have hL_law_told : ∀ p ∈ LE, ErrA K C_TalkError C_NotMade p.1 p.2 := by unfold LE; exact (List.forall_mem_cons.mpr ⟨errA_mk aE_BadActor lE_BadActor gE_BadActor ggE_BadActor sE_BadActor cE_BadActor spE tkE mE_BadActor sE_TalkError hE_TalkError tE_TalkError uE_BadActor ktE_BadActor, (List.forall_mem_cons.mpr ⟨errA_mk aE_BadBranch lE_BadBranch gE_BadBranch ggE_BadBranch sE_BadBranch cE_BadBranch spE tkE mE_BadBranch sE_TalkError hE_TalkError tE_TalkError uE_BadBranch ktE_BadBranch, (List.forall_mem_cons.mpr ⟨errA_mk aE_BadScene lE_BadScene gE_BadScene ggE_BadScene sE_BadScene cE_BadScene spE tkE mE_BadScene sE_TalkError hE_TalkError tE_TalkError uE_BadScene ktE_BadScene, (List.forall_mem_cons.mpr ⟨errA_mk aE_BadScript lE_BadScript gE_BadScript ggE_BadScript sE_BadScript cE_BadScript spE tkE mE_BadScript sE_TalkError hE_TalkError tE_TalkError uE_BadScript ktE_BadScript, (List.forall_mem_cons.mpr ⟨errA_mk aE_NotMade lE_NotMade gE_NotMade ggE_NotMade sE_NotMade cE_NotMade spE tkE mE_NotMade sE_TalkError hE_TalkError tE_TalkError uE_NotMade ktE_NotMade, (List.forall_mem_cons.mpr ⟨errA_mk aE_TooMany lE_TooMany gE_TooMany ggE_TooMany sE_TooMany cE_TooMany spE tkE mE_TooMany sE_TalkError hE_TalkError tE_TalkError uE_TooMany ktE_TooMany, (fun _ h => nomatch h)⟩)⟩)⟩)⟩)⟩)⟩)
  have b_has_items := F_has_items.binds (ps := ["value", "least", "most"]) fun _ _ _ _ _ _ us hl => match us, hl with | [_, _, _], _ => rfl
  have C_has_items : ∀ base : Heap, (∀ p ∈ ([(cc_law, pp_law)] : List (Addr × Addr)), LamX.TabB base mg p.1 p.2) → Callee l.prog w K mg base 1 "has_items" (spF K m_has_items) := fun base tbs => ⟨f_has_items, _, _, ok_has_items (k := 0) F_has_items (PySem.W.mg_none_of X G z_len) (PySem.W.mg_none_of X G z_isinstance) (PySem.W.mg_none_of X G z_tuple), PySem.W.mg_of X G a_has_items, k_has_items, b_has_items⟩
  have b_is_number := F_is_number.binds (ps := ["value", "least", "most"]) fun _ _ _ _ _ _ us hl => match us, hl with | [_, _, _], _ => rfl
  have C_is_number : ∀ base : Heap, (∀ p ∈ ([(cc_law, pp_law)] : List (Addr × Addr)), LamX.TabB base mg p.1 p.2) → Callee l.prog w K mg base 1 "is_number" (spF K m_is_number) := fun base tbs => ⟨f_is_number, _, _, ok_is_number (k := 0) F_is_number (PySem.W.mg_none_of X G z_isinstance) (PySem.W.mg_none_of X G z_bool) (PySem.W.mg_none_of X G z_int), PySem.W.mg_of X G a_is_number, k_is_number, b_is_number⟩
  have b_has_script_form := F_has_script_form.binds (ps := ["value"]) fun _ _ _ _ _ _ us hl => match us, hl with | [_], _ => rfl
  have C_has_script_form : ∀ base : Heap, (∀ p ∈ ([(cc_law, pp_law)] : List (Addr × Addr)), LamX.TabB base mg p.1 p.2) → Callee l.prog w K mg base 2 "has_script_form" (spF K m_has_script_form) := fun base tbs => ⟨f_has_script_form, _, _, ok_has_script_form (k := 1) F_has_script_form ((C_has_items base tbs).mono (by decide)) ((C_is_number base tbs).mono (by decide)) (PySem.W.mg_of X G q_MOST_SCENES) (PySem.W.mg_of X G q_MOST_ACTORS) (PySem.W.mg_of X G q_LEAST_ACTORS), PySem.W.mg_of X G a_has_script_form, k_has_script_form, b_has_script_form⟩
  have b_is_rising := F_is_rising.binds (ps := ["values"]) fun _ _ _ _ _ _ us hl => match us, hl with | [_], _ => rfl
  have C_is_rising : ∀ base : Heap, (∀ p ∈ ([(cc_law, pp_law)] : List (Addr × Addr)), LamX.TabB base mg p.1 p.2) → Callee l.prog w K mg base 1 "is_rising" (spF K m_is_rising) := fun base tbs => ⟨f_is_rising, _, _, ok_is_rising (k := 0) F_is_rising (PySem.W.mg_none_of X G z_all) (PySem.W.mg_none_of X G z_range) (PySem.W.mg_none_of X G z_len), PySem.W.mg_of X G a_is_rising, k_is_rising, b_is_rising⟩
  have b_is_talk := F_is_talk.binds (ps := ["value", "actors"]) fun _ _ _ _ _ _ us hl => match us, hl with | [_, _], _ => rfl
  have C_is_talk : ∀ base : Heap, (∀ p ∈ ([(cc_law, pp_law)] : List (Addr × Addr)), LamX.TabB base mg p.1 p.2) → Callee l.prog w K mg base 2 "is_talk" (spF K m_is_talk) := fun base tbs => ⟨f_is_talk, _, _, ok_is_talk (k := 1) F_is_talk ((C_is_number base tbs).mono (by decide)) ((C_has_items base tbs).mono (by decide)) (PySem.W.mg_of X G q_LAST_WORD), PySem.W.mg_of X G a_is_talk, k_is_talk, b_is_talk⟩
  have b_is_branch := F_is_branch.binds (ps := ["value", "speaker", "actors", "many"]) fun _ _ _ _ _ _ us hl => match us, hl with | [_, _, _, _], _ => rfl
  have C_is_branch : ∀ base : Heap, (∀ p ∈ ([(cc_law, pp_law)] : List (Addr × Addr)), LamX.TabB base mg p.1 p.2) → Callee l.prog w K mg base 3 "is_branch" (spF K m_is_branch) := fun base tbs => ⟨f_is_branch, _, _, ok_is_branch (k := 2) F_is_branch ((C_is_number base tbs).mono (by decide)) ((C_is_talk base tbs).mono (by decide)) ((C_has_items base tbs).mono (by decide)), PySem.W.mg_of X G a_is_branch, k_is_branch, b_is_branch⟩
  have b_is_scene := F_is_scene.binds (ps := ["value", "actors", "many"]) fun _ _ _ _ _ _ us hl => match us, hl with | [_, _, _], _ => rfl
  have C_is_scene : ∀ base : Heap, (∀ p ∈ ([(cc_law, pp_law)] : List (Addr × Addr)), LamX.TabB base mg p.1 p.2) → Callee l.prog w K mg base 4 "is_scene" (spF K m_is_scene) := fun base tbs => ⟨f_is_scene, _, _, ok_is_scene (k := 3) F_is_scene ((C_is_rising base tbs).mono (by decide)) ((C_is_branch base tbs).mono (by decide)) ((C_has_items base tbs).mono (by decide)) (PySem.W.mg_none_of X G z_all) (PySem.W.mg_none_of X G z_len) (PySem.W.mg_none_of X G z_isinstance) (PySem.W.mg_none_of X G z_tuple), PySem.W.mg_of X G a_is_scene, k_is_scene, b_is_scene⟩
  have b_check_script := F_check_script.binds (ps := ["script"]) fun _ _ _ _ _ _ us hl => match us, hl with | [_], _ => rfl
  have C_check_script : ∀ base : Heap, (∀ p ∈ ([(cc_law, pp_law)] : List (Addr × Addr)), LamX.TabB base mg p.1 p.2) → Callee l.prog w K mg base 5 "check_script" (spF K m_check_script) := fun base tbs => ⟨f_check_script, _, _, ok_check_script (k := 4) F_check_script ((C_is_scene base tbs).mono (by decide)) ((C_has_script_form base tbs).mono (by decide)) (PySem.W.mg_none_of X G z_enumerate) (PySem.W.mg_none_of X G z_len), PySem.W.mg_of X G a_check_script, k_check_script, b_check_script⟩
  have CX_check_script : ∀ base : Heap, (∀ p ∈ ([(cc_law, pp_law)] : List (Addr × Addr)), LamX.TabB base mg p.1 p.2) → CalleeX l.prog w K mg base 5 "check_script" (spX K mx_check_script) := fun base tbs => ⟨f_check_script, _, _, okx_check_script (k := 4) F_check_script ((C_has_script_form base tbs).mono (by decide)) ((C_is_scene base tbs).mono (by decide)) (PySem.W.mg_none_of X G z_len) (PySem.W.mg_none_of X G z_enumerate) (EI_BadScript base) (by decide), PySem.W.mg_of X G a_check_script, k_check_script, b_check_script⟩
  have b_check_names := F_check_names.binds (ps := ["names", "many"]) fun _ _ _ _ _ _ us hl => match us, hl with | [_, _], _ => rfl
  have C_check_names : ∀ base : Heap, (∀ p ∈ ([(cc_law, pp_law)] : List (Addr × Addr)), LamX.TabB base mg p.1 p.2) → Callee l.prog w K mg base 2 "check_names" (spF K m_check_names) := fun base tbs => ⟨f_check_names, _, _, ok_check_names (k := 1) F_check_names ((C_is_number base tbs).mono (by decide)) ((C_has_items base tbs).mono (by decide)) (PySem.W.mg_none_of X G z_len) (PySem.W.mg_none_of X G z_set) (PySem.W.mg_none_of X G z_all), PySem.W.mg_of X G a_check_names, k_check_names, b_check_names⟩
  have b_with_new_names := F_with_new_names.binds (ps := ["script", "actors", "words"]) fun _ _ _ _ _ _ us hl => match us, hl with | [_, _, _], _ => rfl
  have C_with_new_names : ∀ base : Heap, (∀ p ∈ ([(cc_law, pp_law)] : List (Addr × Addr)), LamX.TabB base mg p.1 p.2) → Callee l.prog w K mg base 1 "with_new_names" (spF K m_with_new_names) := fun base tbs => ⟨f_with_new_names, _, _, ok_with_new_names (k := 0) F_with_new_names (PySem.W.mg_none_of X G z_tuple) (PySem.W.mg_none_of X G z_sorted), PySem.W.mg_of X G a_with_new_names, k_with_new_names, b_with_new_names⟩
  have b_renamed_actors := F_renamed_actors.binds (ps := ["script", "names"]) fun _ _ _ _ _ _ us hl => match us, hl with | [_, _], _ => rfl
  have C_renamed_actors : ∀ base : Heap, (∀ p ∈ ([(cc_law, pp_law)] : List (Addr × Addr)), LamX.TabB base mg p.1 p.2) → Callee l.prog w K mg base 6 "renamed_actors" (spF K m_renamed_actors) := fun base tbs => ⟨f_renamed_actors, _, _, ok_renamed_actors (k := 5) F_renamed_actors ((C_with_new_names base tbs).mono (by decide)) ((C_check_names base tbs).mono (by decide)) ((C_check_script base tbs).mono (by decide)) (PySem.W.mg_none_of X G z_list) (PySem.W.mg_none_of X G z_range) (PySem.W.mg_of X G q_LAST_WORD), PySem.W.mg_of X G a_renamed_actors, k_renamed_actors, b_renamed_actors⟩
  have b_renamed_words := F_renamed_words.binds (ps := ["script", "names"]) fun _ _ _ _ _ _ us hl => match us, hl with | [_, _], _ => rfl
  have C_renamed_words : ∀ base : Heap, (∀ p ∈ ([(cc_law, pp_law)] : List (Addr × Addr)), LamX.TabB base mg p.1 p.2) → Callee l.prog w K mg base 6 "renamed_words" (spF K m_renamed_words) := fun base tbs => ⟨f_renamed_words, _, _, ok_renamed_words (k := 5) F_renamed_words ((C_with_new_names base tbs).mono (by decide)) ((C_check_names base tbs).mono (by decide)) ((C_check_script base tbs).mono (by decide)) (PySem.W.mg_none_of X G z_list) (PySem.W.mg_none_of X G z_range) (PySem.W.mg_of X G q_LAST_WORD), PySem.W.mg_of X G a_renamed_words, k_renamed_words, b_renamed_words⟩
  have b_check_scene := F_check_scene.binds (ps := ["scene", "script"]) fun _ _ _ _ _ _ us hl => match us, hl with | [_, _], _ => rfl
  have C_check_scene : ∀ base : Heap, (∀ p ∈ ([(cc_law, pp_law)] : List (Addr × Addr)), LamX.TabB base mg p.1 p.2) → Callee l.prog w K mg base 2 "check_scene" (spF K m_check_scene) := fun base tbs => ⟨f_check_scene, _, _, ok_check_scene (k := 1) F_check_scene ((C_is_number base tbs).mono (by decide)) (PySem.W.mg_none_of X G z_len), PySem.W.mg_of X G a_check_scene, k_check_scene, b_check_scene⟩
  have CX_check_scene : ∀ base : Heap, (∀ p ∈ ([(cc_law, pp_law)] : List (Addr × Addr)), LamX.TabB base mg p.1 p.2) → CalleeX l.prog w K mg base 2 "check_scene" (spX K mx_check_scene) := fun base tbs => ⟨f_check_scene, _, _, okx_check_scene (k := 1) F_check_scene ((C_is_number base tbs).mono (by decide)) (PySem.W.mg_none_of X G z_len) (errK_mk aE_BadScene (PySem.W.mg_of X G aE_BadScene) xE_BadScene kE_BadScene sE_BadScene tE_BadScene), PySem.W.mg_of X G a_check_scene, k_check_scene, b_check_scene⟩
  have b_branches_of := F_branches_of.binds (ps := ["scene"]) fun _ _ _ _ _ _ us hl => match us, hl with | [_], _ => rfl
  have C_branches_of : ∀ base : Heap, (∀ p ∈ ([(cc_law, pp_law)] : List (Addr × Addr)), LamX.TabB base mg p.1 p.2) → Callee l.prog w K mg base 1 "branches_of" (spF K m_branches_of) := fun base tbs => ⟨f_branches_of, _, _, ok_branches_of (k := 0) F_branches_of, PySem.W.mg_of X G a_branches_of, k_branches_of, b_branches_of⟩
  have b_check_branch := F_check_branch.binds (ps := ["script", "scene", "place"]) fun _ _ _ _ _ _ us hl => match us, hl with | [_, _, _], _ => rfl
  have C_check_branch : ∀ base : Heap, (∀ p ∈ ([(cc_law, pp_law)] : List (Addr × Addr)), LamX.TabB base mg p.1 p.2) → Callee l.prog w K mg base 6 "check_branch" (spF K m_check_branch) := fun base tbs => ⟨f_check_branch, _, _, ok_check_branch (k := 5) F_check_branch ((C_is_number base tbs).mono (by decide)) ((C_branches_of base tbs).mono (by decide)) ((C_check_scene base tbs).mono (by decide)) ((C_check_script base tbs).mono (by decide)) (PySem.W.mg_none_of X G z_len), PySem.W.mg_of X G a_check_branch, k_check_branch, b_check_branch⟩
  have CX_check_branch : ∀ base : Heap, (∀ p ∈ ([(cc_law, pp_law)] : List (Addr × Addr)), LamX.TabB base mg p.1 p.2) → CalleeX l.prog w K mg base 6 "check_branch" (spX K mx_check_branch) := fun base tbs => ⟨f_check_branch, _, _, okx_check_branch (k := 5) F_check_branch ((C_is_number base tbs).mono (by decide)) ((C_branches_of base tbs).mono (by decide)) ((C_check_scene base tbs).mono (by decide)) ((C_check_script base tbs).mono (by decide)) ((CX_check_script base tbs).mono (by decide)) ((CX_check_scene base tbs).mono (by decide)) (PySem.W.mg_none_of X G z_len) (errK_mk aE_BadBranch (PySem.W.mg_of X G aE_BadBranch) xE_BadBranch kE_BadBranch sE_BadBranch tE_BadBranch), PySem.W.mg_of X G a_check_branch, k_check_branch, b_check_branch⟩
  have b_replaced := F_replaced.binds (ps := ["values", "at", "value"]) fun _ _ _ _ _ _ us hl => match us, hl with | [_, _, _], _ => rfl
  have C_replaced : ∀ base : Heap, (∀ p ∈ ([(cc_law, pp_law)] : List (Addr × Addr)), LamX.TabB base mg p.1 p.2) → Callee l.prog w K mg base 1 "replaced" (spF K m_replaced) := fun base tbs => ⟨f_replaced, _, _, ok_replaced (k := 0) F_replaced, PySem.W.mg_of X G a_replaced, k_replaced, b_replaced⟩
  have b_with_branches := F_with_branches.binds (ps := ["script", "scene", "branches"]) fun _ _ _ _ _ _ us hl => match us, hl with | [_, _, _], _ => rfl
  have C_with_branches : ∀ base : Heap, (∀ p ∈ ([(cc_law, pp_law)] : List (Addr × Addr)), LamX.TabB base mg p.1 p.2) → Callee l.prog w K mg base 2 "with_branches" (spF K m_with_branches) := fun base tbs => ⟨f_with_branches, _, _, ok_with_branches (k := 1) F_with_branches ((C_replaced base tbs).mono (by decide)), PySem.W.mg_of X G a_with_branches, k_with_branches, b_with_branches⟩
  have b_led := F_led.binds (ps := ["script", "scene", "place", "there"]) fun _ _ _ _ _ _ us hl => match us, hl with | [_, _, _, _], _ => rfl
  have C_led : ∀ base : Heap, (∀ p ∈ ([(cc_law, pp_law)] : List (Addr × Addr)), LamX.TabB base mg p.1 p.2) → Callee l.prog w K mg base 7 "led" (spF K m_led) := fun base tbs => ⟨f_led, _, _, ok_led (k := 6) F_led ((C_with_branches base tbs).mono (by decide)) ((C_replaced base tbs).mono (by decide)) ((C_branches_of base tbs).mono (by decide)) ((C_check_scene base tbs).mono (by decide)) ((C_check_branch base tbs).mono (by decide)), PySem.W.mg_of X G a_led, k_led, b_led⟩
  have b_renamed_scene := F_renamed_scene.binds (ps := ["scene", "names"]) fun _ _ _ _ _ _ us hl => match us, hl with | [_, _], _ => rfl
  have C_renamed_scene : ∀ base : Heap, (∀ p ∈ ([(cc_law, pp_law)] : List (Addr × Addr)), LamX.TabB base mg p.1 p.2) → Callee l.prog w K mg base 1 "renamed_scene" (spF K m_renamed_scene) := fun base tbs => ⟨f_renamed_scene, _, _, ok_renamed_scene (k := 0) F_renamed_scene (PySem.W.mg_none_of X G z_tuple), PySem.W.mg_of X G a_renamed_scene, k_renamed_scene, b_renamed_scene⟩
  have b_repeated := F_repeated.binds (ps := ["script"]) fun _ _ _ _ _ _ us hl => match us, hl with | [_], _ => rfl
  have C_repeated : ∀ base : Heap, (∀ p ∈ ([(cc_law, pp_law)] : List (Addr × Addr)), LamX.TabB base mg p.1 p.2) → Callee l.prog w K mg base 6 "repeated" (spF K m_repeated) := fun base tbs => ⟨f_repeated, _, _, ok_repeated (k := 5) F_repeated ((C_renamed_scene base tbs).mono (by decide)) ((C_check_script base tbs).mono (by decide)) (PySem.W.mg_none_of X G z_tuple) (PySem.W.mg_none_of X G z_enumerate), PySem.W.mg_of X G a_repeated, k_repeated, b_repeated⟩
  have b_only_talk := F_only_talk.binds (ps := ["scene"]) fun _ _ _ _ _ _ us hl => match us, hl with | [_], _ => rfl
  have C_only_talk : ∀ base : Heap, (∀ p ∈ ([(cc_law, pp_law)] : List (Addr × Addr)), LamX.TabB base mg p.1 p.2) → Callee l.prog w K mg base 2 "only_talk" (spF K m_only_talk) := fun base tbs => ⟨f_only_talk, _, _, ok_only_talk (k := 1) F_only_talk ((C_branches_of base tbs).mono (by decide)) (PySem.W.mg_none_of X G z_len), PySem.W.mg_of X G a_only_talk, k_only_talk, b_only_talk⟩
  have CX_only_talk : ∀ base : Heap, (∀ p ∈ ([(cc_law, pp_law)] : List (Addr × Addr)), LamX.TabB base mg p.1 p.2) → CalleeX l.prog w K mg base 2 "only_talk" (spX K mx_only_talk) := fun base tbs => ⟨f_only_talk, _, _, okx_only_talk (k := 1) F_only_talk ((C_branches_of base tbs).mono (by decide)) (PySem.W.mg_none_of X G z_len) (errK_mk aE_NotMade (PySem.W.mg_of X G aE_NotMade) xE_NotMade kE_NotMade sE_NotMade tE_NotMade), PySem.W.mg_of X G a_only_talk, k_only_talk, b_only_talk⟩
  have b_check_scenes := F_check_scenes.binds (ps := ["many"]) fun _ _ _ _ _ _ us hl => match us, hl with | [_], _ => rfl
  have C_check_scenes : ∀ base : Heap, (∀ p ∈ ([(cc_law, pp_law)] : List (Addr × Addr)), LamX.TabB base mg p.1 p.2) → Callee l.prog w K mg base 3 "check_scenes" (spF K m_check_scenes) := fun base tbs => ⟨f_check_scenes, _, _, ok_check_scenes (k := 2) F_check_scenes (PySem.W.mg_of X G q_MOST_SCENES), PySem.W.mg_of X G a_check_scenes, k_check_scenes, b_check_scenes⟩
  have CX_check_scenes : ∀ base : Heap, (∀ p ∈ ([(cc_law, pp_law)] : List (Addr × Addr)), LamX.TabB base mg p.1 p.2) → CalleeX l.prog w K mg base 3 "check_scenes" (spX K mx_check_scenes) := fun base tbs => ⟨f_check_scenes, _, _, okx_check_scenes (k := 2) F_check_scenes (PySem.W.mg_of X G q_MOST_SCENES) (EI_TooMany base) (by decide), PySem.W.mg_of X G a_check_scenes, k_check_scenes, b_check_scenes⟩
  have b_swapped := F_swapped.binds (ps := ["script", "scene"]) fun _ _ _ _ _ _ us hl => match us, hl with | [_, _], _ => rfl
  have C_swapped : ∀ base : Heap, (∀ p ∈ ([(cc_law, pp_law)] : List (Addr × Addr)), LamX.TabB base mg p.1 p.2) → Callee l.prog w K mg base 6 "swapped" (spF K m_swapped) := fun base tbs => ⟨f_swapped, _, _, ok_swapped (k := 5) F_swapped ((C_replaced base tbs).mono (by decide)) ((C_check_scenes base tbs).mono (by decide)) ((C_only_talk base tbs).mono (by decide)) ((C_check_scene base tbs).mono (by decide)) ((C_check_script base tbs).mono (by decide)) (PySem.W.mg_none_of X G z_len), PySem.W.mg_of X G a_swapped, k_swapped, b_swapped⟩
  have CX_swapped : ∀ base : Heap, (∀ p ∈ ([(cc_law, pp_law)] : List (Addr × Addr)), LamX.TabB base mg p.1 p.2) → CalleeX l.prog w K mg base 6 "swapped" (spX K mx_swapped) := fun base tbs => ⟨f_swapped, _, _, okx_swapped (k := 5) F_swapped ((C_only_talk base tbs).mono (by decide)) ((C_check_scene base tbs).mono (by decide)) ((C_check_script base tbs).mono (by decide)) ((CX_check_script base tbs).mono (by decide)) ((CX_check_scene base tbs).mono (by decide)) ((CX_only_talk base tbs).mono (by decide)) ((CX_check_scenes base tbs).mono (by decide)) (PySem.W.mg_none_of X G z_len) (errK_mk aE_NotMade (PySem.W.mg_of X G aE_NotMade) xE_NotMade kE_NotMade sE_NotMade tE_NotMade), PySem.W.mg_of X G a_swapped, k_swapped, b_swapped⟩
  have b_without := F_without.binds (ps := ["script", "scene", "place"]) fun _ _ _ _ _ _ us hl => match us, hl with | [_, _, _], _ => rfl
  have C_without : ∀ base : Heap, (∀ p ∈ ([(cc_law, pp_law)] : List (Addr × Addr)), LamX.TabB base mg p.1 p.2) → Callee l.prog w K mg base 7 "without" (spF K m_without) := fun base tbs => ⟨f_without, _, _, ok_without (k := 6) F_without ((C_with_branches base tbs).mono (by decide)) ((C_branches_of base tbs).mono (by decide)) ((C_check_branch base tbs).mono (by decide)) (PySem.W.mg_none_of X G z_len), PySem.W.mg_of X G a_without, k_without, b_without⟩
  have CX_without : ∀ base : Heap, (∀ p ∈ ([(cc_law, pp_law)] : List (Addr × Addr)), LamX.TabB base mg p.1 p.2) → CalleeX l.prog w K mg base 7 "without" (spX K mx_without) := fun base tbs => ⟨f_without, _, _, okx_without (k := 6) F_without ((C_branches_of base tbs).mono (by decide)) ((C_check_branch base tbs).mono (by decide)) ((CX_check_branch base tbs).mono (by decide)) (PySem.W.mg_none_of X G z_len) (errK_mk aE_NotMade (PySem.W.mg_of X G aE_NotMade) xE_NotMade kE_NotMade sE_NotMade tE_NotMade), PySem.W.mg_of X G a_without, k_without, b_without⟩
  have b_check_actors_alike := F_check_actors_alike.binds (ps := ["one", "other"]) fun _ _ _ _ _ _ us hl => match us, hl with | [_, _], _ => rfl
  have C_check_actors_alike : ∀ base : Heap, (∀ p ∈ ([(cc_law, pp_law)] : List (Addr × Addr)), LamX.TabB base mg p.1 p.2) → Callee l.prog w K mg base 1 "check_actors_alike" (spF K m_check_actors_alike) := fun base tbs => ⟨f_check_actors_alike, _, _, ok_check_actors_alike (k := 0) F_check_actors_alike, PySem.W.mg_of X G a_check_actors_alike, k_check_actors_alike, b_check_actors_alike⟩
  have CX_check_actors_alike : ∀ base : Heap, (∀ p ∈ ([(cc_law, pp_law)] : List (Addr × Addr)), LamX.TabB base mg p.1 p.2) → CalleeX l.prog w K mg base 1 "check_actors_alike" (spX K mx_check_actors_alike) := fun base tbs => ⟨f_check_actors_alike, _, _, okx_check_actors_alike (k := 0) F_check_actors_alike (errK_mk aE_NotMade (PySem.W.mg_of X G aE_NotMade) xE_NotMade kE_NotMade sE_NotMade tE_NotMade), PySem.W.mg_of X G a_check_actors_alike, k_check_actors_alike, b_check_actors_alike⟩
  have b_moved := F_moved.binds (ps := ["scenes", "by"]) fun _ _ _ _ _ _ us hl => match us, hl with | [_, _], _ => rfl
  have C_moved : ∀ base : Heap, (∀ p ∈ ([(cc_law, pp_law)] : List (Addr × Addr)), LamX.TabB base mg p.1 p.2) → Callee l.prog w K mg base 2 "moved" (spF K m_moved) := fun base tbs => ⟨f_moved, _, _, ok_moved (k := 1) F_moved ((C_renamed_scene base tbs).mono (by decide)) (PySem.W.mg_none_of X G z_tuple) (PySem.W.mg_none_of X G z_range) (PySem.W.mg_none_of X G z_len), PySem.W.mg_of X G a_moved, k_moved, b_moved⟩
  have b_followed_by := F_followed_by.binds (ps := ["one", "other"]) fun _ _ _ _ _ _ us hl => match us, hl with | [_, _], _ => rfl
  have C_followed_by : ∀ base : Heap, (∀ p ∈ ([(cc_law, pp_law)] : List (Addr × Addr)), LamX.TabB base mg p.1 p.2) → Callee l.prog w K mg base 6 "followed_by" (spF K m_followed_by) := fun base tbs => ⟨f_followed_by, _, _, ok_followed_by (k := 5) F_followed_by ((C_moved base tbs).mono (by decide)) ((C_check_scenes base tbs).mono (by decide)) ((C_check_actors_alike base tbs).mono (by decide)) ((C_check_script base tbs).mono (by decide)) (PySem.W.mg_none_of X G z_tuple) (PySem.W.mg_none_of X G z_len), PySem.W.mg_of X G a_followed_by, k_followed_by, b_followed_by⟩
  have CX_followed_by : ∀ base : Heap, (∀ p ∈ ([(cc_law, pp_law)] : List (Addr × Addr)), LamX.TabB base mg p.1 p.2) → CalleeX l.prog w K mg base 6 "followed_by" (spX K mx_followed_by) := fun base tbs => ⟨f_followed_by, _, _, okx_followed_by (k := 5) F_followed_by ((C_check_actors_alike base tbs).mono (by decide)) ((C_check_script base tbs).mono (by decide)) ((CX_check_script base tbs).mono (by decide)) ((CX_check_actors_alike base tbs).mono (by decide)) ((CX_check_scenes base tbs).mono (by decide)) (PySem.W.mg_none_of X G z_len), PySem.W.mg_of X G a_followed_by, k_followed_by, b_followed_by⟩
  have b_check_actor := F_check_actor.binds (ps := ["value", "actors"]) fun _ _ _ _ _ _ us hl => match us, hl with | [_, _], _ => rfl
  have C_check_actor : ∀ base : Heap, (∀ p ∈ ([(cc_law, pp_law)] : List (Addr × Addr)), LamX.TabB base mg p.1 p.2) → Callee l.prog w K mg base 2 "check_actor" (spF K m_check_actor) := fun base tbs => ⟨f_check_actor, _, _, ok_check_actor (k := 1) F_check_actor ((C_is_number base tbs).mono (by decide)), PySem.W.mg_of X G a_check_actor, k_check_actor, b_check_actor⟩
  have CX_check_actor : ∀ base : Heap, (∀ p ∈ ([(cc_law, pp_law)] : List (Addr × Addr)), LamX.TabB base mg p.1 p.2) → CalleeX l.prog w K mg base 2 "check_actor" (spX K mx_check_actor) := fun base tbs => ⟨f_check_actor, _, _, okx_check_actor (k := 1) F_check_actor ((C_is_number base tbs).mono (by decide)) (errK_mk aE_BadActor (PySem.W.mg_of X G aE_BadActor) xE_BadActor kE_BadActor sE_BadActor tE_BadActor), PySem.W.mg_of X G a_check_actor, k_check_actor, b_check_actor⟩
  have b_chosen := F_chosen.binds (ps := ["speaker", "hearer", "one", "other"]) fun _ _ _ _ _ _ us hl => match us, hl with | [_, _, _, _], _ => rfl
  have C_chosen : ∀ base : Heap, (∀ p ∈ ([(cc_law, pp_law)] : List (Addr × Addr)), LamX.TabB base mg p.1 p.2) → Callee l.prog w K mg base 6 "chosen" (spF K m_chosen) := fun base tbs => ⟨f_chosen, _, _, ok_chosen (k := 5) F_chosen ((C_moved base tbs).mono (by decide)) ((C_check_scenes base tbs).mono (by decide)) ((C_check_actors_alike base tbs).mono (by decide)) ((C_check_actor base tbs).mono (by decide)) ((C_check_script base tbs).mono (by decide)) (PySem.W.mg_none_of X G z_len), PySem.W.mg_of X G a_chosen, k_chosen, b_chosen⟩
  have CX_chosen : ∀ base : Heap, (∀ p ∈ ([(cc_law, pp_law)] : List (Addr × Addr)), LamX.TabB base mg p.1 p.2) → CalleeX l.prog w K mg base 6 "chosen" (spX K mx_chosen) := fun base tbs => ⟨f_chosen, _, _, okx_chosen (k := 5) F_chosen ((C_check_actors_alike base tbs).mono (by decide)) ((C_check_actor base tbs).mono (by decide)) ((C_check_script base tbs).mono (by decide)) ((CX_check_script base tbs).mono (by decide)) ((CX_check_actor base tbs).mono (by decide)) ((CX_check_actors_alike base tbs).mono (by decide)) ((CX_check_scenes base tbs).mono (by decide)) (PySem.W.mg_none_of X G z_len) (errK_mk aE_NotMade (PySem.W.mg_of X G aE_NotMade) xE_NotMade kE_NotMade sE_NotMade tE_NotMade), PySem.W.mg_of X G a_chosen, k_chosen, b_chosen⟩
  exact ⟨_, fun s v => .of_eq rfl, fun base _ _ tbs => ok_law (k := 8) F_law ((C_law_alike base tbs).mono (by decide)) ((C_repeated base tbs).mono (by decide)) ((C_law_moved base tbs).mono (by decide)) ((C_led base tbs).mono (by decide)) ((C_law_taken base tbs).mono (by decide)) ((C_renamed_words base tbs).mono (by decide)) ((C_renamed_actors base tbs).mono (by decide)) ((C_law_order base tbs).mono (by decide)) ((C_law_script base tbs).mono (by decide)) ((C_swapped base tbs).mono (by decide)) ((C_chosen base tbs).mono (by decide)) ((C_followed_by base tbs).mono (by decide)) ((C_without base tbs).mono (by decide)) ((CX_swapped base tbs).mono (by decide)) ((CX_chosen base tbs).mono (by decide)) ((CX_followed_by base tbs).mono (by decide)) ((CX_without base tbs).mono (by decide)) T_law_told hL_law_told a_law ti_law (tbs (cc_law, pp_law) (by simp only [List.mem_cons, true_or, or_true])) (PySem.W.mg_none_of X G z_isinstance) (PySem.W.mg_none_of X G z_len) (PySem.W.mg_none_of X G z_tuple) (PySem.W.mg_none_of X G z_sorted)⟩
end
end Lw
open PySem PySem.W PyProof.Rows
set_option maxHeartbeats 0 in
theorem PySem.Challenge.cw_roletalks_k20_whole_changes_holds : PySem.Challenge.rw_roletalks_k20_whole_changes.Holds := by
  w_on; o_law; k_head; (case hw => w_witness2)
  k_fill
  refine LamX.walk_ofTs (l := PySem.Challenge.rw_roletalks_k20_whole_changes) (n := 63) (k := 11) (x := "script") (CX := fun _ => L2.CX0) rfl (by decide) rfl ⟨rfl, by decide, by decide⟩ (fun w h Y => PySem.W.km_in_of Y) ?F (fun _ _ _ _ _ h => h)
  case F =>
    intro w mg fa h Y KX G hmg
    have hT8 := PySem.W.km_tabs_of Y
    have ti_law : PySem.W.tabIn (L2.KOf KX) "law" = some (_, _) := rfl
    refine' Exists.elim (Lw.all_mk KX G hmg ?a_law_taken ?l_law_taken ?c_law_taken ?k_law_taken ?a_law_alike ?l_law_alike ?c_law_alike ?k_law_alike ?a_law_scene ?l_law_scene ?c_law_scene ?k_law_scene ?a_law_script ?l_law_script ?c_law_script ?k_law_script ?a_law_order ?l_law_order ?c_law_order ?k_law_order ?a_law_moved ?l_law_moved ?c_law_moved ?k_law_moved ?a_law_told ?l_law_told ?c_law_told ?k_law_told ?a_has_items ?l_has_items ?c_has_items ?k_has_items ?a_is_number ?l_is_number ?c_is_number ?k_is_number ?a_has_script_form ?l_has_script_form ?c_has_script_form ?k_has_script_form ?a_is_rising ?l_is_rising ?c_is_rising ?k_is_rising ?a_is_talk ?l_is_talk ?c_is_talk ?k_is_talk ?a_is_branch ?l_is_branch ?c_is_branch ?k_is_branch ?a_is_scene ?l_is_scene ?c_is_scene ?k_is_scene ?a_check_script ?l_check_script ?c_check_script ?k_check_script ?a_check_names ?l_check_names ?c_check_names ?k_check_names ?a_with_new_names ?l_with_new_names ?c_with_new_names ?k_with_new_names ?a_renamed_actors ?l_renamed_actors ?c_renamed_actors ?k_renamed_actors ?a_renamed_words ?l_renamed_words ?c_renamed_words ?k_renamed_words ?a_check_scene ?l_check_scene ?c_check_scene ?k_check_scene ?a_branches_of ?l_branches_of ?c_branches_of ?k_branches_of ?a_check_branch ?l_check_branch ?c_check_branch ?k_check_branch ?a_replaced ?l_replaced ?c_replaced ?k_replaced ?a_with_branches ?l_with_branches ?c_with_branches ?k_with_branches ?a_led ?l_led ?c_led ?k_led ?a_renamed_scene ?l_renamed_scene ?c_renamed_scene ?k_renamed_scene ?a_repeated ?l_repeated ?c_repeated ?k_repeated ?a_only_talk ?l_only_talk ?c_only_talk ?k_only_talk ?a_check_scenes ?l_check_scenes ?c_check_scenes ?k_check_scenes ?a_swapped ?l_swapped ?c_swapped ?k_swapped ?a_without ?l_without ?c_without ?k_without ?a_check_actors_alike ?l_check_actors_alike ?c_check_actors_alike ?k_check_actors_alike ?a_moved ?l_moved ?c_moved ?k_moved ?a_followed_by ?l_followed_by ?c_followed_by ?k_followed_by ?a_check_actor ?l_check_actor ?c_check_actor ?k_check_actor ?a_chosen ?l_chosen ?c_chosen ?k_chosen ?a_law ?l_law ?c_law ?k_law ?z_all ?z_bool ?z_enumerate ?z_int ?z_isinstance ?z_len ?z_list ?z_range ?z_set ?z_sorted ?z_str ?z_tuple ?q_LAST_WORD ?q_LEAST_ACTORS ?q_MOST_ACTORS ?q_MOST_SCENES ?aE_BadActor ?sE_BadActor ?tE_BadActor ?xE_BadActor ?kE_BadActor ?lE_BadActor ?gE_BadActor ?ggE_BadActor ?cE_BadActor ?mE_BadActor ?aE_BadBranch ?sE_BadBranch ?tE_BadBranch ?xE_BadBranch ?kE_BadBranch ?lE_BadBranch ?gE_BadBranch ?ggE_BadBranch ?cE_BadBranch ?mE_BadBranch ?aE_BadScene ?sE_BadScene ?tE_BadScene ?xE_BadScene ?kE_BadScene ?lE_BadScene ?gE_BadScene ?ggE_BadScene ?cE_BadScene ?mE_BadScene ?aE_BadScript ?sE_BadScript ?tE_BadScript ?kE_BadScript ?lE_BadScript ?gE_BadScript ?ggE_BadScript ?cE_BadScript ?mE_BadScript ?aE_NotMade ?sE_NotMade ?tE_NotMade ?xE_NotMade ?kE_NotMade ?lE_NotMade ?gE_NotMade ?ggE_NotMade ?cE_NotMade ?mE_NotMade ?aE_TalkError ?sE_TalkError ?tE_TalkError ?hE_TalkError ?aE_TooMany ?sE_TooMany ?tE_TooMany ?kE_TooMany ?lE_TooMany ?gE_TooMany ?ggE_TooMany ?cE_TooMany ?mE_TooMany ?uE_BadActor ?ktE_BadActor ?uE_BadBranch ?ktE_BadBranch ?uE_BadScene ?ktE_BadScene ?uE_BadScript ?ktE_BadScript ?uE_NotMade ?ktE_NotMade ?uE_TooMany ?ktE_TooMany ?xL_BadScript ?rv_BadScript ?sa_BadScript ?nb_BadScript ?a_EBadScript ?i_EBadScript ?l_EBadScript ?c_EBadScript ?k_EBadScript ?xL_TooMany ?rv_TooMany ?sa_TooMany ?nb_TooMany ?a_ETooMany ?i_ETooMany ?l_ETooMany ?c_ETooMany ?k_ETooMany ?rdT ?spT ?vT ?spE ?tkE ti_law) (fun fd hall => ?mgoal)
    (case a_law_taken => k_is); (case l_law_taken => k_is); (case c_law_taken => k_is); (case k_law_taken => k_is); (case a_law_alike => k_is); (case l_law_alike => k_is); (case c_law_alike => k_is); (case k_law_alike => k_is); (case a_law_scene => k_is); (case l_law_scene => k_is); (case c_law_scene => k_is); (case k_law_scene => k_is); (case a_law_script => k_is); (case l_law_script => k_is); (case c_law_script => k_is); (case k_law_script => k_is); (case a_law_order => k_is); (case l_law_order => k_is); (case c_law_order => k_is); (case k_law_order => k_is); (case a_law_moved => k_is); (case l_law_moved => k_is); (case c_law_moved => k_is); (case k_law_moved => k_is); (case a_law_told => k_is); (case l_law_told => k_is); (case c_law_told => k_is); (case k_law_told => k_is); (case a_has_items => k_is); (case l_has_items => k_is); (case c_has_items => k_is); (case k_has_items => k_is); (case a_is_number => k_is); (case l_is_number => k_is); (case c_is_number => k_is); (case k_is_number => k_is); (case a_has_script_form => k_is); (case l_has_script_form => k_is); (case c_has_script_form => k_is); (case k_has_script_form => k_is); (case a_is_rising => k_is); (case l_is_rising => k_is); (case c_is_rising => k_is); (case k_is_rising => k_is); (case a_is_talk => k_is); (case l_is_talk => k_is); (case c_is_talk => k_is); (case k_is_talk => k_is); (case a_is_branch => k_is); (case l_is_branch => k_is); (case c_is_branch => k_is); (case k_is_branch => k_is); (case a_is_scene => k_is); (case l_is_scene => k_is); (case c_is_scene => k_is); (case k_is_scene => k_is); (case a_check_script => k_is); (case l_check_script => k_is); (case c_check_script => k_is); (case k_check_script => k_is); (case a_check_names => k_is); (case l_check_names => k_is); (case c_check_names => k_is); (case k_check_names => k_is); (case a_with_new_names => k_is); (case l_with_new_names => k_is); (case c_with_new_names => k_is); (case k_with_new_names => k_is); (case a_renamed_actors => k_is); (case l_renamed_actors => k_is); (case c_renamed_actors => k_is); (case k_renamed_actors => k_is); (case a_renamed_words => k_is); (case l_renamed_words => k_is); (case c_renamed_words => k_is); (case k_renamed_words => k_is); (case a_check_scene => k_is); (case l_check_scene => k_is); (case c_check_scene => k_is); (case k_check_scene => k_is); (case a_branches_of => k_is); (case l_branches_of => k_is); (case c_branches_of => k_is); (case k_branches_of => k_is); (case a_check_branch => k_is); (case l_check_branch => k_is); (case c_check_branch => k_is); (case k_check_branch => k_is); (case a_replaced => k_is); (case l_replaced => k_is); (case c_replaced => k_is); (case k_replaced => k_is); (case a_with_branches => k_is); (case l_with_branches => k_is); (case c_with_branches => k_is); (case k_with_branches => k_is); (case a_led => k_is); (case l_led => k_is); (case c_led => k_is); (case k_led => k_is); (case a_renamed_scene => k_is); (case l_renamed_scene => k_is); (case c_renamed_scene => k_is); (case k_renamed_scene => k_is); (case a_repeated => k_is); (case l_repeated => k_is); (case c_repeated => k_is); (case k_repeated => k_is); (case a_only_talk => k_is); (case l_only_talk => k_is); (case c_only_talk => k_is); (case k_only_talk => k_is); (case a_check_scenes => k_is); (case l_check_scenes => k_is); (case c_check_scenes => k_is); (case k_check_scenes => k_is); (case a_swapped => k_is); (case l_swapped => k_is); (case c_swapped => k_is); (case k_swapped => k_is); (case a_without => k_is); (case l_without => k_is); (case c_without => k_is); (case k_without => k_is); (case a_check_actors_alike => k_is); (case l_check_actors_alike => k_is); (case c_check_actors_alike => k_is); (case k_check_actors_alike => k_is); (case a_moved => k_is); (case l_moved => k_is); (case c_moved => k_is); (case k_moved => k_is); (case a_followed_by => k_is); (case l_followed_by => k_is); (case c_followed_by => k_is); (case k_followed_by => k_is); (case a_check_actor => k_is); (case l_check_actor => k_is); (case c_check_actor => k_is); (case k_check_actor => k_is); (case a_chosen => k_is); (case l_chosen => k_is); (case c_chosen => k_is); (case k_chosen => k_is); (case a_law => k_is); (case l_law => k_is); (case c_law => k_is); (case k_law => k_is); (case z_all => k_is); (case z_bool => k_is); (case z_enumerate => k_is); (case z_int => k_is); (case z_isinstance => k_is); (case z_len => k_is); (case z_list => k_is); (case z_range => k_is); (case z_set => k_is); (case z_sorted => k_is); (case z_str => k_is); (case z_tuple => k_is); (case q_LAST_WORD => k_is); (case q_LEAST_ACTORS => k_is); (case q_MOST_ACTORS => k_is); (case q_MOST_SCENES => k_is); (case aE_BadActor => k_is); (case sE_BadActor => k_is); (case tE_BadActor => k_is); (case xE_BadActor => first | k_exc | kx_is | decide +kernel); (case kE_BadActor => k_is); (case lE_BadActor => k_is); (case gE_BadActor => k_is); (case ggE_BadActor => k_is); (case cE_BadActor => k_is); (case mE_BadActor => k_is); (case aE_BadBranch => k_is); (case sE_BadBranch => k_is); (case tE_BadBranch => k_is); (case xE_BadBranch => first | k_exc | kx_is | decide +kernel); (case kE_BadBranch => k_is); (case lE_BadBranch => k_is); (case gE_BadBranch => k_is); (case ggE_BadBranch => k_is); (case cE_BadBranch => k_is); (case mE_BadBranch => k_is); (case aE_BadScene => k_is); (case sE_BadScene => k_is); (case tE_BadScene => k_is); (case xE_BadScene => first | k_exc | kx_is | decide +kernel); (case kE_BadScene => k_is); (case lE_BadScene => k_is); (case gE_BadScene => k_is); (case ggE_BadScene => k_is); (case cE_BadScene => k_is); (case mE_BadScene => k_is); (case aE_BadScript => k_is); (case sE_BadScript => k_is); (case tE_BadScript => k_is); (case kE_BadScript => k_is); (case lE_BadScript => k_is); (case gE_BadScript => k_is); (case ggE_BadScript => k_is); (case cE_BadScript => k_is); (case mE_BadScript => k_is); (case aE_NotMade => k_is); (case sE_NotMade => k_is); (case tE_NotMade => k_is); (case xE_NotMade => first | k_exc | kx_is | decide +kernel); (case kE_NotMade => k_is); (case lE_NotMade => k_is); (case gE_NotMade => k_is); (case ggE_NotMade => k_is); (case cE_NotMade => k_is); (case mE_NotMade => k_is); (case aE_TalkError => k_is); (case sE_TalkError => k_is); (case tE_TalkError => k_is); (case hE_TalkError => k_is); (case aE_TooMany => k_is); (case sE_TooMany => k_is); (case tE_TooMany => k_is); (case kE_TooMany => k_is); (case lE_TooMany => k_is); (case gE_TooMany => k_is); (case ggE_TooMany => k_is); (case cE_TooMany => k_is); (case mE_TooMany => k_is); (case uE_BadActor => k_is); (case ktE_BadActor => first | kit_is | k_is | rfl | decide +kernel); (case uE_BadBranch => k_is); (case ktE_BadBranch => first | kit_is | k_is | rfl | decide +kernel); (case uE_BadScene => k_is); (case ktE_BadScene => first | kit_is | k_is | rfl | decide +kernel); (case uE_BadScript => k_is); (case ktE_BadScript => first | kit_is | k_is | rfl | decide +kernel); (case uE_NotMade => k_is); (case ktE_NotMade => first | kit_is | k_is | rfl | decide +kernel); (case uE_TooMany => k_is); (case ktE_TooMany => first | kit_is | k_is | rfl | decide +kernel); (case xL_BadScript => k_is); (case rv_BadScript => first | k_is | rfl | decide +kernel); (case sa_BadScript => k_is); (case nb_BadScript => k_is); (case a_EBadScript => k_is); (case i_EBadScript => k_is); (case l_EBadScript => k_is); (case c_EBadScript => k_is); (case k_EBadScript => k_is); (case xL_TooMany => k_is); (case rv_TooMany => first | k_is | rfl | decide +kernel); (case sa_TooMany => k_is); (case nb_TooMany => k_is); (case a_ETooMany => k_is); (case i_ETooMany => k_is); (case l_ETooMany => k_is); (case c_ETooMany => k_is); (case k_ETooMany => k_is); (case rdT => first | k_is | rfl | decide +kernel); (case spT => first | k_is | rfl | decide +kernel); (case vT => first | k_is | rfl | decide +kernel); (case spE => k_is); (case tkE => k_is)
    case mgoal =>
      obtain ⟨hb, hF⟩ := hall
      refine ⟨fd, _, RT.spLaw _ Lw.b_law 25 10120, ?hT, ?nT, ?hC, hb, fun H a ns hl _ hH hS => ?_, hF⟩
      case hT => exact (List.forall_mem_cons.mpr ⟨hT8 _ (by k_mem), (fun _ h => nomatch h)⟩)
      case nT => exact (List.forall_mem_cons.mpr ⟨by rfl, (fun _ h => nomatch h)⟩)
      case hC => exact (List.forall_mem_cons.mpr ⟨PySem.W.codeHd_of_K KX (by kernel_rfl), (fun _ h => nomatch h)⟩)
      · obtain ⟨x', e⟩ := Lw.main ns hl
        exact ⟨_, a, ns, x', RT.tok_of (L := [("law", 0, _)]) (by rfl) (by decide), (List.forall_mem_cons.mpr ⟨LamX.TabS.nil (hH (_, _) List.mem_cons_self), (fun _ h => nomatch h)⟩), rfl, hS, e, fun _ => rfl⟩
