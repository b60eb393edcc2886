import PyProof.Rows.All
import Wide.All
import OpenK.AllK
import Wide.FinOn
import Lean
import PyProof.EqAt
import PyProof.EqKinds
import PyProof.TupleCall
import PyProof.NeKinds
import PySem.Challenge.RW_delve_k65_cellars_built
def PySem.W.Fast.tw465837456588190954 := 0
def PySem.W.Fast.tw10030010292826722371 := 0
def PySem.W.Fast.tw14893294955665504252 := 0
def PySem.W.Fast.tw6865290575724914944 := 0
def PySem.W.Fast.tw11740841619330725361 := 0
def PySem.W.Fast.tw17919671334681370896 := 0
def PySem.W.Fast.tw4637640646576534674 := 0
def PySem.W.Fast.tw7992628354136344616 := 0
def PySem.W.Fast.tw12556458763383924089 := 0
def PySem.W.Fast.tw9251876633483093391 := 0
def PySem.W.Fast.tw11582322600920145544 := 0
def PySem.W.Fast.tw15473042631961417671 := 0
def PySem.W.Fast.tw18408480942139015744 := 0
def PySem.W.Fast.tw3769803703994418137 := 0
def PySem.W.Fast.tw14212815034989114121 := 0
def PySem.W.Fast.tw11089732287876769366 := 0
def PySem.W.Fast.tw12450398175918711019 := 0
def PySem.W.Fast.tw6614637270336679601 := 0
def PySem.W.Fast.tw5508416423665883237 := 0
def PySem.W.Fast.tw2054886780656325149 := 0
def PySem.W.Fast.tw10501787001143425758 := 0
def PySem.W.Fast.tw2239418222319412273 := 0
def PySem.W.Fast.tw4021434034383527774 := 0
def PySem.W.Fast.tw3118961783651708769 := 0
def PySem.W.Fast.tw3209150738929861038 := 0
def PySem.W.Fast.tw17407106455828167578 := 0
def PySem.W.Fast.tw11621189056431014150 := 0
def PySem.W.Fast.tw2920638122696360188 := 0
def PySem.W.Fast.tw7375777121089361279 := 0
def PySem.W.Fast.tw17587692231977077162 := 0
def PySem.W.Fast.tw17867430077621656980 := 0
def PySem.W.Fast.tw15986005869245668761 := 0
def PySem.W.Fast.tw14460125617604681110 := 0
def PySem.W.Fast.tw14719060867106519094 := 0
def PySem.W.Fast.tw11849133738354301970 := 0
def PySem.W.Fast.tw723927010685225 := 0
def PySem.W.Fast.tw3237025323237179511 := 0
def PySem.W.Fast.tw17937969063049225748 := 0
def PySem.W.Fast.tw15947923655223585710 := 0
def PySem.W.Fast.tw739797350729675763 := 0
def PySem.W.Fast.tw4122359107023445973 := 0
def PySem.W.Fast.tw3209646000280692852 := 0
def PySem.W.Fast.tw3935041298394529322 := 0
def PySem.W.Fast.tw5464808244071588503 := 0
def PySem.W.Fast.tw1257246940227664292 := 0
def PySem.W.Fast.tw4295083958611192297 := 0
def PySem.W.Fast.tw8627856920121229484 := 0
def PySem.W.Fast.tw17722889535480286364 := 0
def PySem.W.Fast.tw10503179223154695653 := 0
def PySem.W.Fast.tw15045409309529007207 := 0
def PySem.W.Fast.tw13278530433745630418 := 0
def PySem.W.Fast.tw8452595698537666788 := 0
def PySem.W.Fast.tw830612254618838578 := 0
def PySem.W.Fast.tw10024719866249593693 := 0
def PySem.W.Fast.tw2081138175020746300 := 0
def PySem.W.Fast.tw11198008097804269337 := 0
def PySem.W.Fast.tw18351408721728578045 := 0
def PySem.W.Fast.tw221340779108570054 := 0
def PySem.W.Fast.tw8052436735970422813 := 0
def PySem.W.Fast.tw8078332496943298624 := 0
def PySem.W.Fast.tw12873801581407789885 := 0
def PySem.W.Fast.tw11816237875442209260 := 0
def PySem.W.Fast.tw12007618636423185345 := 0
def PySem.W.Fast.tw9495793596656050823 := 0
def PySem.W.Fast.tw7446800512501903675 := 0
def PySem.W.Fast.tw15233758743125559412 := 0
def PySem.W.Fast.tw17969869307905412791 := 0
def PySem.W.Fast.tw16652601336411616681 := 0
def PySem.W.Fast.tw10591257866222945682 := 0
def PySem.W.Fast.tw16350483842013630958 := 0
def PySem.W.Fast.tw16622442447911449595 := 0
def PySem.W.Fast.tw2128304349486520751 := 0
def PySem.W.Fast.tw12492122324163749303 := 0
def PySem.W.Fast.tw13874068396025670706 := 0
def PySem.W.Fast.tw12185362665027697732 := 0
def PySem.W.Fast.tw11344737312162870044 := 0
def PySem.W.Fast.tw1955493255122623926 := 0
def PySem.W.Fast.tw15831211902320347115 := 0
def PySem.W.Fast.tw4259498962868900753 := 0
def PySem.W.Fast.tw5000768076241718211 := 0
def PySem.W.Fast.tw14200486569252910613 := 0
def PySem.W.Fast.tw4710540091508524212 := 0
def PySem.W.Fast.tw6280250216299525681 := 0
def PySem.W.Fast.tw3858492448350261460 := 0
def PySem.W.Fast.tw433443483859288530 := 0
def PySem.W.Fast.tw7856543435381858542 := 0
def PySem.W.Fast.tw15760738266278565378 := 0
def PySem.W.Fast.tw16859944182264754952 := 0
def PySem.W.Fast.tw18361791276889129898 := 0
def PySem.W.Fast.tw16382086692919853904 := 0
def PySem.W.Fast.tw6267759863996415623 := 0
def PySem.W.Fast.tw6883579425719180412 := 0
def PySem.W.Fast.tw17025616667393335396 := 0
def PySem.W.Fast.tw16803622973570111966 := 0
def PySem.W.Fast.tw12003255223536354497 := 0
def PySem.W.Fast.tw13408963818275520228 := 0
def PySem.W.Fast.tw6976836652676365842 := 0
def PySem.W.Fast.tw18138626007808961208 := 0
def PySem.W.Fast.tw11121525164415194601 := 0
def PySem.W.Fast.tw13371776911189886486 := 0
def PySem.W.Fast.tw9603990339528538659 := 0
def PySem.W.Fast.tw4054509239171254787 := 0
def PySem.W.Fast.tw7818701413588768497 := 0
def PySem.W.Fast.tw11348252218929973392 := 0
def PySem.W.Fast.tw16625004873701886499 := 0
def PySem.W.Fast.tw16752551164533099788 := 0
def PySem.W.Fast.tw4536057313510084088 := 0
def PySem.W.Fast.tw16017996776837687645 := 0
def PySem.W.Fast.tw17082467476190224681 := 0
def PySem.W.Fast.tw16539043855026673476 := 0
def PySem.W.Fast.tw5587717066878191594 := 0
def PySem.W.Fast.tw8628528144857474211 := 0
def PySem.W.Fast.tw13902345702766361487 := 0
def PySem.W.Fast.tw9204242198809026164 := 0
def PySem.W.Fast.tw8061331094059633228 := 0
def PySem.W.Fast.tw11049265883154791929 := 0
def PySem.W.Fast.tw6155638620856364748 := 0
def PySem.W.Fast.tw9948736667308752397 := 0
def PySem.W.Fast.tw2986984734942436067 := 0
def PySem.W.Fast.tw6713210660664903625 := 0
def PySem.W.Fast.tw6434050850901068851 := 0
def PySem.W.Fast.tw651161662419758560 := 0
def PySem.W.Fast.tw11820138778817689369 := 0
def PySem.W.Fast.tw1295057312402533263 := 0
def PySem.W.Fast.tw6213629292852513549 := 0
def PySem.W.Fast.tw2553753446008311102 := 0
def PySem.W.Fast.tw16513329325589893512 := 0
def PySem.W.Fast.tw9688889211262145894 := 0
def PySem.W.Fast.tw11796675339691612450 := 0
def PySem.W.Fast.tw10225488680410450952 := 0
def PySem.W.Fast.tw13143046959193048139 := 0
def PySem.W.Fast.tw5288305951861860231 := 0
def PySem.W.Fast.tw6308911604499978408 := 0
def PySem.W.Fast.tw13567099446633810830 := 0
def PySem.W.Fast.tw3419661053180625772 := 0
def PySem.W.Fast.tw4113769816280036080 := 0
def PySem.W.Fast.tw4595948636103433519 := 0
def PySem.W.Fast.tw53467000295825266 := 0
def PySem.W.Fast.tw15768815312321128274 := 0
def PySem.W.Fast.tw16719943109930927879 := 0
def PySem.W.Fast.tw11737405402813291500 := 0
def PySem.W.Fast.tw7814367634301592725 := 0
def PySem.W.Fast.tw3134765412663897594 := 0
def PySem.W.Fast.tw18020894915157477275 := 0
def PySem.W.Fast.tw13236583909446854683 := 0
def PySem.W.Fast.tw12678700671200175691 := 0
def PySem.W.Fast.tw7389512332352929026 := 0
def PySem.W.Fast.tw2759842656163236672 := 0
def PySem.W.Fast.tw6639647692306860426 := 0
def PySem.W.Fast.tw10013507889563096800 := 0
def PySem.W.Fast.tw11334932516651259878 := 0
def PySem.W.Fast.tw15785271118265863274 := 0
def PySem.W.Fast.tw5010971389324000631 := 0
def PySem.W.Fast.tw8116631296738581777 := 0
def PySem.W.Fast.tw12432425257787532033 := 0
def PySem.W.Fast.tw14110793434629290714 := 0
def PySem.W.Fast.tw14549240181010826439 := 0
def PySem.W.Fast.tw4959200482941394617 := 0
def PySem.W.Fast.tw3087170063581985502 := 0
def PySem.W.Fast.tw6752285515750139645 := 0
def PySem.W.Fast.tw16619127915029038062 := 0
def PySem.W.Fast.tw13624036404216395984 := 0
def PySem.W.Fast.tw7861201100663807405 := 0
def PySem.W.Fast.tw8139430431964419979 := 0
def PySem.W.Fast.tw11100324218409466871 := 0
def PySem.W.Fast.tw5204658887234254876 := 0
def PySem.W.Fast.tw1649119406702549710 := 0
def PySem.W.Fast.tw3373959987574255776 := 0
def PySem.W.Fast.tw12291332888687832359 := 0
def PySem.W.Fast.tw2487489208566681265 := 0
def PySem.W.Fast.tw10679316121113456 := 0
def PySem.W.Fast.tw14159922467721360609 := 0
def PySem.W.Fast.tw13563107091354789709 := 0
def PySem.W.Fast.tw14439197425542336124 := 0
def PySem.W.Fast.tw6969003049560003237 := 0
def PySem.W.Fast.tw2039485028035603785 := 0
def PySem.W.Fast.tw10502577764167865462 := 0
def PySem.W.Fast.tw14868421893738475879 := 0
def PySem.W.Fast.tw13468337611562592145 := 0
def PySem.W.Fast.tw2556315798621824610 := 0
def PySem.W.Fast.tw8317802691573427709 := 0
def PySem.W.Fast.tw1081284650099486115 := 0
def PySem.W.Fast.tw9407113814320436287 := 0
def PySem.W.Fast.tw5099490560754744401 := 0
def PySem.W.Fast.tw18015136382413256689 := 0
def PySem.W.Fast.tw6934854583383979167 := 0
def PySem.W.Fast.tw16481560668216552720 := 0
def PySem.W.Fast.tw7353059672385796018 := 0
def PySem.W.Fast.tw14693241665626563939 := 0
def PySem.W.Fast.tw16453509576661418242 := 0
def PySem.W.Fast.tw13485910465900064625 := 0
def PySem.W.Fast.tw15175075606011339923 := 0
def PySem.W.Fast.tw13968554164571298450 := 0
def PySem.W.Fast.tw1064157169495682935 := 0
def PySem.W.Fast.tw8305215205219044867 := 0
def PySem.W.Fast.tw17856886378321120383 := 0
def PySem.W.Fast.tw9283714418898840471 := 0
def PySem.W.Fast.tw15970988527587691007 := 0
def PySem.W.Fast.tw8546334874120340681 := 0
def PySem.W.Fast.tw11306100179993700922 := 0
def PySem.W.Fast.tw16091632170579676435 := 0
def PySem.W.Fast.tw5435210215361283602 := 0
def PySem.W.Fast.tw16465287699739726840 := 0
def PySem.W.Fast.tw14846185599107112387 := 0
def PySem.W.Fast.tw10665358840979585854 := 0
def PySem.W.Fast.tw4207351602576181751 := 0
set_option Elab.async false
set_option linter.all false
set_option maxRecDepth 100000
namespace L2
open PySem PySem.Spec PyProof.Rows

abbrev Key := Sum Int Str
def keyIs : Key → Value → Bool
  | .inl k, v => Value.isInt k v
  | .inr x, v => Value.isStrOf x v
def keyH (w : World) : Key → Int
  | .inl k => hashInt k
  | .inr x => hashStr w x
theorem keyIs_shape : ∀ {k : Key} {v : Value}, keyIs k v = true → (∃ i t, k = Sum.inl i ∧ v = Value.int i t) ∨ (∃ x t, k = Sum.inr x ∧ v = Value.str x t)
  | .inl i, v, h => by
    obtain ⟨t, e⟩ := Value.isInt_shape (k := i) (v := v) h
    exact .inl ⟨i, t, rfl, e⟩
  | .inr x, v, h => by
    obtain ⟨t, e⟩ := Value.isStrOf_shape (x := x) (v := v) h
    exact .inr ⟨x, t, rfl, e⟩
theorem keyIs_int (i : Int) (t : Tok) : keyIs (.inl i) (.int i t) = true := by simp [keyIs, Value.isInt]
theorem keyIs_str (x : Str) (t : Tok) : keyIs (.inr x) (.str x t) = true := by simp [keyIs, Value.isStrOf]
theorem key_ll (a b : Int) : decide ((Sum.inl a : Key) = Sum.inl b) = (a == b) := by
  by_cases e : a = b
  · subst e; simp
  · have h : ¬ (Sum.inl a : Key) = Sum.inl b := fun q => e (Sum.inl.inj q)
    rw [decide_eq_false h]
    exact (beq_eq_false_iff_ne.mpr e).symm
theorem key_rr (a b : Str) : decide ((Sum.inr a : Key) = Sum.inr b) = decide (a = b) := by
  by_cases e : a = b
  · subst e; simp
  · have h : ¬ (Sum.inr a : Key) = Sum.inr b := fun q => e (Sum.inr.inj q)
    rw [decide_eq_false h, decide_eq_false e]
theorem key_lr (a : Int) (b : Str) : decide ((Sum.inl a : Key) = Sum.inr b) = false := decide_eq_false (fun q => nomatch q)
theorem key_rl (a : Str) (b : Int) : decide ((Sum.inr a : Key) = Sum.inl b) = false := decide_eq_false (fun q => nomatch q)

def mixKind (prog : Program) (w : World) : PySem.KeyKind prog w Key where
  is := keyIs
  hash := keyH w
  inj := fun v a b ha hb => by
    rcases keyIs_shape ha with ⟨i, t, rfl, rfl⟩ | ⟨x, t, rfl, rfl⟩
    · rcases keyIs_shape hb with ⟨j, u, rfl, e⟩ | ⟨y, u, rfl, e⟩
      · injection e with e1 _; rw [e1]
      · exact nomatch e
    · rcases keyIs_shape hb with ⟨j, u, rfl, e⟩ | ⟨y, u, rfl, e⟩
      · exact nomatch e
      · injection e with e1 _; rw [e1]
  byValue := fun k v h => by
    rcases keyIs_shape h with ⟨i, t, rfl, rfl⟩ | ⟨x, t, rfl, rfl⟩ <;> rfl
  pyHash := fun hv h => by
    rcases keyIs_shape hv with ⟨i, t, rfl, rfl⟩ | ⟨x, t, rfl, rfl⟩
    · exact wpAny_pyHash_int h
    · exact wpAny_pyHash_str h
  eqBool := fun hu hv h => by
    rcases keyIs_shape hu with ⟨i, t, rfl, rfl⟩ | ⟨x, t, rfl, rfl⟩
    · rcases keyIs_shape hv with ⟨j, u, rfl, rfl⟩ | ⟨y, u, rfl, rfl⟩
      · rw [key_ll] at h; exact wpAny_eqBool_int h
      · rw [key_lr] at h; exact SeqAt.EqAt.int_str i t y u _ _ _ _ h
    · rcases keyIs_shape hv with ⟨j, u, rfl, rfl⟩ | ⟨y, u, rfl, rfl⟩
      · rw [key_rl] at h; exact SeqAt.EqAt.str_int x t j u _ _ _ _ h
      · rw [key_rr] at h; exact wpAny_eqBool_str h
  «strs» := fun k x t v h => by
    rcases keyIs_shape h with ⟨i, u, rfl, e⟩ | ⟨y, u, rfl, e⟩
    · exact nomatch e
    · injection e with e1 _
      subst e1
      cases v <;> rfl

theorem mixKind_int (prog : Program) (w : World) (i : Int) (t : Tok) : (mixKind prog w).is (.inl i) (.int i t) = true := keyIs_int i t
theorem mixKind_str (prog : Program) (w : World) (x : Str) (t : Tok) : (mixKind prog w).is (.inr x) (.str x t) = true := keyIs_str x t
end L2

namespace L2
open PySem PySem.Spec PyProof.Rows

inductive V where
  | non | bl (b : Bool) | int (i : Int) | str (x : Str) | byt (b : Array UInt8) | flt (b : UInt64) | ref (a : Addr) | ty (n : String)
  deriving DecidableEq

def RelV : V → Value → Prop
  | .non, u => u = Value.none
  | .bl b, u => u = Value.bool b
  | .int i, u => ∃ t, u = Value.int i t
  | .str x, u => ∃ t, u = Value.str x t
  | .byt b, u => ∃ t, u = Value.bytes b t
  | .flt b, u => ∃ t, u = Value.float b t
  | .ref a, u => u = Value.ref a
  | .ty n, u => u = Value.type n

abbrev Vals : List V → List Value → Prop := Paired RelV
theorem Vals.length {xs : List V} {us : List Value} (r : Vals xs us) : xs.length = us.length := Paired.length r
theorem Vals.get : ∀ {xs : List V} {us : List Value} {i : Nat} {x : V}, Vals xs us → xs[i]? = some x → ∃ u, us[i]? = some u ∧ RelV x u
  | _, _, _, _, .nil, e => by simp at e
  | _, _, 0, _, .cons r _, e => by simp at e; subst e; exact ⟨_, rfl, r⟩
  | _, _, i + 1, x, .cons _ t, e => by
    obtain ⟨u, h1, h2⟩ := Vals.get (i := i) (x := x) t (by simpa using e)
    exact ⟨u, by simpa using h1, h2⟩
theorem Vals.set {x : V} {u : Value} (r : RelV x u) : ∀ {xs : List V} {us : List Value} (i : Nat), Vals xs us → Vals (xs.set i x) (us.set i u)
  | _, _, _, .nil => .nil
  | _, _, 0, .cons _ t => .cons r t
  | _, _, i + 1, .cons q t => .cons q (Vals.set r i t)
theorem Vals.append : ∀ {xs ys : List V} {us ws : List Value}, Vals xs us → Vals ys ws → Vals (xs ++ ys) (us ++ ws)
  | _, _, _, _, .nil, s => s
  | _, _, _, _, .cons r t, s => .cons r (Vals.append t s)
theorem Vals.take : ∀ {xs : List V} {us : List Value} (n : Nat), Vals xs us → Vals (xs.take n) (us.take n)
  | _, _, 0, _ => .nil
  | _, _, _ + 1, .nil => .nil
  | _, _, n + 1, .cons r t => .cons r (Vals.take n t)
theorem Vals.drop : ∀ {xs : List V} {us : List Value} (n : Nat), Vals xs us → Vals (xs.drop n) (us.drop n)
  | _, _, 0, r => r
  | _, _, _ + 1, .nil => .nil
  | _, _, n + 1, .cons _ t => Vals.drop n t
theorem Vals.none_of : ∀ {xs : List V} {us : List Value} {i : Nat}, Vals xs us → xs[i]? = none → us[i]? = none := fun {xs us i} r e => by
  have h1 := r.length
  have h2 : xs.length ≤ i := List.getElem?_eq_none_iff.mp e
  exact List.getElem?_eq_none_iff.mpr (by omega)

def RelO : Option V → Option Value → Prop
  | some v, some u => RelV v u
  | none, none => True
  | _, _ => False
def KV {κ : Type} : List (κ × V) → List (κ × Value) → Prop := Paired fun (p : κ × V) (q : κ × Value) => p.1 = q.1 ∧ RelV p.2 q.2

def kV : Key → V
  | .inl i => .int i
  | .inr x => .str x

inductive HO where
  /-- a list -/
  | lst (xs : List V)
  /-- a tuple (never changes) -/
  | tup (xs : List V)
  /-- a dict whose keys are ints and texts; one whose keys are tuples of ints and texts (the empty one is both) -/
  | dK (kvs : List (Key × V)) | dT (kvs : List (List Key × V))
  /-- a set of ints: its members, its size -/
  | set (S : Int → Bool) (n : Nat)
  /-- an instance of the class at C, its dict at dx, its attributes -/
  | ins (C dx : Addr) (fs : List (Str × V))
  /-- the dict of the instance at x -/
  | own (x : Addr)
  /-- the dict of an exception -/
  | xd (fs : List (Str × V))
  /-- a bound method, f of x -/
  | met (f x : Addr)
  /-- a range object lo, lo + 1, .. below hi -/
  | rng (lo hi : Int)
  /-- a thing that is known to the object (the script; a dict while a loop walks it): read, never written while it is so -/
  | frz (o : Obj) (u : HO)
  /-- a code object's table -/
  | tbl (ps : Array Value)
  /-- any other thing, by what is true of its one object (a def of one's own: SetO a S n := HO.ext fun h => ..) -/
  | ext (φ : Heap → Prop)

abbrev Hp := Addr → Option HO
def upd (H : Hp) (a : Addr) (o : HO) : Hp := fun b => if b = a then some o else H b
theorem upd_same {H : Hp} {a : Addr} {o : HO} : upd H a o a = some o := by unfold upd; rw [if_pos rfl]
theorem upd_ne {H : Hp} {a b : Addr} {o : HO} (h : b ≠ a) : upd H a o b = H b := by unfold upd; rw [if_neg h]
theorem ne_of {H : Hp} {a b : Addr} {o u : HO} (h : H a = some o) (h' : H b = some u) (d : o ≠ u) : a ≠ b := by
  intro e; subst e; rw [h] at h'; exact d (Option.some.inj h')
theorem ne_of_none {H : Hp} {a b : Addr} {o : HO} (h : H a = some o) (h' : H b = none) : a ≠ b := by
  intro e; subst e; rw [h] at h'; cases h'

section
variable (P : Program) (w : World)
def ObjOk (H : Hp) (h : Heap) (a : Addr) : HO → Prop
  | .lst xs => xs.length ≤ sizeLine ∧ ∃ (its : List Value) (n : Nat), Vals xs its ∧ h.get? a = some { cls := .type "list", data := .seq its.toArray n }
  | .tup xs => xs.length ≤ sizeLine ∧ ∃ its : List Value, Vals xs its ∧ IsTup h a its.toArray
  | .dK kvs => kvs.length ≤ sizeLine ∧ (a == sysModules) = false ∧ ∃ vs, KV kvs vs ∧ h.DictOf (mixKind P w) a vs
  | .dT kvs => kvs.length ≤ sizeLine ∧ (a == sysModules) = false ∧ ∃ xs : List (List Key × Addr × Value),
      Paired (fun (p : List Key × V) (q : List Key × Addr × Value) => p.1 = q.1 ∧ H q.2.1 = some (.tup (p.1.map kV)) ∧ RelV p.2 q.2.2) kvs xs ∧
      ∃ o es ep, h.get? a = some o ∧ o.ExactDict ∧ o.data = .dict es ep ∧ es.toList = xs.map (entryOfKey (tupleKind (mixKind P w))) ∧ (xs.map (·.1)).Nodup
  | .set S n => h.SetOf (intKind P w) a S n
  | .ins C dx fs => H dx = some (.own a) ∧ fs.length ≤ 1000 ∧ dx ≠ a ∧ h.get? a = some (PySem.W.instObj C dx) ∧
      ∃ mA, h.Ns1 dx mA ∧ (∀ f, RelO (fs.lookup f) (mA f)) ∧ PySem.Within mA (fs.map (·.1))
  | .own _ => ∃ o, h.get? a = some o
  | .xd fs => ∃ mA, h.Ns1 a mA ∧ ∀ f, RelO (fs.lookup f) (mA f)
  | .rng lo hi => ∃ t u v, h.get? a = some { cls := .type "range", data := .fields #[.int lo t, .int hi u, .int 1 v] }
  | .frz o u => h.get? a = some o ∧ ObjOk H h a u
  | .tbl ps => h.get? a = some { cls := .none, data := .fields ps }
  | .met f x => h.get? a = some (PySem.W.methodObj (.ref f) (.ref x))
  | .ext φ => φ h ∧ (∃ o, h.get? a = some o) ∧ ∀ h1 h2 : Heap, φ h1 → (∀ o, h1.get? a = some o → h2.get? a = some o) → φ h2
def HOk (H : Hp) (h : Heap) : Prop := ∀ a o, H a = some o → ObjOk P w H h a o
end

section
variable {P : Program} {w : World} {H H' : Hp} {h h' : Heap} {a : Addr} {o : HO}
theorem ObjOk.lt (x : ObjOk P w H h a o) : a < h.objs.size := by
  cases o with
  | lst xs => obtain ⟨_, _, _, _, e⟩ := x; exact Heap.lt_size e
  | tup xs => obtain ⟨_, _, _, p⟩ := x; exact p.lt
  | dK kvs => obtain ⟨_, _, _, _, o, _, _, e, _⟩ := x; exact Heap.lt_size e
  | dT kvs => obtain ⟨_, _, _, _, o, _, _, e, _⟩ := x; exact Heap.lt_size e
  | set S n => obtain ⟨o, _, _, _, e, _⟩ := x; exact Heap.lt_size e
  | ins C dx fs => obtain ⟨_, _, _, e, _⟩ := x; exact Heap.lt_size e
  | own y => obtain ⟨_, e⟩ := x; exact Heap.lt_size e
  | xd fs => obtain ⟨_, ⟨_, _, _, e, _⟩, _⟩ := x; exact Heap.lt_size e
  | rng lo hi => obtain ⟨_, _, _, e⟩ := x; exact Heap.lt_size e
  | frz ob u => obtain ⟨e, _⟩ := x; exact Heap.lt_size e
  | tbl ps => exact Heap.lt_size (show h.get? a = some _ from x)
  | met f y => exact Heap.lt_size (show h.get? a = some _ from x)
  | ext φ => obtain ⟨_, ⟨_, e⟩, _⟩ := x; exact Heap.lt_size e
theorem Paired.mapP {α β : Type} {F G : α → β → Prop} : ∀ {l₁ : List α} {l₂ : List β}, Paired F l₁ l₂ → (∀ a b, F a b → G a b) → Paired G l₁ l₂
  | _, _, .nil, _ => .nil
  | _, _, .cons r t, f => .cons (f _ _ r) (Paired.mapP t f)
theorem ObjOk.stay (x : ObjOk P w H h a o) (k : ∀ b u, (b = a ∨ H b = some (.own a)) → h.get? b = some u → h'.get? b = some u)
    (ho : ∀ b, H b = some (.own a) → H' b = some (.own a)) (ht : ∀ b xs, H b = some (.tup xs) → H' b = some (.tup xs)) : ObjOk P w H' h' a o := by
  induction o with
  | lst xs => obtain ⟨z, its, n, r, e⟩ := x; exact ⟨z, its, n, r, k _ _ (.inl rfl) e⟩
  | tup xs => obtain ⟨z, its, r, ob, e, c⟩ := x; exact ⟨z, its, r, ob, k _ _ (.inl rfl) e, c⟩
  | dK kvs => obtain ⟨z, y, vs, r, ob, es, ep, e, c⟩ := x; exact ⟨z, y, vs, r, ob, es, ep, k _ _ (.inl rfl) e, c⟩
  | dT kvs =>
    obtain ⟨z, y, xs, r, ob, es, ep, e, c⟩ := x
    exact ⟨z, y, xs, Paired.mapP r fun p q z => ⟨z.1, ht _ _ z.2.1, z.2.2⟩, ob, es, ep, k _ _ (.inl rfl) e, c⟩
  | set S n => obtain ⟨ob, es, ep, t, e, c⟩ := x; exact ⟨ob, es, ep, t, k _ _ (.inl rfl) e, c⟩
  | ins C dx fs =>
    obtain ⟨d, z, ne, e, mA, ⟨od, es, ep, e2, c⟩, r⟩ := x
    exact ⟨ho _ d, z, ne, k _ _ (.inl rfl) e, mA, ⟨od, es, ep, k _ _ (.inr d) e2, c⟩, r⟩
  | own y => obtain ⟨ob, e⟩ := x; exact ⟨ob, k _ _ (.inl rfl) e⟩
  | xd fs => obtain ⟨mA, ⟨od, es, ep, e, c⟩, r⟩ := x; exact ⟨mA, ⟨od, es, ep, k _ _ (.inl rfl) e, c⟩, r⟩
  | rng lo hi => obtain ⟨t, u, v, e⟩ := x; exact ⟨t, u, v, k _ _ (.inl rfl) e⟩
  | frz ob u ih => obtain ⟨e, q⟩ := x; exact ⟨k _ _ (.inl rfl) e, ih q⟩
  | tbl ps =>
    have e : h.get? a = some { cls := .none, data := .fields ps } := x
    show h'.get? a = some { cls := .none, data := .fields ps }
    exact k a _ (.inl rfl) e
  | met f y =>
    have e : h.get? a = some (PySem.W.methodObj (.ref f) (.ref y)) := x
    show h'.get? a = some (PySem.W.methodObj (.ref f) (.ref y))
    exact k a _ (.inl rfl) e
  | ext φ => obtain ⟨p, ⟨o, e⟩, st⟩ := x; exact ⟨st _ _ p fun o q => k _ _ (.inl rfl) q, ⟨o, k _ _ (.inl rfl) e⟩, st⟩
theorem HOk.lt (x : HOk P w H h) (e : H a = some o) : a < h.objs.size := (x a o e).lt
theorem HOk.fresh (x : HOk P w H h) (e : h.objs.size ≤ a) : H a = none := by
  cases q : H a with
  | none => rfl
  | some u => exact absurd (Nat.lt_of_lt_of_le (x.lt q) e) (Nat.lt_irrefl _)
theorem HOk.kept (x : HOk P w H h) (k : ∀ b u, h.get? b = some u → h'.get? b = some u) : HOk P w H h' := fun a o e =>
  (x a o e).stay (fun b u _ q => k b u q) (fun _ q => q) fun _ _ q => q
theorem HOk.laid (x : HOk P w H h) (k : ∀ b u, h.get? b = some u → h'.get? b = some u) (hp : h.objs.size ≤ a) (new : ObjOk P w (upd H a o) h' a o) : HOk P w (upd H a o) h' := fun b u e => by
  have hn := x.fresh hp
  by_cases hb : b = a
  · subst hb; rw [upd_same] at e; cases e; exact new
  · rw [upd_ne hb] at e
    exact (x b u e).stay (fun c v _ q => k c v q) (fun c q => by rw [upd_ne (ne_of_none q hn)]; exact q) fun c xs q => by rw [upd_ne (ne_of_none q hn)]; exact q
end

def Rd (H : Hp) (a : Addr) (u : HO) : Prop := H a = some u ∨ ∃ o, H a = some (.frz o u)
theorem Rd.of {H : Hp} {a : Addr} {u : HO} (h : H a = some u) : Rd H a u := .inl h
theorem Rd.ok {P : Program} {w : World} {H : Hp} {h : Heap} {a : Addr} {u : HO} (r : Rd H a u) (x : HOk P w H h) : ObjOk P w H h a u := by
  rcases r with r | ⟨o, r⟩
  · exact x a u r
  · obtain ⟨_, q⟩ := x a _ r
    exact q
def Mut : Option HO → Prop
  | some (.lst _) => True
  | some (.dK _) => True
  | some (.dT _) => True
  | some (.set _ _) => True
  | some (.ins _ _ _) => True
  | some (.ext _) => True
  | _ => False
section
variable {P : Program} {w : World} {H : Hp} {h h' : Heap} {x e : Addr} {o' : HO}
theorem HOk.write (ok : HOk P w H h) (mu : Mut (H x)) (he : e = x ∨ H e = some (.own x)) (k : ∀ b u, b ≠ e → h.get? b = some u → h'.get? b = some u) (heo : ∃ u, h'.get? e = some u)
    (new : ObjOk P w (upd H x o') h' x o') : HOk P w (upd H x o') h' := fun b u q => by
  have nown : ∀ c y, H c = some (.own y) → c ≠ x := fun c y r z => by subst z; rw [r] at mu; exact mu
  have ntup : ∀ c xs, H c = some (.tup xs) → c ≠ x := fun c xs r z => by subst z; rw [r] at mu; exact mu
  by_cases hb : b = x
  · subst hb; rw [upd_same] at q; cases q; exact new
  · rw [upd_ne hb] at q
    by_cases hbe : b = e
    · have q' : H b = some (.own x) := by
        rcases he with z | z
        · exact absurd (hbe.trans z) hb
        · rw [hbe]; exact z
      rw [q] at q'; cases q'
      obtain ⟨v, hv⟩ := heo
      exact ⟨v, by rw [hbe]; exact hv⟩
    · refine (ok b u q).stay (fun c v hc r => k c v ?_ r) (fun c r => by rw [upd_ne (nown c b r)]; exact r) fun c xs r => by rw [upd_ne (ntup c xs r)]; exact r
      rcases hc with rfl | hc
      · exact hbe
      · rintro rfl
        rcases he with z | z
        · exact nown c b hc z
        · rw [hc] at z; cases z; exact hb rfl
end

structure Un (fs ex : List Addr) (H H' : Hp) (h h' : Heap) : Prop where
  keep : ∀ b o, h.get? b = some o → H b = none → b ∉ fs → b ∉ ex → h'.get? b = some o
  slot : ∀ b o, h.get? b = some o → H b = none → b ∈ fs → b ∉ ex → ∃ sl, h'.get? b = some { o with slots := sl }
  free : ∀ b o, h.get? b = some o → H b = none → b ∉ ex → H' b = none
  there : ∀ b o, h.get? b = some o → b ∉ ex → ∃ o', h'.get? b = some o'
  tups : ∀ b xs, H b = some (.tup xs) → H' b = some (.tup xs)
  frzs : ∀ b o u, H b = some (.frz o u) → H' b = some (.frz o u)
  tbls : ∀ b ps, H b = some (.tbl ps) → ∃ more, H' b = some (.tbl (ps ++ more))
section
variable {fs fs' ex ex' : List Addr} {H H1 H2 : Hp} {h h1 h2 h' : Heap} {a x e : Addr} {o : HO}
theorem Un.any (u : Un fs ex H H1 h h1) {b : Addr} {ob : Obj} (q : h.get? b = some ob) (n : H b = none) (hx : b ∉ ex) : ∃ sl, h1.get? b = some { ob with slots := sl } := by
  by_cases hb : b ∈ fs
  · exact u.slot b ob q n hb hx
  · exact ⟨ob.slots, u.keep b ob q n hb hx⟩
theorem Un.trans (a : Un fs ex H H1 h h1) (b : Un fs ex H1 H2 h1 h2) : Un fs ex H H2 h h2 where
  keep := fun c ob q n hc hx => b.keep c ob (a.keep c ob q n hc hx) (a.free c ob q n hx) hc hx
  slot := fun c ob q n hc hx => by
    obtain ⟨sl, e1⟩ := a.slot c ob q n hc hx
    obtain ⟨sl', e2⟩ := b.slot c _ e1 (a.free c ob q n hx) hc hx
    exact ⟨sl', e2⟩
  free := fun c ob q n hx => by
    obtain ⟨o', e1⟩ := a.there c ob q hx
    exact b.free c o' e1 (a.free c ob q n hx) hx
  there := fun c ob q hx => by
    obtain ⟨o', e1⟩ := a.there c ob q hx
    exact b.there c o' e1 hx
  tups := fun c xs q => b.tups c xs (a.tups c xs q)
  frzs := fun c ob xs q => b.frzs c ob xs (a.frzs c ob xs q)
  tbls := fun c ps q => by
    obtain ⟨m1, e1⟩ := a.tbls c ps q
    obtain ⟨m2, e2⟩ := b.tbls c _ e1
    exact ⟨m1 ++ m2, by rw [e2, Array.append_assoc]⟩
theorem Un.kept (k : ∀ b u, h.get? b = some u → h'.get? b = some u) : Un fs ex H H h h' :=
  ⟨fun b ob q _ _ _ => k b ob q, fun b ob q _ _ _ => ⟨ob.slots, k b ob q⟩, fun _ _ _ n _ => n, fun b ob q _ => ⟨ob, k b ob q⟩, fun _ _ q => q, fun _ _ _ q => q, fun _ ps q => ⟨#[], by rw [q]; simp⟩⟩
theorem Un.refl : Un fs ex H H h h := Un.kept fun _ _ q => q
theorem Un.laid (k : ∀ b u, h.get? b = some u → h'.get? b = some u) (hp : h.objs.size ≤ a) (hn : H a = none) : Un fs ex H (upd H a o) h h' where
  keep := fun b u q _ _ _ => k b u q
  slot := fun b u q _ _ _ => ⟨u.slots, k b u q⟩
  free := fun b u q n _ => by rw [upd_ne (Nat.ne_of_lt (Nat.lt_of_lt_of_le (Heap.lt_size q) hp))]; exact n
  there := fun b u q _ => ⟨u, k b u q⟩
  tups := fun b xs q => by rw [upd_ne (ne_of_none q hn)]; exact q
  frzs := fun b u xs q => by rw [upd_ne (ne_of_none q hn)]; exact q
  tbls := fun b ps q => ⟨#[], by rw [upd_ne (ne_of_none q hn), q]; simp⟩
theorem Un.write (mu : Mut (H x)) (he : e = x ∨ H e = some (.own x)) (k : ∀ b u, b ≠ e → h.get? b = some u → h'.get? b = some u) (heo : ∃ u, h'.get? e = some u) : Un fs ex H (upd H x o) h h' := by
  have hx : ∀ b, H b = none → b ≠ x := fun b n z => by subst z; rw [n] at mu; exact mu
  have hb : ∀ b, H b = none → b ≠ e := fun b n z => by
    subst z
    rcases he with r | r
    · exact hx b n r
    · rw [n] at r; cases r
  have hm : ∀ b u, H b = some u → ¬ Mut (some u) → b ≠ x := fun b u q nm z => by subst z; rw [q] at mu; exact nm mu
  refine ⟨fun b u q n _ _ => k b u (hb b n) q, fun b u q n _ _ => ⟨u.slots, k b u (hb b n) q⟩, fun b u q n _ => by rw [upd_ne (hx b n)]; exact n, fun b u q _ => ?_,
    fun b xs q => by rw [upd_ne (hm b _ q fun z => z)]; exact q, fun b u xs q => by rw [upd_ne (hm b _ q fun z => z)]; exact q, fun b ps q => ⟨#[], by rw [upd_ne (hm b _ q fun z => z), q]; simp⟩⟩
  by_cases hbe : b = e
  · subst hbe; exact heo
  · exact ⟨u, k b u hbe q⟩
theorem Un.mono (u : Un fs ex H H1 h h1) (hs : ∀ b ∈ fs, b ∈ fs') (hx : ∀ b ∈ ex, b ∈ ex') : Un fs' ex' H H1 h h1 :=
  ⟨fun b ob q n hb he => u.keep b ob q n (fun z => hb (hs b z)) fun z => he (hx b z), fun _ _ q n _ he => u.any q n fun z => he (hx _ z), fun b ob q n he => u.free b ob q n fun z => he (hx b z), fun b ob q he => u.there b ob q fun z => he (hx b z), u.tups, u.frzs, u.tbls⟩
end

def trk (h : Heap) (H : Hp) : List Addr := (List.range h.objs.size).filter fun a => (H a).isSome
def hidT (h : Heap) (H : Hp) : Heap := PySem.W.hideAll h (trk h H)
theorem hidT_size (h : Heap) (H : Hp) : (hidT h H).objs.size = h.objs.size := PySem.W.hideAll_size _ _
theorem hidT_get {h : Heap} {H : Hp} {b : Addr} {o : Obj} (e : h.get? b = some o) (n : H b = none) : (hidT h H).get? b = some o :=
  PySem.W.hideAll_get _ e fun hm => by
    have q : (H b).isSome = true := (List.mem_filter.mp hm).2
    rw [n] at q; simp at q
theorem of_hidT {h : Heap} {H : Hp} {b : Addr} {o : Obj} (e : (hidT h H).get? b = some o) : h.get? b = some o ∧ H b = none := by
  have e' : h.get? b = some o := PySem.W.of_hideAll (trk h H) e
  refine ⟨e', ?_⟩
  cases q : H b with
  | none => rfl
  | some x =>
    have hm : b ∈ trk h H := List.mem_filter.mpr ⟨List.mem_range.mpr (Heap.lt_size e'), by simp [q]⟩
    have z : (hidT h H).get? b = none := PySem.W.hideAll_none (trk h H) hm
    rw [z] at e; cases e

def allNews (g h : Heap) (L : Addr) : List (Addr × Obj) := (List.range h.objs.size).filterMap fun a => if a = L ∨ (g.get? a).isSome = true then none else (h.get? a).map fun o => (a, o)
def rest (g h : Heap) (L d : Addr) : List (Addr × Obj) := (allNews g h L).filter fun p => decide (p.1 ≠ d)
end L2

namespace L2
open PySem PySem.Spec PyProof.Rows

structure Mod (K : PySem.W.Frag) (mg : Str → Option Value) (base : Heap) : Prop where
  kin : K.In base
  glob : base.Ns mainGlobals mg
  blt : ∃ mb, base.Ns builtinsNs mb ∧ ∀ x : Str, x ≠ "__name__" → mb x = bootBuiltins x
  nolimit : base.NoLimit

structure Cx where
  prog : Program
  w : World
  K : PySem.W.Frag
  mg : Str → Option Value
  base : Heap
  A : Around
  N : List Str
  s₀ : Shared
  H₀ : Hp
  env : Env
  outer : List Env
  stack : List Env
  ex : List Addr
  fn : Str → Bool
  calm : Bool
  pn : List (Addr × Obj)
  xe : Value → Shared → Prop
def frs (l : List Env) : List Addr := l.filterMap (·.frame)
abbrev Cx.fs (X : Cx) : List Addr := frs X.outer

def Vis (sc : Scope) (x : Str) : Prop := sc.names.lookup x = some .local ∨ sc.names.lookup x = some .cell ∨ sc.names.lookup x = some .free
def Loc (sc : Scope) (x : Str) : Prop := sc.names.lookup x = some .local ∨ sc.names.lookup x = some .cell
def Look (env : Env) (h : Heap) (m : Str → Option Value) (x : Str) (u : Value) : Prop :=
  (env.kindOf x = some .local ∧ m x = some u) ∨ ((env.kindOf x = some .cell ∨ env.kindOf x = some .free) ∧ ∃ c, env.cells.lookup x = some c ∧ h.IsCell c (some u))

structure Cx.Ok (X : Cx) : Prop where
  mod : Mod X.K X.mg X.base
  kind : X.env.scope.kind = .function
  glob : X.env.globals = mainGlobals
  blt : X.env.builtins = builtinsNs
  above : X.s₀.heap.objs.size ≤ X.env.locals
  inj : ∀ x y c, X.env.cells.lookup x = some c → X.env.cells.lookup y = some c → x = y
  has : ∀ x, (X.env.kindOf x = some .cell ∨ X.env.kindOf x = some .free) → ∃ c, X.env.cells.lookup x = some c
  cab : ∀ x c, X.fn x = true → X.env.cells.lookup x = some c → X.s₀.heap.objs.size ≤ c
  hd : X.calm = true → X.A.handled = none
  frames : X.A.frames = some X.stack
  stk : X.stack = X.outer ∨ (X.stack = X.env :: X.outer ∧ X.env.frame = some X.env.locals)
  exf : ∀ b ∈ X.ex, b ≠ X.env.locals ∧ ∀ x c, X.env.cells.lookup x = some c → c ≠ b
  bs : ∀ b o, X.base.get? b = some o → X.s₀.heap.get? b = some o ∧ X.H₀ b = none
  bsz : X.base.objs.size ≤ X.s₀.heap.objs.size
  noex : ∀ b o, X.base.get? b = some o → b ∉ X.ex
  exfs : ∀ b ∈ X.ex, b ∉ X.fs
  funs : X.s₀.heap.FunFrames X.base X.outer
  frf : ∀ b ∈ X.fs, X.H₀ b = none

structure Inv (X : Cx) (pins : List (Addr × Obj)) (σ : List (Option V)) (H : Hp) (s : Shared) : Prop where
  ok : X.Ok
  os : s.os = X.s₀.os
  bare : AllBare s.gens
  base : Un X.fs X.ex X.H₀ H X.s₀.heap s.heap
  loc : ∃ m, s.heap.Ns X.env.locals m ∧ ∀ (i : Nat) (x : Str) (v : V), X.N[i]? = some x → σ[i]? = some (some v) → Vis X.env.scope x → ∃ u, RelV v u ∧ Look X.env s.heap m x u
  cell : ∀ x c, X.env.cells.lookup x = some c → ∃ v, s.heap.IsCell c v
  free : H X.env.locals = none
  freeC : ∀ x c, X.env.cells.lookup x = some c → H c = none
  pin : ∀ p ∈ X.pn ++ pins, s.heap.get? p.1 = some p.2 ∧ H p.1 = none ∧ p.1 ≠ X.env.locals ∧ p.1 ∉ X.fs ∧ ∀ v, p.2.data ≠ .cell v
  hok : HOk X.prog X.w H s.heap
  len : σ.length = X.N.length

section
variable {X : Cx} {pins : List (Addr × Obj)} {σ : List (Option V)} {H H' : Hp} {s : Shared} {h' : Heap}

theorem Cx.Ok.nofr (ok : X.Ok) {b : Addr} {o : Obj} (e : X.base.get? b = some o) : b ∉ X.fs := fun hb => by
  have := (ok.funs.mem hb).1
  rw [e] at this; cases this
theorem Inv.bs (I : Inv X pins σ H s) : ∀ b o, X.base.get? b = some o → s.heap.get? b = some o ∧ H b = none := fun b o e =>
  ⟨I.base.keep b o (I.ok.bs b o e).1 (I.ok.bs b o e).2 (I.ok.nofr e) (I.ok.noex b o e), I.base.free b o (I.ok.bs b o e).1 (I.ok.bs b o e).2 (I.ok.noex b o e)⟩
theorem Inv.bk (I : Inv X pins σ H s) : ∀ b o, X.base.get? b = some o → s.heap.get? b = some o := fun b o e => (I.bs b o e).1
theorem Inv.mod (I : Inv X pins σ H s) : Mod X.K X.mg X.base := I.ok.mod
theorem Inv.kIn (I : Inv X pins σ H s) : X.K.In s.heap := I.ok.mod.kin.keeps I.bk
theorem Inv.nolimit (I : Inv X pins σ H s) : s.heap.NoLimit := I.ok.mod.nolimit.keeps I.bk
theorem Inv.lt (I : Inv X pins σ H s) : X.env.locals < s.heap.objs.size := let ⟨_, hn, _⟩ := I.loc; hn.lt
theorem Inv.sz (I : Inv X pins σ H s) : X.s₀.heap.objs.size ≤ s.heap.objs.size := Nat.le_trans I.ok.above (Nat.le_of_lt I.lt)
theorem Inv.nofs (I : Inv X pins σ H s) {a : Addr} (h : s.heap.objs.size ≤ a) : a ∉ X.fs := fun hb => by
  obtain ⟨_, o, ho, _⟩ := I.ok.funs.mem hb
  exact absurd (Nat.lt_of_lt_of_le (Heap.lt_size ho) (Nat.le_trans I.sz h)) (Nat.lt_irrefl _)
theorem Inv.cne (I : Inv X pins σ H s) : ∀ x c, X.env.cells.lookup x = some c → c ≠ X.env.locals := fun x c e z => by
  obtain ⟨v, o, ho, hd⟩ := I.cell x c e
  obtain ⟨m, ⟨o', es, ep, ho', hd', _⟩, _⟩ := I.loc
  rw [z, ho'] at ho; cases ho; rw [hd'] at hd; cases hd
theorem Inv.funs (I : Inv X pins σ H s) : s.heap.FunFrames X.base X.outer := by
  have all : ∀ (l : List Env), (∀ b ∈ frs l, b ∈ X.fs) → X.s₀.heap.FunFrames X.base l → s.heap.FunFrames X.base l := by
    intro l
    induction l with
    | nil => intro _ _; trivial
    | cons env r ih =>
      intro hs hl
      obtain ⟨hk, ⟨L, o, hf, hn, ho, hd⟩, hr⟩ := hl
      have hL : L ∈ X.fs := hs L (by unfold frs; rw [List.filterMap_cons, hf]; exact List.mem_cons_self)
      obtain ⟨sl, e⟩ := I.base.slot L o ho (I.ok.frf L hL) hL fun z => I.ok.exfs L z hL
      exact ⟨hk, ⟨L, _, hf, hn, e, hd⟩, ih (fun b hb => hs b (by unfold frs; rw [List.filterMap_cons, hf]; exact List.mem_cons_of_mem _ hb)) hr⟩
  exact all X.outer (fun _ hb => hb) I.ok.funs

theorem Inv.stack (I : Inv X pins σ H s) : s.heap.FunFrames X.base X.stack := by
  rcases I.ok.stk with e | ⟨e, hf⟩
  · rw [e]; exact I.funs
  · rw [e]
    obtain ⟨m, hn, _⟩ := I.loc
    refine .cons (by rw [I.ok.kind]; decide) hf hn ?_ I.funs
    exact Heap.get?_none_of_le (Nat.le_trans I.ok.bsz I.ok.above)
theorem Inv.stkSub (I : Inv X pins σ H s) : ∀ b ∈ frs X.stack, b ∈ X.env.locals :: X.fs := fun b hb => by
  rcases I.ok.stk with e | ⟨e, hf⟩
  · rw [e] at hb; exact List.mem_cons_of_mem _ hb
  · rw [e] at hb
    unfold frs at hb
    rw [List.filterMap_cons, hf] at hb
    exact hb
theorem Inv.stkFree (I : Inv X pins σ H s) : ∀ b ∈ frs X.stack, H b = none := fun b hb => by
  rcases List.mem_cons.mp (I.stkSub b hb) with e | hb
  · rw [e]; exact I.free
  · obtain ⟨_, o, ho, _⟩ := I.ok.funs.mem hb
    exact I.base.free b o ho (I.ok.frf b hb) fun z => I.ok.exfs b z hb

theorem Inv.step {g' : Array GenState} {t' : Nat} {d' : Drawn} {ch : List Addr} (I : Inv X pins σ H s)
    (hch : ∀ b ∈ ch, (b ∈ X.ex ∨ X.s₀.heap.objs.size ≤ b) ∧ b ≠ X.env.locals ∧ (∀ x c, X.env.cells.lookup x = some c → c ≠ b) ∧ ∀ p ∈ X.pn ++ pins, p.1 ≠ b)
    (keep : ∀ b o, b ≠ X.env.locals → b ∉ X.fs → b ∉ ch → s.heap.get? b = some o → H b = none → h'.get? b = some o)
    (slot : ∀ b o, b ≠ X.env.locals → b ∈ X.fs → b ∉ ch → s.heap.get? b = some o → H b = none → ∃ sl, h'.get? b = some { o with slots := sl }) (free : ∀ b o, b ∉ ch → s.heap.get? b = some o → H b = none → H' b = none)
    (there : ∀ b o, b ∉ ch → s.heap.get? b = some o → ∃ o', h'.get? b = some o')
    (tups : ∀ b xs, H b = some (.tup xs) → H' b = some (.tup xs)) (frzs : ∀ b o u, H b = some (.frz o u) → H' b = some (.frz o u)) (tbls : ∀ b ps, H b = some (.tbl ps) → ∃ more, H' b = some (.tbl (ps ++ more)))
    (ns : ∀ m, s.heap.Ns X.env.locals m → h'.Ns X.env.locals m) (hok : HOk X.prog X.w H' h') (hg : AllBare g') :
    Inv X pins σ H' { s with heap := h', gens := g', drawn := d', toks := t' } := by
  have neL : ∀ b o, X.s₀.heap.get? b = some o → b ≠ X.env.locals := fun b o e => Nat.ne_of_lt (Nat.lt_of_lt_of_le (Heap.lt_size e) I.ok.above)
  have neC : ∀ b o, X.s₀.heap.get? b = some o → b ∉ X.ex → b ∉ ch := fun b o e hx hb => by
    rcases (hch b hb).1 with z | z
    · exact hx z
    · exact absurd (Nat.lt_of_lt_of_le (Heap.lt_size e) z) (Nat.lt_irrefl _)
  have cellK : ∀ x c, X.env.cells.lookup x = some c → ∀ v, s.heap.IsCell c v → h'.IsCell c v := fun x c e v ⟨o, ho, hd⟩ => by
    have nch : c ∉ ch := fun z => (hch c z).2.2.1 x c e rfl
    by_cases hc : c ∈ X.fs
    · obtain ⟨sl, q⟩ := slot c o (I.cne x c e) hc nch ho (I.freeC x c e)
      exact ⟨_, q, hd⟩
    · exact ⟨o, keep c o (I.cne x c e) hc nch ho (I.freeC x c e), hd⟩
  refine ⟨I.ok, I.os, hg, ⟨fun b o e n hb hx => ?_, fun b o e n hb hx => ?_, fun b o e n hx => ?_, fun b o e hx => ?_, fun b xs e => tups b xs (I.base.tups b xs e), fun b o xs e => frzs b o xs (I.base.frzs b o xs e), fun b ps e => ?_⟩, ?_, fun x c e => ?_, ?_, fun x c e => ?_, fun p hp => ?_, hok, I.len⟩
  · exact keep b o (neL b o e) hb (neC b o e hx) (I.base.keep b o e n hb hx) (I.base.free b o e n hx)
  · obtain ⟨sl, e1⟩ := I.base.slot b o e n hb hx
    obtain ⟨sl', e2⟩ := slot b _ (neL b o e) hb (neC b o e hx) e1 (I.base.free b o e n hx)
    exact ⟨sl', e2⟩
  · obtain ⟨o', e1⟩ := I.base.there b o e hx
    exact free b o' (neC b o e hx) e1 (I.base.free b o e n hx)
  · obtain ⟨o', e1⟩ := I.base.there b o e hx
    exact there b o' (neC b o e hx) e1
  · obtain ⟨m1, e1⟩ := I.base.tbls b ps e
    obtain ⟨m2, e2⟩ := tbls b _ e1
    exact ⟨m1 ++ m2, by rw [e2, Array.append_assoc]⟩
  · obtain ⟨m, hn, hl⟩ := I.loc
    refine ⟨m, ns m hn, fun i x v e1 e2 e3 => ?_⟩
    obtain ⟨u, r, l⟩ := hl i x v e1 e2 e3
    refine ⟨u, r, ?_⟩
    rcases l with l | ⟨k, c, e, z⟩
    · exact .inl l
    · exact .inr ⟨k, c, e, cellK x c e _ z⟩
  · obtain ⟨v, z⟩ := I.cell x c e
    exact ⟨v, cellK x c e v z⟩
  · obtain ⟨m, ⟨o, _, _, ho, _⟩, _⟩ := I.loc
    exact free _ o (fun z => (hch _ z).2.1 rfl) ho I.free
  · obtain ⟨v, o, ho, hd⟩ := I.cell x c e
    exact free c o (fun z => (hch c z).2.2.1 x c e rfl) ho (I.freeC x c e)
  · obtain ⟨e, n, ne, nf, d⟩ := I.pin p hp
    have nch : p.1 ∉ ch := fun z => (hch p.1 z).2.2.2 p hp rfl
    exact ⟨keep p.1 p.2 ne nf nch e n, free p.1 p.2 nch e n, ne, nf, d⟩
theorem Inv.un {t' : Nat} (I : Inv X pins σ H s) (u : Un X.fs [] H H' s.heap h') (hok : HOk X.prog X.w H' h') : Inv X pins σ H' { s with heap := h', toks := t' } := by
  obtain ⟨m, ⟨o, es, ep, ho, r⟩, _⟩ := id I.loc
  obtain ⟨sl, hL⟩ := u.any ho I.free (by simp)
  exact I.step (g' := s.gens) (d' := s.drawn) (ch := []) (fun _ z => nomatch z) (fun b o _ hb _ e n => u.keep b o e n hb (by simp)) (fun b o _ hb _ e n => u.slot b o e n hb (by simp)) (fun b o _ e n => u.free b o e n (by simp)) (fun b o _ e => u.there b o e (by simp)) u.tups u.frzs u.tbls (fun m' hm => by
    obtain ⟨o', es', ep', ho', r'⟩ := hm
    rw [ho] at ho'; cases ho'
    exact ⟨_, es', ep', hL, r'⟩) hok I.bare
theorem Inv.call {g' : Array GenState} {t' : Nat} {d' : Drawn} {ch : List Addr} (I : Inv X pins σ H s) (u : Un (frs X.stack) ch H H' s.heap h') (hok : HOk X.prog X.w H' h') (hg : AllBare g')
    (hch : ∀ b ∈ ch, (b ∈ X.ex ∨ X.s₀.heap.objs.size ≤ b) ∧ b ≠ X.env.locals ∧ (∀ x c, X.env.cells.lookup x = some c → c ≠ b) ∧ ∀ p ∈ X.pn ++ pins, p.1 ≠ b) :
    Inv X pins σ H' { s with heap := h', gens := g', drawn := d', toks := t' } := by
  obtain ⟨m, ⟨o, es, ep, ho, r⟩, _⟩ := id I.loc
  obtain ⟨sl, hL⟩ := u.any ho I.free fun z => (hch _ z).2.1 rfl
  exact I.step (ch := ch) hch (fun b o hL hb hc e n => u.keep b o e n (fun z => (List.mem_cons.mp (I.stkSub b z)).elim hL hb) hc) (fun b o _ _ hc e n => u.any e n hc) (fun b o hc e n => u.free b o e n hc) (fun b o hc e => u.there b o e hc) u.tups u.frzs u.tbls (fun m' hm => by
    obtain ⟨o', es', ep', ho', r'⟩ := hm
    rw [ho] at ho'; cases ho'
    exact ⟨_, es', ep', hL, r'⟩) hok hg
theorem Inv.turned {t' : Nat} {it : Addr} (I : Inv X pins σ H s) (k : ∀ b o, b ≠ it → s.heap.get? b = some o → h'.get? b = some o) (hn : H it = none) (hL : it ≠ X.env.locals)
    (h1 : it ∈ X.ex ∨ X.s₀.heap.objs.size ≤ it) (h2 : ∀ x c, X.env.cells.lookup x = some c → c ≠ it) (h3 : ∀ p ∈ X.pn ++ pins, p.1 ≠ it) : Inv X pins σ H { s with heap := h', toks := t' } := by
  have nit : ∀ b u, H b = some u → b ≠ it := fun b u e z => by rw [z, hn] at e; cases e
  refine I.step (g' := s.gens) (d' := s.drawn) (ch := [it]) (fun b hb => ?_) (fun b o _ _ hc e _ => k b o (fun z => hc (by simp [z])) e) (fun b o _ _ hc e _ => ⟨o.slots, k b o (fun z => hc (by simp [z])) e⟩) (fun _ _ _ _ n => n)
    (fun b o hc e => ⟨o, k b o (fun z => hc (by simp [z])) e⟩) (fun _ _ e => e) (fun _ _ _ e => e) (fun b ps e => ⟨#[], by rw [e]; simp⟩) (fun m hm => ?_) (fun b u e => ?_) I.bare
  · have e : b = it := by simpa using hb
    subst e
    exact ⟨h1, hL, h2, h3⟩
  · obtain ⟨o, es, ep, ho, r⟩ := hm
    exact ⟨o, es, ep, k _ o (Ne.symm hL) ho, r⟩
  · refine (I.hok b u e).stay (fun c v hc q => k c v ?_ q) (fun _ q => q) fun _ _ q => q
    rcases hc with z | z
    · rw [z]; exact nit b u e
    · exact nit c _ z
theorem Inv.tok (I : Inv X pins σ H s) (t : Nat) : Inv X pins σ H { s with toks := t } := I.un (h' := s.heap) (t' := t) Un.refl I.hok
theorem Inv.kept {t' : Nat} (I : Inv X pins σ H s) (k : ∀ b u, s.heap.get? b = some u → h'.get? b = some u) : Inv X pins σ H { s with heap := h', toks := t' } := I.un (Un.kept k) (I.hok.kept k)
theorem Inv.laid {a : Addr} {o : HO} {t' : Nat} (I : Inv X pins σ H s) (k : ∀ b u, s.heap.get? b = some u → h'.get? b = some u) (hp : s.heap.objs.size ≤ a) (new : ObjOk X.prog X.w (upd H a o) h' a o) :
    Inv X pins σ (upd H a o) { s with heap := h', toks := t' } := I.un (Un.laid k hp (I.hok.fresh hp)) (I.hok.laid k hp new)
theorem Inv.write {x e : Addr} {o : HO} {t' : Nat} (I : Inv X pins σ H s) (mu : Mut (H x)) (he : e = x ∨ H e = some (.own x)) (k : ∀ b u, b ≠ e → s.heap.get? b = some u → h'.get? b = some u) (heo : ∃ u, h'.get? e = some u)
    (new : ObjOk X.prog X.w (upd H x o) h' x o) : Inv X pins σ (upd H x o) { s with heap := h', toks := t' } := I.un (Un.write mu he k heo) (I.hok.write mu he k heo new)
theorem Inv.pins_of {pins' : List (Addr × Obj)} (I : Inv X pins σ H s) (h : ∀ p ∈ pins', s.heap.get? p.1 = some p.2 ∧ H p.1 = none ∧ p.1 ≠ X.env.locals ∧ p.1 ∉ X.fs ∧ ∀ v, p.2.data ≠ .cell v) : Inv X pins' σ H s :=
  ⟨I.ok, I.os, I.bare, I.base, I.loc, I.cell, I.free, I.freeC, fun p hp => (List.mem_append.mp hp).elim (fun z => I.pin p (List.mem_append_left _ z)) (h p), I.hok, I.len⟩

theorem nodup_ix {N : List Str} (hN : N.Nodup) {i j : Nat} {x : Str} (a : N[i]? = some x) (b : N[j]? = some x) : i = j := by
  obtain ⟨h1, e1⟩ := List.getElem?_eq_some_iff.mp a
  obtain ⟨h2, e2⟩ := List.getElem?_eq_some_iff.mp b
  exact (List.getElem_inj hN).mp (e1.trans e2.symm)

theorem store_ok2 {M : Model} {A : Around} {E : Value → Shared → Prop} {i : Nat} {x : Str} {v : V} {u : Value} {Q : Unit → Shared → Prop} (I : Inv X pins σ H s) (hN : X.N.Nodup) (hi : X.N[i]? = some x) (hx : Loc X.env.scope x) (r : RelV v u)
    (h : ∀ s', Inv X pins (σ.set i (some v)) H s' → (∃ a, Heap.SameBut a s.heap s'.heap ∧ (a = X.env.locals ∨ X.env.cells.lookup x = some a)) → Q () s') (hf : X.fn x = true ∨ X.env.scope.names.lookup x = some .local := by first | exact .inl rfl | exact .inr rfl | assumption) : wpAny M A (storeName X.env x u) Q E s := by
  obtain ⟨m, hn, hl⟩ := id I.loc
  have hcls : (X.env.scope.kind == .class || (X.env.scope.kind == .module && X.env.locals != X.env.globals)) = false := by rw [I.ok.kind]; rfl
  have hiσ : i < σ.length := by rw [I.len]; exact (List.getElem?_eq_some_iff.mp hi).1
  have cne := I.cne
  have tracked : ∀ {a : Addr} {h' : Heap}, (∃ o, s.heap.get? a = some o ∧ H a = none) → Heap.SameBut a s.heap h' → HOk X.prog X.w H h' := fun {a h'} ha hs b ob e => by
    obtain ⟨_, _, hfree⟩ := ha
    refine (I.hok b ob e).stay (fun c w' hc q => (hs.2 c ?_).trans q) (fun _ q => q) fun _ _ q => q
    rintro rfl
    rcases hc with rfl | hc
    · rw [hfree] at e; cases e
    · rw [hfree] at hc; cases hc
  rcases hx with hk | hk
  · refine wpAny_storeName_local hk hn (fun h' hn' hs => ?_) hcls
    obtain ⟨oL, _, _, hoL, _⟩ := id hn
    refine h _ ⟨I.ok, I.os, I.bare, ⟨fun b o e n hb hx => ?_, fun b o e n hb hx => ?_, I.base.free, fun b o e hx => ?_, I.base.tups, I.base.frzs, I.base.tbls⟩, ⟨_, hn', fun j y v' e1 e2 e3 => ?_⟩, fun y c e => ?_, I.free, I.freeC, fun p hp => ?_, tracked ⟨oL, hoL, I.free⟩ hs, by simpa using I.len⟩ ⟨_, hs, .inl rfl⟩
    · exact (hs.2 b (Nat.ne_of_lt (Nat.lt_of_lt_of_le (Heap.lt_size e) I.ok.above))).trans (I.base.keep b o e n hb hx)
    · obtain ⟨sl, e1⟩ := I.base.slot b o e n hb hx
      exact ⟨sl, (hs.2 b (Nat.ne_of_lt (Nat.lt_of_lt_of_le (Heap.lt_size e) I.ok.above))).trans e1⟩
    · obtain ⟨o', e1⟩ := I.base.there b o e hx
      exact ⟨o', (hs.2 b (Nat.ne_of_lt (Nat.lt_of_lt_of_le (Heap.lt_size e) I.ok.above))).trans e1⟩
    · by_cases hj : j = i
      · subst hj
        rw [hi] at e1; cases e1
        rw [List.getElem?_set_self hiσ] at e2
        cases e2
        exact ⟨u, r, .inl ⟨hk, by simp⟩⟩
      · rw [List.getElem?_set_ne (Ne.symm hj)] at e2
        obtain ⟨u', r', q⟩ := hl j y v' e1 e2 e3
        refine ⟨u', r', ?_⟩
        rcases q with ⟨k, e⟩ | ⟨k, c, e, z⟩
        · refine .inl ⟨k, ?_⟩
          have : y ≠ x := fun e => hj (nodup_ix hN e1 (e ▸ hi))
          simp [this, e]
        · exact .inr ⟨k, c, e, z.sameBut hs (cne y c e)⟩
    · obtain ⟨w', z⟩ := I.cell y c e
      exact ⟨w', z.sameBut hs (cne y c e)⟩
    · obtain ⟨e, n, ne, nf, d⟩ := I.pin p hp
      exact ⟨(hs.2 p.1 ne).trans e, n, ne, nf, d⟩
  · have hfn : X.fn x = true := by
      rcases hf with z | z
      · exact z
      · rw [z] at hk; cases hk
    obtain ⟨c, hc⟩ := I.ok.has x (.inl hk)
    obtain ⟨w', z⟩ := I.cell x c hc
    refine wpAny_storeName_cell I.ok.kind hk hc z (fun h' hc' hs => ?_)
    obtain ⟨oc, hoc, hocd⟩ := id z
    refine h { s with heap := h' } ⟨I.ok, I.os, I.bare, ⟨fun b o e n hb hx => ?_, fun b o e n hb hx => ?_, I.base.free, fun b o e hx => ?_, I.base.tups, I.base.frzs, I.base.tbls⟩, ⟨m, hn.sameBut hs (Ne.symm (cne x c hc)), fun j y v' e1 e2 e3 => ?_⟩, fun y c' e => ?_, I.free, I.freeC, fun p hp => ?_, tracked ⟨oc, hoc, I.freeC x c hc⟩ hs, by simpa using I.len⟩ ⟨c, hs, .inr hc⟩
    · exact (hs.2 b (Nat.ne_of_lt (Nat.lt_of_lt_of_le (Heap.lt_size e) (I.ok.cab x c hfn hc)))).trans (I.base.keep b o e n hb hx)
    · obtain ⟨sl, e1⟩ := I.base.slot b o e n hb hx
      exact ⟨sl, (hs.2 b (Nat.ne_of_lt (Nat.lt_of_lt_of_le (Heap.lt_size e) (I.ok.cab x c hfn hc)))).trans e1⟩
    · obtain ⟨o', e1⟩ := I.base.there b o e hx
      exact ⟨o', (hs.2 b (Nat.ne_of_lt (Nat.lt_of_lt_of_le (Heap.lt_size e) (I.ok.cab x c hfn hc)))).trans e1⟩
    · by_cases hj : j = i
      · subst hj
        rw [hi] at e1; cases e1
        rw [List.getElem?_set_self hiσ] at e2
        cases e2
        exact ⟨u, r, .inr ⟨.inl hk, c, hc, hc'⟩⟩
      · rw [List.getElem?_set_ne (Ne.symm hj)] at e2
        obtain ⟨u', r', q⟩ := hl j y v' e1 e2 e3
        refine ⟨u', r', ?_⟩
        rcases q with q | ⟨k, c', e, z'⟩
        · exact .inl q
        · refine .inr ⟨k, c', e, z'.sameBut hs ?_⟩
          rintro rfl
          exact hj (nodup_ix hN e1 (I.ok.inj _ _ _ e hc ▸ hi))
    · by_cases hcc : c' = c
      · subst hcc; exact ⟨_, hc'⟩
      · obtain ⟨w2, z2⟩ := I.cell y c' e
        exact ⟨w2, z2.sameBut hs hcc⟩
    · obtain ⟨e, n, ne, nf, d⟩ := I.pin p hp
      refine ⟨(hs.2 p.1 ?_).trans e, n, ne, nf, d⟩
      intro q
      rw [q, hoc] at e
      have q' : oc = p.2 := Option.some.inj e
      exact d w' (by rw [← q']; exact hocd)
theorem store_ok {M : Model} {A : Around} {E : Value → Shared → Prop} {i : Nat} {x : Str} {v : V} {u : Value} {Q : Unit → Shared → Prop} (I : Inv X pins σ H s) (hN : X.N.Nodup) (hi : X.N[i]? = some x) (hx : Loc X.env.scope x) (r : RelV v u)
    (h : ∀ s', Inv X pins (σ.set i (some v)) H s' → Q () s') (hf : X.fn x = true ∨ X.env.scope.names.lookup x = some .local := by first | exact .inl rfl | exact .inr rfl | assumption) : wpAny M A (storeName X.env x u) Q E s :=
  store_ok2 I hN hi hx r (fun s' I' _ => h s' I') hf
theorem Inv.call' {s' : Shared} {ch : List Addr} (I : Inv X pins σ H s) (ho : s'.os = s.os) (u : Un (frs X.stack) ch H H' s.heap s'.heap) (hok : HOk X.prog X.w H' s'.heap) (hg : AllBare s'.gens)
    (hch : ∀ b ∈ ch, (b ∈ X.ex ∨ X.s₀.heap.objs.size ≤ b) ∧ b ≠ X.env.locals ∧ (∀ x c, X.env.cells.lookup x = some c → c ≠ b) ∧ ∀ p ∈ X.pn ++ pins, p.1 ≠ b) : Inv X pins σ H' s' := by
  obtain ⟨h', g', d', t', o'⟩ := s'
  have e : o' = s.os := ho
  subst e
  exact I.call (g' := g') (t' := t') (d' := d') u hok hg hch
end

abbrev XK := Value → Option Addr → Hp → Prop
abbrev St := List (Option V)
abbrev VK := V → Hp → Prop
abbrev TE := St → Hp → VK → Prop
abbrev TT := St → Hp → (Bool → Hp → Prop) → Prop
abbrev TA := St → Hp → (List V → Hp → Prop) → Prop
structure Ends where
  nx : St → Hp → Prop
  rt : VK
  bk : St → Hp → Prop := fun _ _ => False
  ct : St → Hp → Prop := fun _ _ => False
abbrev TS := Ends → St → Hp → Prop

def EP (X : Cx) (pins : List (Addr × Obj)) (σ : St) (Q : VK) (u : Value) (s' : Shared) : Prop := ∃ v H', Inv X pins σ H' s' ∧ RelV v u ∧ Q v H'
def TP (X : Cx) (pins : List (Addr × Obj)) (σ : St) (Q : Bool → Hp → Prop) (b : Bool) (s' : Shared) : Prop := ∃ H', Inv X pins σ H' s' ∧ Q b H'
def AP (X : Cx) (pins : List (Addr × Obj)) (σ : St) (Q : List V → Hp → Prop) (us : List Value) (s' : Shared) : Prop := ∃ vs H', Inv X pins σ H' s' ∧ Vals vs us ∧ Q vs H'
def SP (X : Cx) (pins : List (Addr × Obj)) (D : Ends) (f : Flow) (s' : Shared) : Prop :=
  match f with
  | .next => ∃ σ' H', Inv X pins σ' H' s' ∧ D.nx σ' H'
  | .brk => ∃ σ' H', Inv X pins σ' H' s' ∧ D.bk σ' H'
  | .cont => ∃ σ' H', Inv X pins σ' H' s' ∧ D.ct σ' H'
  | .ret u => ∃ v σ' H', Inv X pins σ' H' s' ∧ RelV v u ∧ D.rt v H'

def PE (X : Cx) (e : Expr) (t : TE) : Prop :=
  ∀ (pins : List (Addr × Obj)) (s : Shared) (σ : St) (H : Hp) (Q : VK), Inv X pins σ H s → t σ H Q → wpAny (model X.prog X.w) X.A (eval e X.env) (EP X pins σ Q) X.xe s
def PT (X : Cx) (e : Expr) (t : TT) : Prop :=
  ∀ (pins : List (Addr × Obj)) (s : Shared) (σ : St) (H : Hp) (Q : Bool → Hp → Prop), Inv X pins σ H s → t σ H Q → wpAny (model X.prog X.w) X.A (isTrue e X.env (eval e X.env)) (TP X pins σ Q) X.xe s
def PW (X : Cx) (e : Expr) (t : TT) : Prop :=
  ∀ (whole : Sem Value) (pins : List (Addr × Obj)) (s : Shared) (σ : St) (H : Hp) (Q : Bool → Hp → Prop), Inv X pins σ H s → t σ H Q → wpAny (model X.prog X.w) X.A (isTrue e X.env whole) (TP X pins σ Q) X.xe s
theorem PW.pt {X : Cx} {e : Expr} {t : TT} (h : PW X e t) : PT X e t := h _
def PA (X : Cx) (es : List Expr) (t : TA) : Prop :=
  ∀ (pos : Pos) (pins : List (Addr × Obj)) (s : Shared) (σ : St) (H : Hp) (Q : List V → Hp → Prop), Inv X pins σ H s → t σ H Q → wpAny (model X.prog X.w) X.A (spliced (backTo pos (starEach es X.env))) (AP X pins σ Q) X.xe s
def PS (X : Cx) (st : Stmt) (t : TS) : Prop :=
  ∀ (pins : List (Addr × Obj)) (s : Shared) (σ : St) (H : Hp) (D : Ends), Inv X pins σ H s → t D σ H → wpAny (model X.prog X.w) X.A (exec st X.env) (SP X pins D) X.xe s
def PSs (X : Cx) (st : List Stmt) (t : TS) : Prop :=
  ∀ (pins : List (Addr × Obj)) (s : Shared) (σ : St) (H : Hp) (D : Ends), Inv X pins σ H s → t D σ H → wpAny (model X.prog X.w) X.A (execs st X.env) (SP X pins D) X.xe s
theorem thn {α : Type} {t : Sem α} {Q Q' : α → Shared → Prop} {M : Model} {A : Around} {E : Value → Shared → Prop} {s : Shared} (h : wpAny M A t Q E s) (hQ : ∀ a s, Q a s → Q' a s) : wpAny M A t Q' E s := wpAny_mono h hQ fun _ _ x => x
end L2

namespace L2
open PySem PySem.Spec PyProof.Rows
section
variable {X : Cx}

def tVar (i : Nat) : TE := fun σ H Q => ∃ v, σ[i]? = some (some v) ∧ Q v H
def tC (v : V) : TE := fun _ H Q => Q v H
theorem pe_var {i : Nat} {x : Str} {pos : Pos} (hN : X.N[i]? = some x) (hv : Vis X.env.scope x) (hd : (x == ("__debug__" : Str)) = false := by decide) (hcd : (x == ("__classdict__" : Str)) = false := by decide) : PE X (.Name x pos) (tVar i) := by
  intro pins s σ H Q I h
  obtain ⟨v, e, h⟩ := h
  obtain ⟨m, hn, hl⟩ := I.loc
  obtain ⟨u, r, l⟩ := hl i x v hN e hv
  have fin : EP X pins σ Q u s := ⟨v, H, I, r, h⟩
  rcases l with ⟨hk, hm⟩ | ⟨hk, c, hc, hcell⟩
  · exact wpAny_Name (wpAny_loadName_local I.ok.kind hk hn hm fin) hd
  · rcases hk with hk | hk
    · exact wpAny_Name (wpAny_loadName_cell I.ok.kind hk hc hcell fin) hd
    · exact wpAny_Name (wpAny_loadName_free I.ok.kind hk hc hcell fin hcd) hd
theorem pe_int {i j pos} : PE X (.Constant (.int i) j pos) (tC (.int i)) := fun _ _ _ H _ I h => wpAny_Constant_int ⟨.int i, H, I.tok _, ⟨_, rfl⟩, h⟩
theorem pe_bl {b j pos} : PE X (.Constant (.bool b) j pos) (tC (.bl b)) := fun _ _ _ H _ I h => Constant_bool ⟨.bl b, H, I, rfl, h⟩
theorem pe_non {j pos} : PE X (.Constant .none j pos) (tC .non) := fun _ _ _ H _ I h => Constant_none ⟨.non, H, I, rfl, h⟩
theorem pe_str {x j pos} : PE X (.Constant (.str x) j pos) (tC (.str x)) := fun _ _ _ H _ I h => Calls.Constant_str ⟨.str x, H, I.tok _, ⟨_, rfl⟩, h⟩

def Gl (X : Cx) (x : Str) : Prop := X.env.kindOf x = some .globalImplicit
theorem ld_glob {E : Value → Shared → Prop} {pins : List (Addr × Obj)} {s : Shared} {σ : St} {H : Hp} {x : Str} {u : Value} {pos : Pos} {Q : Value → Shared → Prop} (I : Inv X pins σ H s) (hg : Gl X x) (hm : X.mg x = some u) (h : Q u s)
    (hd : (x == ("__debug__" : Str)) = false := by decide) : wpAny (model X.prog X.w) X.A (eval (.Name x pos) X.env) Q E s :=
  Calls.Name_function_global I.ok.kind hg (Calls.loadGlobal_global (by rw [I.ok.glob]; exact I.mod.glob.keeps I.bk) hm h) hd
theorem ld_blt {E : Value → Shared → Prop} {pins : List (Addr × Obj)} {s : Shared} {σ : St} {H : Hp} {x : Str} {u : Value} {pos : Pos} {Q : Value → Shared → Prop} (I : Inv X pins σ H s) (hg : Gl X x) (hm : X.mg x = none) (hv : bootBuiltins x = some u) (h : Q u s)
    (hn : x ≠ "__name__" := by decide) (hd : (x == ("__debug__" : Str)) = false := by decide) : wpAny (model X.prog X.w) X.A (eval (.Name x pos) X.env) Q E s := by
  obtain ⟨mb, h1, h2⟩ := I.mod.blt
  exact Calls.Name_function_global I.ok.kind hg (Calls.loadGlobal_builtin (by rw [I.ok.glob]; exact I.mod.glob.keeps I.bk) hm (by rw [I.ok.blt]; exact h1.keeps I.bk) ((h2 x hn).trans hv) h) hd
theorem pe_glob {x : Str} {v : V} {u : Value} {pos : Pos} (hg : Gl X x) (hm : X.mg x = some u) (r : RelV v u) (hd : (x == ("__debug__" : Str)) = false := by decide) : PE X (.Name x pos) (tC v) :=
  fun _ _ _ H _ I h => ld_glob I hg hm ⟨v, H, I, r, h⟩ hd
theorem pe_bltn {x : Str} {v : V} {u : Value} {pos : Pos} (hg : Gl X x) (hm : X.mg x = none) (hv : bootBuiltins x = some u) (r : RelV v u) (hn : x ≠ "__name__" := by decide) (hd : (x == ("__debug__" : Str)) = false := by decide) : PE X (.Name x pos) (tC v) :=
  fun _ _ _ H _ I h => ld_blt I hg hm hv ⟨v, H, I, r, h⟩ hn hd

variable {a b : Expr} {ta tb : TE} {pos : Pos}
def PC (X : Cx) (op : CmpOp) (a b : Expr) (t : TE) : Prop :=
  ∀ (pins : List (Addr × Obj)) (s : Shared) (σ : St) (H : Hp) (Q : VK), Inv X pins σ H s → t σ H Q →
    wpAny (model X.prog X.w) X.A (eval a X.env) (fun v s₁ => wpAny (model X.prog X.w) X.A (eval b X.env) (fun u s₂ => wpAny (model X.prog X.w) X.A (compareOp op v u) (EP X pins σ Q) X.xe s₂) X.xe s₁) X.xe s
theorem nobehind (b : Expr) {op : CmpOp} (h : op ≠ .In) (h2 : op ≠ .NotIn) : behindInMarks op b = false := by
  have e1 : (op == CmpOp.In) = false := by cases op <;> first | rfl | exact absurd rfl h
  have e2 : (op == CmpOp.NotIn) = false := by cases op <;> first | rfl | exact absurd rfl h2
  cases b <;> simp [behindInMarks, e1, e2]
def tIsN (ta : TE) : TE := fun σ H Q => ta σ H fun x H1 => Q (.bl (decide (x = .non))) H1
def tNotN (ta : TE) : TE := fun σ H Q => ta σ H fun x H1 => Q (.bl (!decide (x = .non))) H1
theorem RelV.none_iff {x : V} {v : Value} (r : RelV x v) : (v == Value.none) = decide (x = .non) := by
  cases x with
  | non => cases r; rfl
  | bl _ => cases r; rfl
  | int _ => obtain ⟨t, rfl⟩ := r; rfl
  | str _ => obtain ⟨t, rfl⟩ := r; rfl
  | byt _ => obtain ⟨t, rfl⟩ := r; rfl
  | flt _ => obtain ⟨t, rfl⟩ := r; rfl
  | ref _ => cases r; rfl
  | ty _ => cases r; rfl
theorem pc_isN {j pos'} (ha : PE X a ta) : PC X .Is a (.Constant .none j pos') (tIsN ta) := by
  intro pins s σ H Q I h
  refine thn (ha pins s σ H _ I h) fun v s1 ⟨x, H1, I1, r1, q1⟩ => ?_
  exact Constant_none (is_none_gen ⟨.bl _, H1, I1, by rw [r1.none_iff]; rfl, q1⟩)
def tB (t : TE) : TT := fun σ H Q => t σ H fun x H1 => ∃ c, x = .bl c ∧ Q c H1
theorem pt_cmp {op : CmpOp} {t : TE} (h : PC X op a b t) (h1 : behindInMarks op b = false := by first | exact nobehind _ (by decide) (by decide) | rfl) : PT X (.Compare a [op] [b] pos) (tB t) := by
  intro pins s σ H Q I hw
  refine wpAny_isTrue_Compare1 (thn (h pins s σ H _ I hw) fun v s1 h1 => thn h1 fun u s2 h2 => thn h2 fun c s3 ⟨x, H1, I1, r1, q1⟩ => ?_) h1
  obtain ⟨d, rfl, q⟩ := q1
  cases r1
  exact wpAny_truthy_bool ⟨H1, I1, q⟩
theorem pt_val {e : Expr} {t : TE} (h : PE X e t) (he : ∀ whole, isTrue e X.env whole = (do let v ← whole; standAt e.pos; holding [v] (truthy v)) := by intro _; rfl) : PT X e (tB t) := by
  intro pins s σ H Q I hw
  refine isTrue_plain (thn (h pins s σ H _ I hw) fun v s1 ⟨x, H1, I1, r1, q1⟩ => ?_) (he _)
  obtain ⟨d, rfl, q⟩ := q1
  cases r1
  exact wpAny_truthy_bool ⟨H1, I1, q⟩

variable {tA tB' : TT} {rest : List Expr}
def tAnd (t u : TT) : TT := fun σ H Q => t σ H fun c H1 => if c = true then u σ H1 Q else Q false H1
def tOr (t u : TT) : TT := fun σ H Q => t σ H fun c H1 => if c = true then Q true H1 else u σ H1 Q
def tNot (t : TT) : TT := fun σ H Q => t σ H fun c H1 => Q (!c) H1
theorem pw_or1 (ha : PT X a tA) : PW X (.BoolOp .Or [a] pos) tA := by
  intro wh pins s σ H Q I h
  refine isTrue_or (thn (ha pins s σ H Q I h) fun c s1 e => ?_)
  cases c with
  | false => exact isTrue_or_nil e
  | true => exact e
theorem pw_or (ha : PT X a tA) (hb : PW X (.BoolOp .Or (b :: rest) pos) tB') : PW X (.BoolOp .Or (a :: b :: rest) pos) (tOr tA tB') := by
  intro wh pins s σ H Q I h
  refine isTrue_or (thn (ha pins s σ H _ I h) fun c s1 ⟨H1, I1, q1⟩ => ?_)
  cases c with
  | true => exact ⟨H1, I1, q1⟩
  | false => exact hb wh pins s1 σ H1 Q I1 q1
theorem pt_not (ha : PT X a tA) : PT X (.UnaryOp .Not a pos) (tNot tA) := by
  intro pins s σ H Q I h
  exact isTrue_not (ha pins s σ H (fun c H1 => Q (!c) H1) I h)
def tAndV (ta tb : TE) : TE := fun σ H Q => ta σ H fun x H1 => ∃ c, x = .bl c ∧ if c = true then tb σ H1 Q else Q (.bl false) H1
def tOrV (ta tb : TE) : TE := fun σ H Q => ta σ H fun x H1 => ∃ c, x = .bl c ∧ if c = true then Q (.bl true) H1 else tb σ H1 Q
def tNotV (ta : TE) : TE := fun σ H Q => ta σ H fun x H1 => ∃ c, x = .bl c ∧ Q (.bl (!c)) H1
theorem pe_one {op} {t : TE} (h : PE X a t) : PE X (.BoolOp op [a] pos) t := fun pins s σ H Q I hw => BoolOp_one (h pins s σ H Q I hw)
theorem pe_and (ha : PE X a ta) (hb : PE X (.BoolOp .And (b :: rest) pos) tb) : PE X (.BoolOp .And (a :: b :: rest) pos) (tAndV ta tb) := by
  intro pins s σ H Q I h
  refine BoolOp_and (thn (ha pins s σ H _ I h) fun v s1 ⟨x, H1, I1, r1, q1⟩ => ?_)
  obtain ⟨c, rfl, q1⟩ := q1
  cases r1
  refine wpAny_truthy_bool ?_
  cases c with
  | true => exact hb pins s1 σ H1 Q I1 q1
  | false => exact ⟨.bl false, H1, I1, rfl, q1⟩
theorem pe_or (ha : PE X a ta) (hb : PE X (.BoolOp .Or (b :: rest) pos) tb) : PE X (.BoolOp .Or (a :: b :: rest) pos) (tOrV ta tb) := by
  intro pins s σ H Q I h
  refine BoolOp_or (thn (ha pins s σ H _ I h) fun v s1 ⟨x, H1, I1, r1, q1⟩ => ?_)
  obtain ⟨c, rfl, q1⟩ := q1
  cases r1
  refine wpAny_truthy_bool ?_
  cases c with
  | false => exact hb pins s1 σ H1 Q I1 q1
  | true => exact ⟨.bl true, H1, I1, rfl, q1⟩
theorem pe_not (ha : PE X a ta) : PE X (.UnaryOp .Not a pos) (tNotV ta) := by
  intro pins s σ H Q I h
  refine UnaryOp_ (thn (ha pins s σ H _ I h) fun v s1 ⟨x, H1, I1, r1, q1⟩ => ?_)
  obtain ⟨c, rfl, q1⟩ := q1
  cases r1
  exact not_of (wpAny_truthy_bool ⟨.bl (!c), H1, I1, rfl, q1⟩)
def tIf (t : TT) (ta tb : TE) : TE := fun σ H Q => t σ H fun c H1 => if c = true then ta σ H1 Q else tb σ H1 Q
theorem pe_ifExp {c : Expr} (hc : PT X c tA) (ha : PE X a ta) (hb : PE X b tb) : PE X (.IfExp c a b pos) (tIf tA ta tb) := by
  intro pins s σ H Q I h
  refine wpAny_IfExp (thn (hc pins s σ H _ I h) fun d s1 ⟨H1, I1, q1⟩ => ?_)
  cases d with
  | true => exact ha pins s1 σ H1 Q I1 q1
  | false => exact hb pins s1 σ H1 Q I1 q1
end
end L2

namespace L2
open PySem PySem.Spec PyProof.Rows

def SqL (K : PySem.W.Frag) (H : Hp) (a : Addr) (xs : List V) : Prop :=
  Rd H a (.lst xs) ∨
    ∃ (o : Obj) (its : Array Value) (n : Nat), K.lookup a = some o ∧ o.cls = .type "list" ∧ o.dict = none ∧ o.data = .seq its n ∧ its.size ≤ sizeLine ∧ Vals xs its.toList
def SqT (K : PySem.W.Frag) (H : Hp) (a : Addr) (xs : List V) : Prop :=
  Rd H a (.tup xs) ∨
    ∃ (o : Obj) (its : Array Value) (n : Nat), K.lookup a = some o ∧ o.cls = .type "tuple" ∧ o.data = .seq its n ∧ its.size ≤ sizeLine ∧ Vals xs its.toList
def absV : Value → Option V
  | .none => some .non
  | .bool b => some (.bl b)
  | .int i _ => some (.int i)
  | .str x _ => some (.str x)
  | .bytes b _ => some (.byt b)
  | .float b _ => some (.flt b)
  | .ref a => some (.ref a)
  | .type n => some (.ty n)
  | _ => none
theorem RelV.abs {x : V} {u : Value} (r : RelV x u) : absV u = some x := by
  cases x with
  | non => cases r; rfl
  | bl _ => cases r; rfl
  | int _ => obtain ⟨t, rfl⟩ := r; rfl
  | str _ => obtain ⟨t, rfl⟩ := r; rfl
  | byt _ => obtain ⟨t, rfl⟩ := r; rfl
  | flt _ => obtain ⟨t, rfl⟩ := r; rfl
  | ref _ => cases r; rfl
  | ty _ => cases r; rfl
theorem RelV.inj {x y : V} {u : Value} (r : RelV x u) (q : RelV y u) : x = y := Option.some.inj (r.abs.symm.trans q.abs)
theorem Vals.inj : ∀ {xs ys : List V} {us : List Value}, Vals xs us → Vals ys us → xs = ys
  | _, _, _, .nil, .nil => rfl
  | _, _, _, .cons r t, .cons r' t' => by rw [r.inj r', Vals.inj t t']
section
variable {X : Cx} {pins : List (Addr × Obj)} {σ : St} {H : Hp} {s : Shared} {a : Addr} {xs ys : List V}
theorem SqL.of {K : PySem.W.Frag} (h : H a = some (.lst xs)) : SqL K H a xs := .inl (.inl h)
theorem SqT.of {K : PySem.W.Frag} (h : H a = some (.tup xs)) : SqT K H a xs := .inl (.inl h)
theorem Inv.list (I : Inv X pins σ H s) (h : SqL X.K H a xs) : ∃ its : List Value, Vals xs its ∧ PlainL s.heap a its.toArray ∧ xs.length ≤ sizeLine := by
  rcases h with h | ⟨o, its, n, hk, hc, hd, hs, hz, r⟩
  · obtain ⟨z, its, n, r, e⟩ := h.ok I.hok
    exact ⟨its, r, ⟨_, n, e, rfl, rfl, rfl⟩, z⟩
  · refine ⟨its.toList, r, ⟨o, n, I.kIn a o hk, hc, hd, by simpa using hs⟩, ?_⟩
    have e := r.length
    simp only [Array.length_toList] at e
    omega
theorem Inv.tuple (I : Inv X pins σ H s) (h : SqT X.K H a xs) : ∃ its : List Value, Vals xs its ∧ IsTup s.heap a its.toArray ∧ xs.length ≤ sizeLine := by
  rcases h with h | ⟨o, its, n, hk, hc, hs, hz, r⟩
  · obtain ⟨z, its, r, p⟩ := h.ok I.hok
    exact ⟨its, r, p, z⟩
  · refine ⟨its.toList, r, ⟨o, I.kIn a o hk, hc, n, by simpa using hs⟩, ?_⟩
    have e := r.length
    simp only [Array.length_toList] at e
    omega
theorem Inv.list_inj (I : Inv X pins σ H s) (h : SqL X.K H a xs) (h' : SqL X.K H a ys) : xs = ys := by
  obtain ⟨its, r, ⟨o, n, e, _, _, d⟩, _⟩ := I.list h
  obtain ⟨its', r', ⟨o', n', e', _, _, d'⟩, _⟩ := I.list h'
  rw [e] at e'; cases e'
  rw [d] at d'
  injection d' with d1 _
  have : its = its' := by simpa using congrArg Array.toList d1
  subst this
  exact r.inj r'
theorem Inv.tuple_inj (I : Inv X pins σ H s) (h : SqT X.K H a xs) (h' : SqT X.K H a ys) : xs = ys := by
  obtain ⟨its, r, ⟨o, e, _, n, d⟩, _⟩ := I.tuple h
  obtain ⟨its', r', ⟨o', e', _, n', d'⟩, _⟩ := I.tuple h'
  rw [e] at e'; cases e'
  rw [d] at d'
  injection d' with d1 _
  have : its = its' := by simpa using congrArg Array.toList d1
  subst this
  exact r.inj r'
end

abbrev Cx.wish (X : Cx) (E : Value → Shared → Prop) : Cx := { X with xe := E }
abbrev Cx.nox (X : Cx) : Cx := X.wish fun _ _ => False
theorem Cx.Ok.wish {X : Cx} (ok : X.Ok) (E : Value → Shared → Prop) : (X.wish E).Ok :=
  ⟨ok.mod, ok.kind, ok.glob, ok.blt, ok.above, ok.inj, ok.has, ok.cab, ok.hd, ok.frames, ok.stk, ok.exf, ok.bs, ok.bsz, ok.noex, ok.exfs, ok.funs, ok.frf⟩
theorem Cx.Ok.unwish {X : Cx} {E : Value → Shared → Prop} (ok : (X.wish E).Ok) : X.Ok :=
  ⟨ok.mod, ok.kind, ok.glob, ok.blt, ok.above, ok.inj, ok.has, ok.cab, ok.hd, ok.frames, ok.stk, ok.exf, ok.bs, ok.bsz, ok.noex, ok.exfs, ok.funs, ok.frf⟩
section
variable {X : Cx} {pins : List (Addr × Obj)} {σ : St} {H : Hp} {s : Shared} {E : Value → Shared → Prop}
theorem Inv.wish (I : Inv X pins σ H s) (E : Value → Shared → Prop) : Inv (X.wish E) pins σ H s := ⟨I.ok.wish E, I.os, I.bare, I.base, I.loc, I.cell, I.free, I.freeC, I.pin, I.hok, I.len⟩
theorem Inv.unwish (I : Inv (X.wish E) pins σ H s) : Inv X pins σ H s := ⟨I.ok.unwish, I.os, I.bare, I.base, I.loc, I.cell, I.free, I.freeC, I.pin, I.hok, I.len⟩
theorem SP.unwish {D : Ends} {f : Flow} {s' : Shared} (h : SP (X.wish E) pins D f s') : SP X pins D f s' := by
  cases f with
  | next => obtain ⟨σ', H', I, q⟩ := h; exact ⟨σ', H', I.unwish, q⟩
  | brk => obtain ⟨σ', H', I, q⟩ := h; exact ⟨σ', H', I.unwish, q⟩
  | cont => obtain ⟨σ', H', I, q⟩ := h; exact ⟨σ', H', I.unwish, q⟩
  | ret u => obtain ⟨v, σ', H', I, r, q⟩ := h; exact ⟨v, σ', H', I.unwish, r, q⟩
theorem PE.nox {e : Expr} {t : TE} (h : PE X.nox e t) : PE X e t := fun pins s σ H Q I hw =>
  wpAny_mono (h pins s σ H Q (I.wish _) hw) (fun _ _ ⟨v, H', I', r, q⟩ => ⟨v, H', I'.unwish, r, q⟩) fun _ _ z => False.elim z
theorem PT.nox {e : Expr} {t : TT} (h : PT X.nox e t) : PT X e t := fun pins s σ H Q I hw =>
  wpAny_mono (h pins s σ H Q (I.wish _) hw) (fun _ _ ⟨H', I', q⟩ => ⟨H', I'.unwish, q⟩) fun _ _ z => False.elim z
theorem PSs.nox {st : List Stmt} {t : TS} (h : PSs X.nox st t) : PSs X st t := fun pins s σ H D I hw =>
  wpAny_mono (h pins s σ H D (I.wish _) hw) (fun _ _ q => q.unwish) fun _ _ z => False.elim z
end

section
variable {X : Cx} {st : Stmt} {rest : List Stmt} {t u : TS} {e : Expr} {te : TE} {pos : Pos}
def tNext : TS := fun D σ H => D.nx σ H
def tSeq (t u : TS) : TS := fun D σ H => t { D with nx := u D } σ H
theorem pss_nil : PSs X [] tNext := fun _ _ σ H _ I h => wpAny_execs_nil ⟨σ, H, I, h⟩
theorem pss_cons (h1 : PS X st t) (h2 : PSs X rest u) : PSs X (st :: rest) (tSeq t u) := by
  intro pins s σ H D I h
  refine wpAny_execs_cons (thn (h1 pins s σ H { D with nx := u D } I h) fun f s1 q => ?_)
  cases f with
  | next =>
    obtain ⟨σ', H', I', q⟩ := q
    exact h2 pins s1 σ' H' D I' q
  | ret v => exact q
  | brk => exact q
  | cont => exact q
theorem pss_one (h1 : PS X st t) : PSs X [st] t := by
  intro pins s σ H D I h
  refine wpAny_execs_cons (thn (h1 pins s σ H D I h) fun f s1 q => ?_)
  cases f with
  | next => exact wpAny_execs_nil q
  | ret v => exact q
  | brk => exact q
  | cont => exact q
theorem Inv.quiet {pins : List (Addr × Obj)} {σ : St} {H : Hp} {s : Shared} (I : Inv X pins σ H s) : interactive X.env = false := by simp [interactive, I.ok.kind]
def tDrop (te : TE) : TS := fun D σ H => te σ H fun _ H1 => D.nx σ H1
theorem ps_expr (he : PE X e te) (hs : swapsWith e none pos.line X.env = pure false := by rfl) : PS X (.Expr e pos) (tDrop te) := by
  intro pins s σ H D I h
  exact wpAny_Expr_any (thn (he pins s σ H _ I h) fun v s1 ⟨x, H1, I1, r1, q1⟩ => ⟨σ, H1, I1, q1⟩) I.quiet hs
def tRet (te : TE) : TS := fun D σ H => te σ H D.rt
theorem ps_ret (he : PE X e te) : PS X (.Return (some e) pos) (tRet te) := by
  intro pins s σ H D I h
  exact wpAny_Return_some (thn (he pins s σ H _ I h) fun v s1 ⟨x, H1, I1, r1, q1⟩ => ⟨x, σ, H1, I1, r1, q1⟩)
def tRetN : TS := fun D _ H => D.rt .non H
def tIfS (c : TT) (t u : TS) : TS := fun D σ H => c σ H fun b H1 => if b = true then t D σ H1 else u D σ H1
theorem ps_if {c : Expr} {a b : List Stmt} {tc : TT} (hc : PT X c tc) (ha : PSs X a t) (hb : PSs X b u) : PS X (.If c a b pos) (tIfS tc t u) := by
  intro pins s σ H D I h
  refine wpAny_If (thn (hc pins s σ H _ I h) fun d s1 ⟨H1, I1, q1⟩ => ?_)
  cases d with
  | true => exact ha pins s1 σ H1 D I1 q1
  | false => exact hb pins s1 σ H1 D I1 q1
end

abbrev TG := V → St → Hp → (St → Hp → Prop) → Prop
abbrev TGs := List V → St → Hp → (St → Hp → Prop) → Prop
def PG (X : Cx) (target : Expr) (t : TG) : Prop :=
  ∀ (pins : List (Addr × Obj)) (s : Shared) (σ : St) (H : Hp) (v : V) (u : Value) (Q : St → Hp → Prop), Inv X pins σ H s → RelV v u → t v σ H Q →
    wpAny (model X.prog X.w) X.A (assign target X.env u) (fun _ s' => ∃ σ' H', Inv X pins σ' H' s' ∧ Q σ' H') X.xe s
def PGs (X : Cx) (ts : List Expr) (t : TGs) : Prop :=
  ∀ (pins : List (Addr × Obj)) (s : Shared) (σ : St) (H : Hp) (vs : List V) (us : List Value) (Q : St → Hp → Prop), Inv X pins σ H s → Vals vs us → t vs σ H Q →
    wpAny (model X.prog X.w) X.A (assignInOrder ((assignEach ts X.env).map (·.2)) us) (fun _ s' => ∃ σ' H', Inv X pins σ' H' s' ∧ Q σ' H') X.xe s
abbrev TSet := V → V → V → Hp → (Hp → Prop) → Prop
def PSet (X : Cx) (t : TSet) : Prop :=
  ∀ (pins : List (Addr × Obj)) (s : Shared) (σ : St) (H : Hp) (o i v : V) (ov iv u : Value) (Q : Hp → Prop), Inv X pins σ H s → RelV o ov → RelV i iv → RelV v u → t o i v H Q →
    wpAny (model X.prog X.w) X.A (setItem ov iv u) (fun _ s' => ∃ H', Inv X pins σ H' s' ∧ Q H') X.xe s
abbrev TIp := V → V → Hp → VK → Prop
def PIp (X : Cx) (op : Operator) (t : TIp) : Prop :=
  ∀ (pins : List (Addr × Obj)) (s : Shared) (σ : St) (H : Hp) (x y : V) (v u : Value) (Q : VK), Inv X pins σ H s → RelV x v → RelV y u → t x y H Q →
    wpAny (model X.prog X.w) X.A (inplaceOp op v u) (EP X pins σ Q) X.xe s
section
variable {X : Cx} {pos : Pos}
def gName (i : Nat) : TG := fun v σ H Q => Q (σ.set i (some v)) H
theorem pg_name {i : Nat} {x : Str} (hN : X.N.Nodup) (hi : X.N[i]? = some x) (hx : Loc X.env.scope x) (hf : X.fn x = true ∨ X.env.scope.names.lookup x = some .local := by first | exact .inl rfl | exact .inr rfl | assumption) : PG X (.Name x pos) (gName i) := by
  intro pins s σ H v u Q I r h
  exact wpAny_assign_Name (store_ok I hN hi hx r (fun s' I' => ⟨_, H, I', h⟩) hf)
def gNil : TGs := fun vs σ H Q => vs = [] ∧ Q σ H
def gCons (t : TG) (u : TGs) : TGs := fun vs σ H Q => ∃ v r, vs = v :: r ∧ t v σ H fun σ' H' => u r σ' H' Q
theorem pgs_nil : PGs X [] gNil := by
  intro pins s σ H vs us Q I r h
  obtain ⟨e, h⟩ := h
  subst e
  cases r
  exact assignInOrder_nil ⟨σ, H, I, h⟩
theorem pgs_cons {e : Expr} {es : List Expr} {t : TG} {u : TGs} (h1 : PG X e t) (h2 : PGs X es u)
    (hs : (assignEach (e :: es) X.env).map (·.2) = assign e X.env :: (assignEach es X.env).map (·.2) := by rfl) : PGs X (e :: es) (gCons t u) := by
  intro pins s σ H vs us Q I r h
  obtain ⟨v, vr, e1, h⟩ := h
  subst e1
  cases r with
  | cons r rr =>
    rw [hs]
    refine assignInOrder_cons (thn (h1 pins s σ H _ _ _ I r h) fun _ s1 ⟨σ1, H1, I1, q1⟩ => ?_)
    exact h2 pins s1 σ1 H1 _ _ Q I1 rr q1
def gTup (K : PySem.W.Frag) (n : Nat) (t : TGs) : TG := fun v σ H Q => ∃ a xs, v = .ref a ∧ SqT K H a xs ∧ xs.length = n ∧ t xs σ H Q
theorem pg_tup {es : List Expr} {k : Nat} {t : TGs} {n : Nat} (hc : X.calm = true) (h : PGs X es t)
    (hn : (assignEach es X.env).length = n := by rfl) (hst : (assignEach es X.env).findIdx? (·.1) = none := by rfl) : PG X (.Tuple es k pos) (gTup X.K n t) := by
  intro pins s σ H v u Q I r hw
  obtain ⟨a, xs, e1, hq, hl, hw⟩ := hw
  subst e1
  cases r
  obtain ⟨its, rv, ht, hz⟩ := I.tuple hq
  refine assign_Tuple_tuple (I.ok.hd hc) ht (by simp [hn, ← hl, rv.length]) hst fun h' hx => ?_
  have I1 : Inv X pins σ H { s with heap := h' } := I.kept (t' := s.toks) fun b o e => hx b o (Nat.ne_of_lt (Heap.lt_size e)) e
  exact h pins _ σ H xs _ Q I1 (by simpa using rv) hw
def gSub (to ti : TE) (t : TSet) : TG := fun v σ H Q => to σ H fun o H1 => ti σ H1 fun i H2 => t o i v H2 fun H3 => Q σ H3
theorem pg_sub {o i : Expr} {to ti : TE} {t : TSet} (ho : PE X o to) (hi : PE X i ti) (hs : PSet X t)
    (ha : ∀ v, assign (.Subscript o i pos) X.env v = (do
      let ov ← holding [v] (eval o X.env)
      let iv ← holding [v, ov] (eval i X.env)
      standAt pos
      holding [v, ov, iv] (setItem ov iv v)
      release [v, ov, iv] []) := by intro _; rfl) : PG X (.Subscript o i pos) (gSub to ti t) := by
  intro pins s σ H v u Q I r h
  rw [ha]
  refine wpAny_bind (wpAny_holding (thn (ho pins s σ H _ I h) fun ov s1 ⟨x, H1, I1, r1, q1⟩ => ?_))
  refine wpAny_bind (wpAny_holding (thn (hi pins s1 σ H1 _ I1 q1) fun iv s2 ⟨y, H2, I2, r2, q2⟩ => ?_))
  refine wpAny_bind (wpAny_standAt (wpAny_bind (wpAny_holding (thn (hs pins s2 σ H2 x y v ov iv u _ I2 r1 r2 r q2) fun _ s3 ⟨H3, I3, q3⟩ => ?_))))
  exact wpAny_release ⟨σ, H3, I3, q3⟩
def tAsg (te : TE) (g : TG) : TS := fun D σ H => te σ H fun x H1 => g x σ H1 D.nx
theorem ps_asg {tg e : Expr} {te : TE} {g : TG} (he : PE X e te) (hg : PG X tg g) (hs : swapsWithSole [tg] e pos.line X.env = pure false := by rfl) (hw : swappedStores [tg] e X.env = pure none := by rfl)
    (h1 : (assignEach [tg] X.env).map (·.2) = [assign tg X.env] := by rfl) : PS X (.Assign [tg] e pos) (tAsg te g) := by
  intro pins s σ H D I h
  refine wpAny_Assign_stores (thn (he pins s σ H _ I h) fun v s1 ⟨x, H1, I1, r1, q1⟩ => ?_) hs hw
  rw [h1]
  exact thn (hg pins s1 σ H1 x v _ I1 r1 q1) fun _ s2 q => q
theorem ps_set {i : Nat} {x : Str} {e : Expr} {te : TE} {pos' : Pos} (hN : X.N.Nodup) (hi : X.N[i]? = some x) (hx : Loc X.env.scope x) (he : PE X e te) (hs : swapsWith e (some (.Name x pos')) pos.line X.env = pure false := by rfl) (hf : X.fn x = true ∨ X.env.scope.names.lookup x = some .local := by first | exact .inl rfl | exact .inr rfl | assumption) :
    PS X (.Assign [.Name x pos'] e pos) (tAsg te (gName i)) := by
  intro pins s σ H D I h
  refine wpAny_Assign_Name (thn (he pins s σ H _ I h) fun v s1 ⟨y, H1, I1, r1, q1⟩ => ?_) hs
  exact store_ok I1 hN hi hx r1 (fun s2 I2 => ⟨_, H1, I2, q1⟩) hf
def tAug (i : Nat) (te : TE) (ti : TIp) : TS := fun D σ H => ∃ x, σ[i]? = some (some x) ∧ te σ H fun y H1 => ti x y H1 fun z H2 => D.nx (σ.set i (some z)) H2
theorem ps_aug {i : Nat} {x : Str} {e : Expr} {te : TE} {op : Operator} {ti : TIp} {pos' : Pos} (hN : X.N.Nodup) (hi : X.N[i]? = some x) (hx : Loc X.env.scope x) (he : PE X e te) (ho : PIp X op ti) (hf : X.fn x = true ∨ X.env.scope.names.lookup x = some .local := by first | exact .inl rfl | exact .inr rfl | assumption) :
    PS X (.AugAssign (.Name x pos') op e pos) (tAug i te ti) := by
  intro pins s σ H D I h
  obtain ⟨v, e1, h⟩ := h
  obtain ⟨m, hn, hl⟩ := I.loc
  have vis : Vis X.env.scope x := by rcases hx with k | k; exact .inl k; exact .inr (.inl k)
  obtain ⟨u, r, l⟩ := hl i x v hi e1 vis
  refine wpAny_AugAssign_Name ?_
  have go : wpAny (model X.prog X.w) X.A (eval e X.env) (fun w s₂ => wpAny (model X.prog X.w) X.A (inplaceOp op u w) (fun r s₃ => wpAny (model X.prog X.w) X.A (storeName X.env x r) (fun _ => SP X pins D .next) X.xe s₃) X.xe s₂) X.xe s := by
    refine thn (he pins s σ H _ I h) fun w s1 ⟨y, H1, I1, r1, q1⟩ => ?_
    refine thn (ho pins s1 σ H1 v y u w _ I1 r r1 q1) fun z s2 ⟨zv, H2, I2, r2, q2⟩ => ?_
    exact store_ok I2 hN hi hx r2 (fun s3 I3 => ⟨_, H2, I3, q2⟩) hf
  rcases l with ⟨hk, hm⟩ | ⟨hk, c, hc, hcell⟩
  · exact wpAny_loadName_local I.ok.kind hk hn hm go
  · rcases hk with hk | hk
    · exact wpAny_loadName_cell I.ok.kind hk hc hcell go
    · rcases hx with k | k
      · have : X.env.scope.names.lookup x = some .free := hk
        rw [k] at this; cases this
      · have : X.env.scope.names.lookup x = some .free := hk
        rw [k] at this; cases this
def tAugS (to ti te : TE) (tget : V → V → Hp → VK → Prop) (tip : TIp) (tset : TSet) : TS := fun D σ H => to σ H fun o H1 => ti σ H1 fun i H2 => tget o i H2 fun x H3 => te σ H3 fun y H4 => tip x y H4 fun z H5 => tset o i z H5 fun H6 => D.nx σ H6
def ipI (f : Int → Int → Int) : TIp := fun x y H Q => ∃ i j, x = .int i ∧ y = .int j ∧ Q (.int (f i j)) H
theorem ip_add : PIp X .Add (ipI fun i j => i + j) := by
  intro pins s σ H x y v u Q I r1 r2 h
  obtain ⟨i, j, e1, e2, q⟩ := h
  subst e1; subst e2
  obtain ⟨t, rfl⟩ := r1
  obtain ⟨t', rfl⟩ := r2
  exact iadd_int ⟨.int _, H, I.tok _, ⟨_, rfl⟩, q⟩
end

section
variable {X : Cx} {pos : Pos}
def tWhile (c : TT) (tb : TS) : TS := fun D σ H => ∃ W : Nat → St → Hp → Prop, (∃ m, W m σ H) ∧ ∀ m σ H, W m σ H →
  c σ H fun b H1 => if b = true then ∃ N : St → Hp → Prop, (∀ σ' H', N σ' H' → ∃ m', m' < m ∧ W m' σ' H') ∧ tb { D with nx := N, ct := N, bk := D.nx } σ H1 else D.nx σ H1
theorem ps_while {c : Expr} {body : List Stmt} {tc : TT} {tb : TS} (hp : PassesOwn (model X.prog X.w) X.A X.env X.xe) (hc : PT X c tc) (hb : PSs X body tb) : PS X (.While c body [] pos) (tWhile tc tb) := by
  intro pins s σ H D I h
  obtain ⟨W, ⟨m0, w0⟩, turn⟩ := h
  refine wpAny_While (codeAny_whileLoop (fun n s' => ∃ σ' H', Inv X pins σ' H' s' ∧ W n σ' H') ?_ m0 ⟨σ, H, I, w0⟩)
  rintro n s1 ⟨σ1, H1, I1, w1⟩
  refine wpAny_passesOwn hp (thn (hc pins s1 σ1 H1 _ I1 (turn n σ1 H1 w1)) fun b s2 ⟨H2, I2, q2⟩ => ?_)
  cases b with
  | true =>
    obtain ⟨N, hN, q2⟩ := q2
    rw [if_pos rfl]
    refine wpAny_passesOwn hp (thn (hb pins s2 σ1 H2 _ I2 q2) fun f s3 q3 => ?_)
    cases f with
    | next =>
      obtain ⟨σ3, H3, I3, n3⟩ := q3
      obtain ⟨m', hm, w3⟩ := hN σ3 H3 n3
      exact ⟨m', hm, σ3, H3, I3, w3⟩
    | cont =>
      obtain ⟨σ3, H3, I3, n3⟩ := q3
      obtain ⟨m', hm, w3⟩ := hN σ3 H3 n3
      exact ⟨m', hm, σ3, H3, I3, w3⟩
    | brk => exact q3
    | ret v => exact q3
  | false =>
    rw [if_neg Bool.false_ne_true]
    exact wpAny_execs_nil ⟨σ1, H2, I2, q2⟩
end

structure It where
  go : Nat → Hp → Prop
  yld : Nat → Hp → V → Hp → Prop
  stop : Nat → Hp → Prop
def FpOk (X : Cx) (pins : List (Addr × Obj)) (H : Hp) (b : Addr) : Prop :=
  H b = none ∧ b ≠ X.env.locals ∧ b ∉ X.fs ∧ (b ∈ X.ex ∨ X.s₀.heap.objs.size ≤ b) ∧ (∀ x c, X.env.cells.lookup x = some c → c ≠ b) ∧ ∀ p ∈ X.pn ++ pins, p.1 ≠ b
theorem Inv.fpOk {X : Cx} {pins : List (Addr × Obj)} {σ : St} {H H' : Hp} {s : Shared} {b : Addr} (I : Inv X pins σ H s) (hb : s.heap.objs.size ≤ b) (hn : H' b = none) : FpOk X pins H' b := by
  refine ⟨hn, Nat.ne_of_gt (Nat.lt_of_lt_of_le I.lt hb), I.nofs hb, .inr (Nat.le_trans I.sz hb), fun x c e z => ?_, fun p hp z => ?_⟩
  · obtain ⟨v, q⟩ := I.cell x c e
    exact absurd (Nat.lt_of_lt_of_le q.lt (by rw [z]; exact hb)) (Nat.lt_irrefl _)
  · exact absurd (Nat.lt_of_lt_of_le (Heap.lt_size (I.pin p hp).1) (by rw [z]; exact hb)) (Nat.lt_irrefl _)
structure Turn (P : Program) (w : World) (K : PySem.W.Frag) (tg : Expr) (J : It) (fp : List Addr) (it : Addr) (tn : Nat → Heap → Prop) : Prop where
  mem : it ∈ fp
  obj : ∀ i h, tn i h → ∀ b ∈ fp, ∃ o, h.get? b = some o ∧ ∀ v, o.data ≠ .cell v
  keep : ∀ i h h', tn i h → (∀ b ∈ fp, ∀ o, h.get? b = some o → h'.get? b = some o) → tn i h'
  item : ∀ (X : Cx), X.prog = P → X.w = w → X.K = K → X.calm = true → ∀ (i : Nat) (pins : List (Addr × Obj)) (s : Shared) (σ : St) (H : Hp) (E : Value → Shared → Prop), Inv X pins σ H s → (∀ b ∈ fp, FpOk X pins H b) → tn i s.heap → J.go i H →
    wpAny (model P w) X.A (pyNext (.ref it)) (fun r s1 => ∃ u, r = some u ∧
      wpAny (model P w) X.A (letOwnedTupleGo tg (.ref it) u) (fun _ s2 => ∃ x H', Inv X pins σ H' s2 ∧ RelV x u ∧ J.yld i H x H' ∧ tn (i + 1) s2.heap ∧ ∀ b ∈ fp, H' b = none) E s1) E s
  done : ∀ (X : Cx), X.prog = P → X.w = w → X.K = K → X.calm = true → ∀ (i : Nat) (pins : List (Addr × Obj)) (s : Shared) (σ : St) (H : Hp) (E : Value → Shared → Prop), Inv X pins σ H s → (∀ b ∈ fp, FpOk X pins H b) → tn i s.heap → J.stop i H →
    wpAny (model P w) X.A (pyNext (.ref it)) (fun r s1 => r = none ∧ Inv X pins σ H s1) E s
  self : ∀ (A : Around) (i : Nat) (s : Shared) (Q : Value → Shared → Prop) (E : Value → Shared → Prop), tn i s.heap → Q (.ref it) s → wpAny (model P w) A (pyIter (.ref it)) Q E s
abbrev TI := St → Hp → (It → Hp → Prop) → Prop
def PIE (X : Cx) (pins : List (Addr × Obj)) (σ : St) (tg : Expr) (R : It → Hp → Prop) (itv : Value) (s2 : Shared) : Prop :=
  ∃ (it : Addr) (fp : List Addr) (tn : Nat → Heap → Prop) (J : It) (H' : Hp), itv = .ref it ∧ Inv X pins σ H' s2 ∧ Turn X.prog X.w X.K tg J fp it tn ∧ tn 0 s2.heap ∧ (∀ b ∈ fp, FpOk X pins H' b) ∧ R J H'
def PI (X : Cx) (tg iter : Expr) (wi : TI) : Prop :=
  ∀ (pins : List (Addr × Obj)) (s : Shared) (σ : St) (H : Hp) (R : It → Hp → Prop), Inv X pins σ H s → wi σ H R →
    wpAny (model X.prog X.w) X.A (eval iter X.env) (fun v s1 => wpAny (model X.prog X.w) X.A (pyIter v) (PIE X pins σ tg R) X.xe s1) X.xe s

theorem go_of {M : Model} {A : Around} {E : Value → Shared → Prop} {s : Shared} {tg : Expr} {it : Addr} {u : Value} {o : Obj} {n : String} {vs : Array Value} {Q : Unit → Shared → Prop} (ho : s.heap.get? it = some o) (hc : o.cls = .type n) (hd : o.data = .fields vs)
    (hn : ["enumerate", "zip", "dict_itemiterator", "dict_reverseitemiterator", "odict_iterator", "itertools.zip_longest", "itertools.pairwise"].contains n = false) (hQ : Q () s) : wpAny M A (letOwnedTupleGo tg (.ref it) u) Q E s := by
  unfold letOwnedTupleGo
  cases tg <;> first
    | exact wpAny_pure hQ
    | (cases u <;> first
        | exact wpAny_pure hQ
        | (refine wpAny_bind (wpAny_load ho ?_)
           rw [hc, hd]
           show wpAny M A (if (["enumerate", "zip", "dict_itemiterator", "dict_reverseitemiterator", "odict_iterator", "itertools.zip_longest", "itertools.pairwise"].contains n && vs[0]? == some (rawInt _)) = true then _ else _) Q E s
           rw [if_neg (by intro h; rw [hn, Bool.false_and] at h; cases h)]
           exact wpAny_pure hQ))

def Itl (K : PySem.W.Frag) (a : Addr) : It :=
  ⟨fun i H => ∃ xs x, SqL K H a xs ∧ xs[i]? = some x, fun i H x H' => H' = H ∧ ∀ xs, SqL K H a xs → xs[i]? = some x, fun i H => ∃ xs, SqL K H a xs ∧ xs.length ≤ i⟩
def Itt (K : PySem.W.Frag) (a : Addr) : It :=
  ⟨fun i H => ∃ xs x, SqT K H a xs ∧ xs[i]? = some x, fun i H x H' => H' = H ∧ ∀ xs, SqT K H a xs → xs[i]? = some x, fun i H => ∃ xs, SqT K H a xs ∧ xs.length ≤ i⟩
def Itr (lo : Int) (n : Nat) : It := ⟨fun i _ => i < n, fun i H x H' => H' = H ∧ x = .int (lo + i), fun i _ => n ≤ i⟩
theorem turn_list {P : Program} {w : World} {K : PySem.W.Frag} {tg : Expr} (a it : Addr) : Turn P w K tg (Itl K a) [it] it (fun i h => h.IsListIter it a i) where
  mem := by simp
  obj := fun i h st b hb => by
    have e : b = it := by simpa using hb
    subst e
    obtain ⟨o, e, c, d⟩ := st
    exact ⟨o, e, fun v z => by rw [d] at z; cases z⟩
  keep := fun i h h' st k => st.at fun o e => k it (by simp) o e
  item := by
    intro X hP hw hK hc i pins s σ H E I hf st hg
    subst hP hw hK
    obtain ⟨xs, x, hq, hx⟩ := hg
    obtain ⟨its, rv, p, hz⟩ := I.list hq
    obtain ⟨u, hu, ru⟩ := rv.get hx
    obtain ⟨f0, f1, f2, f3, f4, f5⟩ := hf it (by simp)
    refine wpAny_pyNext_list_item st p.isList (x := u) (by simpa using hu) fun h' st' sb => ?_
    have I1 : Inv X pins σ H { s with heap := h' } := I.turned (t' := s.toks) (fun b o hb e => (sb.2 b hb).trans e) f0 f1 f3 f4 f5
    obtain ⟨o, e, c, d⟩ := id st'
    exact ⟨u, rfl, go_of (s := { s with heap := h' }) e c d (by decide) ⟨x, H, I1, ru, ⟨rfl, fun ys hy => by rw [I.list_inj hy hq]; exact hx⟩, st', fun b hb => (hf b hb).1⟩⟩
  done := by
    intro X hP hw hK hc i pins s σ H E I hf st hg
    subst hP hw hK
    obtain ⟨xs, hq, hx⟩ := hg
    obtain ⟨its, rv, p, hz⟩ := I.list hq
    obtain ⟨f0, f1, f2, f3, f4, f5⟩ := hf it (by simp)
    have hl := rv.length
    exact wpAny_pyNext_list_end (I.ok.hd hc) st p.isList (by simp; omega) fun h' eb => ⟨rfl, I.turned (t' := s.toks) (fun b o hb e => eb b o hb e) f0 f1 f3 f4 f5⟩
  self := fun _ _ _ _ _ st h => wpAny_pyIter_listiter st h
theorem turn_tuple {P : Program} {w : World} {K : PySem.W.Frag} {tg : Expr} (a it : Addr) : Turn P w K tg (Itt K a) [it] it (fun i h => h.IsTupleIter it a i) where
  mem := by simp
  obj := fun i h st b hb => by
    have e : b = it := by simpa using hb
    subst e
    obtain ⟨o, e, c, d⟩ := st
    exact ⟨o, e, fun v z => by rw [d] at z; cases z⟩
  keep := fun i h h' st k => st.at fun o e => k it (by simp) o e
  item := by
    intro X hP hw hK hc i pins s σ H E I hf st hg
    subst hP hw hK
    obtain ⟨xs, x, hq, hx⟩ := hg
    obtain ⟨its, rv, p, hz⟩ := I.tuple hq
    obtain ⟨u, hu, ru⟩ := rv.get hx
    obtain ⟨f0, f1, f2, f3, f4, f5⟩ := hf it (by simp)
    refine wpAny_pyNext_tuple_item st (show s.heap.IsTuple a its.toArray from p) (x := u) (by simpa using hu) fun h' st' sb => ?_
    have I1 : Inv X pins σ H { s with heap := h' } := I.turned (t' := s.toks) (fun b o hb e => (sb.2 b hb).trans e) f0 f1 f3 f4 f5
    obtain ⟨o, e, c, d⟩ := id st'
    exact ⟨u, rfl, go_of (s := { s with heap := h' }) e c d (by decide) ⟨x, H, I1, ru, ⟨rfl, fun ys hy => by rw [I.tuple_inj hy hq]; exact hx⟩, st', fun b hb => (hf b hb).1⟩⟩
  done := by
    intro X hP hw hK hc i pins s σ H E I hf st hg
    subst hP hw hK
    obtain ⟨xs, hq, hx⟩ := hg
    obtain ⟨its, rv, p, hz⟩ := I.tuple hq
    obtain ⟨f0, f1, f2, f3, f4, f5⟩ := hf it (by simp)
    have hl := rv.length
    exact wpAny_pyNext_tuple_end (I.ok.hd hc) st (show s.heap.IsTuple a its.toArray from p) (by simp; omega) fun h' eb => ⟨rfl, I.turned (t' := s.toks) (fun b o hb e => eb b o hb e) f0 f1 f3 f4 f5⟩
  self := fun _ _ _ _ _ st h => wpAny_pyIter_tupleiter st h
theorem turn_range {P : Program} {w : World} {K : PySem.W.Frag} {tg : Expr} (it : Addr) (lo : Int) (n : Nat) : Turn P w K tg (Itr lo n) [it] it (fun i h => IsRangeIter h it (lo + (i : Nat) * 1) ((n : Int) - (i : Nat)) 1) where
  mem := by simp
  obj := fun i h st b hb => by
    have e : b = it := by simpa using hb
    subst e
    exact ⟨_, st, fun v z => by
      have z' : Data.fields _ = Data.cell v := z
      cases z'⟩
  keep := fun i h h' st k => k it (by simp) _ st
  item := by
    intro X hP hw hK hc i pins s σ H E I hf st hg
    subst hP hw hK
    obtain ⟨f0, f1, f2, f3, f4, f5⟩ := hf it (by simp)
    have W := Walks.range (prog := X.prog) (w := X.w) (I.ok.hd hc) it lo 1 n
    refine W.item i s _ _ hg st fun v h' tk hv st' kk => ?_
    obtain ⟨t, rfl⟩ := hv
    have I1 : Inv X pins σ H { s with heap := h', toks := tk } := I.turned (fun b o hb e => kk b o (by simpa using hb) e) f0 f1 f3 f4 f5
    refine ⟨_, rfl, go_of (s := { s with heap := h', toks := tk }) (n := "range_iterator") st' rfl rfl (by decide) ⟨.int (lo + i), H, I1, ⟨t, ?_⟩, ⟨rfl, rfl⟩, st', fun b hb => (hf b hb).1⟩⟩
    rw [Int.mul_one]
  done := by
    intro X hP hw hK hc i pins s σ H E I hf st hg
    subst hP hw hK
    obtain ⟨f0, f1, f2, f3, f4, f5⟩ := hf it (by simp)
    exact wpAny_pyNext_range_end (I.ok.hd hc) st (by have : n ≤ i := hg; omega) fun h' eb => ⟨rfl, I.turned (t' := s.toks) (fun b o hb e => eb b o hb e) f0 f1 f3 f4 f5⟩
  self := fun _ _ _ _ _ st h => wpAny_pyIter_rangeiter st h
end L2

namespace L2
open PySem PySem.Spec PyProof.Rows
section
variable {X : Cx} {tg : Expr}
def iList (K : PySem.W.Frag) (tl : TE) : TI := fun σ H R => tl σ H fun x H1 => ∃ a, x = .ref a ∧ (∃ xs, SqL K H1 a xs) ∧ R (Itl K a) H1
def iTup (K : PySem.W.Frag) (tl : TE) : TI := fun σ H R => tl σ H fun x H1 => ∃ a, x = .ref a ∧ (∃ xs, SqT K H1 a xs) ∧ R (Itt K a) H1
theorem pi_list {l : Expr} {tl : TE} (hl : PE X l tl) : PI X tg l (iList X.K tl) := by
  intro pins s σ H R I h
  refine thn (hl pins s σ H _ I h) fun v s1 ⟨x, H1, I1, r1, q1⟩ => ?_
  obtain ⟨a, e, ⟨xs, hq⟩, q⟩ := q1
  subst e
  cases r1
  obtain ⟨its, rv, p, hz⟩ := I1.list hq
  refine wpAny_pyIter_list p.isList ?_
  refine ⟨s1.heap.objs.size, [s1.heap.objs.size], _, _, H1, rfl, I1.kept (t' := s1.toks) fun b o e => Heap.get?_push_of_some _ e, turn_list a _, ⟨_, Heap.get?_push_size _ rfl, rfl, rfl⟩, fun b hb => ?_, q⟩
  have e : b = s1.heap.objs.size := by simpa using hb
  subst e
  exact I1.fpOk (Nat.le_refl _) (I1.hok.fresh (Nat.le_refl _))
theorem pi_tup {l : Expr} {tl : TE} (hl : PE X l tl) : PI X tg l (iTup X.K tl) := by
  intro pins s σ H R I h
  refine thn (hl pins s σ H _ I h) fun v s1 ⟨x, H1, I1, r1, q1⟩ => ?_
  obtain ⟨a, e, ⟨xs, hq⟩, q⟩ := q1
  subst e
  cases r1
  obtain ⟨its, rv, p, hz⟩ := I1.tuple hq
  refine wpAny_pyIter_tuple (show s1.heap.IsTuple a its.toArray from p) ?_
  refine ⟨s1.heap.objs.size, [s1.heap.objs.size], _, _, H1, rfl, I1.kept (t' := s1.toks) fun b o e => Heap.get?_push_of_some _ e, turn_tuple a _, ⟨_, Heap.get?_push_size _ rfl, rfl, rfl⟩, fun b hb => ?_, q⟩
  have e : b = s1.heap.objs.size := by simpa using hb
  subst e
  exact I1.fpOk (Nat.le_refl _) (I1.hok.fresh (Nat.le_refl _))
theorem range_it {pins : List (Addr × Obj)} {σ : St} {H : Hp} {s : Shared} {R : It → Hp → Prop} {E : Value → Shared → Prop} {lo hi : Int} {t u v : Tok} {tk : Nat} (I : Inv X pins σ H s) (h1 : -(2 ^ 62) ≤ lo) (h2 : lo < 2 ^ 62) (h3 : -(2 ^ 62) ≤ hi) (h4 : hi < 2 ^ 62)
    (q : R (Itr lo (hi - lo).toNat) H) : wpAny (model X.prog X.w) X.A (pyIter (.ref s.heap.objs.size)) (PIE X pins σ tg R) E { s with heap := s.heap.push { cls := .type "range", data := .fields #[.int lo t, .int hi u, .int 1 v] }, toks := tk } := by
  refine wpAny_pyIter_range (IsRange.new ..) (small_one h1 h2 h3 h4) ?_
  have I1 : Inv X pins σ H { s with heap := s.heap.push { cls := .type "range", data := .fields #[.int lo t, .int hi u, .int 1 v] }, toks := tk } := I.kept fun b o e => Heap.get?_push_of_some _ e
  refine ⟨(s.heap.push { cls := .type "range", data := .fields #[.int lo t, .int hi u, .int 1 v] }).objs.size, [(s.heap.push { cls := .type "range", data := .fields #[.int lo t, .int hi u, .int 1 v] }).objs.size], _, _, H, rfl,
    I1.kept (t' := tk) fun b o e => Heap.get?_push_of_some _ e, turn_range _ lo (hi - lo).toNat, ?_, fun b hb => ?_, q⟩
  · have e1 : lo + ((0 : Nat) : Int) * 1 = lo := by simp
    have e2 : (((hi - lo).toNat : Nat) : Int) - ((0 : Nat) : Int) = Builtin.Range.rangeSize lo hi 1 := by rw [rangeSize_one]; split <;> omega
    show IsRangeIter _ _ (lo + ((0 : Nat) : Int) * 1) ((((hi - lo).toNat : Nat) : Int) - ((0 : Nat) : Int)) 1
    rw [e1, e2]
    exact Heap.get?_push_size _ rfl
  · have e : b = (s.heap.push { cls := .type "range", data := .fields #[.int lo t, .int hi u, .int 1 v] }).objs.size := by simpa using hb
    subst e
    exact I1.fpOk (Nat.le_refl _) (I1.hok.fresh (Nat.le_refl _))
def iRng1 (ta : TA) : TI := fun σ H R => ta σ H fun vs H1 => ∃ j : Int, vs = [.int j] ∧ -(2 ^ 62) ≤ j ∧ j < 2 ^ 62 ∧ R (Itr 0 j.toNat) H1
def iRng2 (ta : TA) : TI := fun σ H R => ta σ H fun vs H1 => ∃ i j : Int, vs = [.int i, .int j] ∧ (-(2 ^ 62) ≤ i ∧ i < 2 ^ 62 ∧ -(2 ^ 62) ≤ j ∧ j < 2 ^ 62) ∧ R (Itr i (j - i).toNat) H1
theorem pi_range1 {a : Expr} {ta : TA} {p pos : Pos} (hg : Gl X "range") (hm : X.mg "range" = none) (ha : PA X [a] ta) (hs : starEach [a] X.env = [(false, eval a X.env)] := by rfl) : PI X tg (.Call (.Name "range" p) [a] [] pos) (iRng1 ta) := by
  intro pins s σ H R I h
  refine Call_ (ld_blt I hg hm boot_range (PyProof.Rows.callWith_type1 (thn (ha pos pins s σ H _ I h) fun us s1 ⟨vs, H1, I1, r1, q1⟩ => ?_) hs rfl))
  obtain ⟨j, e, q1, q2, q⟩ := q1
  subst e
  cases r1 with
  | cons r rr =>
    cases rr
    obtain ⟨t, rfl⟩ := r
    exact call_range_1 (range_it I1 (by omega) (by omega) q1 q2 (by simpa using q))
def tFor (wi : TI) (g : TG) (tb : TS) : TS := fun D σ H => wi σ H fun J H1 => ∃ W : Nat → Nat → St → Hp → Prop, (∃ m, W 0 m σ H1) ∧ ∀ i m σ H, W i m σ H →
  (J.stop i H ∧ D.nx σ H) ∨ (J.go i H ∧ ∃ N : St → Hp → Prop, (∀ σ' H', N σ' H' → ∃ m', m' < m ∧ W (i + 1) m' σ' H') ∧ ∀ x H', J.yld i H x H' → g x σ H' fun σ2 H2 => tb { D with nx := N, ct := N, bk := D.nx } σ2 H2)
def pinsAt (fp : List Addr) (h : Heap) : List (Addr × Obj) := fp.filterMap fun b => (h.get? b).map fun o => (b, o)
theorem mem_pinsAt {fp : List Addr} {h : Heap} {b : Addr} {o : Obj} (hb : b ∈ fp) (e : h.get? b = some o) : (b, o) ∈ pinsAt fp h := List.mem_filterMap.mpr ⟨b, hb, by rw [e]; rfl⟩
theorem of_pinsAt {fp : List Addr} {h : Heap} {p : Addr × Obj} (hp : p ∈ pinsAt fp h) : p.1 ∈ fp ∧ h.get? p.1 = some p.2 := by
  obtain ⟨b, hb, e⟩ := List.mem_filterMap.mp hp
  cases q : h.get? b with
  | none => rw [q] at e; cases e
  | some o =>
    rw [q] at e
    have e' : (b, o) = p := Option.some.inj e
    subst e'
    exact ⟨hb, q⟩
theorem Inv.pinned {pins : List (Addr × Obj)} {σ : St} {H : Hp} {s : Shared} {fp : List Addr} (I : Inv X pins σ H s) (hf : ∀ b ∈ fp, FpOk X pins H b) (ho : ∀ b ∈ fp, ∃ o, s.heap.get? b = some o ∧ ∀ v, o.data ≠ .cell v) : Inv X (pins ++ pinsAt fp s.heap) σ H s :=
  I.pins_of fun p hp => (List.mem_append.mp hp).elim (fun z => I.pin p (List.mem_append_right _ z)) fun z => by
    obtain ⟨hb, e⟩ := of_pinsAt z
    obtain ⟨f0, f1, f2, _⟩ := hf p.1 hb
    obtain ⟨o, e', d⟩ := ho p.1 hb
    rw [e] at e'; cases e'
    exact ⟨e, f0, f1, f2, d⟩
theorem Inv.unpinned {pins pl : List (Addr × Obj)} {σ : St} {H : Hp} {s : Shared} (I : Inv X (pins ++ pl) σ H s) : Inv X pins σ H s := I.pins_of fun p hp => I.pin p (List.mem_append_right _ (List.mem_append_left _ hp))
theorem ps_for {iter : Expr} {body : List Stmt} {wi : TI} {g : TG} {tb : TS} {pos : Pos} (hp : PassesOwn (model X.prog X.w) X.A X.env X.xe) (hc : X.calm = true) (hi : PI X tg iter wi) (hg : PG X tg g) (hb : PSs X body tb)
    (hs : ∀ x, foldedSetIterable iter X.env x = pure x := by intro _; rfl) : PS X (.For tg iter body [] pos) (tFor wi g tb) := by
  intro pins s σ H D I h
  refine wpAny_For (thn (hi pins s σ H _ I h) fun v s1 h1 => thn h1 fun itv s2 h2 => ?_) hs
  obtain ⟨it, fp, tn, J, H2, e, I2, T, st2, f2, W, ⟨m0, w0⟩, turn⟩ := h2
  subst e
  -- what stays true of the iterator's objects through the loop
  have stat : ∀ {H' : Hp}, (∀ b ∈ fp, H' b = none) → ∀ b ∈ fp, FpOk X pins H' b := fun hn b hb => ⟨hn b hb, (f2 b hb).2⟩
  refine codeAny_forLoop_any (fun n s' => ∃ i σ' H', Inv X pins σ' H' s' ∧ tn i s'.heap ∧ (∀ b ∈ fp, H' b = none) ∧ W i n σ' H') ?_ m0 ⟨0, σ, H2, I2, st2, fun b hb => (f2 b hb).1, w0⟩
  rintro n s3 ⟨i, σ3, H3, I3, st3, fr3, w3⟩
  rcases turn i n σ3 H3 w3 with ⟨stop, qn⟩ | ⟨go, N, hN, step⟩
  · refine wpAny_passesOwn hp (thn (T.done X rfl rfl rfl hc i pins s3 σ3 H3 X.xe I3 (stat fr3) st3 stop) fun r s4 ⟨hr, I4⟩ => ?_)
    subst hr
    exact wpAny_execs_nil ⟨σ3, H3, I4, qn⟩
  · refine wpAny_passesOwn hp (thn (T.item X rfl rfl rfl hc i pins s3 σ3 H3 X.xe I3 (stat fr3) st3 go) fun r s4 ⟨u, hr, h4⟩ => ?_)
    subst hr
    refine wpAny_passesOwn hp (thn h4 fun _ s5 ⟨x, H5, I5, r5, y5, st5, fr5⟩ => ?_)
    have I5' := I5.pinned (stat fr5) (T.obj _ _ st5)
    refine wpAny_passesOwn hp (thn (hg _ s5 σ3 H5 x u _ I5' r5 (step x H5 y5)) fun _ s6 ⟨σ6, H6, I6, q6⟩ => ?_)
    refine wpAny_passesOwn hp (thn (hb _ s6 σ6 H6 _ I6 q6) fun f s7 q7 => ?_)
    have again : ∀ {σ7 : St} {H7 : Hp}, Inv X (pins ++ pinsAt fp s5.heap) σ7 H7 s7 → N σ7 H7 → ∃ m, m < n ∧ ∃ i σ' H', Inv X pins σ' H' s7 ∧ tn i s7.heap ∧ (∀ b ∈ fp, H' b = none) ∧ W i m σ' H' := fun {σ7 H7} I7 n7 => by
      obtain ⟨m', hm, w7⟩ := hN σ7 H7 n7
      refine ⟨m', hm, i + 1, σ7, H7, I7.unpinned, T.keep _ _ _ st5 fun b hb o e => (I7.pin (b, o) (List.mem_append_right _ (List.mem_append_right _ (mem_pinsAt hb e)))).1, fun b hb => ?_, w7⟩
      obtain ⟨o, e, d⟩ := T.obj _ _ st5 b hb
      exact (I7.pin (b, o) (List.mem_append_right _ (List.mem_append_right _ (mem_pinsAt hb e)))).2.1
    cases f with
    | next => obtain ⟨σ7, H7, I7, n7⟩ := q7; exact again I7 n7
    | cont => obtain ⟨σ7, H7, I7, n7⟩ := q7; exact again I7 n7
    | brk => obtain ⟨σ7, H7, I7, q7⟩ := q7; exact ⟨σ7, H7, I7.unpinned, q7⟩
    | ret v => obtain ⟨x7, σ7, H7, I7, r7, q7⟩ := q7; exact ⟨x7, σ7, H7, I7.unpinned, r7, q7⟩
end

end L2

namespace L2
open PySem PySem.Spec PyProof.Rows

abbrev R2 := V → V → Hp → VK → Prop
def OpR (X : Cx) (f : Value → Value → Sem Value) (r : R2) : Prop :=
  ∀ (pins : List (Addr × Obj)) (s : Shared) (σ : St) (H : Hp) (x y : V) (v u : Value) (Q : VK), Inv X pins σ H s → RelV x v → RelV y u → r x y H Q →
    wpAny (model X.prog X.w) X.A (f v u) (EP X pins σ Q) X.xe s
def CallR (X : Cx) (f : Value) (r : List V → Hp → VK → Prop) : Prop :=
  ∀ (pins : List (Addr × Obj)) (s : Shared) (σ : St) (H : Hp) (xs : List V) (us : List Value) (Q : VK), Inv X pins σ H s → Vals xs us → r xs H Q →
    wpAny (model X.prog X.w) X.A (call f us) (EP X pins σ Q) X.xe s
def tOp (r : R2) (ta tb : TE) : TE := fun σ H Q => ta σ H fun x H1 => tb σ H1 fun y H2 => r x y H2 Q
def tUn (r : V → Hp → VK → Prop) (ta : TE) : TE := fun σ H Q => ta σ H fun x H1 => r x H1 Q
def rI (C : Int → Int → Prop) (g : Int → Int → V) : R2 := fun x y H Q => ∃ i j, x = .int i ∧ y = .int j ∧ C i j ∧ Q (g i j) H
def rI0 (g : Int → Int → V) : R2 := fun x y H Q => ∃ i j, x = .int i ∧ y = .int j ∧ Q (g i j) H
def rU (g : Int → V) : V → Hp → VK → Prop := fun x H Q => ∃ i, x = .int i ∧ Q (g i) H

section
variable {X : Cx} {a b c : Expr} {ta tb tc : TE} {pos : Pos}

theorem binT (ha : PE X a ta) (hb : PE X b tb) {pins : List (Addr × Obj)} {s : Shared} {σ : St} {H : Hp} {R : V → V → Hp → Prop} (I : Inv X pins σ H s)
    (h : ta σ H fun x H1 => tb σ H1 fun y H2 => R x y H2) {Q : Value → Shared → Prop} {f : Value → Value → Sem Value}
    (hf : ∀ v u s2 x y H2, Inv X pins σ H2 s2 → RelV x v → RelV y u → R x y H2 → wpAny (model X.prog X.w) X.A (f v u) Q X.xe s2) :
    wpAny (model X.prog X.w) X.A (eval a X.env) (fun v s₁ => wpAny (model X.prog X.w) X.A (eval b X.env) (fun u s₂ => wpAny (model X.prog X.w) X.A (f v u) Q X.xe s₂) X.xe s₁) X.xe s := by
  refine thn (ha pins s σ H _ I h) fun v s1 ⟨x, H1, I1, r1, q1⟩ => ?_
  refine thn (hb pins s1 σ H1 _ I1 q1) fun u s2 ⟨y, H2, I2, r2, q2⟩ => ?_
  exact hf v u s2 x y H2 I2 r1 r2 q2

theorem pe_op {op : Operator} {r : R2} (ho : OpR X (binaryOp op) r) (ha : PE X a ta) (hb : PE X b tb) : PE X (.BinOp a op b pos) (tOp r ta tb) := by
  intro pins s σ H Q I h
  exact wpAny_BinOp (binT ha hb I h fun v u s2 x y H2 I2 rx ry q => ho pins s2 σ H2 x y v u Q I2 rx ry q)
theorem opI {f : Value → Value → Sem Value} {C : Int → Int → Prop} {g : Int → Int → Int}
    (rule : ∀ (i j : Int) (t u : Tok) (s : Shared) (Q : Value → Shared → Prop) (E : Value → Shared → Prop), C i j → Q (.int (g i j) s.toks) { s with toks := s.toks + 1 } → wpAny (model X.prog X.w) X.A (f (.int i t) (.int j u)) Q E s) :
    OpR X f (rI C fun i j => .int (g i j)) := by
  intro pins s σ H x y v u Q I rx ry h
  obtain ⟨i, j, rfl, rfl, hc, q⟩ := h
  obtain ⟨t, rfl⟩ := rx
  obtain ⟨t', rfl⟩ := ry
  exact rule i j t t' s _ _ hc ⟨.int (g i j), H, I.tok _, ⟨_, rfl⟩, q⟩
theorem opI0 {f : Value → Value → Sem Value} {g : Int → Int → Int}
    (rule : ∀ (i j : Int) (t u : Tok) (s : Shared) (Q : Value → Shared → Prop) (E : Value → Shared → Prop), Q (.int (g i j) s.toks) { s with toks := s.toks + 1 } → wpAny (model X.prog X.w) X.A (f (.int i t) (.int j u)) Q E s) :
    OpR X f (rI0 fun i j => .int (g i j)) := by
  intro pins s σ H x y v u Q I rx ry h
  obtain ⟨i, j, rfl, rfl, q⟩ := h
  obtain ⟨t, rfl⟩ := rx
  obtain ⟨t', rfl⟩ := ry
  exact rule i j t t' s _ _ ⟨.int (g i j), H, I.tok _, ⟨_, rfl⟩, q⟩
theorem opB0 {f : Value → Value → Sem Value} {g : Int → Int → Bool}
    (rule : ∀ (i j : Int) (t u : Tok) (s : Shared) (Q : Value → Shared → Prop) (E : Value → Shared → Prop), Q (.bool (g i j)) s → wpAny (model X.prog X.w) X.A (f (.int i t) (.int j u)) Q E s) :
    OpR X f (rI0 fun i j => .bl (g i j)) := by
  intro pins s σ H x y v u Q I rx ry h
  obtain ⟨i, j, rfl, rfl, q⟩ := h
  obtain ⟨t, rfl⟩ := rx
  obtain ⟨t', rfl⟩ := ry
  exact rule i j t t' s _ _ ⟨.bl (g i j), H, I, rfl, q⟩

def CDiv (i j : Int) : Prop := 0 < j ∧ j < 1073741824
def CPow (i j : Int) : Prop := 0 ≤ j ∧ j ≤ 1000000 ∧ i.natAbs < 2 ^ 64
def CMul (i j : Int) : Prop := (-(2 ^ 64) < i ∧ i < 2 ^ 64) ∨ (-(2 ^ 64) < j ∧ j < 2 ^ 64)
theorem CMul.ok {i j : Int} (h : CMul i j) : IntMulOk i j := by
  rcases h with ⟨h1, h2⟩ | ⟨h1, h2⟩
  · exact .of_left (intBits_le_64 h1 h2)
  · exact .of_right (intBits_le_64 h1 h2)
theorem op_add : OpR X (binaryOp .Add) (rI0 fun i j => .int (i + j)) := opI0 fun _ _ _ _ _ _ _ q => add_int q
theorem op_sub : OpR X (binaryOp .Sub) (rI0 fun i j => .int (i - j)) := opI0 fun _ _ _ _ _ _ _ q => sub_int q
theorem op_mul : OpR X (binaryOp .Mult) (rI CMul fun i j => .int (i * j)) := opI fun _ _ _ _ _ _ _ hc q => mul_int q hc.ok
theorem op_fdiv : OpR X (binaryOp .FloorDiv) (rI CDiv fun i j => .int (i / j)) := opI fun i j _ _ _ _ _ hc q => by
  have h1 : (0 : Int) < j := hc.1
  have h2 : j < 1073741824 := hc.2
  exact floordiv_int (by omega) (by rw [Int.fdiv_eq_ediv_of_nonneg i (by omega)]; exact q) (.inl (PyProof.noPylong_small (by omega)))
theorem op_mod : OpR X (binaryOp .Mod) (rI (fun _ j => 0 < j) fun i j => .int (i % j)) := opI fun i j _ _ _ _ _ hc q => by
  have h1 : (0 : Int) < j := hc
  exact mod_int' (by omega) (by rw [Int.fmod_eq_emod_of_nonneg i (by omega)]; exact q)
theorem op_shl : OpR X (binaryOp .LShift) (rI CPow fun i j => .int (i * 2 ^ j.toNat)) := opI fun _ _ _ _ _ _ _ hc q => lshift_int_small hc.1 hc.2.1 hc.2.2 q
end

def scal : V → V → Bool
  | .non, .non => true | .non, .int _ => true | .int _, .non => true | .non, .bl _ => true | .bl _, .non => true | .non, .str _ => true | .str _, .non => true
  | .int _, .int _ => true | .bl _, .bl _ => true | .str _, .str _ => true | .byt _, .byt _ => true
  | .int _, .str _ => true | .str _, .int _ => true | .bl _, .str _ => true | .str _, .bl _ => true
  | _, _ => false
def rEq : R2 := fun x y H Q => scal x y = true ∧ Q (.bl (decide (x = y))) H
def rNe : R2 := fun x y H Q => scal x y = true ∧ Q (.bl (!decide (x = y))) H

theorem dec_int {i j : Int} : decide (V.int i = V.int j) = (i == j) := by
  rw [Bool.eq_iff_iff]
  simp
theorem dec_bl {i j : Bool} : decide (V.bl i = V.bl j) = (i == j) := by
  rw [Bool.eq_iff_iff]
  simp
theorem dec_str {i j : Str} : decide (V.str i = V.str j) = (i == j) := by
  rw [Bool.eq_iff_iff]
  simp
theorem dec_byt {i j : Array UInt8} : decide (V.byt i = V.byt j) = (i.toList == j.toList) := by
  rw [Bool.eq_iff_iff]
  cases i
  cases j
  simp

section
variable {X : Cx} {a b c : Expr} {ta tb tc : TE} {pos : Pos}
theorem fin_bl {pins : List (Addr × Obj)} {σ : St} {H : Hp} {s : Shared} {Q : VK} {k k' : Bool} (I : Inv X pins σ H s) (q : Q (.bl k) H) (e : k = k') : EP X pins σ Q (.bool k') s := by
  subst e
  exact ⟨.bl k, H, I, rfl, q⟩
theorem op_eq : OpR X (compareOp .Eq) rEq := by
  intro pins s σ H x y v u Q I rx ry h
  obtain ⟨hs, q⟩ := h
  cases x with
  | non =>
    cases rx
    cases y with
    | non => cases ry; exact PySem.EqNone.eq_none_none (fin_bl I q (by simp))
    | bl j => cases ry; exact PySem.EqNone.eq_none_bool (fin_bl I q (by simp))
    | int j => obtain ⟨t', rfl⟩ := ry; exact PySem.EqNone.eq_none_int (fin_bl I q (by simp))
    | str j => obtain ⟨t', rfl⟩ := ry; exact PySem.EqNone.eq_none_str (fin_bl I q (by simp))
    | _ => exact absurd (show false = true from hs) Bool.false_ne_true
  | bl i =>
    cases rx
    cases y with
    | non => cases ry; exact PySem.EqNone.eq_bool_none (fin_bl I q (by simp))
    | bl j => cases ry; exact eq_bool (fin_bl I q dec_bl)
    | str j => obtain ⟨t', rfl⟩ := ry; exact PySem.EqMixed.eq_bool_str (fin_bl I q (by simp))
    | _ => exact absurd (show false = true from hs) Bool.false_ne_true
  | int i =>
    obtain ⟨t, rfl⟩ := rx
    cases y with
    | non => cases ry; exact PySem.EqNone.eq_int_none (fin_bl I q (by simp))
    | int j => obtain ⟨t', rfl⟩ := ry; exact eq_int (fin_bl I q dec_int)
    | str j => obtain ⟨t', rfl⟩ := ry; exact PySem.EqMixed.eq_int_str (fin_bl I q (by simp))
    | _ => exact absurd (show false = true from hs) Bool.false_ne_true
  | str i =>
    obtain ⟨t, rfl⟩ := rx
    cases y with
    | non => cases ry; exact PySem.EqNone.eq_str_none (fin_bl I q (by simp))
    | bl j => cases ry; exact PySem.EqMixed.eq_str_bool (fin_bl I q (by simp))
    | int j => obtain ⟨t', rfl⟩ := ry; exact PySem.EqMixed.eq_str_int (fin_bl I q (by simp))
    | str j => obtain ⟨t', rfl⟩ := ry; exact eq_str (fin_bl I q dec_str)
    | _ => exact absurd (show false = true from hs) Bool.false_ne_true
  | byt i =>
    obtain ⟨t, rfl⟩ := rx
    cases y with
    | byt j => obtain ⟨t', rfl⟩ := ry; exact PySem.W.eq_bytes (fin_bl I q dec_byt)
    | _ => exact absurd (show false = true from hs) Bool.false_ne_true
  | _ => cases y <;> exact absurd (show false = true from hs) Bool.false_ne_true
theorem op_ne : OpR X (compareOp .NotEq) rNe := by
  intro pins s σ H x y v u Q I rx ry h
  obtain ⟨hs, q⟩ := h
  cases x with
  | non =>
    cases rx
    cases y with
    | non => cases ry; exact PySem.EqNone.ne_none_none (fin_bl I q (by simp))
    | bl j => cases ry; exact PySem.EqNone.ne_none_bool (fin_bl I q (by simp))
    | int j => obtain ⟨t', rfl⟩ := ry; exact PySem.EqNone.ne_none_int (fin_bl I q (by simp))
    | str j => obtain ⟨t', rfl⟩ := ry; exact PySem.EqNone.ne_none_str (fin_bl I q (by simp))
    | _ => exact absurd (show false = true from hs) Bool.false_ne_true
  | bl i =>
    cases rx
    cases y with
    | non => cases ry; exact PySem.EqNone.ne_bool_none (fin_bl I q (by simp))
    | bl j => cases ry; exact ne_bool (fin_bl I q (congrArg not dec_bl))
    | str j => obtain ⟨t', rfl⟩ := ry; exact PySem.EqMixed.ne_bool_str (fin_bl I q (by simp))
    | _ => exact absurd (show false = true from hs) Bool.false_ne_true
  | int i =>
    obtain ⟨t, rfl⟩ := rx
    cases y with
    | non => cases ry; exact PySem.EqNone.ne_int_none (fin_bl I q (by simp))
    | int j => obtain ⟨t', rfl⟩ := ry; exact ne_int (fin_bl I q (congrArg not dec_int))
    | str j => obtain ⟨t', rfl⟩ := ry; exact PySem.EqMixed.ne_int_str (fin_bl I q (by simp))
    | _ => exact absurd (show false = true from hs) Bool.false_ne_true
  | str i =>
    obtain ⟨t, rfl⟩ := rx
    cases y with
    | non => cases ry; exact PySem.EqNone.ne_str_none (fin_bl I q (by simp))
    | bl j => cases ry; exact PySem.EqMixed.ne_str_bool (fin_bl I q (by simp))
    | int j => obtain ⟨t', rfl⟩ := ry; exact PySem.EqMixed.ne_str_int (fin_bl I q (by simp))
    | str j => obtain ⟨t', rfl⟩ := ry; exact ne_str (fin_bl I q (congrArg not dec_str))
    | _ => exact absurd (show false = true from hs) Bool.false_ne_true
  | byt i =>
    obtain ⟨t, rfl⟩ := rx
    cases y with
    | byt j => obtain ⟨t', rfl⟩ := ry; exact PySem.W.ne_bytes (fin_bl I q (congrArg not dec_byt))
    | _ => exact absurd (show false = true from hs) Bool.false_ne_true
  | _ => cases y <;> exact absurd (show false = true from hs) Bool.false_ne_true

theorem op_lt : OpR X (compareOp .Lt) (rI0 fun i j => .bl (decide (i < j))) := opB0 fun _ _ _ _ _ _ _ q => lt_int q
theorem op_le : OpR X (compareOp .LtE) (rI0 fun i j => .bl (decide (i ≤ j))) := opB0 fun _ _ _ _ _ _ _ q => le_int q
theorem op_gt : OpR X (compareOp .Gt) (rI0 fun i j => .bl (decide (j < i))) := opB0 fun _ _ _ _ _ _ _ q => gt_int q
theorem OpR.or {f : Value → Value → Sem Value} {r r' : R2} (h : OpR X f r) (h' : OpR X f r') : OpR X f (fun x y H Q => r x y H Q ∨ r' x y H Q) := by
  intro pins s σ H x y v u Q I rx ry q
  rcases q with q | q
  · exact h pins s σ H x y v u Q I rx ry q
  · exact h' pins s σ H x y v u Q I rx ry q

theorem nomark (b : Expr) {op : CmpOp} (h : op ≠ .In := by decide) (h2 : op ≠ .NotIn := by decide) : behindInMarks op b = false := by
  have e1 : (op == CmpOp.In) = false := by cases op <;> first | rfl | exact absurd rfl h
  have e2 : (op == CmpOp.NotIn) = false := by cases op <;> first | rfl | exact absurd rfl h2
  cases b <;> simp [behindInMarks, e1, e2]
theorem pe_cmpR {op : CmpOp} {r : R2} (ho : OpR X (compareOp op) r) (ha : PE X a ta) (hb : PE X b tb) (hm : behindInMarks op b = false) : PE X (.Compare a [op] [b] pos) (tOp r ta tb) := by
  intro pins s σ H Q I h
  exact wpAny_Compare1 (binT ha hb I h fun v u s2 x y H2 I2 rx ry q => ho pins s2 σ H2 x y v u Q I2 rx ry q) hm
def tTest (t : TE) : TT := fun σ H Q => t σ H fun x H' => ∃ k, x = .bl k ∧ Q k H'
theorem pt_cmpR {op : CmpOp} {r : R2} (ho : OpR X (compareOp op) r) (ha : PE X a ta) (hb : PE X b tb) (hm : behindInMarks op b = false) : PT X (.Compare a [op] [b] pos) (tTest (tOp r ta tb)) := by
  intro pins s σ H Q I h
  refine wpAny_isTrue_Compare1 (thn (ha pins s σ H _ I h) fun v s1 ⟨x, H1, I1, r1, q1⟩ => thn (hb pins s1 σ H1 _ I1 q1) fun u s2 ⟨y, H2, I2, r2, q2⟩ =>
    thn (ho pins s2 σ H2 x y v u _ I2 r1 r2 q2) fun c s3 ⟨z, H3, I3, r3, k, e, q3⟩ => ?_) hm
  subst e
  cases r3
  exact wpAny_truthy_bool ⟨H3, I3, q3⟩
def tChain (r r' : R2) (ta tb tc : TE) : TE := fun σ H Q => ta σ H fun x H1 => tb σ H1 fun y H2 => r x y H2 fun z H3 => ∃ k, z = .bl k ∧
  (if k = true then tc σ H3 fun w' H4 => r' y w' H4 Q else Q (.bl false) H3)
theorem pe_chain {op op' : CmpOp} {r r' : R2} (ho : OpR X (compareOp op) r) (ho' : OpR X (compareOp op') r') (ha : PE X a ta) (hb : PE X b tb) (hc : PE X c tc)
    (hm : lastMarks [op, op'] [b, c] = false := by with_unfolding_all rfl) : PE X (.Compare a [op, op'] [b, c] pos) (tChain r r' ta tb tc) := by
  intro pins s σ H Q I h
  refine Compare_chain (thn (ha pins s σ H _ I h) fun v s1 ⟨x, H1, I1, r1, q1⟩ => chain_link (thn (hb pins s1 σ H1 _ I1 q1) fun u s2 ⟨y, H2, I2, r2, q2⟩ =>
    thn (ho pins s2 σ H2 x y v u _ I2 r1 r2 q2) fun d s3 ⟨z, H3, I3, r3, k, e, q3⟩ => ?_)) hm
  subst e
  cases r3
  refine wpAny_truthy_bool ?_
  cases k with
  | false => exact ite_ff ⟨.bl false, H3, I3, rfl, q3⟩
  | true => exact ite_tt (chain_last (thn (hc pins s3 σ H3 _ I3 q3) fun w' s4 ⟨z', H4, I4, r4, q4⟩ => ho' pins s4 σ H4 y z' u w' Q I4 r2 r4 q4))
theorem line63 : (sizeLine : Nat) < 2 ^ 63 := by rw [sizeLine_eq]; decide
theorem vals1 {x : V} {us : List Value} (r : Vals [x] us) : ∃ u, us = [u] ∧ RelV x u := by
  cases r with
  | cons r1 r2 => cases r2; exact ⟨_, rfl, r1⟩
theorem vals2 {x y : V} {us : List Value} (r : Vals [x, y] us) : ∃ u w', us = [u, w'] ∧ RelV x u ∧ RelV y w' := by
  cases r with
  | cons r1 r2 =>
    cases r2 with
    | cons r3 r4 => cases r4; exact ⟨_, _, rfl, r1, r3⟩
theorem call_int1 : CallR X (.type "int") (fun xs H Q => (∃ i, xs = [.int i] ∧ Q (.int i) H) ∨ ∃ k, xs = [.bl k] ∧ Q (.int (if k then 1 else 0)) H) := by
  intro pins s σ H xs us Q I r h
  rcases h with ⟨i, rfl, q⟩ | ⟨k, rfl, q⟩
  · obtain ⟨u, rfl, t, rfl⟩ := vals1 r
    exact call_int_int ⟨.int i, H, I, ⟨_, rfl⟩, q⟩
  · obtain ⟨u, rfl, r1⟩ := vals1 r
    cases r1
    exact call_int_bool ⟨.int (if k then 1 else 0), H, I.tok _, ⟨_, rfl⟩, q⟩
end
end L2

namespace L2
open PySem PySem.Spec PyProof.Rows

structure ObjM (h : Heap) (x dx C : Addr) (mA : Str → Option Value) : Prop where
  obj : h.get? x = some (PySem.W.instObj C dx)
  ns : h.Ns1 dx mA
  ne : dx ≠ x

theorem lookIn_ns {h : Heap} {dx : Addr} {mA : Str → Option Value} (n : h.Ns1 dx mA) : ∃ od, h.get? dx = some od ∧ ∀ name, PySem.W.lookIn name od = some (mA name) := by
  obtain ⟨o, es, ep, ho, hd, hk, _, hm⟩ := n
  refine ⟨o, ho, fun name => ?_⟩
  have e := hm name
  unfold nsFind findBy at e
  rw [← Array.find?_toList] at e
  unfold PySem.W.lookIn
  rw [hd]
  dsimp only
  split
  · rename_i y q
    rw [q] at e
    exact congrArg some e
  · rename_i q
    rw [q] at e
    have a : es.toList.any (·.refKey) = false := by
      rw [List.any_eq_false]
      intro y hy
      obtain ⟨z, t, hkey⟩ := hk y (Array.mem_toList_iff.mp hy)
      simp [DictEntry.refKey, hkey]
    have a' : ¬ es.toList.any (·.refKey) = true := by rw [a]; exact Bool.false_ne_true
    rw [if_neg a']
    exact congrArg some e

theorem ObjM.look {h : Heap} {x dx C : Addr} {mA : Str → Option Value} (I : ObjM h x dx C mA) : ∃ od, PySem.W.InstAt h x (PySem.W.instObj C dx) C (some od) ∧ ∀ name, PySem.W.lookIn name od = some (mA name) :=
  let ⟨od, ho, hl⟩ := lookIn_ns I.ns
  ⟨od, ⟨I.obj, rfl, rfl, ho⟩, hl⟩

section
variable {prog : Program} {w : World} {A : Around} {E : Value → Shared → Prop} {s : Shared} {K : PySem.W.Frag} {x dx C f : Addr} {mA : Str → Option Value} {name : Str} {v : Value}

theorem get_map {expr : Bool} {Q : Value → Shared → Prop} (X : K.In s.heap) (I : ObjM s.heap x dx C mA) (hg : PySem.W.plainGet K C name = true) (hh : PySem.W.hasDictIn K C = true)
    (ha : PySem.W.findIn K (.ref C) name = some none) (hv : mA name = some v) (hv' : PySem.W.handedIn v = true) (h : Q v { s with toks := s.toks + 1 }) :
    wpAny (model prog w) A (getAttr (.ref x) name expr) Q E s := by
  obtain ⟨od, J, hl⟩ := I.look
  exact PySem.W.get_value X J (PySem.W.plainGet_of hg).1 (PySem.W.findObj_own hh ha rfl (by rw [hl, hv])) hv' h

theorem set_map {ns : List Str} {Q : Unit → Shared → Prop} (X : K.In s.heap) (I : ObjM s.heap x dx C mA)
    (hs : PySem.W.findIn K (.ref C) "__setattr__" = some (some (.builtin "object.__setattr__"))) (hp : PySem.W.plainOver K C = true) (ht : PySem.W.takerIn K C name = some none) (hh : PySem.W.hasDictIn K C = true)
    (hw : PySem.Within mA ns) (hsz : ns.length ≤ sizeLine)
    (h : ∀ h', ObjM h' x dx C (fun y => if y = name then some v else mA y) → Heap.SameBut dx s.heap h' → Q () { s with heap := h', toks := s.toks + 2 }) :
    wpAny (model prog w) A (setAttr (.ref x) name v) Q E s := by
  obtain ⟨od, J, hl⟩ := I.look
  refine PySem.W.set_plain X J hs (PySem.W.osa_open (s := { s with toks := s.toks + 1 }) (r := none) X J hp ht fun b => ?_)
  obtain ⟨cd, hc, hd'⟩ := PySem.W.any_some hh
  have hx : s.heap.get? x = some ⟨.ref C, some dx, .plain, #[]⟩ := I.obj
  refine wpAny_bind (wpAny_pure (wpAny_bind (wpAny_bind (wpAny_loadPart hx (wpAny_bind (PySem.W.Looks.here (s := { s with toks := s.toks + 1 }) (PySem.W.looks_clsIn X hc) ?_))))))
  rw [hd']
  refine wpAny_pure (a := some dx) (wpAny_bind (wpAny_pure (wpAny_bind ?_)))
  refine wpAny_nsSet1 (s := { s with toks := s.toks + 1 }) I.ns fun h' hn2 hs2 => ?_
  obtain ⟨oD, esD, epD, hoD, hdD, hcD⟩ := hn2.count (PySem.Within.cons name v hw)
  refine wpAny_bind (wpAny_lookBehind hoD (by rw [hdD]; exact pastItsLine_dict (Nat.le_trans hcD (by rw [List.length_cons]; omega))) ?_)
  exact wpAny_pure (h _ ⟨(hs2.2 _ (Ne.symm I.ne)).trans I.obj, hn2, I.ne⟩ hs2)

theorem make_map {R : Result → Shared → Prop} {vs : List Value} {kw : List (Str × Value)} (X : K.In s.heap) (hm : PySem.W.makesIn K C = true)
    (hi : PySem.W.findIn K (.ref C) "__init__" = some (some (.ref f))) (hf : PySem.W.typeIn K (.ref f) = some (.type "function"))
    (h : codeAny (model prog w) (A.under (.builtin "type.__call__" ⟨.ref C :: vs, kw⟩)) (.call (.ref f) ⟨.ref (s.heap.objs.size + 1) :: vs, kw⟩) (PySem.W.InitBack (s.heap.objs.size + 1) R)
      { s with heap := (s.heap.push PySem.W.emptyDict).push (PySem.W.instObj C s.heap.objs.size) }) :
    codeAny (model prog w) A (.call (.ref C) ⟨vs, kw⟩) R s := by
  obtain ⟨hh, g, d, t, os⟩ := s
  exact PySem.W.make_core (PySem.W.makes_of X hm) (PySem.W.looks_findIn X hi) (fun self => PySem.W.bind_fn X self hf) (.inl rfl) h
end

def putF (f : Str) (v : V) : List (Str × V) → List (Str × V)
  | [] => [(f, v)]
  | (g, x) :: r => if g = f then (g, v) :: r else (g, x) :: putF f v r
theorem lookup_putF (f g : Str) (v : V) : ∀ fs : List (Str × V), (putF f v fs).lookup g = if g = f then some v else fs.lookup g
  | [] => by
    show List.lookup g [(f, v)] = _
    by_cases h : g = f
    · have hb : (g == f) = true := beq_iff_eq.mpr h
      simp only [List.lookup, hb, if_pos h]
    · have hb : (g == f) = false := beq_eq_false_iff_ne.mpr h
      simp only [List.lookup, hb, if_neg h]
  | (k, x) :: r => by
    have ih := lookup_putF f g v r
    rw [show putF f v ((k, x) :: r) = (if k = f then (k, v) :: r else (k, x) :: putF f v r) from rfl]
    by_cases hk : k = f
    · rw [if_pos hk]
      by_cases h : g = k
      · have hb : (g == k) = true := beq_iff_eq.mpr h
        simp only [List.lookup, hb, if_pos (h.trans hk)]
      · have hb : (g == k) = false := beq_eq_false_iff_ne.mpr h
        simp only [List.lookup, hb, if_neg (fun e : g = f => h (e.trans hk.symm))]
    · rw [if_neg hk]
      by_cases h : g = k
      · have hb : (g == k) = true := beq_iff_eq.mpr h
        simp only [List.lookup, hb, if_neg (fun e : g = f => hk (h.symm.trans e))]
      · have hb : (g == k) = false := beq_eq_false_iff_ne.mpr h
        simp only [List.lookup, hb]
        exact ih
theorem keys_putF (f : Str) (v : V) : ∀ fs : List (Str × V), f ∈ (putF f v fs).map (·.1) ∧ ∀ g, g ∈ fs.map (·.1) → g ∈ (putF f v fs).map (·.1)
  | [] => ⟨by simp [putF], fun g h => by simp at h⟩
  | (k, x) :: r => by
    obtain ⟨i1, i2⟩ := keys_putF f v r
    rw [show putF f v ((k, x) :: r) = (if k = f then (k, v) :: r else (k, x) :: putF f v r) from rfl]
    by_cases hk : k = f
    · rw [if_pos hk]
      subst hk
      exact ⟨by simp, fun g h => by simpa using h⟩
    · rw [if_neg hk]
      refine ⟨?_, fun g h => ?_⟩
      · rw [List.map_cons]
        exact List.mem_cons_of_mem _ i1
      · rw [List.map_cons] at h ⊢
        rcases List.mem_cons.mp h with e | e
        · exact List.mem_cons.mpr (.inl e)
        · exact List.mem_cons_of_mem _ (i2 g e)
theorem length_putF (f : Str) (v : V) : ∀ fs : List (Str × V), (putF f v fs).length ≤ fs.length + 1
  | [] => by simp [putF]
  | (k, x) :: r => by
    have ih := length_putF f v r
    rw [show putF f v ((k, x) :: r) = (if k = f then (k, v) :: r else (k, x) :: putF f v r) from rfl]
    by_cases hk : k = f
    · rw [if_pos hk, List.length_cons, List.length_cons]; omega
    · rw [if_neg hk, List.length_cons, List.length_cons]; omega

theorem RelO.some_of {v : V} {o : Option Value} (r : RelO (some v) o) : ∃ u, o = some u ∧ RelV v u := by
  cases o with
  | none => exact (show False from r).elim
  | some u => exact ⟨u, rfl, r⟩
theorem RelO.none_of {o : Option Value} (r : RelO none o) : o = none := by
  cases o with
  | none => rfl
  | some u => exact (show False from r).elim
theorem handed_of {v : V} {u : Value} (r : RelV v u) : PySem.W.handedIn u = true := by
  cases v with
  | non => cases (show u = Value.none from r); rfl
  | bl b => cases (show u = Value.bool b from r); rfl
  | int i => obtain ⟨t, e⟩ := (show ∃ t, u = Value.int i t from r); cases e; rfl
  | str x => obtain ⟨t, e⟩ := (show ∃ t, u = Value.str x t from r); cases e; rfl
  | byt b => obtain ⟨t, e⟩ := (show ∃ t, u = Value.bytes b t from r); cases e; rfl
  | flt b => obtain ⟨t, e⟩ := (show ∃ t, u = Value.float b t from r); cases e; rfl
  | ref a => cases (show u = Value.ref a from r); rfl
  | ty n => cases (show u = Value.type n from r); rfl

section
variable {P : Program} {w : World} {H H' : Hp} {h h' : Heap} {a C dx : Addr} {fs fs' : List (Str × V)}
theorem ins_get (hok : HOk P w H h) (e : H a = some (.ins C dx fs)) : ∃ mA, ObjM h a dx C mA ∧ (∀ f, RelO (fs.lookup f) (mA f)) ∧ PySem.Within mA (fs.map (·.1)) ∧ fs.length ≤ 1000 ∧ H dx = some (.own a) := by
  obtain ⟨d, z, ne, ob, mA, n, r, q⟩ := (show ObjOk P w H h a (.ins C dx fs) from hok a _ e)
  exact ⟨mA, ⟨ob, n, ne⟩, r, q, z, d⟩
end

structure Cls (K : PySem.W.Frag) (C : Addr) : Prop where
  pg : PySem.W.plainGet K C Str.empty = true
  hd : PySem.W.hasDictIn K C = true
  po : PySem.W.plainOver K C = true
  sa : PySem.W.findIn K (.ref C) "__setattr__" = some (some (.builtin "object.__setattr__"))
theorem Cls.get {K : PySem.W.Frag} {C : Addr} (c : Cls K C) (f : Str) : PySem.W.plainGet K C f = true := c.pg
def NoAttr (K : PySem.W.Frag) (C : Addr) (f : Str) : Prop := PySem.W.findIn K (.ref C) f = some none
theorem NoAttr.taker {K : PySem.W.Frag} {C : Addr} {f : Str} (n : NoAttr K C f) : PySem.W.takerIn K C f = some none := by
  unfold PySem.W.takerIn
  rw [show PySem.W.findIn K (.ref C) f = some none from n]
  rfl
structure Con (K : PySem.W.Frag) (C : Addr) (f : Str) (v : V) (u : Value) : Prop where
  at_ : PySem.W.findIn K (.ref C) f = some (some u)
  rel : RelV v u
  get : PySem.W.specialIn K u "__get__" = some none
  cp : PySem.W.copiedNames.contains f = false
structure Meth (K : PySem.W.Frag) (C : Addr) (m : Str) (f : Addr) : Prop where
  at_ : PySem.W.findIn K (.ref C) m = some (some (.ref f))
  fn : PySem.W.isFn K (.ref f) = true
  kp : PySem.W.keepIn K (.ref f) = true

section
variable {X : Cx} {pins : List (Addr × Obj)} {σ : St} {H : Hp} {s : Shared} {a C dx : Addr} {fs : List (Str × V)} {f : Str} {v : V} {A : Around} {E : Value → Shared → Prop}

theorem getattr_ok {b : Bool} {Q : Value → Shared → Prop} (I : Inv X pins σ H s) (e : H a = some (.ins C dx fs)) (c : Cls X.K C) (n : NoAttr X.K C f) (l : fs.lookup f = some v)
    (h : ∀ u s', Inv X pins σ H s' → RelV v u → Q u s') : wpAny (model X.prog X.w) A (getAttr (.ref a) f b) Q E s := by
  obtain ⟨mA, O, r, _, _, _⟩ := ins_get I.hok e
  obtain ⟨u, hu, ru⟩ := RelO.some_of (v := v) (o := mA f) (by rw [← l]; exact r f)
  exact get_map I.kIn O (c.get f) c.hd n hu (handed_of ru) (h u _ (I.tok _) ru)

theorem setattr_ok {y : V} {u : Value} {Q : Unit → Shared → Prop} (I : Inv X pins σ H s) (e : H a = some (.ins C dx fs)) (c : Cls X.K C) (n : NoAttr X.K C f) (hl : fs.length < 1000) (ry : RelV y u)
    (h : ∀ s', Inv X pins σ (upd H a (.ins C dx (putF f y fs))) s' → Q () s') : wpAny (model X.prog X.w) A (setAttr (.ref a) f u) Q E s := by
  obtain ⟨mA, O, r, wi, _, ho⟩ := ins_get I.hok e
  have hz : (fs.map (·.1)).length ≤ sizeLine := by rw [List.length_map, sizeLine_eq]; omega
  refine set_map I.kIn O c.sa c.po n.taker c.hd wi hz fun h' O' sb => h _ ?_
  have hd : ∃ o, h'.get? dx = some o := let ⟨o, _, _, e', _⟩ := O'.ns; ⟨o, e'⟩
  refine I.write (x := a) (e := dx) (by rw [e]; exact True.intro) (.inr ho) (fun b q hb z => (sb.2 b hb).trans z) hd ?_
  refine ⟨by rw [upd_ne O.ne]; exact ho, ?_, O.ne, O'.obj, _, O'.ns, fun g => ?_, fun g hg => ?_⟩
  · have := length_putF f y fs; omega
  · show RelO ((putF f y fs).lookup g) (if g = f then some u else mA g)
    rw [lookup_putF]
    by_cases q : g = f
    · rw [if_pos q, if_pos q]; exact ry
    · rw [if_neg q, if_neg q]; exact r g
  · by_cases q : g = f
    · rw [q]; exact (keys_putF f y fs).1
    · refine (keys_putF f y fs).2 g (wi g fun z => hg ?_)
      show (if g = f then some u else mA g) = none
      rw [if_neg q]; exact z

theorem Inv.made (I : Inv X pins σ H s) : Inv X pins σ (upd (upd H s.heap.objs.size (.own (s.heap.objs.size + 1))) (s.heap.objs.size + 1) (.ins C s.heap.objs.size []))
    { s with heap := (s.heap.push PySem.W.emptyDict).push (PySem.W.instObj C s.heap.objs.size) } := by
  have e1 : (s.heap.push PySem.W.emptyDict).get? s.heap.objs.size = some PySem.W.emptyDict := Heap.get?_push_size s.heap rfl
  have e2 : ((s.heap.push PySem.W.emptyDict).push (PySem.W.instObj C s.heap.objs.size)).get? (s.heap.objs.size + 1) = some (PySem.W.instObj C s.heap.objs.size) := by
    have := Heap.get?_push_size (s.heap.push PySem.W.emptyDict) (o := PySem.W.instObj C s.heap.objs.size) rfl
    rwa [Heap.size_push] at this
  have e3 : (s.heap.push PySem.W.emptyDict).Ns s.heap.objs.size (fun _ => none) := ⟨PySem.W.emptyDict, #[], _, e1, rfl, (fun e he => absurd he (by simp)), fun _ => rfl⟩
  have I1 := I.laid (a := s.heap.objs.size) (o := .own (s.heap.objs.size + 1)) (h' := s.heap.push PySem.W.emptyDict) (t' := s.toks) (fun b u q => Heap.get?_push_of_some _ q) (Nat.le_refl _) ⟨_, e1⟩
  refine I1.laid (a := s.heap.objs.size + 1) (o := .ins C s.heap.objs.size []) (t' := s.toks) (fun b u q => Heap.get?_push_of_some _ q) (Nat.le_of_eq (Heap.size_push _ _)) ?_
  have ne : s.heap.objs.size ≠ s.heap.objs.size + 1 := Nat.ne_of_lt (Nat.lt_succ_self _)
  refine ⟨by rw [upd_ne ne, upd_same], Nat.zero_le _, ne, e2, fun _ => none, (Heap.Ns1.of_empty e3).at fun o q => Heap.get?_push_of_some _ q, fun _ => True.intro, fun y hy => absurd rfl hy⟩

theorem attr_of {prog : Program} {w : World} {env : Env} {e : Expr} {f : Str} {pos : Pos} {s : Shared} {Q : Value → Shared → Prop} (hb : attributeBase e f env (eval e env) = eval e env)
    (h : wpAny (model prog w) A (eval e env) (fun o s₁ => wpAny (model prog w) A (getAttr o f true) Q E s₁) E s) : wpAny (model prog w) A (eval (.Attribute e f pos) env) Q E s :=
  Attribute_any_ h (by rw [arm_eval_Attribute, hb])
end

def tFld (K : PySem.W.Frag) (ta : TE) (f : Str) : TE := fun σ H Q => ta σ H fun x H1 => ∃ a C dx fs v, x = .ref a ∧ H1 a = some (.ins C dx fs) ∧ Cls K C ∧ NoAttr K C f ∧ fs.lookup f = some v ∧ Q v H1
def sFld (K : PySem.W.Frag) (ta tv : TE) (f : Str) : TS := fun D σ H => tv σ H fun y H1 => ta σ H1 fun x H2 => ∃ a C dx fs, x = .ref a ∧ H2 a = some (.ins C dx fs) ∧ Cls K C ∧ NoAttr K C f ∧ fs.length < 1000 ∧
  D.nx σ (upd H2 a (.ins C dx (putF f y fs)))
def InOp (X : Cx) (op : Operator) (rd : V → V → Hp → VK → Prop) : Prop :=
  ∀ (pins : List (Addr × Obj)) (s : Shared) (σ : St) (H : Hp) (x y : V) (u v : Value) (Q : VK), Inv X pins σ H s → RelV x u → RelV y v → rd x y H Q → wpAny (model X.prog X.w) X.A (inplaceOp op u v) (EP X pins σ Q) X.xe s
def sFldAug (K : PySem.W.Frag) (ta tv : TE) (rd : V → V → Hp → VK → Prop) (f : Str) : TS := fun D σ H => ta σ H fun x H1 => ∃ a C dx fs v, x = .ref a ∧ H1 a = some (.ins C dx fs) ∧ Cls K C ∧ NoAttr K C f ∧ fs.lookup f = some v ∧
  tv σ H1 fun y H2 => rd v y H2 fun z H3 => ∃ dx' fs', H3 a = some (.ins C dx' fs') ∧ fs'.length < 1000 ∧ D.nx σ (upd H3 a (.ins C dx' (putF f z fs')))

section
variable {X : Cx} {o e value : Expr} {f : Str} {pos pos' tpos : Pos} {ta tv : TE}
theorem pe_fld (he : PE X e ta) (hb : attributeBase e f X.env (eval e X.env) = eval e X.env) : PE X (.Attribute e f pos) (tFld X.K ta f) := by
  intro pins s σ H Q I h
  refine attr_of hb (thn (he pins s σ H _ I h) fun u s1 ⟨x, H1, I1, rx, a, C, dx, fs, v, ex, ea, c, n, l, q⟩ => ?_)
  subst ex
  obtain rfl : u = Value.ref a := rx
  exact getattr_ok I1 ea c n l fun u' s2 I2 ru => ⟨v, H1, I2, ru, q⟩
theorem ps_fld (ha : PE X o ta) (hv : PE X value tv) (hs : swapsWith value (some (.Attribute o f pos')) pos.line X.env = pure false) : PS X (.Assign [.Attribute o f pos'] value pos) (sFld X.K ta tv f) := by
  intro pins s σ H D I h
  refine plainObj_wpAny_Assign_Attribute (thn (hv pins s σ H _ I h) fun u s1 ⟨y, H1, I1, ry, q⟩ => thn (ha pins s1 σ H1 _ I1 q) fun ov s2 ⟨x, H2, I2, rx, a, C, dx, fs, ex, ea, c, n, l, q2⟩ => ?_) hs
  subst ex
  obtain rfl : ov = Value.ref a := rx
  exact setattr_ok I2 ea c n l ry fun s3 I3 => ⟨σ, _, I3, q2⟩
theorem ps_fldaug {op : Operator} {rd : V → V → Hp → VK → Prop} (ha : PE X o ta) (hv : PE X value tv) (hop : InOp X op rd) : PS X (.AugAssign (.Attribute o f tpos) op value pos) (sFldAug X.K ta tv rd f) := by
  intro pins s σ H D I h
  refine wpAny_AugAssign_AttributeAny (thn (ha pins s σ H _ I h) fun ov s1 ⟨x, H1, I1, rx, a, C, dx, fs, v, ex, ea, c, n, l, q⟩ => ?_)
  subst ex
  obtain rfl : ov = Value.ref a := rx
  refine getattr_ok I1 ea c n l fun u s2 I2 ru => thn (hv pins s2 σ H1 _ I2 q) fun w3 s3 ⟨y, H2, I3, ry, q3⟩ => thn (hop pins s3 σ H2 v y u w3 _ I3 ru ry q3) fun w4 s4 ⟨z, H3, I4, rz, dx', fs', ea', l', q4⟩ => ?_
  exact setattr_ok I4 ea' c n l' rz fun s5 I5 => ⟨σ, _, I5, q4⟩
def rAdd : V → V → Hp → VK → Prop := fun x y H Q => ∃ i j, x = .int i ∧ y = .int j ∧ Q (.int (i + j)) H
theorem in_add : InOp X .Add rAdd := by
  rintro pins s σ H x y u v Q I rx ry ⟨i, j, rfl, rfl, q⟩
  obtain ⟨t, rfl⟩ := (show ∃ t, u = Value.int i t from rx)
  obtain ⟨t', rfl⟩ := (show ∃ t', v = Value.int j t' from ry)
  exact PyProof.Rows.iadd_int ⟨.int (i + j), H, I.tok _, ⟨_, rfl⟩, q⟩
end

section
variable {X : Cx} {pins : List (Addr × Obj)} {σ : St} {H : Hp} {s : Shared} {A : Around} {E : Value → Shared → Prop} {Q : Value → Shared → Prop} {c : Value} {b : Bool}
inductive TyOf (K : PySem.W.Frag) (H : Hp) : V → Value → Prop where
  | non : TyOf K H .non (.type "NoneType")
  | bl (x : Bool) : TyOf K H (.bl x) (.type "bool")
  | int (i : Int) : TyOf K H (.int i) (.type "int")
  | str (x : Str) : TyOf K H (.str x) (.type "str")
  | flt (x : UInt64) : TyOf K H (.flt x) (.type "float")
  | lst {a : Addr} {xs : List V} (e : H a = some (.lst xs)) : TyOf K H (.ref a) (.type "list")
  | frz {a : Addr} {o : Obj} {xs : List V} (e : H a = some (.frz o (.lst xs))) : TyOf K H (.ref a) (.type "list")
  | tup {a : Addr} {xs : List V} (e : H a = some (.tup xs)) : TyOf K H (.ref a) (.type "tuple")
  | dK {a : Addr} {kvs : List (Key × V)} (e : H a = some (.dK kvs)) : TyOf K H (.ref a) (.type "dict")
  | dT {a : Addr} {kvs : List (List Key × V)} (e : H a = some (.dT kvs)) : TyOf K H (.ref a) (.type "dict")
  | ins {a C dx : Addr} {fs : List (Str × V)} (e : H a = some (.ins C dx fs)) (cl : Cls K C) (ha : PySem.W.findIn K (.ref C) "__class__" = some (some (.builtin "object.__class__")))
      (hn : PySem.W.specialIn K (.builtin "object.__class__") "__get__" = some (some (.builtin "getset_descriptor.__get__"))) (htk : PySem.W.takesIn K (.builtin "object.__class__") = some true)
      (hm : PySem.W.mroIn K C (.type "object") = some true) : TyOf K H (.ref a) (.ref C)
theorem isinst_ok {x : V} {u t : Value} (I : Inv X pins σ H s) (rx : RelV x u) (ty : TyOf X.K H x t) (e : PySem.W.kitOne X.K t c = some b) (h : ∀ tk, Q (.bool b) { s with toks := tk }) :
    wpAny (model X.prog X.w) A (call (.builtin "isinstance") [u, c]) Q E s := by
  cases ty with
  | non => cases (show u = Value.none from rx); exact PySem.W.kia_one PySem.W.kitx_none I.kIn True.intro e (fun z => nomatch z) h
  | bl y => cases (show u = Value.bool y from rx); exact PySem.W.kia_one PySem.W.kitx_bool I.kIn True.intro e (fun z => nomatch z) h
  | int i => obtain ⟨t, q⟩ := (show ∃ t, u = Value.int i t from rx); cases q; exact PySem.W.kia_one PySem.W.kitx_int I.kIn True.intro e (fun z => nomatch z) h
  | str y => obtain ⟨t, q⟩ := (show ∃ t, u = Value.str y t from rx); cases q; exact PySem.W.kia_one PySem.W.kitx_str I.kIn True.intro e (fun z => nomatch z) h
  | flt y => obtain ⟨t, q⟩ := (show ∃ t, u = Value.float y t from rx); cases q; exact PySem.W.kia_one PySem.W.kitx_float I.kIn True.intro e (fun z => nomatch z) h
  | @lst a xs ea =>
    cases (show u = Value.ref a from rx)
    obtain ⟨_, _, n, _, h1⟩ := (show ObjOk X.prog X.w H s.heap a (.lst xs) from I.hok a _ ea)
    exact PySem.W.kia_one PySem.W.kitx_list I.kIn ⟨_, h1, rfl⟩ e (fun z => nomatch z) h
  | @frz a ob xs ea =>
    cases (show u = Value.ref a from rx)
    obtain ⟨_, _, _, n, _, h1⟩ := (show ObjOk X.prog X.w H s.heap a (.frz ob (.lst xs)) from I.hok a _ ea)
    exact PySem.W.kia_one PySem.W.kitx_list I.kIn ⟨_, h1, rfl⟩ e (fun z => nomatch z) h
  | @tup a xs ea =>
    cases (show u = Value.ref a from rx)
    obtain ⟨_, _, _, p⟩ := (show ObjOk X.prog X.w H s.heap a (.tup xs) from I.hok a _ ea)
    obtain ⟨o, h1, h2, _⟩ := p
    exact PySem.W.kia_one PySem.W.kitx_tuple I.kIn ⟨o, h1, h2⟩ e (fun z => nomatch z) h
  | @dK a kvs ea =>
    cases (show u = Value.ref a from rx)
    obtain ⟨_, _, vs, _, p⟩ := (show ObjOk X.prog X.w H s.heap a (.dK kvs) from I.hok a _ ea)
    obtain ⟨o, es, ep, h1, h2, _⟩ := p
    exact PySem.W.kia_one PySem.W.kitx_dict I.kIn ⟨o, h1, h2.1⟩ e (fun z => nomatch z) h
  | @dT a kvs ea =>
    cases (show u = Value.ref a from rx)
    obtain ⟨_, _, xs, _, o, es, ep, h1, h2, _⟩ := (show ObjOk X.prog X.w H s.heap a (.dT kvs) from I.hok a _ ea)
    exact PySem.W.kia_one PySem.W.kitx_dict I.kIn ⟨o, h1, h2.1⟩ e (fun z => nomatch z) h
  | @ins a C dx fs ea cl ha hn htk hm =>
    cases (show u = Value.ref a from rx)
    obtain ⟨mA, O, _⟩ := ins_get I.hok ea
    obtain ⟨od, J, _⟩ := O.look
    exact PySem.W.kia_one (PySem.W.kitx_own (cl.get _) cl.hd ha hn htk hm) I.kIn J e (fun z => nomatch z) h
end
end L2

namespace L2
open PySem PySem.Spec PyProof.Rows

structure Room (k : Nat) (A : Around) : Prop where
  hd : A.handled = none
  dp : A.depth + 3 * k + 5 < recursionLimit
  un : A.units + 16 * k + 200 < cLine
  gd : A.guards = some []
theorem Room.mono {j k : Nat} {A : Around} (r : Room k A) (h : j ≤ k) : Room j A := ⟨r.hd, by have := r.dp; omega, by have := r.un; omega, r.gd⟩
theorem Room.deeper {k : Nat} {A : Around} (r : Room (k + 1) A) (env : Env) : Room k (A.deeper env) :=
  ⟨r.hd, by have := r.dp; show A.depth + 1 + 3 * k + 5 < _; omega, by have := r.un; show A.units + 3 + 16 * k + 200 < _; omega, r.gd⟩
theorem Room.in1 {k : Nat} {A : Around} (r : Room (k + 1) A) : Room k A.in1 :=
  ⟨r.hd, by have := r.dp; show A.depth + 3 * k + 5 < _; omega, by have := r.un; show A.units + 1 + 16 * k + 200 < _; omega, r.gd⟩
theorem make_depth {A : Around} {C : Addr} {us : List Value} {kw : List (Str × Value)} : (A.under (.builtin "type.__call__" ⟨.ref C :: us, kw⟩)).depth = A.depth + 1 := by
  first | rfl | simp [Around.under, Code.weight, Code.isCreation, Code.isGuard, Code.isCaller, Code.frames, Code.isFrame, guardIds]
theorem make_units {A : Around} {C : Addr} {us : List Value} {kw : List (Str × Value)} : (A.under (.builtin "type.__call__" ⟨.ref C :: us, kw⟩)).units = A.units + 1 := by
  first | rfl | simp [Around.under, Code.cUnits, Code.frames, Code.isFrame]
theorem Room.make {k : Nat} {A : Around} (r : Room (k + 1) A) (C : Addr) (us : List Value) (kw : List (Str × Value)) : Room k (A.under (.builtin "type.__call__" ⟨.ref C :: us, kw⟩)) :=
  ⟨r.hd, by have := r.dp; rw [make_depth]; omega, by have := r.un; rw [make_units]; omega, by simp [Around.under, Code.guards, Code.isGuard, guardIds, pushGuards, r.gd]⟩
theorem Room.depth {k : Nat} {A : Around} (r : Room k A) : A.depth < recursionLimit := by have := r.dp; omega
theorem Room.units {k : Nat} {A : Around} (r : Room k A) : A.units + 64 < cLine := by have := r.un; omega
def tNil : TA := fun _ H Q => Q [] H
def tCons (ta : TE) (tr : TA) : TA := fun σ H Q => ta σ H fun x H1 => tr σ H1 fun xs H2 => Q (x :: xs) H2
section
variable {X : Cx} {e : Expr} {es : List Expr} {te : TE} {t : TA} {pos : Pos}
theorem pa_nil : PA X [] tNil := fun _ _ _ _ H Q I h => Calls.spliced_nil ⟨[], H, I, .nil, h⟩
theorem pa_cons (ha : PE X e te) (hr : PA X es t) (hs : starEach (e :: es) X.env = (false, eval e X.env) :: starEach es X.env := by rfl) : PA X (e :: es) (tCons te t) := by
  intro pos pins s σ H Q I h
  rw [hs]
  show wpAny _ _ (spliced ((false, eval e X.env) :: backTo pos (starEach es X.env))) _ _ s
  refine Calls.spliced_cons (thn (ha pins s σ H _ I h) fun u s1 ⟨x, H1, I1, r1, q1⟩ => ?_)
  exact thn (hr pos pins s1 σ H1 _ I1 q1) fun us s2 ⟨xs, H2, I2, r2, q2⟩ => ⟨x :: xs, H2, I2, .cons r1 r2, q2⟩

def tTup (t : TA) : TE := fun σ H Q => t σ H fun xs H1 => xs.length ≤ sizeLine ∧ ∀ p, H1 p = none → Q (.ref p) (upd H1 p (.tup xs))
def tLst (t : TA) : TE := fun σ H Q => t σ H fun xs H1 => xs.length ≤ sizeLine ∧ ∀ p, H1 p = none → Q (.ref p) (upd H1 p (.lst xs))
theorem pe_tup {x1} (h : PA X es t) : PE X (.Tuple es x1 pos) (tTup t) := by
  intro pins s σ H Q I hq
  refine wpAny_Tuple_spliced (thn (h pos pins s σ H _ I hq) fun us s1 ⟨xs, H1, I1, r, z, q⟩ => ⟨by rw [← r.length]; exact z, ?_⟩)
  have hf : H1 s1.heap.objs.size = none := I1.hok.fresh (Nat.le_refl _)
  refine ⟨.ref s1.heap.objs.size, upd H1 s1.heap.objs.size (.tup xs), I1.laid (t' := s1.toks) (fun b u e => Heap.get?_push_of_some _ e) (Nat.le_refl _) ?_, rfl, q _ hf⟩
  exact ⟨z, us, r, ⟨_, Heap.get?_push_size _ rfl, rfl, _, rfl⟩⟩
theorem pe_lst (h : PA X es t) : PE X (.List es pos) (tLst t) := by
  intro pins s σ H Q I hq
  refine wpAny_List_spliced (thn (h pos pins s σ H _ I hq) fun us s1 ⟨xs, H1, I1, r, z, q⟩ => ⟨by rw [← r.length]; exact z, ?_⟩)
  have hf : H1 s1.heap.objs.size = none := I1.hok.fresh (Nat.le_refl _)
  refine ⟨.ref s1.heap.objs.size, upd H1 s1.heap.objs.size (.lst xs), I1.laid (t' := s1.toks) (fun b u e => Heap.get?_push_of_some _ e) (Nat.le_refl _) ?_, rfl, q _ hf⟩
  exact ⟨z, us, 0, r, Heap.get?_push_size _ rfl⟩
end

abbrev Sp := List V → Hp → VK → XK → Prop
abbrev CXT := List Env → Hp → Shared → XK → Value → Shared → Prop

structure Env0 (P : Program) (w : World) (K : PySem.W.Frag) (mg : Str → Option Value) (base : Heap) (A : Around) (outer : List Env) (s : Shared) (H : Hp) : Prop where
  frames : A.frames = some outer
  mod : Mod K mg base
  bs : ∀ b o, base.get? b = some o → s.heap.get? b = some o ∧ H b = none
  bsz : base.objs.size ≤ s.heap.objs.size
  funs : s.heap.FunFrames base outer
  frf : ∀ b ∈ frs outer, H b = none
  hok : HOk P w H s.heap
  bare : AllBare s.gens
def CE (outer : List Env) (P : Program) (w : World) (H : Hp) (s : Shared) (Q : VK) (u : Value) (s' : Shared) : Prop :=
  ∃ v H', s'.os = s.os ∧ AllBare s'.gens ∧ Un (frs outer) [] H H' s.heap s'.heap ∧ HOk P w H' s'.heap ∧ RelV v u ∧ Q v H'
def CR (CX : CXT) (outer : List Env) (P : Program) (w : World) (H : Hp) (s : Shared) (Q : VK) (E : XK) (r : Result) (s' : Shared) : Prop :=
  match r with
  | .ok (.ret u) => CE outer P w H s Q u s'
  | .ok _ => False
  | .error e => CX outer H s E e s'
structure FnOk (P : Program) (w : World) (K : PySem.W.Frag) (mg : Str → Option Value) (base : Heap) (CX : CXT) (k : Nat) (f : Addr) (fd : FuncData) (ps : List Str) (sp : Sp) : Prop where
  len : ∀ vs H Q E, sp vs H Q E → vs.length = ps.length
  run : ∀ (A : Around) (outer : List Env) (s : Shared) (H : Hp) (args : Args) (us : List Value) (vs : List V) (Q : VK) (E : XK), Room k A → Env0 P w K mg base A outer s H → BindsTo s fd args (ps.zip us) → Vals vs us → sp vs H Q E →
    codeAny (model P w) A (.call (.ref f) args) (CR CX outer P w H s Q E) s
theorem FnOk.mono {P : Program} {w : World} {K : PySem.W.Frag} {mg : Str → Option Value} {base : Heap} {CX : CXT} {j k : Nat} {f : Addr} {fd : FuncData} {ps : List Str} {sp : Sp} (F : FnOk P w K mg base CX j f fd ps sp) (h : j ≤ k) :
    FnOk P w K mg base CX k f fd ps sp := ⟨F.len, fun A outer s H args us vs Q E hr => F.run A outer s H args us vs Q E (hr.mono h)⟩
theorem Env0.make {P : Program} {w : World} {K : PySem.W.Frag} {mg : Str → Option Value} {base : Heap} {A : Around} {outer : List Env} {s : Shared} {H : Hp} (e : Env0 P w K mg base A outer s H) (C : Addr) (us : List Value) (kw : List (Str × Value)) :
    Env0 P w K mg base (A.under (.builtin "type.__call__" ⟨.ref C :: us, kw⟩)) outer s H := ⟨by first | exact e.frames | (simpa [Around.under, Code.envs, Code.isFrame, pushEnvs] using e.frames), e.mod, e.bs, e.bsz, e.funs, e.frf, e.hok, e.bare⟩
theorem Env0.in1 {P : Program} {w : World} {K : PySem.W.Frag} {mg : Str → Option Value} {base : Heap} {A : Around} {outer : List Env} {s : Shared} {H : Hp} (e : Env0 P w K mg base A outer s H) :
    Env0 P w K mg base A.in1 outer s H := ⟨e.frames, e.mod, e.bs, e.bsz, e.funs, e.frf, e.hok, e.bare⟩

section
variable {X : Cx} {pins : List (Addr × Obj)} {σ : St} {H : Hp} {s s' : Shared}
theorem Inv.env0 (I : Inv X pins σ H s) : Env0 X.prog X.w X.K X.mg X.base X.A X.stack s H :=
  ⟨I.ok.frames, I.ok.mod, I.bs, Nat.le_trans I.ok.bsz I.sz, I.stack, I.stkFree, I.hok, I.bare⟩
theorem Inv.after {Q : VK} {u : Value} (I : Inv X pins σ H s) (h : CE X.stack X.prog X.w H s Q u s') : EP X pins σ Q u s' := by
  obtain ⟨v, H', os, bare, un, hok, r, q⟩ := h
  obtain ⟨hh, g, d, t, os'⟩ := s'
  obtain rfl : os' = s.os := os
  exact ⟨v, H', I.call (h' := hh) (g' := g) (d' := d) (t' := t) (ch := []) un hok bare (fun b z => absurd z (by simp)), r, q⟩
end

def tCall (sp : Sp) (dvs : List V) (E : XK) (t : TA) : TE := fun σ H Q => t σ H fun vs H1 => sp (vs ++ dvs) H1 Q E
def tMake (C : Addr) (sp : Sp) (dvs : List V) (E : XK) (t : TA) : TE := fun σ H Q => t σ H fun vs H1 => ∀ x dx, H1 x = none → H1 dx = none → dx ≠ x →
  sp (.ref x :: (vs ++ dvs)) (upd (upd H1 dx (.own x)) x (.ins C dx [])) (fun v H2 => v = .non ∧ Q (.ref x) H2) E

def Binds (K : PySem.W.Frag) (fd : FuncData) (ps : List Str) (ds : List Value) : Prop :=
  ∀ (s : Shared) (us : List Value), K.In s.heap → (us ++ ds).length = ps.length → BindsTo s fd ⟨us, []⟩ (ps.zip (us ++ ds))
theorem Binds.all {K : PySem.W.Frag} {fd : FuncData} {ps : List Str} (h : ∀ us : List Value, us.length = ps.length → bindArgs fd ⟨us, []⟩ = pure (ps.zip us)) : Binds K fd ps [] := fun s us _ hl => by
  rw [List.append_nil] at hl ⊢
  exact .of_eq (h us hl)

def Passes (CX : CXT) (X : Cx) (E : XK) : Prop := ∀ (pins : List (Addr × Obj)) (σ : St) (H : Hp) (s : Shared) (e : Value) (s' : Shared), Inv X pins σ H s → CX X.stack H s E e s' → X.xe e s'

section
variable {X : Cx} {CX : CXT} {k : Nat} {f C : Addr} {fd : FuncData} {ps : List Str} {sp : Sp} {dvs : List V} {ds : List Value} {E : XK} {x m : Str} {p pos apos : Pos} {e o : Expr} {es : List Expr} {ta : TE} {t : TA}

theorem run_fn {pins : List (Addr × Obj)} {σ : St} {H : Hp} {s : Shared} {Q : VK} {us : List Value} {vs : List V} (F : FnOk X.prog X.w X.K X.mg X.base CX k f fd ps sp) (hr : Room k X.A) (hb : Binds X.K fd ps ds) (hd : Vals dvs ds) (hx : Passes CX X E)
    (I : Inv X pins σ H s) (r : Vals vs us) (h : sp (vs ++ dvs) H Q E) : wpAny (model X.prog X.w) X.A (call (.ref f) us) (EP X pins σ Q) X.xe s := by
  have r2 : Vals (vs ++ dvs) (us ++ ds) := r.append hd
  have hl : (us ++ ds).length = ps.length := by rw [← r2.length]; exact F.len _ _ _ _ h
  refine wpAny_call (codeAny_mono (F.run X.A X.stack s H ⟨us, []⟩ (us ++ ds) (vs ++ dvs) Q E hr I.env0 (hb s us I.kIn hl) r2 h) fun r s' hq => ?_)
  cases r with
  | error e => exact hx pins σ H s e s' I hq
  | ok fl =>
    cases fl with
    | ret u => exact I.after hq
    | next => exact False.elim hq
    | brk => exact False.elim hq
    | cont => exact False.elim hq

theorem pe_call (F : FnOk X.prog X.w X.K X.mg X.base CX k f fd ps sp) (hr : Room k X.A) (hg : Gl X x) (hm : X.mg x = some (.ref f)) (hk : PySem.W.keepIn X.K (.ref f) = true) (hb : Binds X.K fd ps ds) (hd : Vals dvs ds) (hx : Passes CX X E)
    (ha : PA X (e :: es) t) (hdb : (x == ("__debug__" : Str)) = false := by decide) (he : starEach (e :: es) X.env = (false, eval e X.env) :: starEach es X.env := by rfl) (hpl : (backTo pos (starEach es X.env)).any (·.1) = false := by rfl) :
    PE X (.Call (.Name x p) (e :: es) [] pos) (tCall sp dvs E t) := by
  intro pins s σ H Q I h
  refine wpAny_Call_Name_kw (ld_glob I hg hm ?_ hdb)
  refine PySem.W.callWith_K (h₀ := X.base) I.ok.mod.kin hk (thn (ha pos pins s σ H _ I h) fun us s1 ⟨vs, H1, I1, r, q⟩ => ⟨I1.kIn, ?_⟩) he hpl
  exact run_fn F hr hb hd hx I1 r q
structure Mk (K : PySem.W.Frag) (C f : Addr) : Prop where
  makes : PySem.W.makesIn K C = true
  init : PySem.W.findIn K (.ref C) "__init__" = some (some (.ref f))
  fn : PySem.W.isFn K (.ref f) = true
  kp : PySem.W.keepIn K (.ref C) = true

theorem run_make {pins : List (Addr × Obj)} {σ : St} {H : Hp} {s : Shared} {Q : VK} {us : List Value} {vs : List V} (M : Mk X.K C f) (F : FnOk X.prog X.w X.K X.mg X.base CX k f fd ps sp) (hr : Room (k + 1) X.A) (hb : Binds X.K fd ps ds) (hd : Vals dvs ds)
    (hx : Passes CX X E) (I : Inv X pins σ H s) (r : Vals vs us)
    (h : ∀ x dx, H x = none → H dx = none → dx ≠ x → sp (.ref x :: (vs ++ dvs)) (upd (upd H dx (.own x)) x (.ins C dx [])) (fun v H2 => v = .non ∧ Q (.ref x) H2) E) :
    wpAny (model X.prog X.w) X.A (call (.ref C) us) (EP X pins σ Q) X.xe s := by
  have hq := h (s.heap.objs.size + 1) s.heap.objs.size (I.hok.fresh (Nat.le_succ _)) (I.hok.fresh (Nat.le_refl _)) (Nat.ne_of_lt (Nat.lt_succ_self _))
  have I2 := Inv.made (C := C) I
  have r2 : Vals (V.ref (s.heap.objs.size + 1) :: (vs ++ dvs)) (Value.ref (s.heap.objs.size + 1) :: (us ++ ds)) := .cons rfl (r.append hd)
  have hl : (Value.ref (s.heap.objs.size + 1) :: us ++ ds).length = ps.length := by
    have e := r2.length
    rw [F.len _ _ _ _ hq] at e
    exact e.symm
  refine wpAny_call (make_map (f := f) I.kIn M.makes M.init (beq_iff_eq.mp M.fn) (codeAny_mono (F.run _ X.stack _ _ ⟨Value.ref (s.heap.objs.size + 1) :: us, []⟩ (Value.ref (s.heap.objs.size + 1) :: (us ++ ds)) _ _ E (hr.make C us [])
    (I2.env0.make C us []) (hb _ (Value.ref (s.heap.objs.size + 1) :: us) I2.kIn hl) r2 hq) fun r s' hq' => ?_))
  cases r with
  | error e => exact hx pins σ _ _ e s' I2 hq'
  | ok fl =>
    cases fl with
    | ret u =>
      obtain ⟨v, H', I3, rv, ev, q3⟩ := I2.after hq'
      subst ev
      exact ⟨rv, ⟨V.ref (s.heap.objs.size + 1), H', I3, rfl, q3⟩⟩
    | next => exact False.elim hq'
    | brk => exact False.elim hq'
    | cont => exact False.elim hq'
theorem pe_make0 (M : Mk X.K C f) (F : FnOk X.prog X.w X.K X.mg X.base CX k f fd ps sp) (hr : Room (k + 1) X.A) (hg : Gl X x) (hm : X.mg x = some (.ref C)) (hb : Binds X.K fd ps ds) (hd : Vals dvs ds) (hx : Passes CX X E)
    (hdb : (x == ("__debug__" : Str)) = false := by decide) : PE X (.Call (.Name x p) [] [] pos) (tMake C sp dvs E tNil) := by
  intro pins s σ H Q I h
  refine wpAny_Call_Name_kw (ld_glob I hg hm ?_ hdb)
  exact PySem.W.callWith_K0 I.kIn M.kp (run_make (us := []) M F hr hb hd hx I .nil h)
end

section
variable {X : Cx} {CX : CXT} {k : Nat} {f C : Addr} {fd : FuncData} {ps ks : List Str} {sp : Sp} {E : XK} {x m : Str} {p pos apos kpos : Pos} {e o : Expr} {es : List Expr} {kws : List Keyword} {te ta : TE} {t tk : TA} {nm : Option Str}
structure KBinds (K : PySem.W.Frag) (fd : FuncData) (ps ks : List Str) (g : List Value → List Value → List Value) (gV : List V → List V → List V) : Prop where
  to : ∀ (s : Shared) (us ws : List Value), K.In s.heap → (g us ws).length = ps.length → BindsTo s fd ⟨us, ks.zip ws⟩ (ps.zip (g us ws))
  rel : ∀ {vs : List V} {us : List Value} {zs : List V} {ws : List Value}, Vals vs us → Vals zs ws → Vals (gV vs zs) (g us ws)
def tCallK (sp : Sp) (gV : List V → List V → List V) (E : XK) (t tk : TA) : TE := fun σ H Q => t σ H fun vs H1 => tk σ H1 fun zs H2 => sp (gV vs zs) H2 Q E
variable {g : List Value → List Value → List Value} {gV : List V → List V → List V}
end

structure FnScope (N P : List Str) (sc : Scope) : Prop where
  kind : sc.kind = .function
  co : sc.isCoroutine = false
  gen : sc.isGenerator = false
  nd : N.Nodup
  pre : N.take P.length = P
  par : ∀ x ∈ P, sc.names.lookup x = some .local ∨ sc.names.lookup x = some .cell
  nofree : ∀ y ∈ sc.names, y.2 ≠ .free

theorem bindL_out {kindOf : Str → Option NameKind} {x : Str} : ∀ {binds : List (Str × Value)} {m : Str → Option Value}, (∀ v, (x, v) ∉ binds) → bindL kindOf binds m x = m x
  | [], _, _ => rfl
  | (n, v) :: r, m, h => by
    unfold bindL
    rw [bindL_out fun w hw => h w (List.mem_cons_of_mem _ hw)]
    split
    · have : x ≠ n := by rintro rfl; exact h v List.mem_cons_self
      simp [this]
    · rfl
theorem bindC_out {kindOf : Str → Option NameKind} {x : Str} : ∀ {binds : List (Str × Value)} {m : Str → Option Value}, (∀ v, (x, v) ∉ binds) → bindC kindOf binds m x = m x
  | [], _, _ => rfl
  | (n, v) :: r, m, h => by
    unfold bindC
    rw [bindC_out fun w hw => h w (List.mem_cons_of_mem _ hw)]
    split
    · rfl
    · have : x ≠ n := by rintro rfl; exact h v List.mem_cons_self
      simp [this]
theorem bindL_get {kindOf : Str → Option NameKind} {x : Str} {v : Value} : ∀ {P : List Str} {vs : List Value} {i : Nat} {m : Str → Option Value}, P.Nodup → P[i]? = some x → vs[i]? = some v → kindOf x = some .local →
    bindL kindOf (P.zip vs) m x = some v
  | [], _, _, _, _, h, _, _ => by simp at h
  | _ :: _, [], _, _, _, _, h, _ => by simp at h
  | p :: P, w :: vs, 0, m, nd, h1, h2, hk => by
    simp at h1 h2; subst h1; subst h2
    show bindL kindOf ((p, w) :: P.zip vs) m p = _
    unfold bindL
    rw [bindL_out fun v hv => (List.nodup_cons.mp nd).1 (List.of_mem_zip hv).1, if_pos hk]
    simp
  | p :: P, w :: vs, i + 1, m, nd, h1, h2, hk => by
    show bindL kindOf ((p, w) :: P.zip vs) m x = _
    unfold bindL
    exact bindL_get (i := i) (List.nodup_cons.mp nd).2 (by simpa using h1) (by simpa using h2) hk
theorem bindC_get {kindOf : Str → Option NameKind} {x : Str} {v : Value} : ∀ {P : List Str} {vs : List Value} {i : Nat} {m : Str → Option Value}, P.Nodup → P[i]? = some x → vs[i]? = some v → kindOf x ≠ some .local →
    bindC kindOf (P.zip vs) m x = some v
  | [], _, _, _, _, h, _, _ => by simp at h
  | _ :: _, [], _, _, _, _, h, _ => by simp at h
  | p :: P, w :: vs, 0, m, nd, h1, h2, hk => by
    simp at h1 h2; subst h1; subst h2
    show bindC kindOf ((p, w) :: P.zip vs) m p = _
    unfold bindC
    rw [bindC_out fun v hv => (List.nodup_cons.mp nd).1 (List.of_mem_zip hv).1, if_neg hk]
    simp
  | p :: P, w :: vs, i + 1, m, nd, h1, h2, hk => by
    show bindC kindOf ((p, w) :: P.zip vs) m x = _
    unfold bindC
    exact bindC_get (i := i) (List.nodup_cons.mp nd).2 (by simpa using h1) (by simpa using h2) hk

def start (N : List Str) (vs : List V) : St := vs.map some ++ List.replicate (N.length - vs.length) none

def cxOf (CX : CXT) (P : Program) (w : World) (K : PySem.W.Frag) (mg : Str → Option Value) (base : Heap) (N : List Str) (qual : Str) (scope : Scope) (f : Addr) (cd : Value) (A : Around) (outer : List Env) (s : Shared) (H : Hp) (E : XK) : Cx where
  prog := P
  w := w
  K := K
  mg := mg
  base := base
  A := A.deeper (envOfC qual scope s.heap.objs.size f cd)
  N := N
  s₀ := s
  H₀ := H
  env := envOfC qual scope s.heap.objs.size f cd
  outer := outer
  stack := envOfC qual scope s.heap.objs.size f cd :: outer
  ex := []
  calm := true
  fn := fun _ => true
  pn := []
  xe := fun e s' => wpAny (model P w) (A.deeper (envOfC qual scope s.heap.objs.size f cd)) (leaving (envOfC qual scope s.heap.objs.size f cd) e) (fun _ s'' => CX outer H s E e s'') (fun e' s'' => CX outer H s E e' s'') s'

theorem cell_has {sc : Scope} {n : Nat} {x : Str} (h : sc.names.lookup x = some .cell) : ∃ c, (cellsFrom n sc.names []).lookup x = some c := by
  have q := PySem.W.cellsFrom_some sc.names n [] (.inl h)
  exact Option.isSome_iff_exists.mp q

theorem inv_start {CX : CXT} {P : Program} {w : World} {K : PySem.W.Frag} {mg : Str → Option Value} {base : Heap} {N ps : List Str} {qual : Str} {scope : Scope} {f : Addr} {cd : Value} {A : Around} {outer : List Env} {s s1 : Shared} {H : Hp} {E : XK} {us : List Value} {vs : List V}
    (S : FnScope N ps scope) (hd : A.handled = none) (e0 : Env0 P w K mg base A outer s H) (hl : vs.length = ps.length) (r : Vals vs us)
    (x : InCallC s s.heap.objs.size (bindL (envOfC qual scope s.heap.objs.size f cd).kindOf (ps.zip us) fun _ => none) (cellsFrom (s.heap.objs.size + 1) scope.names []) (bindC (envOfC qual scope s.heap.objs.size f cd).kindOf (ps.zip us) fun _ => none) s1) :
    Inv (cxOf CX P w K mg base N qual scope f cd A outer s H E) [] (start N vs) H s1 := by
  have hpl : ps.length ≤ N.length := by have := congrArg List.length S.pre; rw [List.length_take] at this; omega
  obtain ⟨h1, tk, rfl, hk⟩ := x.done
  have noA : ∀ b : Addr, b ∉ (cxOf CX P w K mg base N qual scope f cd A outer s H E).ex := fun b z => absurd (show b ∈ ([] : List Addr) from z) (by simp)
  refine ⟨⟨e0.mod, S.kind, rfl, rfl, Nat.le_refl _, fun y z c h1 h2 => ?_, fun y hy => ?_, fun y c _ h => ?_, fun _ => hd, Around.frames_deeper e0.frames, .inr ⟨rfl, rfl⟩, fun b z => absurd z (noA b), e0.bs, e0.bsz, fun b _ _ => noA b, fun b z => absurd z (noA b), e0.funs, e0.frf⟩,
    rfl, e0.bare, Un.kept hk, ⟨_, x.toInCall.ns, fun i y v h1 h2 h3 => ?_⟩, fun y c h => ⟨_, x.cell y c h⟩, e0.hok.fresh (Nat.le_refl _), fun y c h => ?_, fun p hp => absurd (show p ∈ ([] : List (Addr × Obj)) from hp) (by simp), e0.hok.kept hk, ?_⟩
  · exact name_of_addr x.apart (PySem.mem_of_lookup h1) (PySem.mem_of_lookup h2)
  · have hy : scope.names.lookup y = some .cell ∨ scope.names.lookup y = some .free := hy
    rcases hy with hy | hy
    · exact cell_has hy
    · exact absurd rfl (S.nofree _ (PySem.mem_of_lookup hy))
  · exact Nat.le_of_lt (x.above y c (PySem.mem_of_lookup h))
  · have hi : i < vs.length := by
      unfold start at h2
      by_cases hi : i < vs.length
      · exact hi
      · rw [List.getElem?_append_right (by simpa using hi)] at h2
        rw [List.getElem?_replicate] at h2
        split at h2 <;> cases h2
    have ha : vs[i]? = some v := by
      unfold start at h2
      rw [List.getElem?_append_left (by simpa using hi), List.getElem?_map] at h2
      cases e : vs[i]? with
      | none => rw [e] at h2; cases h2
      | some a => rw [e] at h2; cases h2; rfl
    obtain ⟨u, hu, rv⟩ := r.get ha
    have hp : ps[i]? = some y := by
      rw [← S.pre, List.getElem?_take_of_lt (by omega)]; exact h1
    have ndP : ps.Nodup := by rw [← S.pre]; exact S.nd.sublist (List.take_sublist _ _)
    refine ⟨u, rv, ?_⟩
    rcases S.par y (List.mem_of_getElem? hp) with k | k
    · exact .inl ⟨k, bindL_get ndP hp hu k⟩
    · obtain ⟨c, e⟩ := cell_has (n := s.heap.objs.size + 1) k
      refine .inr ⟨.inl k, c, e, ?_⟩
      have q := x.cell y c e
      rw [bindC_get ndP hp hu (by show scope.names.lookup y ≠ _; rw [k]; decide)] at q
      exact q
  · exact e0.hok.fresh (Nat.le_of_lt (x.above y c (PySem.mem_of_lookup h)))
  · unfold start
    show _ = N.length
    rw [List.length_append, List.length_map, List.length_replicate]
    omega

theorem fn_of {CX : CXT} {P : Program} {w : World} {K : PySem.W.Frag} {mg : Str → Option Value} {base : Heap} {k : Nat} {f : Addr} {name qual : Str} {params : Arguments} {body : List Stmt} {scope : Scope} {dV kV doc pm cdv ct oc : Value} {an od : Option Addr}
    {osl : Array (Option Value)} {N ps : List Str} {sp : Sp} (lk : K.lookup f = some ⟨oc, od, .func (PySem.W.fnOf name qual params body scope dV kV doc pm an cdv ct), osl⟩) (hcd : PySem.W.codeIn K cdv qual = true) (S : FnScope N ps scope)
    (len : ∀ vs H Q E, sp vs H Q E → vs.length = ps.length)
    (hbody : ∀ (A : Around) (outer : List Env) (s : Shared) (H : Hp) (vs : List V) (Q : VK) (E : XK), Room k (A.deeper (envOfC qual scope s.heap.objs.size f cdv)) → sp vs H Q E →
      ∃ t, PSs (cxOf CX P w K mg base N qual scope f cdv A outer s H E) body t ∧ t { nx := fun _ H' => Q .non H', rt := Q } (start N vs) H) :
    FnOk P w K mg base CX (k + 1) f (PySem.W.fnOf name qual params body scope dV kV doc pm an cdv ct) ps sp := by
  refine ⟨len, fun A outer s H args us vs Q E hr e0 hb r hsp => ?_⟩
  have hl := len _ _ _ _ hsp
  have KX : K.In s.heap := e0.mod.kin.keeps fun b o e => (e0.bs b o e).1
  have lim : s.heap.NoLimit := e0.mod.nolimit.keeps fun b o e => (e0.bs b o e).1
  have hkind : ∀ y ∈ ps.zip us, scope.names.lookup y.1 = some .local ∨ (scope.names.lookup y.1 = some .cell ∧ ((cellsFrom (s.heap.objs.size + 1) scope.names []).lookup y.1).isSome = true) := fun ⟨n, v⟩ hy => by
    rcases S.par n (List.of_mem_zip hy).1 with q | q
    · exact .inl q
    · exact .inr ⟨q, PySem.W.cellsFrom_some _ _ _ (.inl q)⟩
  refine codeAny_call_function hr.depth (KX _ _ lk) rfl S.co S.gen rfl (PySem.W.codeRec_of KX hcd) (hb _ _ _ _ ?_)
  refine wpAny_newFunctionEnv_cells S.kind hkind fun env he s1 x => ?_
  subst he
  refine ⟨lim.keeps x.toInCall.keep, codeAny_func ?_⟩
  obtain ⟨t, ht, hq⟩ := hbody A outer s H vs Q E (hr.deeper _) hsp
  have I : Inv (cxOf CX P w K mg base N qual scope f cdv A outer s H E) [] (start N vs) H s1 := inv_start S hr.hd e0 hl r x
  refine wpAny_mono (ht [] s1 (start N vs) H _ I hq) (fun fl s' hs => ?_) fun e s' hs => hs
  have fin : ∀ {σ' : St} {H' : Hp} {v : V} {u : Value}, Inv (cxOf CX P w K mg base N qual scope f cdv A outer s H E) [] σ' H' s' → RelV v u → Q v H' → CE outer P w H s Q u s' :=
    fun {σ' H' v u} J rv q => ⟨v, H', J.os, J.bare, J.base, J.hok, rv, q⟩
  cases fl with
  | ret u =>
    obtain ⟨v, σ', H', J, rv, q⟩ := hs
    exact fin J rv q
  | next =>
    obtain ⟨σ', H', J, q⟩ := hs
    exact fin (v := V.non) (u := Value.none) J rfl q
  | brk =>
    obtain ⟨_, _, _, q⟩ := hs
    exact False.elim q
  | cont =>
    obtain ⟨_, _, _, q⟩ := hs
    exact False.elim q
end L2

namespace L2
open PySem PySem.Spec PyProof.Rows
section
variable {X : Cx} {x : Str} {p pos : Pos} {e : Expr} {es : List Expr} {t : TA} {id T : String} {r : List V → Hp → VK → Prop}

def tCB (r : List V → Hp → VK → Prop) (t : TA) : TE := fun σ H Q => t σ H fun vs H1 => r vs H1 Q
theorem pe_callB (hc : CallR X (.builtin id) r) (hg : Gl X x) (hm : X.mg x = none) (hv : bootBuiltins x = some (.builtin id)) (ha : PA X (e :: es) t) (hn : x ≠ "__name__" := by decide) (hdb : (x == ("__debug__" : Str)) = false := by decide)
    (he : starEach (e :: es) X.env = (false, eval e X.env) :: starEach es X.env := by rfl) (hpl : (backTo pos (starEach es X.env)).any (·.1) = false := by rfl) : PE X (.Call (.Name x p) (e :: es) [] pos) (tCB r t) := by
  intro pins s σ H Q I h
  refine wpAny_Call_Name_kw (ld_blt I hg hm hv ?_ hn hdb)
  exact PyProof.Rows.callWith_builtin1 (thn (ha pos pins s σ H _ I h) fun us s1 ⟨vs, H1, I1, r1, q1⟩ => hc pins s1 σ H1 vs us Q I1 r1 q1) he hpl
theorem pe_callTy (hc : CallR X (.type T) r) (hg : Gl X x) (hm : X.mg x = none) (hv : bootBuiltins x = some (.type T)) (ha : PA X (e :: es) t) (hn : x ≠ "__name__" := by decide) (hdb : (x == ("__debug__" : Str)) = false := by decide)
    (he : starEach (e :: es) X.env = (false, eval e X.env) :: starEach es X.env := by rfl) (hpl : (backTo pos (starEach es X.env)).any (·.1) = false := by rfl) : PE X (.Call (.Name x p) (e :: es) [] pos) (tCB r t) := by
  intro pins s σ H Q I h
  refine wpAny_Call_Name_kw (ld_blt I hg hm hv ?_ hn hdb)
  exact PyProof.Rows.callWith_type1 (thn (ha pos pins s σ H _ I h) fun us s1 ⟨vs, H1, I1, r1, q1⟩ => hc pins s1 σ H1 vs us Q I1 r1 q1) he hpl
end
end L2

namespace HT
open PySem PyProof.Rows

section
open PySem.SeqAt
open PySem.AutoSeq1 (wpAny_loadPart')
open PySem.MeetsSeq PySem.MeetsSeq2 PySem.MeetsSeq3

end

section
variable {prog : Program} {w : World} {A : Around} {E : Value → Shared → Prop} {s : Shared}

def sIx (n d : Nat) : Option Int → Nat
  | none => d
  | some v => if v < 0 then (v + (n : Int)).toNat else min v.toNat n
theorem sIx_none (n d : Nat) : sIx n d none = d := rfl
theorem sIx_nat (n d k : Nat) : sIx n d (some (k : Int)) = min k n := by
  show (if (k : Int) < 0 then ((k : Int) + (n : Int)).toNat else min (k : Int).toNat n) = min k n
  rw [if_neg (by omega), Int.toNat_natCast]
theorem sIx_le (n d : Nat) (hd : d ≤ n) (o : Option Int) : sIx n d o ≤ n := by
  cases o with
  | none => exact hd
  | some v =>
    show (if v < 0 then (v + (n : Int)).toNat else min v.toNat n) ≤ n
    by_cases hv : v < 0
    · rw [if_pos hv]; omega
    · rw [if_neg hv]; exact Nat.min_le_right _ _
theorem clip_eq (v : Int) (n d : Nat) : (if v < 0 then max (v + (n : Int)) 0 else min v (n : Int)) = ((sIx n d (some v) : Nat) : Int) := by
  show (if v < 0 then max (v + (n : Int)) 0 else min v (n : Int)) = (((if v < 0 then (v + (n : Int)).toNat else min v.toNat n) : Nat) : Int)
  by_cases hv : v < 0
  · simp only [if_pos hv]; omega
  · simp only [if_neg hv]; omega
theorem adjust_gen (lo hi : Option Int) (n : Nat) : Builtin.Slice.sliceAdjust lo hi 1 (n : Int) = (((sIx n 0 lo : Nat) : Int), ((sIx n n hi : Nat) : Int)) := by
  have h1 : ¬ ((1 : Int) < 0) := by omega
  unfold Builtin.Slice.sliceAdjust
  simp only [h1, if_false]
  refine Prod.ext ?_ ?_
  · cases lo with
    | none => rfl
    | some v => exact clip_eq v n 0
  · cases hi with
    | none => rfl
    | some v => exact clip_eq v n n
theorem places_gen (i j : Nat) : Builtin.Slice.slicePlaces (i : Int) (j : Int) 1 = j - i := by
  unfold Builtin.Slice.slicePlaces
  have h1 : (1 : Int) > 0 := by omega
  simp only [h1, if_true, Int.ediv_one]
  split <;> omega
theorem slicePart_ {v : Value} {o : Option Int} {Q : Option Int → Shared → Prop} (p : IsPart v o) (h : Q o s) : wpAny (model prog w) A (Builtin.Slice.slicePartIndex v) Q E s := by
  cases p with
  | none => exact slicePart_none h
  | int i t => exact slicePart_int h
theorem sliceApplied_gen {sl : Addr} {vl vu : Value} {lo hi : Option Int} {n : Nat} {Q : Int × Int × Nat → Shared → Prop} (hs : s.heap.IsSliceOf sl vl vu .none) (pl : IsPart vl lo) (pu : IsPart vu hi)
    (h : Q (((sIx n 0 lo : Nat) : Int), 1, sIx n n hi - sIx n 0 lo) s) : wpAny (model prog w) A (Builtin.Slice.sliceApplied (.ref sl) (pure (n : Int))) Q E s := by
  obtain ⟨os, hos, hcs, hds⟩ := id hs
  unfold Builtin.Slice.sliceApplied Builtin.Slice.sliceFields
  refine wpAny_bind (wpAny_bind (wpAny_field hos hds (x := vl) rfl (wpAny_bind (wpAny_field hos hds (x := vu) rfl (wpAny_bind (wpAny_field hos hds (x := .none) rfl (wpAny_pure ?_)))))))
  refine wpAny_bind (slicePart_none ?_)
  show wpAny _ _ (if ((1 : Int) == 0) = true then _ else _) _ _ s
  rw [if_neg (by decide)]
  refine wpAny_bind (slicePart_ pl (wpAny_bind (slicePart_ pu (wpAny_bind (wpAny_pure ?_)))))
  show wpAny _ _ (match Builtin.Slice.sliceAdjust lo hi 1 (n : Int) with | (lo, hi) => pure (lo, (1 : Int), Builtin.Slice.slicePlaces lo hi 1)) _ _ s
  rw [adjust_gen lo hi n]
  show wpAny _ _ (pure (((sIx n 0 lo : Nat) : Int), (1 : Int), Builtin.Slice.slicePlaces ((sIx n 0 lo : Nat) : Int) ((sIx n n hi : Nat) : Int) 1)) _ _ s
  rw [places_gen]
  exact wpAny_pure h
theorem pick_gen (xs : Array Value) (i k : Nat) : ((List.range k).filterMap fun (m : Nat) => xs[((i : Int) + (m : Int) * 1).toNat]?).toArray = ((xs.toList.drop i).take k).toArray := by
  have e : (fun (m : Nat) => xs[((i : Int) + (m : Int) * 1).toNat]?) = fun m => xs[i + m]? := by
    funext m
    have : ((i : Int) + (m : Int) * 1).toNat = i + m := by omega
    rw [this]
  rw [e]
  have := pick_run xs i k
  rw [List.filterMap_map] at this
  have e2 : ((fun x => xs[x]?) ∘ fun x => i + x) = fun m => xs[i + m]? := rfl
  rw [e2] at this
  rw [this]

theorem getItem_tuple_cut {t sl : Addr} {items : Array Value} {vl vu : Value} {lo hi : Option Int} {Q : Value → Shared → Prop} (ht : IsTup s.heap t items) (hs : s.heap.IsSliceOf sl vl vu .none) (pl : IsPart vl lo) (pu : IsPart vu hi)
    (hw : ¬ (sIx items.size 0 lo = 0 ∧ sIx items.size items.size hi = items.size))
    (h : Q (.ref s.heap.objs.size) { s with heap := s.heap.push { cls := .type "tuple", data := .seq ((items.toList.drop (sIx items.size 0 lo)).take (sIx items.size items.size hi - sIx items.size 0 lo)).toArray } })
    (hsz : items.size ≤ sizeLine) : wpAny (model prog w) A (getItem (.ref t) (.ref sl)) Q E s := by
  have htake : sizeOk (.seq ((items.toList.drop (sIx items.size 0 lo)).take (sIx items.size items.size hi - sIx items.size 0 lo)).toArray) := by
    show ((items.toList.drop (sIx items.size 0 lo)).take (sIx items.size items.size hi - sIx items.size 0 lo)).toArray.size ≤ sizeLine
    rw [List.size_toArray, List.length_take, List.length_drop, Array.length_toList]
    omega
  have hj : sIx items.size items.size hi ≤ items.size := sIx_le _ _ (Nat.le_refl _) hi
  obtain ⟨os, hos, hcs, hds⟩ := id hs
  have hTs : s.TypeIs (.ref sl) "slice" := ⟨os, hos, hcs⟩
  unfold getItem
  try with_reducible refine wpAny_holding ?_
  first | refine wpAny_bind (wpAny_pure ?_) | skip
  refine wpAny_bind (wpAny_sequenceKey ht.typeIs (by decide) ?_)
  refine wpAny_bind (wpAny_callSpecial?_slot (name := Str.ofString "__getitem__") ht.typeIs PyProof.Rows.slot_tuple_getitem
    (wpAny_call_entry PyProof.Rows.slot_tuple_getitem ht.typeIs entry_tuple_getitem ?_ (args_tuple_getitem _ _)))
  show wpAny _ _ (Builtin.Tuple.tupleItemsOf (.ref t) >>= _) _ _ s
  refine wpAny_bind (tupleItemsOf_ ht ?_)
  refine wpAny_bind (wpAny_typeOf hTs ?_)
  rw [if_pos (by decide)]
  refine wpAny_bind (sliceApplied_gen hs pl pu ?_)
  have hno : ¬ ((((sIx items.size 0 lo : Nat) : Int) == 0 && (1 : Int) == 1 && (sIx items.size items.size hi - sIx items.size 0 lo) == items.size) = true) := by
    intro q
    rw [Bool.and_eq_true, Bool.and_eq_true] at q
    have q1 : ((sIx items.size 0 lo : Nat) : Int) = 0 := eq_of_beq q.1.1
    have q2 : sIx items.size items.size hi - sIx items.size 0 lo = items.size := eq_of_beq q.2
    exact hw ⟨by omega, by omega⟩
  show wpAny _ _ (if (((sIx items.size 0 lo : Nat) : Int) == 0 && (1 : Int) == 1 && (sIx items.size items.size hi - sIx items.size 0 lo) == items.size) = true then _ else _) _ _ s
  rw [if_neg hno, pick_gen]
  first
    | exact wpAny_bind (m := Builtin.Tuple.tupleExact _) (wpAny_newObj_type (wpAny_pure ⟨_, rfl, wpAny_pure h⟩) htake)
    | exact wpAny_bind (m := Builtin.Tuple.tupleExact _) (wpAny_newObj_type (wpAny_bind (wpAny_pure (wpAny_pure ⟨_, rfl, wpAny_pure h⟩))) htake)
    | exact wpAny_bind (wpAny_bind (m := Builtin.Tuple.tupleExact _) (wpAny_newObj_type (wpAny_pure (wpAny_pure ⟨_, rfl, wpAny_pure h⟩)) htake))
    | exact wpAny_bind (wpAny_bind (m := Builtin.Tuple.tupleExact _) (wpAny_newObj_type (wpAny_pure ⟨_, rfl, wpAny_pure h⟩) htake))
end
end HT

namespace L2
open PySem PySem.Spec PyProof.Rows

abbrev TO := St → Hp → (Option Int → Hp → Prop) → Prop
def PO (X : Cx) (e : Option Expr) (t : TO) : Prop :=
  ∀ (pins : List (Addr × Obj)) (s : Shared) (σ : St) (H : Hp) (Q : Option Int → Hp → Prop), Inv X pins σ H s → t σ H Q →
    wpAny (model X.prog X.w) X.A (evalPart e X.env) (fun u s' => ∃ o H', Inv X pins σ H' s' ∧ IsPart u o ∧ Q o H') X.xe s
def tNoPart : TO := fun _ H Q => Q none H
def tPart (t : TE) : TO := fun σ H Q => t σ H fun x H1 => ∃ i, x = .int i ∧ Q (some i) H1

section
variable {X : Cx} {e : Expr} {te : TE} {lo hi : Option Expr} {tl th : TO} {pos p2 : Pos}

theorem po_none : PO X none tNoPart := by
  intro pins s σ H Q I h
  rw [evalPart_none]
  exact wpAny_pure ⟨none, H, I, .none, h⟩
theorem po_some (h : PE X e te) : PO X (some e) (tPart te) := by
  intro pins s σ H Q I hw
  rw [evalPart_some]
  refine thn (h pins s σ H _ I hw) fun u s1 ⟨x, H1, I1, r1, q1⟩ => ?_
  obtain ⟨i, rfl, q⟩ := q1
  obtain ⟨t, rfl⟩ := r1
  exact ⟨some i, H1, I1, .int i t, q⟩

def SlR (X : Cx) (r : V → Option Int → Option Int → Hp → VK → Prop) : Prop :=
  ∀ (pins : List (Addr × Obj)) (s : Shared) (σ : St) (H : Hp) (x : V) (v vl vu : Value) (lo hi : Option Int) (sl : Addr) (Q : VK), Inv X pins σ H s → RelV x v → s.heap.IsSliceOf sl vl vu .none → IsPart vl lo → IsPart vu hi → r x lo hi H Q →
    ∃ T id, typeLookup (.type T) "__getitem__" = pure (some (.builtin id)) ∧ s.TypeIs v T ∧ wpAny (model X.prog X.w) X.A (getItem v (.ref sl)) (EP X pins σ Q) X.xe s
theorem SlR.or {r r' : V → Option Int → Option Int → Hp → VK → Prop} (h : SlR X r) (h' : SlR X r') : SlR X (fun x lo hi H Q => r x lo hi H Q ∨ r' x lo hi H Q) := by
  intro pins s σ H x v vl vu lo hi sl Q I rx hs pl pu q
  rcases q with q | q
  · exact h pins s σ H x v vl vu lo hi sl Q I rx hs pl pu q
  · exact h' pins s σ H x v vl vu lo hi sl Q I rx hs pl pu q
def tSl (r : V → Option Int → Option Int → Hp → VK → Prop) (te : TE) (tl th : TO) : TE := fun σ H Q => te σ H fun x H1 => tl σ H1 fun l H2 => th σ H2 fun u H3 => r x l u H3 Q
theorem pe_slice {r : V → Option Int → Option Int → Hp → VK → Prop} (hr : SlR X r) (he : PE X e te) (hl : PO X lo tl) (hu : PO X hi th) : PE X (.Subscript e (.Slice lo hi none p2) pos) (tSl r te tl th) := by
  intro pins s σ H Q I h
  refine Subscript_ (thn (he pins s σ H _ I h) fun v s1 ⟨x, H1, I1, r1, q1⟩ => ?_)
  refine wpAny_Slice (thn (hl pins s1 σ H1 _ I1 q1) fun vl s2 ⟨l, H2, I2, pl, q2⟩ => thn (hu pins s2 σ H2 _ I2 q2) fun vu s3 ⟨u, H3, I3, pu, q3⟩ => ?_)
  rw [evalPart_none]
  refine wpAny_pure ?_
  have I4 : Inv X pins σ H3 { s3 with heap := s3.heap.push { cls := .type "slice", data := .fields #[vl, vu, .none] } } := I3.kept (t' := s3.toks) fun b ob q => Heap.get?_push_of_some _ q
  obtain ⟨T, id, hT, ht, hg⟩ := hr pins { s3 with heap := s3.heap.push { cls := .type "slice", data := .fields #[vl, vu, .none] } } σ H3 x v vl vu l u s3.heap.objs.size Q I4 r1 (Heap.IsSliceOf.new ..) pl pu q3
  show wpAny (model X.prog X.w) X.A (subscriptTail e (.Slice lo hi none p2) v (.ref s3.heap.objs.size)) (EP X pins σ Q) X.xe { s3 with heap := s3.heap.push { cls := .type "slice", data := .fields #[vl, vu, .none] } }
  exact tail_any (ops := [.ref s3.heap.objs.size, v]) ht hT hg (by with_unfolding_all rfl)

def cutV (xs : List V) (lo hi : Option Int) : List V := (xs.drop (HT.sIx xs.length 0 lo)).take (HT.sIx xs.length xs.length hi - HT.sIx xs.length 0 lo)
theorem cutV_length (xs : List V) (lo hi : Option Int) : (cutV xs lo hi).length ≤ xs.length := by
  unfold cutV
  rw [List.length_take, List.length_drop]
  omega
def rSlT (K : PySem.W.Frag) : V → Option Int → Option Int → Hp → VK → Prop := fun x lo hi H Q => ∃ a xs, x = .ref a ∧ SqT K H a xs ∧
  ¬ (HT.sIx xs.length 0 lo = 0 ∧ HT.sIx xs.length xs.length hi = xs.length) ∧ ∀ p, H p = none → Q (.ref p) (upd H p (.tup (cutV xs lo hi)))
theorem sl_tup : SlR X (rSlT X.K) := by
  intro pins s σ H x v vl vu lo hi sl Q I rx hs pl pu h
  obtain ⟨a, xs, rfl, hx, hw, q⟩ := h
  cases rx
  obtain ⟨its, r, ht, hz⟩ := I.tuple hx
  have hlen : its.toArray.size = xs.length := by rw [List.size_toArray]; exact r.length.symm
  refine ⟨"tuple", _, PyProof.Rows.slot_tuple_getitem.lookup, ht.typeIs, ?_⟩
  refine HT.getItem_tuple_cut ht hs pl pu (by rw [hlen]; exact hw) ?_ (by rw [hlen]; exact hz)
  rw [hlen]
  refine ⟨.ref s.heap.objs.size, _, I.laid (t' := s.toks) (o := .tup (cutV xs lo hi)) (fun b ob q => Heap.get?_push_of_some _ q) (Nat.le_refl _) ?_, rfl, q _ (I.hok.fresh (Nat.le_refl _))⟩
  exact ⟨Nat.le_trans (cutV_length xs lo hi) hz, _, (r.drop (HT.sIx xs.length 0 lo)).take (HT.sIx xs.length xs.length hi - HT.sIx xs.length 0 lo), IsTup.new _ _⟩

end
end L2

namespace L2
open PySem PySem.Spec PyProof.Rows

def ixN (n : Nat) (i : Int) : Option Nat := if 0 ≤ i then (if i < n then some i.toNat else none) else if -(n : Int) ≤ i then some (i + n).toNat else none
def atI {α : Type} (xs : List α) (i : Int) : Option α := (ixN xs.length i).bind fun j => xs[j]?
theorem ixN_seq {n : Nat} {i : Int} {j : Nat} (h : ixN n i = some j) : seqIndex? i n = some j ∧ j < n ∧ -(n : Int) ≤ i ∧ i < n := by
  unfold ixN at h
  by_cases h0 : 0 ≤ i
  · rw [if_pos h0] at h
    by_cases h1 : i < n
    · rw [if_pos h1] at h
      have e : i.toNat = j := Option.some.inj h
      exact ⟨by rw [seqIndex_of h0 h1, e], by omega, by omega, h1⟩
    · rw [if_neg h1] at h; cases h
  · rw [if_neg h0] at h
    by_cases h1 : -(n : Int) ≤ i
    · rw [if_pos h1] at h
      have e : (i + n).toNat = j := Option.some.inj h
      exact ⟨by rw [seqIndex_neg (by omega) h1, e], by omega, h1, by omega⟩
    · rw [if_neg h1] at h; cases h
theorem atI_get {α : Type} {xs : List α} {i : Int} {v : α} (h : atI xs i = some v) : ∃ j, seqIndex? i xs.length = some j ∧ xs[j]? = some v ∧ j < xs.length ∧ -(xs.length : Int) ≤ i ∧ i < xs.length := by
  unfold atI at h
  cases e : ixN xs.length i with
  | none => rw [e] at h; cases h
  | some j =>
    rw [e] at h
    obtain ⟨h1, h2, h3, h4⟩ := ixN_seq e
    exact ⟨j, h1, h, h2, h3, h4⟩
theorem atI_nat {α : Type} {xs : List α} {j : Nat} {v : α} (h : xs[j]? = some v) : atI xs (j : Int) = some v := by
  have hj : j < xs.length := (List.getElem?_eq_some_iff.mp h).1
  have e : ixN xs.length (j : Int) = some j := by
    unfold ixN
    rw [if_pos (by omega), if_pos (by omega)]; simp
  unfold atI; rw [e]; exact h
def PlainIx (b : Expr) : Prop := ∀ o i, subscripted b false o i = operate [o, i] (getItem o i)
def IxR (X : Cx) (r : R2) : Prop :=
  ∀ (value slice : Expr) (pins : List (Addr × Obj)) (s : Shared) (σ : St) (H : Hp) (x y : V) (v u : Value) (Q : VK), Inv X pins σ H s → RelV x v → RelV y u → r x y H Q →
    subscripted slice false v u = operate [v, u] (getItem v u) → wpAny (model X.prog X.w) X.A (subscriptTail value slice v u) (EP X pins σ Q) X.xe s
def MtR (X : Cx) (id : String) (r : V → List V → Hp → VK → Prop) : Prop :=
  ∀ (pins : List (Addr × Obj)) (s : Shared) (σ : St) (H : Hp) (x : V) (xs : List V) (v : Value) (us : List Value) (Q : VK), Inv X pins σ H s → RelV x v → Vals xs us → r x xs H Q →
    wpAny (model X.prog X.w) X.A (call (.builtin id) (v :: us)) (EP X pins σ Q) X.xe s
section
variable {X : Cx} {a b : Expr} {ta tb : TE} {pos : Pos}
theorem IxR.or {r r' : R2} (h : IxR X r) (h' : IxR X r') : IxR X (fun x y H Q => r x y H Q ∨ r' x y H Q) := by
  intro value slice pins s σ H x y v u Q I rx ry q hs
  rcases q with q | q
  · exact h value slice pins s σ H x y v u Q I rx ry q hs
  · exact h' value slice pins s σ H x y v u Q I rx ry q hs
theorem MtR.or {id : String} {r r' : V → List V → Hp → VK → Prop} (h : MtR X id r) (h' : MtR X id r') : MtR X id (fun x xs H Q => r x xs H Q ∨ r' x xs H Q) := by
  intro pins s σ H x xs v us Q I rx rs q
  rcases q with q | q
  · exact h pins s σ H x xs v us Q I rx rs q
  · exact h' pins s σ H x xs v us Q I rx rs q
theorem pe_ix {r : R2} (hr : IxR X r) (ha : PE X a ta) (hb : PE X b tb) (hs : PlainIx b) : PE X (.Subscript a b pos) (tOp r ta tb) := by
  intro pins s σ H Q I h
  exact Subscript_ (binT ha hb I h fun v u s2 x y H2 I2 rx ry q => hr a b pins s2 σ H2 x y v u Q I2 rx ry q (hs _ _))

def rIxL (K : PySem.W.Frag) : R2 := fun x y H Q => ∃ p xs i v, x = .ref p ∧ y = .int i ∧ SqL K H p xs ∧ atI xs i = some v ∧ Q v H
def rIxT (K : PySem.W.Frag) : R2 := fun x y H Q => ∃ p xs i v, x = .ref p ∧ y = .int i ∧ SqT K H p xs ∧ atI xs i = some v ∧ Q v H
def rIxS : R2 := fun x y H Q => ∃ z i c, x = .str z ∧ y = .int i ∧ z.length ≤ sizeLine ∧ atI z.cps.toList i = some c ∧ Q (.str ⟨#[c]⟩) H
theorem ix_list : IxR X (rIxL X.K) := by
  intro value slice pins s σ H x y v u Q I rx ry h hs
  obtain ⟨p, xs, i, z, rfl, rfl, hq, he, q⟩ := h
  cases rx
  obtain ⟨t, rfl⟩ := ry
  obtain ⟨its, r, pl, hz⟩ := I.list hq
  obtain ⟨j, h1, h2, h3, h4, h5⟩ := atI_get he
  obtain ⟨w, ew, rw'⟩ := r.get h2
  have hl := r.length
  have hn := line63
  have fin : EP X pins σ Q w s := ⟨z, H, I, rw', q⟩
  by_cases h0 : 0 ≤ i
  · have hj : i.toNat = j := by
      rw [seqIndex_of h0 h5] at h1
      exact Option.some.inj h1
    exact item_listR pl.isList h0 (by omega) (by rw [hj]; simpa using ew) fin hs
  · have hj : (i + (its.toArray.size : Int)).toNat = j := by
      rw [seqIndex_neg (by omega) h4] at h1
      rw [List.size_toArray, ← hl]
      exact Option.some.inj h1
    exact subscriptTail_builtinR (x := w) pl.isList.typeIs slot_list_getitem.lookup
      (wpAny_getItem_list_neg (Q := fun r s' => r = w ∧ EP X pins σ Q r s') pl.isList (by omega) (by rw [List.size_toArray] <;> omega) (by omega) (by rw [hj]; simpa using ew) ⟨rfl, fin⟩) hs
theorem ix_tup : IxR X (rIxT X.K) := by
  intro value slice pins s σ H x y v u Q I rx ry h hs
  obtain ⟨p, xs, i, z, rfl, rfl, hq, he, q⟩ := h
  cases rx
  obtain ⟨t, rfl⟩ := ry
  obtain ⟨its, r, pl, hz⟩ := I.tuple hq
  obtain ⟨j, h1, h2, h3, h4, h5⟩ := atI_get he
  obtain ⟨w, ew, rw'⟩ := r.get h2
  have hl := r.length
  have hn := line63
  have fin : EP X pins σ Q w s := ⟨z, H, I, rw', q⟩
  exact subscriptTail_builtinR (x := w) pl.typeIs slot_tuple_getitem.lookup
    (getItem_tuple (j := j) (Q := fun r s' => r = w ∧ EP X pins σ Q r s') pl (by omega) (by omega) (by rw [List.size_toArray, ← hl]; exact h1) (by simpa using ew) ⟨rfl, fin⟩) hs
def rIx (K : PySem.W.Frag) : R2 := fun x y H Q => rIxL K x y H Q ∨ rIxT K x y H Q ∨ rIxS x y H Q
theorem mapSeq_set (its : List Value) (n j : Nat) (u : Value) : Obj.mapSeq (·.setIfInBounds j u) { cls := .type "list", data := .seq its.toArray n } = { cls := .type "list", data := .seq (its.set j u).toArray n } := by
  simp [Obj.mapSeq]
theorem Inv.lst {pins : List (Addr × Obj)} {σ : St} {H : Hp} {s : Shared} {p : Addr} {xs : List V} (I : Inv X pins σ H s) (h : H p = some (.lst xs)) :
    ∃ (its : List Value) (n : Nat), Vals xs its ∧ s.heap.get? p = some { cls := .type "list", data := .seq its.toArray n } ∧ xs.length ≤ sizeLine := by
  obtain ⟨z, its, n, r, e⟩ := I.hok p _ h
  exact ⟨its, n, r, e, z⟩
theorem Inv.lstUpd {pins : List (Addr × Obj)} {σ : St} {H : Hp} {s : Shared} {p : Addr} {xs ys : List V} {its its' : List Value} {n n' : Nat} {f : Obj → Obj} (I : Inv X pins σ H s) (h : H p = some (.lst xs))
    (ho : s.heap.get? p = some { cls := .type "list", data := .seq its.toArray n }) (hf : f { cls := .type "list", data := .seq its.toArray n } = { cls := .type "list", data := .seq its'.toArray n' }) (r : Vals ys its') (hz : ys.length ≤ sizeLine) (t : Nat) :
    Inv X pins σ (upd H p (.lst ys)) { s with heap := s.heap.update p f, toks := t } := by
  have e : (s.heap.update p f).get? p = some { cls := .type "list", data := .seq its'.toArray n' } := by
    rw [Heap.get?_update_self f ho (by rw [hf] <;> rfl), hf]
  refine I.write (x := p) (e := p) (by rw [h]; trivial) (.inl rfl) (fun b u hb q => (Heap.get?_update_other _ _ (Ne.symm hb)).trans q) ⟨_, e⟩ ?_
  exact ⟨hz, its', n', r, e⟩
def rSetL : V → V → V → Hp → (Hp → Prop) → Prop := fun o i v H Q => ∃ p xs k j, o = .ref p ∧ i = .int k ∧ H p = some (.lst xs) ∧ ixN xs.length k = some j ∧ Q (upd H p (.lst (xs.set j v)))
theorem set_list : PSet X rSetL := by
  intro pins s σ H o i v ov iv u Q I ro ri rv h
  obtain ⟨p, xs, k, j, rfl, rfl, hp, hj, q⟩ := h
  cases ro
  obtain ⟨t, rfl⟩ := ri
  obtain ⟨its, n, r, ho, hz⟩ := I.lst hp
  obtain ⟨h1, h2, h3, h4⟩ := ixN_seq hj
  have hl := r.length
  have hn := line63
  have I' : Inv X pins σ (upd H p (.lst (xs.set j v))) { s with heap := s.heap.update p (Obj.mapSeq (·.setIfInBounds j u)) } :=
    I.lstUpd hp ho (mapSeq_set its n j u) (r.set rv j) (by rw [List.length_set]; exact hz) s.toks
  by_cases h0 : 0 ≤ k
  · have hk : k.toNat = j := by
      rw [seqIndex_of h0 h4] at h1
      exact Option.some.inj h1
    exact PySem.W.ki_setAt ho h0 (by omega) (by rw [List.size_toArray, ← hl]; exact h4) (by rw [hk]; exact ⟨_, I', q⟩)
  · have hk : (k + (its.toArray.size : Int)).toNat = j := by
      rw [seqIndex_neg (by omega) h3] at h1
      rw [List.size_toArray, ← hl]
      exact Option.some.inj h1
    exact PySem.W.ki_setBack ho (by omega) (by rw [List.size_toArray, ← hl]; exact h3) (by omega) (by rw [hk]; exact ⟨_, I', q⟩)

def flatV : V → Bool
  | .non => true
  | .bl _ => true
  | .int _ => true
  | .str _ => true
  | _ => false
def eqV : V → V → Bool
  | .non, .non => true
  | .bl a, .bl b => a == b
  | .bl a, .int b => (if a then 1 else 0) == b
  | .int a, .bl b => a == (if b then 1 else 0)
  | .int a, .int b => a == b
  | .str a, .str b => a == b
  | _, _ => false
theorem eqAt_V {A : Around} {s : Shared} {y x : V} {u v : Value} (ry : RelV y u) (rx : RelV x v) (fy : flatV y = true) (fx : flatV x = true) : SeqAt.EqAt A s u v (eqV y x) := by
  cases y with
  | non =>
    cases ry
    cases x with
    | non => cases rx; exact SeqAt.EqAt.same _
    | bl b => cases rx; exact SeqAt.EqAt.none_bool b
    | int b => obtain ⟨t, rfl⟩ := rx; exact SeqAt.EqAt.none_int b t
    | str b => obtain ⟨t, rfl⟩ := rx; exact SeqAt.EqAt.none_str b t
    | _ => exact absurd (show false = true from fx) Bool.false_ne_true
  | bl a =>
    cases ry
    cases x with
    | non => cases rx; exact SeqAt.EqAt.bool_none a
    | bl b => cases rx; exact SeqAt.EqAt.bool_bool a b
    | int b => obtain ⟨t, rfl⟩ := rx; exact SeqAt.EqAt.bool_int a b t
    | str b => obtain ⟨t, rfl⟩ := rx; exact SeqAt.EqAt.bool_str a b t
    | _ => exact absurd (show false = true from fx) Bool.false_ne_true
  | int a =>
    obtain ⟨t', rfl⟩ := ry
    cases x with
    | non => cases rx; exact SeqAt.EqAt.int_none a t'
    | bl b => cases rx; exact SeqAt.EqAt.int_bool a t' b
    | int b => obtain ⟨t, rfl⟩ := rx; exact SeqAt.EqAt.int_int a t' b t
    | str b => obtain ⟨t, rfl⟩ := rx; exact SeqAt.EqAt.int_str a t' b t
    | _ => exact absurd (show false = true from fx) Bool.false_ne_true
  | str a =>
    obtain ⟨t', rfl⟩ := ry
    cases x with
    | non => cases rx; exact SeqAt.EqAt.str_none a t'
    | bl b => cases rx; exact SeqAt.EqAt.str_bool a t' b
    | int b => obtain ⟨t, rfl⟩ := rx; exact SeqAt.EqAt.str_int a t' b t
    | str b => obtain ⟨t, rfl⟩ := rx; exact SeqAt.EqAt.str_str a t' b t
    | _ => exact absurd (show false = true from fx) Bool.false_ne_true
  | _ => exact absurd (show false = true from fy) Bool.false_ne_true
def eqU (x : V) (u : Value) : Bool := match u with
  | .none => eqV .non x
  | .bool b => eqV (.bl b) x
  | .int i _ => eqV (.int i) x
  | .str z _ => eqV (.str z) x
  | _ => false
theorem eqU_of {x y : V} {u : Value} (r : RelV y u) (f : flatV y = true) : eqU x u = eqV y x := by
  cases y with
  | non => cases r; rfl
  | bl b => cases r; rfl
  | int i => obtain ⟨t, rfl⟩ := r; rfl
  | str z => obtain ⟨t, rfl⟩ := r; rfl
  | _ => exact absurd (show false = true from f) Bool.false_ne_true
theorem any_eqU {x : V} : ∀ {xs : List V} {us : List Value}, Vals xs us → xs.all flatV = true → us.any (eqU x) = xs.any fun y => eqV y x
  | _, _, .nil, _ => rfl
  | y :: xs, u :: us, .cons r t, f => by
    rw [List.all_cons, Bool.and_eq_true] at f
    rw [List.any_cons, List.any_cons, eqU_of r f.1, any_eqU t f.2]
theorem mem_eqAt {A : Around} {s : Shared} {x : V} {v : Value} (rx : RelV x v) (fx : flatV x = true) : ∀ {xs : List V} {us : List Value}, Vals xs us → xs.all flatV = true → ∀ u ∈ us, SeqAt.EqAt A s u v (eqU x u)
  | _, _, .nil, _ => fun u hu => by cases hu
  | y :: xs, u :: us, .cons r t, f => fun u' hu => by
    rw [List.all_cons, Bool.and_eq_true] at f
    rcases List.mem_cons.mp hu with rfl | hu
    · rw [eqU_of r f.1]; exact eqAt_V r rx f.1 fx
    · exact mem_eqAt rx fx t f.2 u' hu
def inV (x : V) (xs : List V) : Bool := xs.any fun y => eqV y x
def rIn (K : PySem.W.Frag) (neg : Bool) : R2 := fun x y H Q => ∃ p xs, y = .ref p ∧ (SqL K H p xs ∨ SqT K H p xs) ∧ flatV x = true ∧ xs.all flatV = true ∧ Q (.bl (if neg then !inV x xs else inV x xs)) H
theorem op_in_seq : OpR X (compareOp .In) (rIn X.K false) := by
  intro pins s σ H x y v u Q I rx ry h
  obtain ⟨p, xs, rfl, hq, fx, fs, q⟩ := h
  cases ry
  rcases hq with hq | hq
  · obtain ⟨its, r, pl, hz⟩ := I.list hq
    refine SeqAt.in_listAt (eqU x) pl.isList (fun w hw => mem_eqAt rx fx r fs w (by simpa using hw)) ⟨.bl _, H, I, rfl, ?_⟩
    rw [show its.toArray.any (eqU x) = its.any (eqU x) by simp, any_eqU r fs]
    exact q
  · obtain ⟨its, r, pl, hz⟩ := I.tuple hq
    refine SeqAt.in_tupleAt (eqU x) pl (fun w hw => mem_eqAt rx fx r fs w (by simpa using hw)) ⟨.bl _, H, I, rfl, ?_⟩
    rw [show its.toArray.any (eqU x) = its.any (eqU x) by simp, any_eqU r fs]
    exact q
theorem call_len_seq : CallR X (.builtin "len") (fun xs H Q => ∃ p ys, xs = [.ref p] ∧ (SqL X.K H p ys ∨ SqT X.K H p ys) ∧ Q (.int ys.length) H) := by
  intro pins s σ H xs us Q I r h
  obtain ⟨p, ys, rfl, hq, q⟩ := h
  obtain ⟨u, rfl, rx⟩ := vals1 r
  cases rx
  have hn := line63
  rcases hq with hq | hq
  · obtain ⟨its, r', pl, hz⟩ := I.list hq
    have hlen := r'.length
    exact Calls.call_len_list pl.isList (by simp only [List.size_toArray] <;> omega) ⟨.int ys.length, H, I.tok _, ⟨s.toks + 1, by rw [List.size_toArray, hlen]⟩, q⟩
  · obtain ⟨its, r', pl, hz⟩ := I.tuple hq
    have hlen := r'.length
    exact len_tuple pl (by simp only [List.size_toArray] <;> omega) ⟨.int ys.length, H, I.tok _, ⟨s.toks + 1, by rw [List.size_toArray, hlen]⟩, q⟩
theorem CallR.or {f : Value} {r r' : List V → Hp → VK → Prop} (h : CallR X f r) (h' : CallR X f r') : CallR X f (fun xs H Q => r xs H Q ∨ r' xs H Q) := by
  intro pins s σ H xs us Q I rs q
  rcases q with q | q
  · exact h pins s σ H xs us Q I rs q
  · exact h' pins s σ H xs us Q I rs q
theorem call_list_of : CallR X (.type "list") (fun xs H Q => ∃ p ys, xs = [.ref p] ∧ (SqL X.K H p ys ∨ SqT X.K H p ys) ∧ ∀ l, H l = none → Q (.ref l) (upd H l (.lst ys))) := by
  intro pins s σ H xs us Q I r h
  obtain ⟨p, ys, rfl, hq, q⟩ := h
  obtain ⟨u, rfl, rx⟩ := vals1 r
  cases rx
  have fin : ∀ (its : List Value), Vals ys its → ys.length ≤ sizeLine → ∀ (h' : Heap) (c' : Nat), (∀ b o', s.heap.get? b = some o' → h'.get? b = some o') →
      h'.get? s.heap.objs.size = some { cls := .type "list", dict := none, data := .seq its.toArray c', slots := #[] } → EP X pins σ Q (.ref s.heap.objs.size) { s with heap := h' } := fun its r' hz h' c' kp e =>
    ⟨.ref s.heap.objs.size, _, I.laid (t' := s.toks) kp (Nat.le_refl _) (show ObjOk X.prog X.w _ h' _ (.lst ys) from ⟨hz, its, c', r', e⟩), rfl, q _ (I.hok.fresh (Nat.le_refl _))⟩
  rcases hq with hq | hq
  · obtain ⟨its, r', pl, hz⟩ := I.list hq
    have hlen := r'.length
    obtain ⟨o, ho, hc, n, hd⟩ := pl.isList
    exact call_list_seq p (.inl rfl) ho hc hd (fun h' c' kp e => fin its r' hz h' c' kp e) (by simp only [List.size_toArray] <;> omega)
  · obtain ⟨its, r', pl, hz⟩ := I.tuple hq
    have hlen := r'.length
    obtain ⟨o, ho, hc, n, hd⟩ := pl
    exact call_list_seq p (.inr rfl) ho hc hd (fun h' c' kp e => fin its r' hz h' c' kp e) (by simp only [List.size_toArray] <;> omega)
theorem call_tuple_of : CallR X (.type "tuple") (fun xs H Q => ∃ p ys, xs = [.ref p] ∧ ((SqL X.K H p ys ∧ ∀ l, H l = none → Q (.ref l) (upd H l (.tup ys))) ∨ (SqT X.K H p ys ∧ Q (.ref p) H))) := by
  intro pins s σ H xs us Q I r h
  obtain ⟨p, ys, rfl, h⟩ := h
  obtain ⟨u, rfl, rx⟩ := vals1 r
  cases rx
  rcases h with ⟨hq, q⟩ | ⟨hq, q⟩
  · obtain ⟨its, r', pl, hz⟩ := I.list hq
    have hlen := r'.length
    refine call_tuple_list pl.isList (fun h' kp => ?_) (by simp only [List.size_toArray] <;> omega)
    have I1 : Inv X pins σ H { s with heap := h' } := I.kept (t' := s.toks) kp
    have I2 : Inv X pins σ (upd H h'.objs.size (.tup ys)) { s with heap := h'.push { cls := .type "tuple", data := .seq its.toArray } } :=
      I1.laid (t' := s.toks) (fun b o e => Heap.get?_push_of_some _ e) (Nat.le_refl _) (show ObjOk X.prog X.w _ _ _ (.tup ys) from ⟨hz, its, r', IsTup.new _ _⟩)
    exact ⟨.ref h'.objs.size, _, I2, rfl, q _ (I1.hok.fresh (Nat.le_refl _))⟩
  · obtain ⟨its, r', pl, hz⟩ := I.tuple hq
    exact call_tuple_same pl ⟨.ref p, H, I, rfl, q⟩

def tyV (K : PySem.W.Frag) (T : String) (x : V) (H : Hp) : Prop := match x with
  | .str _ => T = "str"
  | .int _ => T = "int"
  | .ref p => (T = "list" ∧ ∃ xs, SqL K H p xs) ∨ (T = "tuple" ∧ ∃ o, K.lookup p = some o ∧ o.cls = .type "tuple" ∧ o.dict = none) ∨
      (T = "dict" ∧ ((∃ kvs, H p = some (.dK kvs)) ∨ ∃ kvs, H p = some (.dT kvs))) ∨ (T = "set" ∧ ∃ S n, H p = some (.set S n))
  | _ => False
theorem tyV_is {pins : List (Addr × Obj)} {σ : St} {H : Hp} {s : Shared} {T : String} {x : V} {v : Value} (I : Inv X pins σ H s) (r : RelV x v) (ty : tyV X.K T x H) :
    s.TypeIs v T ∧ ∀ a, v = .ref a → ∃ ob, s.heap.get? a = some ob ∧ ob.dict = none := by
  cases x with
  | str z =>
    obtain ⟨t, rfl⟩ := r
    cases (show T = "str" from ty)
    exact ⟨typeIs_str s z t, fun _ e => nomatch e⟩
  | int i =>
    obtain ⟨t, rfl⟩ := r
    cases (show T = "int" from ty)
    exact ⟨typeIs_int s i t, fun _ e => nomatch e⟩
  | ref p =>
    cases r
    rcases ty with ⟨rfl, xs, hq⟩ | ⟨rfl, o, hk, hc, hd⟩ | ⟨rfl, hk⟩ | ⟨rfl, S, n, hk⟩
    · obtain ⟨its, _, pl, _⟩ := I.list hq
      refine ⟨pl.isList.typeIs, fun a e => ?_⟩
      cases e
      obtain ⟨o, n, e, c, hd, _⟩ := pl
      exact ⟨o, e, hd⟩
    · refine ⟨⟨o, I.kIn p o hk, hc⟩, fun a e => ?_⟩
      cases e
      exact ⟨o, I.kIn _ o hk, hd⟩
    · have z : ∃ o, s.heap.get? p = some o ∧ o.ExactDict := by
        rcases hk with ⟨kvs, hk⟩ | ⟨kvs, hk⟩
        · obtain ⟨_, _, _, _, o, _, _, e, ex, _⟩ := I.hok p _ hk
          exact ⟨o, e, ex⟩
        · obtain ⟨_, _, _, _, o, _, _, e, ex, _⟩ := I.hok p _ hk
          exact ⟨o, e, ex⟩
      obtain ⟨o, e, ex⟩ := z
      refine ⟨⟨o, e, ex.1⟩, fun a e2 => ?_⟩
      cases e2
      exact ⟨o, e, ex.2.1⟩
    · obtain ⟨o, _, _, _, e, ex, _⟩ := I.hok p _ hk
      refine ⟨⟨o, e, ex.1⟩, fun a e2 => ?_⟩
      cases e2
      exact ⟨o, e, ex.2.1⟩
  | _ => exact False.elim ty
def tBM0 (K : PySem.W.Frag) (T : String) (r : V → List V → Hp → VK → Prop) (to : TE) : TE := fun σ H Q => to σ H fun x H1 => tyV K T x H1 ∧ r x [] H1 Q
def tBM (K : PySem.W.Frag) (T : String) (r : V → List V → Hp → VK → Prop) (to : TE) (t : TA) : TE := fun σ H Q => to σ H fun x H1 => tyV K T x H1 ∧ t σ H1 fun xs H2 => r x xs H2 Q
variable {o e : Expr} {es : List Expr} {to : TE} {t : TA} {name : Str} {apos cpos : Pos} {T id : String} {r : V → List V → Hp → VK → Prop}
theorem pe_bm0 (pa : PlainAttrs T) (slot : Slot T name id) (hty : typeOf (.builtin id) = pure (.type "method_descriptor")) (hm : MtR X id r) (ho : PE X o to)
    (hbase : attributeBase o name X.env (eval o X.env) = eval o X.env := by rfl) (hline : (apos.endLine == cpos.line) = true := by rfl) : PE X (.Call (.Attribute o name apos) [] [] cpos) (tBM0 X.K T r to) := by
  intro pins s σ H Q I h
  refine wpAny_Call_method0_late hbase hline (thn (ho pins s σ H _ I h) fun v s1 ⟨x, H1, I1, r1, ty, q1⟩ => ?_)
  obtain ⟨h1, h2⟩ := tyV_is I1 r1 ty
  exact ⟨T, id, pa, slot, hty, h1, h2, Calls.callWith_builtin rfl (PySem.evalArgs_none (hm pins s1 σ H1 x [] v [] Q I1 r1 .nil q1))⟩
theorem pe_bm (pa : PlainAttrs T) (slot : Slot T name id) (hty : typeOf (.builtin id) = pure (.type "method_descriptor")) (hm : MtR X id r) (ho : PE X o to) (ha : PA X (e :: es) t)
    (hbase : attributeBase o name X.env (eval o X.env) = eval o X.env := by rfl)
    (hfew : ((backTo cpos (starEach (e :: es) X.env)).all (fun x => !x.1) && (backToKw cpos (keywordEach [] X.env)).all (fun x => x.1.isSome)
      && decide ((e :: es).length + ([] : List Keyword).length + (if ([] : List Keyword).isEmpty then 0 else 1) < 30)) = true := by rfl)
    (hline : (apos.endLine == cpos.line) = true := by rfl) (hs : starEach (e :: es) X.env = (false, eval e X.env) :: starEach es X.env := by rfl) (hplain : (backTo cpos (starEach es X.env)).any (·.1) = false := by rfl) :
    PE X (.Call (.Attribute o name apos) (e :: es) [] cpos) (tBM X.K T r to t) := by
  intro pins s σ H Q I h
  refine wpAny_Call_method_late hbase hfew hline rfl (thn (ho pins s σ H _ I h) fun v s1 ⟨x, H1, I1, r1, ty, q1⟩ => ?_)
  obtain ⟨h1, h2⟩ := tyV_is I1 r1 ty
  refine ⟨T, id, pa, slot, hty, h1, h2, ?_⟩
  have hA := ha cpos pins s1 σ H1 _ I1 q1
  rw [hs] at hA ⊢
  refine Calls.callWith_builtin (by show (false || (backTo cpos (starEach es X.env)).any (·.1)) = false; rw [hplain] <;> rfl) (Calls.evalArgs_plain ?_)
  exact thn hA fun us s2 ⟨vs, H2, I2, r2, q2⟩ => hm pins s2 σ H2 x vs v us Q I2 r1 r2 q2
/- xs.append(e), list.index on a module's tuple .. are MtR facts of 06m -/
end
end L2

namespace L2
open PySem PySem.Spec PyProof.Rows

def MtM (X : Cx) (id : String) (r : V → List V → Hp → VK → Prop) : Prop :=
  ∀ (pins : List (Addr × Obj)) (s : Shared) (σ : St) (H : Hp) (x : V) (xs : List V) (v : Value) (us : List Value) (Q : VK), Inv X pins σ H s → RelV x v → Vals xs us → r x xs H Q →
    wpAny (model X.prog X.w) X.A (call (.builtin id) (v :: us)) (EP X pins σ Q) X.xe s

theorem Vals.one : ∀ {x : V} {us : List Value}, Vals [x] us → ∃ u, us = [u] ∧ RelV x u
  | _, _, .cons r .nil => ⟨_, rfl, r⟩
theorem Vals.two : ∀ {x y : V} {us : List Value}, Vals [x, y] us → ∃ u v, us = [u, v] ∧ RelV x u ∧ RelV y v
  | _, _, _, .cons r (.cons q .nil) => ⟨_, _, rfl, r, q⟩
theorem Vals.zero : ∀ {us : List Value}, Vals [] us → us = []
  | _, .nil => rfl
theorem Vals.dropLast {xs : List V} {us : List Value} (h : Vals xs us) : Vals xs.dropLast us.dropLast := by
  induction h with
  | nil => exact .nil
  | cons r t ih =>
    cases t with
    | nil => exact .nil
    | cons q t' => exact .cons r ih
theorem Vals.eraseIdx : ∀ {xs : List V} {us : List Value} (i : Nat), Vals xs us → Vals (xs.eraseIdx i) (us.eraseIdx i)
  | _, _, _, .nil => .nil
  | _, _, 0, .cons _ t => t
  | _, _, i + 1, .cons r t => .cons r (Vals.eraseIdx i t)
theorem Vals.reverse {xs : List V} {us : List Value} (h : Vals xs us) : Vals xs.reverse us.reverse := by
  induction h with
  | nil => exact .nil
  | cons r t ih => rw [List.reverse_cons, List.reverse_cons]; exact Vals.append ih (.cons r .nil)
theorem Vals.rep {xs : List V} {us : List Value} (h : Vals xs us) : ∀ k : Nat, Vals (List.replicate k xs).flatten (List.replicate k us).flatten
  | 0 => .nil
  | k + 1 => by
    rw [List.replicate_succ, List.replicate_succ, List.flatten_cons, List.flatten_cons]
    exact Vals.append h (Vals.rep h k)
theorem erase_last {α : Type} (l : List α) : l.eraseIdx (l.length - 1) = l.dropLast := by
  induction l with
  | nil => rfl
  | cons a r ih =>
    cases r with
    | nil => rfl
    | cons b r =>
      have e : (a :: b :: r).length - 1 = ((b :: r).length - 1) + 1 := by
        have h1 : (a :: b :: r).length = r.length + 2 := rfl
        have h2 : (b :: r).length = r.length + 1 := rfl
        omega
      rw [e, List.eraseIdx_cons_succ, ih]
      all_goals rfl
theorem foldl_rep (its : List Value) : ∀ (k : Nat) (acc : List Value),
    List.foldl (fun x1 x2 => x1 ++ x2) acc.toArray (List.replicate k its.toArray) = (acc ++ (List.replicate k its).flatten).toArray
  | 0, acc => by simp
  | k + 1, acc => by
    have e : acc.toArray ++ its.toArray = (acc ++ its).toArray := by simp
    have e2 : (acc ++ its) ++ (List.replicate k its).flatten = acc ++ (List.replicate (k + 1) its).flatten := by
      rw [List.replicate_succ, List.flatten_cons, List.append_assoc]
    rw [← e2, ← foldl_rep its k (acc ++ its), ← e, List.replicate_succ, List.foldl_cons]

section
variable {X : Cx} {pins : List (Addr × Obj)} {σ : St} {H : Hp} {s : Shared} {l b : Addr} {xs ys zs : List V}

theorem Inv.lset {its its' : List Value} {n : Nat} {f : Array Value → Array Value} {t' : Nat} (I : Inv X pins σ H s) (hH : H l = some (.lst xs))
    (e : s.heap.get? l = some { cls := .type "list", data := .seq its.toArray n }) (hf : f its.toArray = its'.toArray) (hv : Vals ys its') (hz : ys.length ≤ sizeLine) :
    Inv X pins σ (upd H l (.lst ys)) { s with heap := s.heap.update l (Obj.mapSeq f), toks := t' } := by
  have q := PySem.IsL.update e f
  rw [hf] at q
  refine I.write (x := l) (e := l) (by rw [hH]; exact trivial) (.inl rfl) (fun b' u hb hu => (Heap.get?_update_other s.heap (Obj.mapSeq f) (Ne.symm hb)).trans hu) ⟨_, q⟩ ?_
  exact ⟨hz, its', _, hv, q⟩
theorem Inv.lnew {its : List Value} {t' : Nat} (I : Inv X pins σ H s) (hv : Vals ys its) (hz : ys.length ≤ sizeLine) :
    Inv X pins σ (upd H s.heap.objs.size (.lst ys)) { s with heap := s.heap.push { cls := .type "list", data := .seq its.toArray }, toks := t' } :=
  I.laid (fun _ _ q => Heap.get?_push_of_some _ q) (Nat.le_refl _) ⟨hz, its, 0, hv, Heap.get?_push_size _ rfl⟩
theorem Inv.fresh (I : Inv X pins σ H s) : H s.heap.objs.size = none := I.hok.fresh (Nat.le_refl _)
theorem Inv.lstM (I : Inv X pins σ H s) (hH : H l = some (.lst xs)) : xs.length ≤ sizeLine ∧ ∃ (its : List Value) (n : Nat), Vals xs its ∧ xs.length = its.length ∧ s.heap.get? l = some { cls := .type "list", data := .seq its.toArray n } := by
  obtain ⟨z, its, n, r, e⟩ := I.hok l _ hH
  exact ⟨z, its, n, r, r.length, e⟩

theorem notLongL {n : Nat} (h : n ≤ sizeLine) : Builtin.List.listTooLong n = false := by
  unfold Builtin.List.listTooLong
  exact decide_eq_false (by omega)
end

section
variable {X : Cx}

def rAppend : V → List V → Hp → VK → Prop := fun x vs H Q => ∃ l xs y, x = .ref l ∧ vs = [y] ∧ H l = some (.lst xs) ∧ xs.length < sizeLine ∧ Q .non (upd H l (.lst (xs ++ [y])))
theorem mt_append : MtM X "list.append" rAppend := by
  intro pins s σ H x vs v us Q I rx rv h
  obtain ⟨l, xs, y, rfl, rfl, hH, hz, q⟩ := h
  cases rx
  obtain ⟨u, rfl, ru⟩ := rv.one
  obtain ⟨z, its, n, r, hl, e⟩ := I.lstM hH
  refine call_meets F.slot_list_append ⟨_, e, rfl⟩ F.entry_list_append (F.args_list_append_2 _ _) (PySem.list_append l its.toArray n u (by rw [List.size_toArray]; omega)) ⟨e, ?_⟩
  refine ⟨.non, _, I.lset (its' := its ++ [u]) hH e (by simp) (r.append (.cons ru .nil)) ?_, rfl, q⟩
  rw [List.length_append, List.length_singleton]
  omega

def rPop : V → List V → Hp → VK → Prop := fun x vs H Q => ∃ l xs y, x = .ref l ∧ vs = [] ∧ H l = some (.lst xs) ∧ xs[xs.length - 1]? = some y ∧ Q y (upd H l (.lst xs.dropLast))
theorem mt_pop : MtM X "list.pop" rPop := by
  intro pins s σ H x vs v us Q I rx rv h
  obtain ⟨l, xs, y, rfl, rfl, hH, hy, q⟩ := h
  cases rx
  have hus := rv.zero
  subst hus
  obtain ⟨z, its, n, r, hl, e⟩ := I.lstM hH
  obtain ⟨u, hu, ru⟩ := r.get hy
  have hy' : its.toArray[its.toArray.size - 1]? = some u := by
    show its.toArray[its.length - 1]? = some u
    rw [← Array.getElem?_toList, ← hl]
    exact hu
  refine call_meets F.slot_list_pop ⟨_, e, rfl⟩ F.entry_list_pop (F.args_list_pop_1 _) (MeetsSeq.list_pop_last l its.toArray n u hy' (by rw [List.size_toArray]; omega)) ⟨e, ?_⟩
  refine ⟨y, _, I.lset (its' := its.dropLast) hH e ?_ r.dropLast ?_, ru, q⟩
  · show its.toArray.eraseIdxIfInBounds (its.toArray.size - 1) = its.dropLast.toArray
    rw [List.size_toArray, List.eraseIdxIfInBounds_toArray, erase_last]
  · rw [List.length_dropLast]
    omega

def rCat : R2 := fun x y H Q => ∃ l b xs zs, x = .ref l ∧ y = .ref b ∧ H l = some (.lst xs) ∧ H b = some (.lst zs) ∧ xs.length + zs.length ≤ sizeLine ∧ ∀ p, H p = none → Q (.ref p) (upd H p (.lst (xs ++ zs)))
theorem op_cat : OpR X (binaryOp .Add) rCat := by
  intro pins s σ H x y v u Q I rx ry h
  obtain ⟨l, b, xs, zs, rfl, rfl, hH, hB, hz, q⟩ := h
  cases rx
  cases ry
  obtain ⟨z, its, n, r, hl, e⟩ := I.lstM hH
  obtain ⟨z2, its2, n2, r2, hl2, e2⟩ := I.lstM hB
  refine PySem.P.add_list e e2 ?_ (by rw [List.size_toArray, List.size_toArray]; omega)
  have ea : its.toArray ++ its2.toArray = (its ++ its2).toArray := by simp
  rw [ea]
  exact ⟨.ref _, _, I.lnew (t' := s.toks) (r.append r2) (by rw [List.length_append]; omega), rfl, q _ I.fresh⟩
def rRep : R2 := fun x y H Q => ∃ l k xs, x = .ref l ∧ y = .int k ∧ H l = some (.lst xs) ∧ -(2 ^ 63) ≤ k ∧ k < 2 ^ 63 ∧ xs.length * k.toNat ≤ sizeLine ∧
  ∀ p, H p = none → Q (.ref p) (upd H p (.lst (List.replicate k.toNat xs).flatten))
theorem len_rep {α : Type} (xs : List α) (k : Nat) : (List.replicate k xs).flatten.length = k * xs.length := by
  induction k with
  | zero => simp
  | succ k ih => rw [List.replicate_succ, List.flatten_cons, List.length_append, ih, Nat.succ_mul, Nat.add_comm]
theorem op_rep : OpR X (binaryOp .Mult) rRep := by
  intro pins s σ H x y v u Q I rx ry h
  obtain ⟨l, k, xs, rfl, rfl, hH, h1, h2, hz, q⟩ := h
  cases rx
  obtain ⟨t, rfl⟩ := ry
  obtain ⟨z, its, n, r, hl, e⟩ := I.lstM hH
  have hlen : its.toArray.size * k.toNat ≤ sizeLine := by rw [List.size_toArray, ← hl]; exact hz
  have hcap : ¬ its.toArray.size * k.toNat > (2 ^ 63 - 1) / 8 := by
    have : (sizeLine : Nat) ≤ (2 ^ 63 - 1) / 8 := by decide
    omega
  have hfit : ¬ (!Builtin.List.listFitsIndex k) = true := by
    rw [fitsIndex_both h1 h2]
    exact Bool.false_ne_true
  have hlong : ¬ Builtin.List.listTooLong (its.toArray.size * k.toNat) = true := by
    rw [notLongL hlen]
    exact Bool.false_ne_true
  have hnew : List.foldl (fun x1 x2 => x1 ++ x2) #[] (List.replicate (if its.toArray.isEmpty = true then 0 else k.toNat) its.toArray) = (List.replicate k.toNat its).flatten.toArray := by
    have f0 : ∀ m : Nat, List.foldl (fun x1 x2 => x1 ++ x2) #[] (List.replicate m its.toArray) = (List.replicate m its).flatten.toArray := fun m => by
      have := foldl_rep its m []
      rw [List.nil_append] at this
      exact this
    rw [f0]
    cases its with
    | nil => simp
    | cons a r' => rw [if_neg (by simp)]
  refine wpAny_binaryOp_repeat_ref (T := "list") (U := "int") (by decide) ⟨_, e, rfl⟩ (fun s' => typeIs_int s' k t) noFill_list_mul F.fills_int_mul F.slot_int_rmul repeat_list F.slot_int_index.lookup
    (call_meets F.slot_int_rmul (typeIs_int s k t) F.entry_int_rmul (F.args_int_rmul_2 _ _) (int___rmul___int_list k t l its.toArray n)
      ⟨e, rfl, ⟨_, e, rfl⟩, call_meets F.slot_list_mul ⟨_, e, rfl⟩ F.entry_list_mul (F.args_list_mul_2 _ _) (AutoListH.list___mul___list_int_3 l its.toArray n k t hfit hcap hlong) ⟨e, ?_⟩⟩)
  rw [hnew]
  exact ⟨.ref _, _, I.lnew (t' := s.toks) (r.rep k.toNat) (by rw [len_rep, Nat.mul_comm]; exact hz), rfl, q _ I.fresh⟩

end

section
variable {prog : Program} {w : World} {A : Around} {E : Value → Shared → Prop} {s : Shared}
theorem bounds_run {a c n : Nat} (hac : a ≤ c) (hc : c ≤ n) : sliceBounds (some (a : Int)) (some (c : Int)) none n = ((a : Int), (c : Int), 1) := by
  simp only [sliceBounds, Option.getD_none]
  have h1 : ¬ ((a : Int) < 0) := by omega
  have h2 : ¬ ((c : Int) < 0) := by omega
  simp only [h1, h2, if_false, show (1 : Int) > 0 by decide, if_true]
  congr 1
  · omega
  · congr 1; omega
set_option maxRecDepth 100000 in
/-- list.__setitem__ with a slice of step one and another list -/
theorem setItem_slice {l b sl : Addr} {items new : Array Value} {n n2 : Nat} {vl vu : Value} {a c : Nat} {Q : Unit → Shared → Prop}
    (e : s.heap.get? l = some { cls := .type "list", data := .seq items n }) (e2 : s.heap.get? b = some { cls := .type "list", data := .seq new n2 }) (hne : l ≠ b)
    (hs : s.heap.IsSliceOf sl vl vu .none) (pl : IsPart vl (some (a : Int))) (pu : IsPart vu (some (c : Int))) (hac : a ≤ c) (hc : c ≤ items.size)
    (hsz : items.size + new.size ≤ sizeLine) (h : Q () { s with heap := s.heap.update l (Obj.mapSeq fun xs => xs.extract 0 a ++ new ++ xs.extract c xs.size) }) :
    wpAny (model prog w) A (setItem (.ref l) (.ref sl) (.ref b)) Q E s := by
  have hl : s.heap.IsList l items := PySem.IsL.isList e
  have hb : s.heap.IsList b new := PySem.IsL.isList e2
  obtain ⟨os, hos, hcs, hds⟩ := id hs
  have hTs : s.TypeIs (.ref sl) "slice" := ⟨os, hos, hcs⟩
  have hstep : ¬ ((rawPart none == rawInt 0) = true) := Bool.false_ne_true
  have hsame : Builtin.List.listSameRef (.ref l) (.ref b) = false := by
    unfold Builtin.List.listSameRef
    exact beq_eq_false_iff_ne.mpr hne
  have hmax : (max (a : Int) (c : Int)).toNat = c := by omega
  have hz' : ((fun xs : Array Value => xs.extract 0 a ++ new ++ xs.extract c xs.size) items).size ≤ sizeLine + 1 := by
    simp only [Array.size_append, Array.size_extract]
    omega
  unfold setItem
  try with_reducible refine wpAny_holding ?_
  first | refine wpAny_bind (wpAny_pure ?_) | skip
  refine wpAny_bind (wpAny_sequenceKey hl.typeIs (by decide) ?_)
  refine wpAny_bind (wpAny_callSpecial?_slot (name := Str.ofString "__setitem__") hl.typeIs slot_list_setitem
    (wpAny_call_entry slot_list_setitem hl.typeIs entry_list_setitem ?_ (args_list_setitem _ _ _)))
  show wpAny _ _ (Builtin.List.listSubscript? (.ref sl) >>= _) _ _ s
  refine wpAny_bind ?_
  unfold Builtin.List.listSubscript?
  refine wpAny_bind (wpAny_specialOf hTs slice_no_index ?_)
  simp only [Option.isNone_none, if_true]
  refine wpAny_pure ?_
  show wpAny _ _ (typeOf (.ref sl) >>= _) _ _ s
  refine wpAny_bind (wpAny_typeOf hTs ?_)
  first
    | rw [if_neg (by decide)]
    | refine PySem.W.KFB.if_not (by decide) ?_
  rw [listSliceParts_eq]
  refine wpAny_bind (wpAny_bind (wpAny_field hos hds (x := .none) rfl (wpAny_bind (wpAny_listPart .none ?_))))
  rw [if_neg hstep]
  refine wpAny_bind (wpAny_field hos hds (x := vl) rfl (wpAny_bind (wpAny_listPart pl ?_)))
  refine wpAny_bind (wpAny_field hos hds (x := vu) rfl (wpAny_bind (wpAny_listPart pu (wpAny_pure ?_))))
  first
    | simp only [hsame, Bool.false_eq_true, if_false]
    | refine PySem.W.KFB.if_not hsame ?_
    | (dsimp only
       rw [if_neg (by rw [hsame]; exact Bool.false_ne_true)])
  refine wpAny_bind (m := Builtin.List.listAllItems (.ref b) "must assign iterable to extended slice") ?_
  unfold Builtin.List.listAllItems
  refine wpAny_bind (wpAny_typeOf hb.typeIs ?_)
  first
    | refine PySem.W.KFB.if_so (by decide) ?_
    | rw [if_pos (by decide)]
    | simp only [beq_self_eq_true, Bool.true_or, if_true]
  unfold Builtin.List.listItems
  refine wpAny_bind (wpAny_seqItems e2 rfl (wpAny_pure ?_))
  refine wpAny_bind (wpAny_bind (wpAny_seqItems e rfl (wpAny_pure ?_)))
  refine wpAny_bind (wpAny_of_eq ((sliceIndices_raw (some (a : Int)) (some (c : Int)) none items.size (by simp)).trans (congrArg (pure : Int × Int × Int → Sem (Int × Int × Int)) (bounds_run hac hc))) ?_)
  show wpAny _ _ (if ((1 : Int) == 1) = true then _ else _) _ _ s
  rw [if_pos (by decide)]
  refine wpAny_bind (wpAny_rule ?_)
  first
    | simp only [notLongL hsz, Bool.false_eq_true, if_false]
    | refine PySem.W.KFB.if_not (notLongL hsz) ?_
  first | refine wpAny_bind (wpAny_pure ?_) | skip
  show wpAny _ _ (updateSeq l (fun xs => xs.extract 0 ((a : Int)).toNat ++ new ++ xs.extract (max (a : Int) (c : Int)).toNat xs.size) >>= _) _ _ s
  rw [hmax, Int.toNat_natCast]
  refine wpAny_bind (wpAny_updateSeq (hz := Nat.le_trans (Nat.le_add_right _ _) hsz) (_hz' := hz') e rfl ?_)
  refine wpAny_bind (wpAny_letGo ?_)
  first
    | exact wpAny_bind (wpAny_pure (wpAny_pure ⟨.none, rfl, wpAny_pure h⟩))
    | exact wpAny_pure ⟨.none, rfl, wpAny_pure h⟩
end

section
variable {X : Cx}
end
end L2

namespace Att
open PySem PySem.W PySem.Calls PyProof.Rows

theorem ints_of_wellAll {P : Params} {h : Heap} : ∀ (ns : List Int) (vs : List Value), WellAll P h vs (ns.map WData.int) → IntsAre vs ns := by
  intro ns
  induction ns with
  | nil =>
    intro vs w
    rw [List.map_nil] at w
    cases w
    exact .nil
  | cons n ns ih =>
    intro vs w
    rw [List.map_cons] at w
    cases w with
    | cons a b =>
      cases a
      exact .cons _ _ (ih _ b)

theorem script_of {l : OpenLaw} {n : Nat} (hn : l.most = some n) {P : Params} {h : Heap} {args : List WData} {vals : List Value}
    (hpre : l.row.toRowW.claim.pre args = true) (hwl : WellAll P h vals args) :
    ∃ a vs ns, vals = [Value.ref a] ∧ args = [WData.list (ns.map WData.int)] ∧ h.get? a = some { cls := .type "list", data := .seq vs.toArray } ∧ IntsAre vs ns ∧ ns.length ≤ n := by
  have hsh : WShape.hasAll [] args [.list .int] = true := (pre_splitW hpre).1
  have hc : l.pre.holds [] { args := args } = true := (pre_splitW hpre).2
  obtain ⟨d, r, rfl, h1, h2⟩ := hasAllW_cons hsh
  obtain rfl := hasAllW_nil h2
  obtain ⟨xs, rfl, h3⟩ := hasW_list h1
  obtain ⟨ns, rfl⟩ := items_int h3
  have hlen : ns.length ≤ n := by
    unfold OpenLaw.pre at hc
    have h4 : (WTm.not (.lt (.lit (.int (n : Int))) (.len (.arg 0)))).holds [] { args := [.list (ns.map .int)] } = true := by
      have h4 := (holds_andW hc).1
      rw [hn] at h4
      exact h4
    have h5 := condW_of h4 (w_not (w_lt w_lit (w_len_list (w_arg rfl))))
    rw [List.length_map] at h5
    refine Nat.le_of_not_lt fun q => ?_
    have q' : (n : Int) < ((ns.length : Nat) : Int) := by omega
    first
      | (rw [decide_eq_true q'] at h5; exact absurd h5 (by decide))
      | (simp at h5; omega)
  cases hwl with
  | cons w1 w2 =>
    cases w2
    cases w1 with
    | list ho hall => exact ⟨_, _, ns, rfl, rfl, ho, ints_of_wellAll ns _ hall, hlen⟩

theorem post_true (l : OpenLaw) (args : List WData) : l.row.toRowW.claim.post args (.bool true) args = true :=
  postW_of (r := l.row.toRowW) (X := (true == true))
    (show WShape.has [] (.bool true) .bool = true by first | rfl | decide | simp [WShape.has, WShape.arms, WShape.armsAll])
    (show (WTm.eq .res (.lit (.bool true))).value [] { args := args, res := some (.bool true), after := args } = some (.bool (true == true)) from w_eq_bool (w_res rfl) w_lit) rfl

theorem attach_call {l : OpenLaw} {n : Nat} {q : Program} {loose : List Str} {XP : (Str → Option Value) → Heap → Prop} {YP : World → Heap → Prop} {d : DefRec}
    (hn : l.most = some n) (hdf : d.params.defaults = [])
    (call : ∀ (w : World) (s₀ s₁ : Shared) (mg mb : Str → Option Value) (fa : Addr) (o : Obj) (pm cd doc : Value) (a : Addr) (vs : List Value) (ns : List Int),
      Ground q loose [] XP w s₀ mg mb s₁.heap → YP w s₁.heap →
      s₁.heap.get? fa = some o → o.data = .func (docDef d.name d.params d.body d.scope pm cd doc) → s₁.heap.CodeRec cd d.name → mg d.name = some (.ref fa) →
      s₁.heap.get? a = some { cls := .type "list", data := .seq vs.toArray } → IntsAre vs ns → ns.length ≤ n → s₁.gens = #[] →
      codeAny (model l.prog w) callerA (.call (.ref fa) ⟨[.ref a], []⟩) (fun r s' => r = .ok (.ret (.bool true)) ∧ OldK s₁.heap s'.heap ∧ s'.os = s₁.os ∧ AllBare s'.gens) s₁) :
    WalkO q loose XP YP l.row.toRowW d [] (fun f vs => PySem.call f vs) := by
  intro w s₀ s₁ mg mb G Y fa o pm cd doc dV kV ho hd hcd hD hmg hg args vals as hpre hlay hrd hwl hlo
  obtain rfl : dV = .none := Dflts.none hD hdf
  obtain rfl : kV = .none := Dflts.noKw hD
  obtain ⟨a, vs, ns, rfl, rfl, hobj, hints, hlen⟩ := script_of hn hpre hwl
  refine enter_call (codeAny_mono (call w s₀ s₁ mg mb fa o pm cd doc a vs ns G Y ho (fd_plain hd) hcd hmg hobj hints hlen hg) fun r s' hq => ?_)
  obtain ⟨rfl, h2, h3, h4⟩ := hq
  exact ⟨.inl ⟨.bool true, .bool true, [], rfl, fun _ => rfl, .bool true, post_true l _, fun _ => ⟨List.Pairwise.nil, fun _ hm => (nomatch hm)⟩⟩, h2, h3, h4⟩

section
variable {prog : Program} {w : World} {A : Around} {E : Value → Shared → Prop} {s : Shared} {K : Frag}

def ledger (h : Heap) (L d : Addr) : List (Addr × Obj) := (List.range h.objs.size).filterMap fun a => if a = L ∨ a = d then none else (h.get? a).map fun o => (a, o)
end
end Att

namespace L2
open PySem PySem.Spec PyProof.Rows

theorem vals_ints : ∀ {vs : List Value} {ns : List Int}, IntsAre vs ns → Vals (ns.map V.int) vs
  | _, _, .nil => .nil
  | _, _, .cons n t h => .cons ⟨t, rfl⟩ (vals_ints h)

def Only (H : Hp) : Prop := ∀ b, H b = none ∨ ∃ o xs, H b = some (.frz o (.lst xs))

theorem law_call {P : Program} {w : World} {K : PySem.W.Frag} {mg mb : Str → Option Value} {CX : CXT} {k : Nat} {fa a : Addr} {fd : FuncData} {x : Str} {sp : Sp} {s₁ : Shared} {vs : List Value} {ns : List Int}
    (KX : K.In s₁.heap) (hns : s₁.heap.Ns mainGlobals mg) (hb : s₁.heap.Ns builtinsNs mb) (hbb : ∀ x : Str, x ≠ "__name__" → mb x = bootBuiltins x) (hlim : s₁.heap.NoLimit) (hg : s₁.gens = #[])
    (ha : s₁.heap.get? a = some { cls := .type "list", data := .seq vs.toArray }) (hi : IntsAre vs ns) (hl : ns.length ≤ sizeLine) (hr : Room k callerA)
    (F : ∀ base : Heap, K.In base → base.Ns mainGlobals mg → FnOk P w K mg base CX k fa fd [x] sp) (hbind : ∀ (s : Shared) (u : Value), BindsTo s fd ⟨[u], []⟩ [(x, u)])
    (hsp : ∀ H : Hp, Only H → SqL K H a (ns.map V.int) → sp [.ref a] H (fun v _ => v = .bl true) fun _ _ _ => False)
    (hCX : ∀ H e s', CX [] H s₁ (fun _ _ _ => False) e s' → False) :
    codeAny (model P w) callerA (.call (.ref fa) ⟨[.ref a], []⟩) (fun r s' => r = .ok (.ret (.bool true)) ∧ OldK s₁.heap s'.heap ∧ s'.os = s₁.os ∧ AllBare s'.gens) s₁ := by
  have rv := vals_ints hi
  have lenV := hi.length
  -- from an abstract heap in which nothing but the script may be tracked
  have core : ∀ H : Hp, Only H → SqL K H a (ns.map V.int) → HOk P w H s₁.heap → (∀ b, H b ≠ none → b = a) → (H a ≠ none → K.lookup a = none) →
      codeAny (model P w) callerA (.call (.ref fa) ⟨[.ref a], []⟩) (fun r s' => r = .ok (.ret (.bool true)) ∧ OldK s₁.heap s'.heap ∧ s'.os = s₁.os ∧ AllBare s'.gens) s₁ := by
    intro H hO hS hok hA hK
    have base_of : ∀ {b : Addr} {o : Obj}, s₁.heap.get? b = some o → H b = none → (hidT s₁.heap H).get? b = some o := fun e n => hidT_get e n
    have noA : ∀ {b : Addr} {o : Obj} {es : Array DictEntry} {ep : Nat}, s₁.heap.get? b = some o → o.data = .dict es ep → H b = none := fun {b o es ep} e d => by
      cases q : H b with
      | none => rfl
      | some u =>
        have e' : b = a := hA b (by rw [q]; simp)
        subst e'
        rw [ha] at e; cases e
        have d' : Data.seq vs.toArray _ = Data.dict es ep := d
        cases d'
    have nsK : ∀ {b : Addr} {m : Str → Option Value}, s₁.heap.Ns b m → (hidT s₁.heap H).Ns b m := fun {b m} ⟨o, es, ep, e, d, r⟩ => ⟨o, es, ep, base_of e (noA e d), d, r⟩
    have hKb : K.In (hidT s₁.heap H) := fun b o e => base_of (KX b o e) (by
      cases q : H b with
      | none => rfl
      | some u =>
        have e' : b = a := hA b (by rw [q]; simp)
        subst e'
        rw [hK (by rw [q]; simp)] at e; cases e)
    have hM : Mod K mg (hidT s₁.heap H) := ⟨hKb, nsK hns, ⟨mb, nsK hb, hbb⟩, let ⟨mc, h1, h2⟩ := hlim; ⟨mc, nsK h1, h2⟩⟩
    have e0 : Env0 P w K mg (hidT s₁.heap H) callerA [] s₁ H := ⟨rfl, hM, fun b o e => of_hidT e, Nat.le_of_eq (hidT_size _ _), trivial, fun b hb => absurd (show b ∈ ([] : List Addr) from hb) (by simp), hok, .of_eq hg⟩
    refine codeAny_mono ((F _ hKb (nsK hns)).run callerA [] s₁ H ⟨[.ref a], []⟩ [.ref a] [.ref a] _ _ hr e0 (hbind s₁ (.ref a)) (.cons rfl .nil) (hsp H hO hS)) fun r s' h => ?_
    cases r with
    | error e => exact (hCX H e s' h).elim
    | ok fl =>
      cases fl with
      | next => exact False.elim h
      | brk => exact False.elim h
      | cont => exact False.elim h
      | ret u =>
        obtain ⟨v, H', os, bare, un, hok', r', q⟩ := h
        have q' : v = .bl true := q
        subst q'
        obtain rfl : u = Value.bool true := r'
        refine ⟨rfl, OldK.of_keep fun b o e => ?_, os, bare⟩
        cases q : H b with
        | none => exact un.keep b o e q (by intro z; exact absurd (show b ∈ ([] : List Addr) from z) (by simp)) (by simp)
        | some u =>
          rcases hO b with z | ⟨ob, xs, z⟩
          · rw [q] at z; cases z
          · have z2 := un.frzs b ob _ z
            obtain ⟨e1, _⟩ := hok b _ z
            obtain ⟨e2, _⟩ := hok' b _ z2
            rw [e] at e1; cases e1
            exact e2
  cases hk : K.lookup a with
  | some o =>
    -- the script is one of the module's own objects
    have e := KX a o hk
    rw [ha] at e
    cases e
    refine core (fun _ => none) (fun _ => .inl rfl) (.inr ⟨_, vs.toArray, _, hk, rfl, rfl, rfl, by rw [List.size_toArray, lenV]; exact hl, by simpa using rv⟩) (fun b u z => by have z' : (none : Option HO) = some u := z; cases z') (fun b z => absurd rfl z) fun z => absurd rfl z
  | none =>
    refine core (fun b => if b = a then some (.frz { cls := .type "list", data := .seq vs.toArray } (.lst (ns.map V.int))) else none) (fun b => ?_) (.inl (.inr ⟨{ cls := .type "list", data := .seq vs.toArray }, if_pos rfl⟩)) (fun b u z => ?_) (fun b z => ?_) fun _ => hk
    · by_cases hb : b = a
      · exact .inr ⟨_, _, if_pos hb⟩
      · exact .inl (if_neg hb)
    · by_cases hb : b = a
      · have z' := (if_pos hb).symm.trans z
        cases z'
        subst hb
        exact ⟨ha, by rw [List.length_map]; exact hl, vs, _, rv, ha⟩
      · have z' := (if_neg hb).symm.trans z
        cases z'
    · by_cases hb : b = a
      · exact hb
      · exact absurd (if_neg hb) z
end L2

namespace L2
open PySem PySem.Spec PyProof.Rows

abbrev KOf {K : PySem.W.Frag} {h : Heap} (_ : K.In h) : PySem.W.Frag := K

theorem walk_of {l : PySem.W.OpenLaw} {n k : Nat} {q : Program} {loose : List Str} {XP : (Str → Option Value) → Heap → Prop} {YP : World → Heap → Prop} {d : DefRec} {K : Params → PySem.W.Frag} {CX : World → CXT} {sp : World → Sp} {x : Str}
    (hn : l.most = some n) (hn2 : n ≤ sizeLine) (hdf : d.params.defaults = []) (hr : Room k callerA)
    (hY : ∀ (w : World) (h : Heap), YP w h → (K w.params).In h)
    (F : ∀ (w : World) (mg : Str → Option Value) (fa : Addr) (h : Heap), (K w.params).In h → h.Ns mainGlobals mg → mg d.name = some (.ref fa) →
      ∃ fd : FuncData, (∀ (s : Shared) (u : Value), BindsTo s fd ⟨[u], []⟩ [(x, u)]) ∧
        ∀ base : Heap, (K w.params).In base → base.Ns mainGlobals mg → FnOk l.prog w (K w.params) mg base (CX w) k fa fd [x] (sp w))
    (hsp : ∀ (w : World) (H : Hp) (a : Addr) (ns : List Int), ns.length ≤ n → Only H → SqL (K w.params) H a (ns.map V.int) → sp w [.ref a] H (fun v _ => v = .bl true) fun _ _ _ => False)
    (hCX : ∀ (w : World) (H : Hp) (s : Shared) (e : Value) (s' : Shared), CX w [] H s (fun _ _ _ => False) e s' → False) :
    PySem.W.WalkO q loose XP YP l.row.toRowW d [] (fun f vs => PySem.call f vs) := by
  refine Att.attach_call hn hdf fun w s₀ s₁ mg mb fa o pm cd doc a vs ns G Y ho hd hcd hmg hobj hints hlen hg => ?_
  have KX := hY w _ Y
  obtain ⟨fd, hb, hF⟩ := F w mg fa _ KX G.T.g hmg
  exact law_call KX G.T.g G.T.b G.T.builtins G.T.nolimit hg hobj hints (Nat.le_trans hlen hn2) hr hF hb (fun H hO hS => hsp w H a ns hlen hO hS) fun H e s' => hCX w H s₁ e s'
end L2

/- THE LAST THEOREM (shape; LID, My.* are yours):
   My.Adr: a structure of the addresses that your layer names (classes, functions); My.Txt K t: a structure (Prop) of the equations over K;
   My.txt_mk : {K} {implicit addresses ..} (e1 : nsIn K mainGlobals "law" = some (some (.ref f))) (e2 : K.lookup f = some ⟨oc, od, .func (fnOf "law" "law" params body scope dV kV doc pm an cdv ct), sl⟩) (e3 : codeIn K cdv "law" = true) .. : ∃ t, My.Txt K t

set_option maxRecDepth 100000 in
set_option maxHeartbeats 0 in
theorem PySem.Challenge.cw_LID_holds : PySem.Challenge.rw_LID.Holds := by
  w_on; o_law; k_head; (case hw => w_witness2)
  k_fill
  refine L2.walk_of (l := PySem.Challenge.rw_LID) (n := 63) (k := 40) (x := "script") (CX := fun w => ..) (sp := fun _ => My.sp_law) rfl (by decide) rfl ⟨rfl, by decide, by decide⟩ (fun w h Y => PySem.W.kIn_of Y) ?F ?S ?C
  case F =>
    intro w mg fa h KX G hmg
    have T : ∃ t, My.Txt (L2.KOf KX) t := by
      dsimp only [L2.KOf]                          -- K must stand as «<heap const> w.params» for k_is
      refine' My.txt_mk ?e1 ?e2 ?e3 ..
      (case e1 => PySem.W.k_is)                    -- in the order: a name -> its address -> its object -> its parts
      (case e2 => PySem.W.k_is)
      ..
    obtain ⟨t, T⟩ := T
    have e0 := hmg.symm.trans (PySem.W.mg_of KX G T.law)
    cases e0                                       -- fa is the law's own address
    exact ⟨_, fun s u => .of_eq rfl, fun base kb nb => My.law_fn T kb nb⟩     -- if «.of_eq rfl» comes too early: refine' ⟨_, ?b, fun base kb nb => My.law_fn T kb nb⟩; exact fun s u => .of_eq rfl
  case S => exact fun w H a ns hl hO hS => ..
  case C => exact ..
(the tactic k_is has no namespace: write k_is) -/

namespace L2
open PySem PySem.Spec PyProof.Rows

def inClass (s : Stmt) (j : Nat) : Stmt := match s with
  | .ClassDef _ _ _ body _ _ _ _ _ _ _ => body.getD j (.Pass ⟨0, 0, 0, 0⟩)
  | _ => .Pass ⟨0, 0, 0, 0⟩
def defArgs (s : Stmt) : Arguments := match s with
  | .FunctionDef _ a _ _ _ _ _ _ _ _ => a
  | _ => { posonlyargs := [], args := [], vararg := none, kwonlyargs := [], kw_defaults := [], kwarg := none, defaults := [] }
def defBody (s : Stmt) : List Stmt := match s with
  | .FunctionDef _ _ b _ _ _ _ _ _ _ => b
  | _ => []
def defScope (s : Stmt) : Scope := match s with
  | .FunctionDef _ _ _ _ _ _ sc _ _ _ => sc
  | _ => { kind := .function, names := [], isGenerator := false, isCoroutine := false }

abbrev CX0 : CXT := fun _ _ _ _ _ _ => False
abbrev E0 : XK := fun _ _ _ => False
theorem pass0 {X : Cx} : Passes CX0 X E0 := fun _ _ _ _ _ _ _ h => h.elim

structure Fun (K : PySem.W.Frag) (x qual : Str) (st : Stmt) (f : Addr) (fd : FuncData) : Prop where
  ex : ∃ (oc : Value) (od : Option Addr) (kV doc pm : Value) (an : Option Addr) (cdv ct : Value) (osl : Array (Option Value)),
    fd = PySem.W.fnOf x qual (defArgs st) (defBody st) (defScope st) .none kV doc pm an cdv ct ∧ K.lookup f = some ⟨oc, od, .func fd, osl⟩ ∧ PySem.W.codeIn K cdv qual = true
  kp : PySem.W.keepIn K (.ref f) = true
section
variable {P : Program} {w : World} {K : PySem.W.Frag} {mg : Str → Option Value} {base : Heap}
theorem Fun.ok {x qual : Str} {st : Stmt} {f : Addr} {fd : FuncData} {N ps : List Str} {k : Nat} {sp : Sp} (F : Fun K x qual st f fd) (S : FnScope N ps (defScope st)) (len : ∀ vs H Q E, sp vs H Q E → vs.length = ps.length)
    (hbody : ∀ (cdv : Value) (A : Around) (outer : List Env) (s : Shared) (H : Hp) (vs : List V) (Q : VK) (E : XK), Room k (A.deeper (envOfC qual (defScope st) s.heap.objs.size f cdv)) → sp vs H Q E →
      ∃ t, PSs (cxOf CX0 P w K mg base N qual (defScope st) f cdv A outer s H E).nox (defBody st) t ∧ t { nx := fun _ H' => Q .non H', rt := Q } (start N vs) H) : FnOk P w K mg base CX0 (k + 1) f fd ps sp := by
  obtain ⟨oc, od, kV, doc, pm, an, cdv, ct, osl, rfl, lk, hcd⟩ := F.ex
  refine fn_of lk hcd S len fun A outer s H vs Q E hr hsp => ?_
  obtain ⟨t, h, q⟩ := hbody cdv A outer s H vs Q E hr hsp
  exact ⟨t, h.nox, q⟩
theorem Fun.binds {x qual : Str} {st : Stmt} {f : Addr} {fd : FuncData} {ps : List Str} (F : Fun K x qual st f fd)
    (h : ∀ (kV doc pm : Value) (an : Option Addr) (cdv ct : Value) (us : List Value), us.length = ps.length → bindArgs (PySem.W.fnOf x qual (defArgs st) (defBody st) (defScope st) .none kV doc pm an cdv ct) ⟨us, []⟩ = pure (ps.zip us)) : Binds K fd ps [] := by
  obtain ⟨oc, od, kV, doc, pm, an, cdv, ct, osl, rfl, lk, hcd⟩ := F.ex
  exact .all (h kV doc pm an cdv ct)
theorem fun_mk {x qual : Str} {st : Stmt} {f : Addr} {oc : Value} {od an : Option Addr} {osl : Array (Option Value)} {kV doc pm cdv ct : Value} (l : K.lookup f = some ⟨oc, od, .func (PySem.W.fnOf x qual (defArgs st) (defBody st) (defScope st) .none kV doc pm an cdv ct), osl⟩)
    (c : PySem.W.codeIn K cdv qual = true) (k : PySem.W.keepIn K (.ref f) = true) : Fun K x qual st f (PySem.W.fnOf x qual (defArgs st) (defBody st) (defScope st) .none kV doc pm an cdv ct) := ⟨⟨oc, od, kV, doc, pm, an, cdv, ct, osl, rfl, l, c⟩, k⟩
end
theorem hu_of {A : Around} {k : Nat} (hr : Room k A) : A.units + 1 < cLine := Nat.lt_of_le_of_lt (Nat.add_le_add_left (by decide : 1 ≤ 64) _) hr.units
section
variable {X : Cx}
theorem pv (i : Nat) {x : Str} {pos : Pos} (hN : X.N[i]? = some x := by rfl) (hv : Vis X.env.scope x := by first | exact Or.inl rfl | exact Or.inr (Or.inl rfl) | exact Or.inr (Or.inr rfl)) (hd : (x == ("__debug__" : Str)) = false := by decide)
    (hcd : (x == ("__classdict__" : Str)) = false := by decide) : PE X (.Name x pos) (tVar i) := pe_var hN hv hd hcd
end

theorem iteF {A B : Prop} (h : B) : if false = true then A else B := by
  rw [if_neg Bool.false_ne_true]
  exact h
theorem iteT {A B : Prop} (h : A) : if true = true then A else B := by
  rw [if_pos rfl]
  exact h
theorem ite2 {c A B : Prop} [Decidable c] (h1 : c → A) (h2 : ¬ c → B) : if c then A else B := by
  by_cases h : c
  · rw [if_pos h]
    exact h1 h
  · rw [if_neg h]
    exact h2 h
def Same (H H' : Hp) : Prop := ∀ b o, H b = some o → H' b = some o
theorem Same.refl (H : Hp) : Same H H := fun _ _ h => h
theorem Same.trans {H H1 H2 : Hp} (a : Same H H1) (b : Same H1 H2) : Same H H2 := fun c o h => b c o (a c o h)
theorem Same.free {H H' : Hp} (e : Same H H') {l : Addr} (h : H' l = Option.none) : H l = Option.none := by
  cases q : H l with
  | none => rfl
  | some o =>
    rw [e l o q] at h
    cases h
theorem Same.seq {K : PySem.W.Frag} {H H' : Hp} {a : Addr} {xs : List V} (e : Same H H') (h : SqL K H a xs) : SqL K H' a xs := by
  rcases h with (h | ⟨o, h⟩) | h
  · exact .inl (.inl (e _ _ h))
  · exact .inl (.inr ⟨o, e _ _ h⟩)
  · exact .inr h

end L2

set_option maxRecDepth 100000
set_option maxHeartbeats 4000000
namespace L2
open PySem PySem.Spec PyProof.Rows

theorem fls {α : Type} {M : Model} {A : Around} {t : Sem α} {Q : α → Shared → Prop} {E : Value → Shared → Prop} {s : Shared} (h : wpAny M A t Q (fun _ _ => False) s) : wpAny M A t Q E s :=
  wpAny_mono h (fun _ _ q => q) fun _ _ z => z.elim

section
variable {prog : Program} {w : World} {A : Around} {R : Result → Shared → Prop} {s : Shared}
theorem compLoop_own {elt target iter : Expr} {ifs : List Expr} {scope : Scope} {pos : Pos} {it acc : Value} {env : Env} (J : Nat → Shared → Prop)
    (turn : ∀ n s, J n s → wpAny (model prog w) A (pyNext it) (fun r s₁ => match r with
      | none => R (.ok .next) s₁
      | some v => wpAny (model prog w) A (letOwnedTupleGo target it v) (fun _ s₂ => wpAny (model prog w) A (assign target env v) (fun _ s₃ =>
          wpAny (model prog w) A (forIn ifs true fun c r => if r = true then do let ok ← isTrue c env (eval c env); pure (ForInStep.yield ok) else pure (ForInStep.yield r)) (fun ok s₄ =>
            if ok = true then wpAny (model prog w) A (eval elt env) (fun x s₅ =>
              wpAny (model prog w) A (call (.builtin "list.append") [acc, x]) (fun _ s₆ => ∃ m, m < n ∧ J m s₆) (fun _ _ => False) s₅) (fun _ _ => False) s₄
            else ∃ m, m < n ∧ J m s₄) (fun _ _ => False) s₃) (fun _ _ => False) s₂) (fun _ _ => False) s₁) (fun _ _ => False) s)
    (n : Nat) (h : J n s) :
    codeAny (model prog w) A (.compLoop (.ListComp elt [⟨target, iter, ifs, 0⟩] scope pos) 0 it acc env) R s := by
  refine codeAny_loop rfl J (fun n s hI => ?_) n h
  show wpAny _ A ((compTurn (.ListComp elt [⟨target, iter, ifs, 0⟩] scope pos) 0 it acc env).onRaise (fun x => do noteFrame x env; theTreesLotGoes x)) _ _ s
  refine wpAny_noted (fls ?_)
  rw [compTurn_list]
  refine wpAny_bind (wpAny_standAt (wpAny_bind (wpAny_mono (turn n s hI) (fun r s₁ h₁ => ?_) fun _ _ h' => h')))
  cases r with
  | none => exact wpAny_pure h₁
  | some v =>
    refine wpAny_bind (wpAny_mono h₁ (fun _ s₂ h₂ => wpAny_bind (wpAny_mono h₂ (fun _ s₃ h₃ => wpAny_bind (wpAny_mono h₃ (fun ok s₄ h₄ => ?_) fun _ _ h' => h')) fun _ _ h' => h')) fun _ _ h' => h')
    cases ok with
    | false => exact wpAny_pure ⟨rfl, h₄⟩
    | true => exact wpAny_bind (wpAny_bind (wpAny_mono h₄ (fun x s₅ h₅ => wpAny_bind (wpAny_mono h₅ (fun _ s₆ h₆ => wpAny_pure (wpAny_pure ⟨rfl, h₆⟩)) fun _ _ h' => h')) fun _ _ h' => h'))
end

def clOf (scope : Scope) (env : Env) : List (Str × Addr) := (scope.names.filter fun y => y.2 == .free).reverse.map fun y => (y.1, (env.cells.lookup y.1).getD 0)
theorem closureFor_clOf {scope : Scope} {env : Env} (h : ∀ y ∈ scope.names, y.2 = .free → ∃ c, env.cells.lookup y.1 = some c) : closureFor scope env = pure (clOf scope env) := by
  unfold closureFor clOf
  have key : ∀ (l : List (Str × NameKind)) (cs : List (Str × Addr)), (∀ y ∈ l, y.2 = .free → ∃ c, env.cells.lookup y.1 = some c) →
      (forIn l cs (fun x r => match x with
        | (name, kind) => if (kind == NameKind.free) = true then do let a ← cellOf env name; pure (ForInStep.yield ((name, a) :: r)) else pure (ForInStep.yield r)) : Sem (List (Str × Addr))) =
        pure ((l.filter fun y => y.2 == .free).reverse.map (fun y => (y.1, (env.cells.lookup y.1).getD 0)) ++ cs) := by
    intro l
    induction l with
    | nil => intro cs _; rfl
    | cons y l ih =>
      intro cs hl
      obtain ⟨n, k⟩ := y
      have ih' := fun cs => ih cs fun y hy => hl y (List.mem_cons_of_mem _ hy)
      rw [List.forIn_cons]
      by_cases hk : k = .free
      · subst hk
        obtain ⟨c, hc⟩ := hl (n, .free) List.mem_cons_self rfl
        have e : cellOf env n = pure c := by unfold cellOf; rw [hc]
        simp only [beq_self_eq_true, if_true, e, pure_bind]
        rw [ih']
        rw [List.filter_cons_of_pos (by rfl), List.reverse_cons, List.map_append, List.append_assoc]
        simp [hc]
      · have hb : (k == NameKind.free) = false := by simpa using hk
        simp only [hb, Bool.false_eq_true, if_false, pure_bind]
        rw [ih', List.filter_cons_of_neg (by simp [hb])]
  have := key scope.names [] h
  rw [List.append_nil] at this
  first
    | exact this
    | (rw [this]; rfl)
    | (simp only [bind_pure]; exact this)

theorem lookup_map_snd {f : Str → Addr} {x : Str} {c : Addr} : ∀ {l : List (Str × NameKind)}, (l.map fun y => (y.1, f y.1)).lookup x = some c → c = f x ∧ ∃ k, (x, k) ∈ l
  | [], h => by simp at h
  | (n, k) :: l, h => by
    rw [List.map_cons, List.lookup_cons] at h
    cases e : x == n with
    | true =>
      rw [e] at h
      have e' : x = n := by simpa using e
      subst e'
      exact ⟨(Option.some.inj h).symm, k, List.mem_cons_self⟩
    | false =>
      rw [e] at h
      obtain ⟨h1, k', h2⟩ := lookup_map_snd h
      exact ⟨h1, k', List.mem_cons_of_mem _ h2⟩
theorem lookup_map_has {f : Str → Addr} {x : Str} {k : NameKind} : ∀ {l : List (Str × NameKind)}, (x, k) ∈ l → (l.map fun y => (y.1, f y.1)).lookup x = some (f x)
  | [], h => nomatch h
  | (n, k') :: l, h => by
    rw [List.map_cons, List.lookup_cons]
    cases e : x == n with
    | true =>
      have e' : x = n := by simpa using e
      subst e'
      rfl
    | false =>
      rcases List.mem_cons.mp h with q | q
      · cases q
        simp at e
      · exact lookup_map_has q
theorem clOf_sub {scope : Scope} {env : Env} (h : ∀ y ∈ scope.names, y.2 = .free → ∃ c, env.cells.lookup y.1 = some c) {x : Str} {c : Addr} (e : (clOf scope env).lookup x = some c) : env.cells.lookup x = some c := by
  obtain ⟨h1, k, h2⟩ := lookup_map_snd (f := fun x => (env.cells.lookup x).getD 0) e
  have h3 := List.mem_filter.mp (List.mem_reverse.mp h2)
  obtain ⟨c', hc⟩ := h (x, k) h3.1 (by simpa using h3.2)
  have hc' : env.cells.lookup x = some c' := hc
  rw [hc'] at h1 ⊢
  rw [h1]
  rfl
theorem clOf_has {scope : Scope} {env : Env} {x : Str} (h : (x, NameKind.free) ∈ scope.names) : (clOf scope env).lookup x = some ((env.cells.lookup x).getD 0) :=
  lookup_map_has (f := fun x => (env.cells.lookup x).getD 0) (k := .free) (List.mem_reverse.mpr (List.mem_filter.mpr ⟨h, rfl⟩))

theorem relabel_lookup {scope : Scope} {env : Env} {x : Str} : (relabel scope env).names.lookup x = (scope.names.lookup x).map fun k => if (k == .free && env.scope.kind == .function && env.kindOf x == some .cell) = true then .cell else k := by
  unfold relabel
  show List.lookup x (scope.names.map _) = _
  induction scope.names with
  | nil => rfl
  | cons y l ih =>
    obtain ⟨n, k⟩ := y
    rw [List.map_cons]
    show List.lookup x ((if (k == NameKind.free && env.scope.kind == ScopeKind.function && env.kindOf n == some NameKind.cell) = true then (n, NameKind.cell) else (n, k)) :: _) = _
    cases e : x == n with
    | true =>
      have e' : x = n := by simpa using e
      subst e'
      by_cases hc : (k == NameKind.free && env.scope.kind == ScopeKind.function && env.kindOf x == some NameKind.cell) = true
      · rw [if_pos hc, List.lookup_cons, List.lookup_cons, e]
        show some _ = some (if _ then _ else _)
        rw [if_pos hc]
      · rw [if_neg hc, List.lookup_cons, List.lookup_cons, e]
        show some _ = some (if _ then _ else _)
        rw [if_neg hc]
    | false =>
      by_cases hc : (k == NameKind.free && env.scope.kind == ScopeKind.function && env.kindOf n == some NameKind.cell) = true
      · rw [if_pos hc, List.lookup_cons, List.lookup_cons, e]
        exact ih
      · rw [if_neg hc, List.lookup_cons, List.lookup_cons, e]
        exact ih

def compCx (X : Cx) (N : List Str) (scope : Scope) (C : Addr) (s : Shared) (H : Hp) (fp : List Addr) : Cx where
  prog := X.prog
  w := X.w
  K := X.K
  mg := X.mg
  base := X.base
  A := X.A
  N := N
  s₀ := s
  H₀ := H
  env := compEnvC scope (clOf scope X.env) C X.env
  outer := X.stack
  stack := X.stack
  ex := fp
  fn := fun _ => false
  calm := X.calm
  pn := []
  xe := fun _ _ => False

def compSt (own : Nat) (caps : List Nat) (σ : St) : St := List.replicate own none ++ caps.map fun j => (σ[j]?).getD none
structure CompOk (X : Cx) (N : List Str) (scope : Scope) (own : Nat) (caps : List Nat) : Prop where
  kind : scope.kind = .function
  names : ∀ y ∈ scope.names, y.2 = .local → scope.names.lookup y.1 = some .local
  nocell : ∀ y ∈ scope.names, y.2 ≠ .cell
  free : ∀ y ∈ scope.names, y.2 = .free → X.env.kindOf y.1 = some .cell ∨ X.env.kindOf y.1 = some .free
  len : N.length = own + caps.length
  cap : ∀ (i j : Nat) (x : Str), caps[i]? = some j → N[own + i]? = some x → X.N[j]? = some x ∧ scope.names.lookup x = some .free

theorem CompOk.cells {X : Cx} {N : List Str} {scope : Scope} {own : Nat} {caps : List Nat} (O : CompOk X N scope own caps) (ok : X.Ok) : ∀ y ∈ scope.names, y.2 = .free → ∃ c, X.env.cells.lookup y.1 = some c :=
  fun y hy hf => ok.has y.1 (O.free y hy hf)

section
variable {X : Cx} {pins : List (Addr × Obj)} {σ : St} {H : Hp} {s : Shared} {N : List Str} {scope : Scope} {own : Nat} {caps : List Nat}
theorem Inv.block {h₁ : Heap} {tk : Nat} {fp : List Addr} (O : CompOk X N scope own caps) (I : Inv X pins σ H s) (hf : ∀ b ∈ fp, FpOk X pins H b) (hlt : ∀ b ∈ fp, b < s.heap.objs.size) {m : Str → Option Value} (hns : h₁.Ns s.heap.objs.size m)
    (hk : ∀ b o, s.heap.get? b = some o → h₁.get? b = some o) : Inv (compCx X N scope s.heap.objs.size s H fp) [] (compSt own caps σ) H { s with heap := h₁, toks := tk } := by
  have hcl := O.cells I.ok
  have sub : ∀ x c, (clOf scope X.env).lookup x = some c → X.env.cells.lookup x = some c := fun x c e => clOf_sub hcl e
  have stk : ∀ b ∈ fp, b ∉ frs X.stack := fun b hb z => by
    obtain ⟨_, f1, f2, _⟩ := hf b hb
    rcases List.mem_cons.mp (I.stkSub b z) with q | q
    · exact f1 q
    · exact f2 q
  have nocl : ∀ x, (relabel scope X.env).names.lookup x = some .cell ∨ (relabel scope X.env).names.lookup x = some .free → (x, NameKind.free) ∈ scope.names := fun x hx => by
    rw [relabel_lookup] at hx
    cases e : scope.names.lookup x with
    | none => rw [e] at hx; rcases hx with hx | hx <;> cases hx
    | some k =>
      have hm := PySem.mem_of_lookup e
      have hc := O.nocell _ hm
      cases k with
      | free => exact hm
      | cell => exact absurd rfl hc
      | _ => rw [e] at hx; rcases hx with hx | hx <;> simp at hx
  have ok : (compCx X N scope s.heap.objs.size s H fp).Ok :=
    { mod := I.ok.mod
      kind := O.kind
      glob := I.ok.glob
      blt := I.ok.blt
      above := Nat.le_refl _
      inj := fun x y c h1 h2 => I.ok.inj x y c (sub x c h1) (sub y c h2)
      has := fun x hx => ⟨_, clOf_has (nocl x hx)⟩
      cab := fun x c h _ => by cases h
      hd := I.ok.hd
      frames := I.ok.frames
      stk := .inl rfl
      exf := fun b hb => ⟨Nat.ne_of_lt (hlt b hb), fun x c e => (hf b hb).2.2.2.2.1 x c (sub x c e)⟩
      bs := I.bs
      bsz := Nat.le_trans I.ok.bsz I.sz
      noex := fun b o e hb => by
        rcases (hf b hb).2.2.2.1 with z | z
        · exact I.ok.noex b o e z
        · exact absurd (Nat.lt_of_lt_of_le (Heap.lt_size e) (Nat.le_trans I.ok.bsz z)) (Nat.lt_irrefl _)
      exfs := stk
      funs := I.stack
      frf := I.stkFree }
  have hC : H s.heap.objs.size = none := I.hok.fresh (Nat.le_refl _)
  refine ⟨ok, rfl, I.bare, Un.kept hk, ⟨m, hns, fun i x v h1 h2 h3 => ?_⟩, fun x c e => ?_, hC, fun x c e => I.freeC x c (sub x c e), fun p hp => absurd (show p ∈ ([] : List (Addr × Obj)) from hp) (by simp), I.hok.kept hk, ?_⟩
  · -- a name of the def
    have hi : own ≤ i := by
      by_cases q : own ≤ i
      · exact q
      · unfold compSt at h2
        rw [List.getElem?_append_left (by simp; omega), List.getElem?_replicate] at h2
        split at h2 <;> cases h2
    obtain ⟨k, rfl⟩ : ∃ k, i = own + k := ⟨i - own, by omega⟩
    unfold compSt at h2
    rw [List.getElem?_append_right (by simp), List.length_replicate, Nat.add_sub_cancel_left, List.getElem?_map] at h2
    cases e : caps[k]? with
    | none => rw [e] at h2; cases h2
    | some j =>
      rw [e] at h2
      have h2' : (σ[j]?).getD none = some v := Option.some.inj h2
      obtain ⟨e1, e2⟩ := O.cap k j x e h1
      have e3 := PySem.mem_of_lookup e2
      have hkd := O.free _ e3 rfl
      have h4 : σ[j]? = some (some v) := by
        cases q : σ[j]? with
        | none => rw [q] at h2'; cases h2'
        | some o => rw [q] at h2'; rw [show o = some v from h2']
      have hvis : Vis X.env.scope x := .inr hkd
      obtain ⟨mo, _, hl⟩ := I.loc
      obtain ⟨u, r, l⟩ := hl j x v e1 h4 hvis
      refine ⟨u, r, .inr ⟨?_, ?_⟩⟩
      · show (relabel scope X.env).names.lookup x = some .cell ∨ (relabel scope X.env).names.lookup x = some .free
        rw [relabel_lookup, e2]
        show some (if _ then NameKind.cell else NameKind.free) = _ ∨ some (if _ then NameKind.cell else NameKind.free) = _
        split
        · exact .inl rfl
        · exact .inr rfl
      · rcases l with ⟨q, _⟩ | ⟨_, c, hc, z⟩
        · have hkd' : X.env.kindOf x = some .cell ∨ X.env.kindOf x = some .free := hkd
          rw [q] at hkd'
          rcases hkd' with hkd' | hkd' <;> cases hkd'
        · refine ⟨c, ?_, z.keeps hk⟩
          show (clOf scope X.env).lookup x = some c
          rw [clOf_has e3, hc]
          rfl
  · obtain ⟨v, z⟩ := I.cell x c (sub x c e)
    exact ⟨v, z.keeps hk⟩
  · show (compSt own caps σ).length = N.length
    unfold compSt
    rw [List.length_append, List.length_replicate, List.length_map, O.len]

theorem Inv.blockEnd {fp : List Addr} {σ' : St} {H' : Hp} {s' : Shared} (I : Inv X pins σ H s) (hf : ∀ b ∈ fp, FpOk X pins H b) (J : Inv (compCx X N scope s.heap.objs.size s H fp) [] σ' H' s') : Inv X pins σ H' s' :=
  I.call' (ch := fp) J.os J.base J.hok J.bare fun b hb => ⟨(hf b hb).2.2.2.1, (hf b hb).2.1, (hf b hb).2.2.2.2.1, (hf b hb).2.2.2.2.2⟩
theorem Inv.off {h' : Heap} {C : Addr} (I : Inv X pins σ H s) (hC : H C = none) (hL : C ≠ X.env.locals) (h1 : X.s₀.heap.objs.size ≤ C) (h2 : ∀ x c, X.env.cells.lookup x = some c → c ≠ C) (h3 : ∀ p ∈ X.pn ++ pins, p.1 ≠ C) (sb : Heap.SameBut C s.heap h') :
    Inv X pins σ H { s with heap := h' } :=
  I.turned (t' := s.toks) (it := C) (fun b o hb e => (sb.2 b hb).trans e) hC hL (.inr h1) h2 h3
end

def PIfs (X : Cx) (ifs : List Expr) (t : TT) : Prop :=
  ∀ (pins : List (Addr × Obj)) (s : Shared) (σ : St) (H : Hp) (Q : Bool → Hp → Prop), Inv X pins σ H s → t σ H Q →
    wpAny (model X.prog X.w) X.A (forIn ifs true fun c r => if r = true then do let ok ← isTrue c X.env (eval c X.env); pure (ForInStep.yield ok) else pure (ForInStep.yield r)) (TP X pins σ Q) X.xe s
def tYes : TT := fun _ H Q => Q true H
theorem pf_nil {X : Cx} : PIfs X [] tYes := fun _ _ _ H _ I h => wpAny_tests_nil ⟨H, I, h⟩
theorem pf_one {X : Cx} {c : Expr} {t : TT} (h : PT X c t) : PIfs X [c] t := fun pins s σ H Q I hw => wpAny_tests_one (h pins s σ H Q I hw)

def tComp (wi : TI) (g : TG) (tc : TT) (te : TE) (own : Nat) (caps : List Nat) : TE := fun σ H Q => wi σ H fun J H1 => ∀ D, H1 D = none → ∃ W : Nat → Nat → St → Hp → Prop, (∃ m, W 0 m (compSt own caps σ) (upd H1 D (.lst []))) ∧ ∀ i m σ' H', W i m σ' H' →
  (J.stop i H' ∧ Q (.ref D) H') ∨ (J.go i H' ∧ ∃ N : St → Hp → Prop, (∀ σ'' H'', N σ'' H'' → ∃ m', m' < m ∧ W (i + 1) m' σ'' H'') ∧ ∀ x H2, J.yld i H' x H2 → g x σ' H2 fun σ3 H3 => tc σ3 H3 fun b H4 =>
    if b = true then te σ3 H4 fun y H5 => ∃ ys, H5 D = some (.lst ys) ∧ ys.length < sizeLine ∧ N σ3 (upd H5 D (.lst (ys ++ [y]))) else N σ3 H4)

section
variable {X : Cx} {N : List Str} {scope : Scope} {own : Nat} {caps : List Nat} {tg iter elt : Expr} {ifs : List Expr} {wi : TI} {g : TG} {tc : TT} {te : TE} {pos : Pos}
theorem comp_run {use : Option (Value → Sem Unit)} {QQ : Value → Shared → Prop} (O : CompOk X N scope own caps) (hc : X.calm = true) (hi : PI X tg iter wi) (hg : ∀ C s H fp, PG (compCx X N scope C s H fp) tg g) (ht : ∀ C s H fp, PIfs (compCx X N scope C s H fp) ifs tc)
    (he : ∀ C s H fp, PE (compCx X N scope C s H fp) elt te) (hs : ∀ x, foldedSetIterable iter X.env x = pure x)
    {pins : List (Addr × Obj)} {s : Shared} {σ : St} {H : Hp} {Q : VK} (I : Inv X pins σ H s) (h : tComp wi g tc te own caps σ H Q)
    (fin : ∀ D C H' s' m, Inv X pins σ H' s' → Q (.ref D) H' → s'.heap.Ns C m → H' C = none → C ≠ X.env.locals → X.s₀.heap.objs.size ≤ C → (∀ x c, X.env.cells.lookup x = some c → c ≠ C) → (∀ p ∈ X.pn ++ pins, p.1 ≠ C) →
      compPost (model X.prog X.w) X.A X.xe use QQ (.ref D) C (.ok .next) s') :
    wpAny (model X.prog X.w) X.A (comprehension (.ListComp elt [⟨tg, iter, ifs, 0⟩] scope pos) scope X.env (firstIterPos [⟨tg, iter, ifs, 0⟩] pos) (newList []) false (eval iter X.env) use) QQ X.xe s := by
  refine wpAny_comprehension_free (use := use) rfl hs (closureFor_clOf (O.cells I.ok)) O.kind O.names (thn (hi pins s σ H _ I h) fun v s1 h1 => thn h1 fun itv s2 h2 => ?_)
  obtain ⟨it, fp, tn, J, H2, e, I2, T, st2, f2, q⟩ := h2
  subst e
  refine wpAny_newObj_type (wpAny_newFunctionEnv O.nocell (by intro y hy; simp at hy) (fun h₁ hns hsb => ?_) O.kind)
  dsimp only at hns hsb ⊢
  have hD : H2 s2.heap.objs.size = none := I2.hok.fresh (Nat.le_refl _)
  obtain ⟨W, ⟨m0, w0⟩, turn⟩ := q s2.heap.objs.size hD
  have I3 : Inv X pins σ (upd H2 s2.heap.objs.size (.lst [])) { s2 with heap := s2.heap.push { cls := .type "list", dict := none, data := .seq ([] : List Value).toArray } } :=
    I2.lnew (its := []) (t' := s2.toks) .nil (Nat.zero_le _)
  generalize hs3 : ({ s2 with heap := s2.heap.push { cls := .type "list", dict := none, data := .seq ([] : List Value).toArray } } : Shared) = s3 at I3
  have hsz3 : s3.heap.objs.size = s2.heap.objs.size + 1 := by rw [← hs3]; exact Heap.size_push ..
  have hns' : h₁.Ns s3.heap.objs.size (fun x => ([] : List (Str × Value)).reverse.lookup x) := by rw [← hs3]; exact hns
  have hk : ∀ b o, s3.heap.get? b = some o → h₁.get? b = some o := fun b o e => by
    rw [← hs3] at e
    exact hsb.extBut b o (Nat.ne_of_lt (Heap.lt_size e)) (Heap.get?_push_of_some _ e)
  have f3 : ∀ b ∈ fp, FpOk X pins (upd H2 s2.heap.objs.size (.lst [])) b := fun b hb => by
    obtain ⟨o, ho, _⟩ := T.obj _ _ st2 b hb
    exact ⟨by rw [upd_ne (Nat.ne_of_lt (Heap.lt_size ho))]; exact (f2 b hb).1, (f2 b hb).2⟩
  have hlt : ∀ b ∈ fp, b < s3.heap.objs.size := fun b hb => by
    obtain ⟨o, ho, _⟩ := T.obj _ _ st2 b hb
    rw [hsz3]
    exact Nat.lt_succ_of_lt (Heap.lt_size ho)
  have st3 : tn 0 h₁ := T.keep _ _ _ st2 fun b hb o e => hk b o (by rw [← hs3]; exact Heap.get?_push_of_some _ e)
  have C3 : ∀ tk, Inv (compCx X N scope s3.heap.objs.size s3 (upd H2 s2.heap.objs.size (.lst [])) fp) [] (compSt own caps σ) (upd H2 s2.heap.objs.size (.lst [])) { s3 with heap := h₁, toks := tk } := fun tk => I3.block O f3 hlt hns' hk
  have nf3 : ∀ b ∈ fp, (upd H2 s2.heap.objs.size (.lst [])) b = none := fun b hb => (f3 b hb).1
  have hCL : s3.heap.objs.size ≠ X.env.locals := Nat.ne_of_gt I3.lt
  have hC1 : X.s₀.heap.objs.size ≤ s3.heap.objs.size := I3.sz
  have hC2 : ∀ x c, X.env.cells.lookup x = some c → c ≠ s3.heap.objs.size := fun x c e => by
    obtain ⟨v, z⟩ := I3.cell x c e
    exact Nat.ne_of_lt z.lt
  have hC3 : ∀ p ∈ X.pn ++ pins, p.1 ≠ s3.heap.objs.size := fun p hp => Nat.ne_of_lt (Heap.lt_size (I3.pin p hp).1)
  have hst : ∀ {H' : Hp}, (∀ b ∈ fp, H' b = none) → ∀ b ∈ fp, FpOk (compCx X N scope s3.heap.objs.size s3 (upd H2 s2.heap.objs.size (.lst [])) fp) [] H' b := fun hn b hb => by
    refine ⟨hn b hb, Nat.ne_of_lt (hlt b hb), fun z => ?_, .inl hb, fun x c e => (f3 b hb).2.2.2.2.1 x c (clOf_sub (O.cells I.ok) e), fun p hp => absurd (show p ∈ ([] : List (Addr × Obj)) from hp) (by simp)⟩
    exact (C3 0).ok.exfs b hb z
  have loop : ∀ s4 : Shared, (∃ tk, s4 = { s3 with heap := h₁, toks := tk }) →
      codeAny (model X.prog X.w) X.A (.compLoop (.ListComp elt [⟨tg, iter, ifs, 0⟩] scope pos) 0 (.ref it) (.ref s2.heap.objs.size) (compEnvC scope (clOf scope X.env) s3.heap.objs.size X.env))
        (compPost (model X.prog X.w) X.A X.xe use QQ (.ref s2.heap.objs.size) s3.heap.objs.size) s4 := by
    rintro s4 ⟨tk, rfl⟩
    refine compLoop_own (fun n s' => ∃ i σ' H', Inv (compCx X N scope s3.heap.objs.size s3 (upd H2 s2.heap.objs.size (.lst [])) fp) [] σ' H' s' ∧ tn i s'.heap ∧ (∀ b ∈ fp, H' b = none) ∧ W i n σ' H') ?_ m0 ⟨0, _, _, C3 tk, st3, nf3, w0⟩
    rintro n s5 ⟨i, σ5, H5, I5, st5, fr5, w5⟩
    rcases turn i n σ5 H5 w5 with ⟨stop, qn⟩ | ⟨go, NN, hN, step⟩
    · refine thn (T.done (compCx X N scope s3.heap.objs.size s3 (upd H2 s2.heap.objs.size (.lst [])) fp) rfl rfl rfl hc i [] s5 σ5 H5 _ I5 (hst fr5) st5 stop) fun r s6 ⟨hr, I6⟩ => ?_
      subst hr
      obtain ⟨m6, hn6, _⟩ := id I6.loc
      exact fin _ _ H5 s6 m6 (I3.blockEnd f3 I6) qn hn6 I6.free hCL hC1 hC2 hC3
    · refine thn (T.item (compCx X N scope s3.heap.objs.size s3 (upd H2 s2.heap.objs.size (.lst [])) fp) rfl rfl rfl hc i [] s5 σ5 H5 _ I5 (hst fr5) st5 go) fun r s6 ⟨u, hr, h6⟩ => ?_
      subst hr
      refine thn h6 fun _ s7 ⟨x, H7, I7, r7, y7, st7, fr7⟩ => ?_
      have I7' := I7.pinned (hst fr7) (T.obj _ _ st7)
      refine thn (hg _ _ _ _ _ s7 σ5 H7 x u _ I7' r7 (step x H7 y7)) fun _ s8 ⟨σ8, H8, I8, q8⟩ => ?_
      refine thn (ht _ _ _ _ _ s8 σ8 H8 _ I8 q8) fun ok s9 ⟨H9, I9, q9⟩ => ?_
      have again : ∀ {s10 : Shared} {σ10 : St} {H10 : Hp}, Inv (compCx X N scope s3.heap.objs.size s3 (upd H2 s2.heap.objs.size (.lst [])) fp) ([] ++ pinsAt fp s7.heap) σ10 H10 s10 → NN σ10 H10 →
          ∃ m, m < n ∧ ∃ i σ' H', Inv (compCx X N scope s3.heap.objs.size s3 (upd H2 s2.heap.objs.size (.lst [])) fp) [] σ' H' s10 ∧ tn i s10.heap ∧ (∀ b ∈ fp, H' b = none) ∧ W i m σ' H' := fun {s10 σ10 H10} I10 n10 => by
        obtain ⟨m', hm, w10⟩ := hN σ10 H10 n10
        refine ⟨m', hm, i + 1, σ10, H10, I10.unpinned, T.keep _ _ _ st7 fun b hb o e => (I10.pin (b, o) (List.mem_append_right _ (List.mem_append_right _ (mem_pinsAt hb e)))).1, fun b hb => ?_, w10⟩
        obtain ⟨o, e, d⟩ := T.obj _ _ st7 b hb
        exact (I10.pin (b, o) (List.mem_append_right _ (List.mem_append_right _ (mem_pinsAt hb e)))).2.1
      cases ok with
      | false =>
        rw [if_neg Bool.false_ne_true] at q9 ⊢
        exact again I9 q9
      | true =>
        rw [if_pos rfl] at q9 ⊢
        refine thn (he _ _ _ _ _ s9 σ8 H9 _ I9 q9) fun y s10 ⟨vy, H10, I10, r10, ys, hys, hyl, q10⟩ => ?_
        refine thn (mt_append (X := compCx X N scope s3.heap.objs.size s3 (upd H2 s2.heap.objs.size (.lst [])) fp) _ s10 σ8 H10 (.ref s2.heap.objs.size) [vy] (.ref s2.heap.objs.size) [y] (fun _ H11 => NN σ8 H11) I10 rfl (.cons r10 .nil) ⟨_, ys, vy, rfl, rfl, hys, hyl, q10⟩) fun _ s11 ⟨_, H11, I11, _, q11⟩ => ?_
        exact again I11 q11
  subst hs3
  exact codeAny_compStart_list (loop _ ⟨_, rfl⟩) (T.self _ _ _ _ _ st3 (loop _ ⟨_, rfl⟩))

theorem pe_comp (O : CompOk X N scope own caps) (hc : X.calm = true) (hi : PI X tg iter wi) (hg : ∀ C s H fp, PG (compCx X N scope C s H fp) tg g) (ht : ∀ C s H fp, PIfs (compCx X N scope C s H fp) ifs tc)
    (he : ∀ C s H fp, PE (compCx X N scope C s H fp) elt te) (hs : ∀ x, foldedSetIterable iter X.env x = pure x := by intro _; rfl) : PE X (.ListComp elt [⟨tg, iter, ifs, 0⟩] scope pos) (tComp wi g tc te own caps) := by
  intro pins s σ H Q I h
  rw [eval_ListComp]
  refine comp_run (use := none) O hc hi hg ht he hs I h fun D C H' s' m I' q hn h0 h1 h2 h3 h4 => ?_
  exact ⟨m, hn, fun h' sb => ⟨.ref D, H', I'.off h0 h1 h2 h3 h4 sb, rfl, q⟩⟩
theorem ps_comp {i : Nat} {y : Str} {py spos : Pos} (hN : X.N.Nodup) (hi' : X.N[i]? = some y) (hy : X.env.scope.names.lookup y = some .local) (O : CompOk X N scope own caps) (hc : X.calm = true) (hi : PI X tg iter wi) (hg : ∀ C s H fp, PG (compCx X N scope C s H fp) tg g)
    (ht : ∀ C s H fp, PIfs (compCx X N scope C s H fp) ifs tc) (he : ∀ C s H fp, PE (compCx X N scope C s H fp) elt te)
    (hsw : swapsWith (.ListComp elt [⟨tg, iter, ifs, 0⟩] scope pos) (some (.Name y py)) spos.line X.env = pure true := by rfl) (hs : ∀ x, foldedSetIterable iter X.env x = pure x := by intro _; rfl) :
    PS X (.Assign [.Name y py] (.ListComp elt [⟨tg, iter, ifs, 0⟩] scope pos) spos) (tAsg (tComp wi g tc te own caps) (gName i)) := by
  intro pins s σ H D I h
  rw [exec_Assign_Name_used _ _ _ _ hsw]
  refine wpAny_bind (wpAny_standAt (wpAny_bind ?_))
  show wpAny _ _ (do let _ ← comprehension (.ListComp elt [⟨tg, iter, ifs, 0⟩] scope pos) scope X.env _ (newList []) false (eval iter X.env) (some (assign (.Name y py) X.env))) _ _ s
  refine wpAny_bind (wpAny_mono (comp_run (use := some (assign (.Name y py) X.env)) (QQ := fun _ s' => SP X pins D .next s') O hc hi hg ht he hs I h fun L C H' s' m I' q hn h0 h1 h2 h3 h4 => ?_) (fun _ s' hq => wpAny_pure (wpAny_pure hq)) fun _ _ e => e)
  refine wpAny_assign_Name (store_ok2 I' hN hi' (.inl hy) (v := .ref L) rfl (fun s2 I2 ⟨a, sb, ha⟩ => ?_) (.inr hy))
  have hac : C ≠ a := by
    rcases ha with ha | ha
    · rw [ha]; exact h1
    · exact (h3 _ _ ha).symm
  exact ⟨m, hn.sameBut sb hac, fun h' sb' => ⟨_, H', I2.off h0 h1 h2 h3 h4 sb', q⟩⟩
end
end L2

set_option maxRecDepth 100000
set_option maxHeartbeats 4000000
namespace PySem
open Sem (wp)
section
variable {prog : Program} {w : World} {A : Around} {E : Value → Shared → Prop} {s : Shared}

theorem nextOf_tup {I T : Addr} {k : Nat} {vals : Array Value} {y : Value} {Q : Value → Shared → Prop} (st : s.heap.IsTupleIter I T k) (tp : s.heap.IsTuple T vals) (hy : vals[k]? = some y)
    (hQ : ∀ h', h'.IsTupleIter I T (k + 1) → Heap.SameBut I s.heap h' → Q y { s with heap := h' }) : wpAny (model prog w) A (Builtin.SmallTypes.nextOf (.ref I)) Q E s := by
  obtain ⟨oI, eI, cI, dI⟩ := id st
  obtain ⟨oT, eT, _, nT, dT⟩ := tp
  unfold Builtin.SmallTypes.nextOf
  refine wpAny_bind (wpAny_callSpecial?_slot (name := Str.ofString "__next__") st.typeIs F.slot_tuple_iterator_next (wpAny_call_entry F.slot_tuple_iterator_next st.typeIs F.entry_tuple_iterator_next ?_ (F.args_tuple_iterator_next_1 _)))
  show wpAny _ _ (field (.ref I) 0 >>= _) _ _ s
  refine wpAny_bind (wpAny_field eI dI (x := .ref T) rfl ?_)
  show wpAny _ _ (if (Value.ref T == Value.none) = true then _ else _) _ _ s
  rw [if_neg (show ¬ ((Value.ref T == Value.none) = true) from Bool.false_ne_true)]
  show wpAny _ _ (field (.ref I) 1 >>= _) _ _ s
  refine wpAny_bind (wpAny_field eI dI (x := .int k 0) rfl ?_)
  show wpAny _ _ (seqItems? (.ref T) >>= _) _ _ s
  refine wpAny_bind (wpAny_seqItems eT dT ?_)
  simp only [Int.toNat_natCast, hy]
  refine wpAny_bind (wpAny_setField eI dI (by simp) (wpAny_pure ⟨y, rfl, wpAny_pure (hQ _ ?_ (Heap.SameBut.update ..))⟩))
  exact ⟨_, Heap.get?_update_self _ eI (Obj.isFreed_of_fields (Obj.data_mapFields dI _)), (Obj.cls_mapFields ..).trans cI, by rw [Obj.data_mapFields dI]; simp [rawInt]⟩

theorem nextOf_tup_end {I T : Addr} {k : Nat} {vals : Array Value} {Q : Value → Shared → Prop} (hh : A.handled = none) (st : s.heap.IsTupleIter I T k) (tp : s.heap.IsTuple T vals) (hy : vals[k]? = none)
    (hE : ∀ h' e, Heap.ExtBut I s.heap h' → (∃ o, h'.get? e = some o ∧ o.cls = .type "StopIteration") → E (.ref e) { s with heap := h' }) : wpAny (model prog w) A (Builtin.SmallTypes.nextOf (.ref I)) Q E s := by
  obtain ⟨oI, eI, cI, dI⟩ := id st
  obtain ⟨oT, eT, _, nT, dT⟩ := tp
  unfold Builtin.SmallTypes.nextOf
  refine wpAny_bind (wpAny_callSpecial?_slot (name := Str.ofString "__next__") st.typeIs F.slot_tuple_iterator_next (wpAny_call_entry F.slot_tuple_iterator_next st.typeIs F.entry_tuple_iterator_next ?_ (F.args_tuple_iterator_next_1 _)))
  show wpAny _ _ (field (.ref I) 0 >>= _) _ _ s
  refine wpAny_bind (wpAny_field eI dI (x := .ref T) rfl ?_)
  show wpAny _ _ (if (Value.ref T == Value.none) = true then _ else _) _ _ s
  rw [if_neg (show ¬ ((Value.ref T == Value.none) = true) from Bool.false_ne_true)]
  show wpAny _ _ (field (.ref I) 1 >>= _) _ _ s
  refine wpAny_bind (wpAny_field eI dI (x := .int k 0) rfl ?_)
  show wpAny _ _ (seqItems? (.ref T) >>= _) _ _ s
  refine wpAny_bind (wpAny_seqItems eT dT ?_)
  simp only [Int.toNat_natCast, hy]
  refine wpAny_bind (wpAny_rule (wpAny_bind (wpAny_setField eI dI (by simp) ?_)))
  show wpAny _ _ (newExc (.type "StopIteration") [] >>= _) _ _ _
  refine wpAny_bind ?_
  simp only [newExc, newTuple]
  refine wpAny_bind (wpAny_newObj_type ?_ (by size_fits))
  refine wpAny_bind (m := firstArgMember _ _) (wpAny_of_eq (a := Value.none) (by first | rfl | (simp only [firstArgMember]; rfl)) ?_)
  refine wpAny_newObj_type ?_ (by size_fits)
  simp only [raiseNew]
  refine wpAny_bind (wpAny_handled ?_)
  first | rw [show A.in1.handled = none from hh] | rw [hh]
  refine wpAny_bind (wpAny_pure (wpAny_throw ?_))
  exact hE _ _ (((Heap.SameBut.update ..).extBut.push _).push _) ⟨_, Heap.get?_push_size _ rfl, rfl⟩
end

theorem Heap.IsTuple.at2 {h h' : Heap} {a : Addr} {vals : Array Value} (x : h.IsTuple a vals) (e : ∀ o, h.get? a = some o → h'.get? a = some o) : h'.IsTuple a vals := let ⟨o, q, r⟩ := x; ⟨o, e o q, r⟩
theorem Heap.IsTupleIter.at2 {h h' : Heap} {a t : Addr} {i : Nat} (x : h.IsTupleIter a t i) (e : ∀ o, h.get? a = some o → h'.get? a = some o) : h'.IsTupleIter a t i := let ⟨o, q, r⟩ := x; ⟨o, e o q, r⟩
theorem Draws.tup {prog : Program} {w : World} {A : Around} (hh : A.handled = none) (I T : Addr) (hne : T ≠ I) (vals : Array Value) :
    Draws prog w A I [I, T] vals.size (fun i v => vals[i]? = some v) (fun i h => h.IsTupleIter I T i ∧ h.IsTuple T vals) where
  live := fun _ _ st => let ⟨o, ho, _⟩ := st.1; ⟨o, ho⟩
  frame := fun _ _ _ st hk => ⟨st.1.at2 fun o e => hk I (by simp) o e, st.2.at2 fun o e => hk T (by simp) o e⟩
  item := fun i s Q E hi st hQ => nextOf_tup st.1 st.2 (y := vals[i]) (by simp [hi]) fun h' st' sb => hQ _ h' s.toks (by simp [hi]) ⟨st', st.2.extBut sb.extBut hne⟩ sb
  done := fun s Q E st hE => nextOf_tup_end hh st.1 st.2 (by simp) hE

section
open AutoSeq1 (wpAny_loadPart')
variable {prog : Program} {w : World} {A : Around} {E : Value → Shared → Prop} {s : Shared}
end
end PySem

namespace L2
open PySem PySem.Spec PyProof.Rows
section
variable {X : Cx} {pins : List (Addr × Obj)} {σ : St} {H : Hp} {s : Shared}
theorem Inv.turnedL {h' : Heap} {t' : Nat} {ch : List Addr} (I : Inv X pins σ H s) (hf : ∀ b ∈ ch, FpOk X pins H b) (k : ∀ b o, b ∉ ch → s.heap.get? b = some o → h'.get? b = some o) : Inv X pins σ H { s with heap := h', toks := t' } := by
  have nit : ∀ b u, H b = some u → b ∉ ch := fun b u e z => by rw [(hf b z).1] at e; cases e
  refine I.step (g' := s.gens) (d' := s.drawn) (ch := ch) (fun b hb => ⟨(hf b hb).2.2.2.1, (hf b hb).2.1, (hf b hb).2.2.2.2.1, (hf b hb).2.2.2.2.2⟩) (fun b o _ _ hc e _ => k b o hc e) (fun b o _ _ hc e _ => ⟨o.slots, k b o hc e⟩) (fun _ _ _ _ n => n)
    (fun b o hc e => ⟨o, k b o hc e⟩) (fun _ _ e => e) (fun _ _ _ e => e) (fun b ps e => ⟨#[], by rw [e]; simp⟩) (fun m hm => ?_) (fun b u e => ?_) I.bare
  · obtain ⟨o, es, ep, ho, r⟩ := hm
    exact ⟨o, es, ep, k _ o (fun z => (hf _ z).2.1 rfl) ho, r⟩
  · refine (I.hok b u e).stay (fun c v hc q => k c v ?_ q) (fun _ q => q) fun _ _ q => q
    rcases hc with z | z
    · rw [z]; exact nit b u e
    · exact nit c _ z
theorem Inv.track {a : Addr} {o : HO} (I : Inv X pins σ H s) (ha : X.s₀.heap.objs.size ≤ a) (hn : H a = none) (hL : a ≠ X.env.locals) (hc : ∀ x c, X.env.cells.lookup x = some c → c ≠ a) (hp : ∀ p ∈ X.pn ++ pins, p.1 ≠ a)
    (new : ObjOk X.prog X.w (upd H a o) s.heap a o) : Inv X pins σ (upd H a o) s := by
  have ne : ∀ b ob, X.s₀.heap.get? b = some ob → b ≠ a := fun b ob e => Nat.ne_of_lt (Nat.lt_of_lt_of_le (Heap.lt_size e) ha)
  refine ⟨I.ok, I.os, I.bare, ⟨I.base.keep, I.base.slot, fun b ob e n hx => by rw [upd_ne (ne b ob e)]; exact I.base.free b ob e n hx, I.base.there, fun b xs e => ?_, fun b ob u e => ?_, fun b ps e => ?_⟩, I.loc, I.cell, by rw [upd_ne hL.symm]; exact I.free,
    fun x c e => by rw [upd_ne (hc x c e)]; exact I.freeC x c e, fun p hpp => ?_, fun b u e => ?_, I.len⟩
  · have q := I.base.tups b xs e
    rw [upd_ne (ne_of_none q hn)]; exact q
  · have q := I.base.frzs b ob u e
    rw [upd_ne (ne_of_none q hn)]; exact q
  · obtain ⟨more, q⟩ := I.base.tbls b ps e
    exact ⟨more, by rw [upd_ne (ne_of_none q hn)]; exact q⟩
  · obtain ⟨e1, n1, r⟩ := I.pin p hpp
    exact ⟨e1, by rw [upd_ne (hp p hpp)]; exact n1, r⟩
  · by_cases hb : b = a
    · subst hb; rw [upd_same] at e; cases e; exact new
    · rw [upd_ne hb] at e
      exact (I.hok b u e).stay (fun c v _ q => q) (fun c q => by rw [upd_ne (ne_of_none q hn)]; exact q) fun c xs q => by rw [upd_ne (ne_of_none q hn)]; exact q
theorem Inv.yields {h' : Heap} {t' : Nat} {ch : List Addr} {T : Addr} {xs : List V} {vals : List Value} (I : Inv X pins σ H s) (hf : ∀ b ∈ ch, FpOk X pins H b) (k : ∀ b o, b ∉ ch → s.heap.get? b = some o → h'.get? b = some o)
    (hT : s.heap.objs.size ≤ T) (tp : h'.IsTuple T vals.toArray) (r : Vals xs vals) (hz : xs.length ≤ sizeLine) : Inv X pins σ (upd H T (.tup xs)) { s with heap := h', toks := t' } := by
  have f : FpOk X pins H T := I.fpOk hT (I.hok.fresh hT)
  have I1 : Inv X pins σ H { s with heap := h', toks := t' } := I.turnedL hf k
  exact I1.track (Nat.le_trans I.sz hT) f.1 f.2.1 f.2.2.2.2.1 f.2.2.2.2.2 ⟨hz, vals, r, tp⟩
theorem fp_upd {ch : List Addr} {T : Addr} {o : HO} (hf : ∀ b ∈ ch, FpOk X pins H b) (hT : ∀ b ∈ ch, b ≠ T) : ∀ b ∈ ch, FpOk X pins (upd H T o) b := fun b hb => ⟨by rw [upd_ne (hT b hb)]; exact (hf b hb).1, (hf b hb).2⟩
end

def Ite (Sq : Hp → List V → Prop) : It :=
  ⟨fun i H => ∃ xs x, Sq H xs ∧ xs[i]? = some x, fun i H y H' => ∃ T, H T = none ∧ y = .ref T ∧ ∀ xs x, Sq H xs → xs[i]? = some x → H' = upd H T (.tup [.int i, x]), fun i H => ∃ xs, Sq H xs ∧ xs.length ≤ i⟩
section
variable {X : Cx} {elts : List Expr} {k : Nat} {tp : Pos}
def iEnumL (K : PySem.W.Frag) (ta : TA) : TI := fun σ H R => ta σ H fun vs H1 => ∃ a, vs = [.ref a] ∧ (∃ xs, SqL K H1 a xs) ∧ R (Ite fun H xs => SqL K H a xs) H1
def iEnumT (K : PySem.W.Frag) (ta : TA) : TI := fun σ H R => ta σ H fun vs H1 => ∃ a, vs = [.ref a] ∧ (∃ xs, SqT K H1 a xs) ∧ R (Ite fun H xs => SqT K H a xs) H1
end
end L2

set_option maxRecDepth 100000
set_option maxHeartbeats 4000000
namespace PySem
open Sem (wp)
section
variable {prog : Program} {w : World} {A : Around} {E : Value → Shared → Prop} {s : Shared}

theorem zipT_item {z TI TO i1 i2 t1 t2 : Addr} {k : Nat} {xs ys : Array Value} {x y a b : Value} {Q : Value → Shared → Prop} (D : ZipApart z TI TO i1 i2 t1 t2) (Z0 : IsZip s.heap z TI TO .none) (PI0 : IsPair s.heap TI (.ref i1) (.ref i2)) (PO0 : IsPair s.heap TO a b)
    (w1 : s.heap.IsTupleIter i1 t1 k) (w2 : s.heap.IsTupleIter i2 t2 k) (p1 : s.heap.IsTuple t1 xs) (p2 : s.heap.IsTuple t2 ys) (ex : xs[k]? = some x) (ey : ys[k]? = some y)
    (fin : ∀ h', IsZip h' z TI TO (rawInt s.heap.objs.size) → IsPair h' TO x y → h'.IsTupleIter i1 t1 (k + 1) → h'.IsTupleIter i2 t2 (k + 1) → IsPair h' s.heap.objs.size x y →
      (∀ c o, c ≠ z → c ≠ TO → c ≠ i1 → c ≠ i2 → s.heap.get? c = some o → h'.get? c = some o) → Q (.ref s.heap.objs.size) { s with heap := h' }) :
    wpAny (model prog w) A (Builtin.«zip.__next__» ⟨[.ref z], []⟩) (fun fn s' => ∃ v, fn = .done (.ret v) ∧ Q v s') E s := by
  show wpAny _ _ (field (.ref z) 2 >>= _) _ _ _
  refine wpAny_bind (wpAny_field Z0 rfl (x := .bool false) rfl ?_)
  show wpAny _ _ (field (.ref z) 3 >>= _) _ _ _
  refine wpAny_bind (wpAny_field Z0 rfl (x := .ref TI) rfl (wpAny_bind (wpAny_seqItems PI0 rfl ?_)))
  show wpAny _ _ (Builtin.SmallTypes.ownedTupleIsFree (.ref z) >>= _) _ _ _
  refine wpAny_bind ?_
  unfold Builtin.SmallTypes.ownedTupleIsFree
  refine wpAny_bind (wpAny_field Z0 rfl (x := .none) rfl (wpAny_pure ?_))
  simp only [if_true]
  refine wpAny_bind (wpAny_rule (wpAny_bind (wpAny_field Z0 rfl (x := .ref TO) rfl ?_)))
  refine wpAny_bind (wpAny_setField_rec Z0 (by simp) fun g1 Z1 b1 => ?_)
  replace Z1 : IsZip g1 z TI TO .ellipsis := Z1
  refine wpAny_bind ?_
  simp only [List.zipIdx_cons, List.zipIdx_nil, List.forIn_cons, List.forIn_nil]
  refine wpAny_bind (wpAny_bind (wpAny_onRaise ?_))
  show wpAny _ _ (Builtin.SmallTypes.nextOf (.ref i1) >>= _) _ _ _
  refine wpAny_bind (nextOf_tup (w1.extBut b1.extBut D.i1z) (p1.extBut b1.extBut D.l1z) ex fun g2 v1 b2 => wpAny_pure ?_)
  have PO2 : IsPair g2 TO a b := b2.extBut _ _ D.TOi1 (b1.extBut _ _ D.TOz PO0)
  refine wpAny_bind (wpAny_seqItems PO2 rfl (wpAny_bind (wpAny_updateSeq_pair PO2 fun g3 PO3 b3 => ?_)))
  replace PO3 : IsPair g3 TO x b := PO3
  refine wpAny_bind (wpAny_letGo (wpAny_pure (wpAny_bind (wpAny_bind (wpAny_onRaise ?_)))))
  show wpAny _ _ (Builtin.SmallTypes.nextOf (.ref i2) >>= _) _ _ _
  have w2' : g3.IsTupleIter i2 t2 k := ((w2.extBut b1.extBut D.i2z).extBut b2.extBut D.i12.symm).extBut b3.extBut D.TOi2.symm
  have p2' : g3.IsTuple t2 ys := ((p2.extBut b1.extBut D.l2z).extBut b2.extBut D.l2i1).extBut b3.extBut D.l2TO
  refine wpAny_bind (nextOf_tup w2' p2' ey fun g4 v2 b4 => wpAny_pure ?_)
  have PO4 : IsPair g4 TO x b := b4.extBut _ _ D.TOi2 PO3
  refine wpAny_bind (wpAny_seqItems PO4 rfl (wpAny_bind (wpAny_updateSeq_pair PO4 fun g5 PO5 b5 => ?_)))
  replace PO5 : IsPair g5 TO x y := PO5
  refine wpAny_bind (wpAny_letGo (wpAny_pure (wpAny_pure ?_)))
  refine wpAny_bind (wpAny_seqItems PO5 rfl (wpAny_bind (wpAny_newTuple ?_)))
  have e5 : g5.objs.size = s.heap.objs.size := by rw [b5.1, b4.1, b3.1, b2.1, b1.1]
  have Z5 : IsZip g5 z TI TO .ellipsis := b5.extBut _ _ D.TOz.symm (b4.extBut _ _ D.i2z.symm (b3.extBut _ _ D.TOz.symm (b2.extBut _ _ D.i1z.symm Z1)))
  have k5 : ∀ c o, c ≠ z → c ≠ TO → c ≠ i1 → c ≠ i2 → s.heap.get? c = some o → g5.get? c = some o := fun c o c1 c2 c3 c4 q => b5.extBut _ _ c2 (b4.extBut _ _ c4 (b3.extBut _ _ c2 (b2.extBut _ _ c3 (b1.extBut _ _ c1 q))))
  have u1 : g5.IsTupleIter i1 t1 (k + 1) := ((v1.extBut b3.extBut D.TOi1.symm).extBut b4.extBut D.i12).extBut b5.extBut D.TOi1.symm
  have u2 : g5.IsTupleIter i2 t2 (k + 1) := v2.extBut b5.extBut D.TOi2.symm
  have lz : z < g5.objs.size := Heap.lt_size Z5
  show wpAny _ _ (Builtin.SmallTypes.ownedTupleHandOut (.ref z) (.ref g5.objs.size) >>= _) _ _ _
  refine wpAny_bind ?_
  unfold Builtin.SmallTypes.ownedTupleHandOut
  have Z6 : IsZip (g5.push { cls := .type "tuple", data := .seq #[x, y] }) z TI TO .ellipsis := Heap.get?_push_of_some _ Z5
  refine wpAny_bind (wpAny_setField_rec Z6 (by simp) fun g7 Z7 b7 => ?_)
  replace Z7 : IsZip g7 z TI TO (rawInt g5.objs.size) := Z7
  refine wpAny_setField_rec Z7 (by simp) fun g8 Z8 b8 => ?_
  replace Z8 : IsZip g8 z TI TO (rawInt g5.objs.size) := Z8
  have up : ∀ c o, c ≠ z → g5.get? c = some o → g8.get? c = some o := fun c o c1 q => b8.extBut _ _ c1 (b7.extBut _ _ c1 (Heap.get?_push_of_some _ q))
  have T8 : IsPair g8 g5.objs.size x y := b8.extBut _ _ (Nat.ne_of_gt lz) (b7.extBut _ _ (Nat.ne_of_gt lz) (Heap.get?_push_size _ rfl))
  rw [e5] at Z8 T8
  refine wpAny_pure ⟨_, rfl, ?_⟩
  show Q (.ref g5.objs.size) _
  rw [e5]
  exact fin g8 Z8 (up _ _ D.TOz PO5) (u1.at2 fun o q => up _ o D.i1z q) (u2.at2 fun o q => up _ o D.i2z q) T8 fun c o c1 c2 c3 c4 q => up c o c1 (k5 c o c1 c2 c3 c4 q)

theorem zipT_end {z TI TO i1 i2 t1 t2 : Addr} {k : Nat} {xs ys : Array Value} {a b : Value} {Q : Fin → Shared → Prop} (hh : A.handled = none) (D : ZipApart z TI TO i1 i2 t1 t2) (Z0 : IsZip s.heap z TI TO .none) (PI0 : IsPair s.heap TI (.ref i1) (.ref i2)) (PO0 : IsPair s.heap TO a b)
    (w1 : s.heap.IsTupleIter i1 t1 k) (w2 : s.heap.IsTupleIter i2 t2 k) (p1 : s.heap.IsTuple t1 xs) (p2 : s.heap.IsTuple t2 ys) (over : xs[k]? = none ∨ ys[k]? = none)
    (fin : ∀ h' e, (∀ c o, c ≠ z → c ≠ TO → c ≠ i1 → c ≠ i2 → s.heap.get? c = some o → h'.get? c = some o) → (∃ o, h'.get? e = some o ∧ o.cls = .type "StopIteration") → E (.ref e) { s with heap := h' }) :
    wpAny (model prog w) A (Builtin.«zip.__next__» ⟨[.ref z], []⟩) Q E s := by
  show wpAny _ _ (field (.ref z) 2 >>= _) _ _ _
  refine wpAny_bind (wpAny_field Z0 rfl (x := .bool false) rfl ?_)
  show wpAny _ _ (field (.ref z) 3 >>= _) _ _ _
  refine wpAny_bind (wpAny_field Z0 rfl (x := .ref TI) rfl (wpAny_bind (wpAny_seqItems PI0 rfl ?_)))
  show wpAny _ _ (Builtin.SmallTypes.ownedTupleIsFree (.ref z) >>= _) _ _ _
  refine wpAny_bind ?_
  unfold Builtin.SmallTypes.ownedTupleIsFree
  refine wpAny_bind (wpAny_field Z0 rfl (x := .none) rfl (wpAny_pure ?_))
  simp only [if_true]
  refine wpAny_bind (wpAny_rule (wpAny_bind (wpAny_field Z0 rfl (x := .ref TO) rfl ?_)))
  refine wpAny_bind (wpAny_setField_rec Z0 (by simp) fun g1 Z1 b1 => ?_)
  replace Z1 : IsZip g1 z TI TO .ellipsis := Z1
  refine wpAny_bind ?_
  simp only [List.zipIdx_cons, List.zipIdx_nil, List.forIn_cons, List.forIn_nil]
  refine wpAny_bind (wpAny_bind (wpAny_onRaise ?_))
  show wpAny _ _ (Builtin.SmallTypes.nextOf (.ref i1) >>= _) _ _ _
  cases ex : xs[k]? with
  | none =>
    refine wpAny_bind (nextOf_tup_end hh (w1.extBut b1.extBut D.i1z) (p1.extBut b1.extBut D.l1z) ex fun g2 e b2 ee => ?_)
    obtain ⟨oe, he, ce⟩ := ee
    have Z2 : IsZip g2 z TI TO .ellipsis := b2 _ _ D.i1z.symm Z1
    have nz : e ≠ z := fun q => by subst q; rw [Z2] at he; cases he; simp at ce
    exact wpAny_setField_rec Z2 (by simp) fun g3 _ b3 => fin g3 e (fun c o c1 _ c3 _ q => b3.extBut _ _ c1 (b2 _ _ c3 (b1.extBut _ _ c1 q))) ⟨oe, b3.extBut _ _ nz he, ce⟩
  | some x =>
    have ey : ys[k]? = none := by rcases over with q | q; rw [ex] at q; cases q; exact q
    refine wpAny_bind (nextOf_tup (w1.extBut b1.extBut D.i1z) (p1.extBut b1.extBut D.l1z) ex fun g2 v1 b2 => wpAny_pure ?_)
    have PO2 : IsPair g2 TO a b := b2.extBut _ _ D.TOi1 (b1.extBut _ _ D.TOz PO0)
    refine wpAny_bind (wpAny_seqItems PO2 rfl (wpAny_bind (wpAny_updateSeq_pair PO2 fun g3 PO3 b3 => ?_)))
    refine wpAny_bind (wpAny_letGo (wpAny_pure (wpAny_bind (wpAny_bind (wpAny_onRaise ?_)))))
    show wpAny _ _ (Builtin.SmallTypes.nextOf (.ref i2) >>= _) _ _ _
    have w2' : g3.IsTupleIter i2 t2 k := ((w2.extBut b1.extBut D.i2z).extBut b2.extBut D.i12.symm).extBut b3.extBut D.TOi2.symm
    have p2' : g3.IsTuple t2 ys := ((p2.extBut b1.extBut D.l2z).extBut b2.extBut D.l2i1).extBut b3.extBut D.l2TO
    refine wpAny_bind (nextOf_tup_end hh w2' p2' ey fun g4 e b4 ee => ?_)
    obtain ⟨oe, he, ce⟩ := ee
    have Z4 : IsZip g4 z TI TO .ellipsis := b4 _ _ D.i2z.symm (b3.extBut _ _ D.TOz.symm (b2.extBut _ _ D.i1z.symm Z1))
    have nz : e ≠ z := fun q => by subst q; rw [Z4] at he; cases he; simp at ce
    exact wpAny_setField_rec Z4 (by simp) fun g5 _ b5 => fin g5 e (fun c o c1 c2 c3 c4 q => b5.extBut _ _ c1 (b4 _ _ c4 (b3.extBut _ _ c2 (b2.extBut _ _ c3 (b1.extBut _ _ c1 q))))) ⟨oe, b5.extBut _ _ nz he, ce⟩

theorem next_zipT {z TI TO i1 i2 t1 t2 : Addr} {k : Nat} {xs ys : Array Value} {x y a b : Value} {Q : Option Value → Shared → Prop} (D : ZipApart z TI TO i1 i2 t1 t2) (Z0 : IsZip s.heap z TI TO .none) (PI0 : IsPair s.heap TI (.ref i1) (.ref i2)) (PO0 : IsPair s.heap TO a b)
    (w1 : s.heap.IsTupleIter i1 t1 k) (w2 : s.heap.IsTupleIter i2 t2 k) (p1 : s.heap.IsTuple t1 xs) (p2 : s.heap.IsTuple t2 ys) (ex : xs[k]? = some x) (ey : ys[k]? = some y)
    (fin : ∀ h', IsZip h' z TI TO (rawInt s.heap.objs.size) → IsPair h' TO x y → h'.IsTupleIter i1 t1 (k + 1) → h'.IsTupleIter i2 t2 (k + 1) → IsPair h' s.heap.objs.size x y →
      (∀ c o, c ≠ z → c ≠ TO → c ≠ i1 → c ≠ i2 → s.heap.get? c = some o → h'.get? c = some o) → Q (some (.ref s.heap.objs.size)) { s with heap := h' }) :
    wpAny (model prog w) A (pyNext (.ref z)) Q E s := by
  have ty : s.TypeIs (.ref z) "zip" := ⟨_, Z0, rfl⟩
  unfold pyNext
  exact wpAny_bind (wpAny_attempt (wpAny_callSpecial?_slot (name := Str.ofString "__next__") ty F.slot_zip_next (wpAny_call_entry F.slot_zip_next ty F.entry_zip_next
    (zipT_item D Z0 PI0 PO0 w1 w2 p1 p2 ex ey fun h' a1 a2 a3 a4 a5 a6 => wpAny_pure (fin h' a1 a2 a3 a4 a5 a6)) (F.args_zip_next_1 _))))
theorem next_zipT_end {z TI TO i1 i2 t1 t2 : Addr} {k : Nat} {xs ys : Array Value} {a b : Value} {Q : Option Value → Shared → Prop} (hh : A.handled = none) (D : ZipApart z TI TO i1 i2 t1 t2) (Z0 : IsZip s.heap z TI TO .none) (PI0 : IsPair s.heap TI (.ref i1) (.ref i2)) (PO0 : IsPair s.heap TO a b)
    (w1 : s.heap.IsTupleIter i1 t1 k) (w2 : s.heap.IsTupleIter i2 t2 k) (p1 : s.heap.IsTuple t1 xs) (p2 : s.heap.IsTuple t2 ys) (over : xs[k]? = none ∨ ys[k]? = none)
    (fin : ∀ h', (∀ c o, c ≠ z → c ≠ TO → c ≠ i1 → c ≠ i2 → s.heap.get? c = some o → h'.get? c = some o) → Q none { s with heap := h' }) : wpAny (model prog w) A (pyNext (.ref z)) Q E s := by
  have ty : s.TypeIs (.ref z) "zip" := ⟨_, Z0, rfl⟩
  unfold pyNext
  refine wpAny_bind (wpAny_attempt (wpAny_callSpecial?_slot (name := Str.ofString "__next__") ty F.slot_zip_next (wpAny_call_entry F.slot_zip_next ty F.entry_zip_next (zipT_end hh D Z0 PI0 PO0 w1 w2 p1 p2 over fun h' e hk he => ?_) (F.args_zip_next_1 _))))
  obtain ⟨o, ho, hc⟩ := he
  exact wpAny_bind (wpAny_isInstance (T := "StopIteration") (b := true) ⟨o, ho, hc⟩ isSubtype_stop (wpAny_pure (fin _ hk)))
end

abbrev zT1 (h : Heap) (t1 : Addr) : Heap := h.push { cls := .type "tuple_iterator", data := .fields #[.ref t1, .int 0 0] }
abbrev zT2 (h : Heap) (t1 t2 : Addr) : Heap := (zT1 h t1).push { cls := .type "tuple_iterator", data := .fields #[.ref t2, .int 0 0] }
abbrev zT3 (h : Heap) (t1 t2 : Addr) : Heap := (zT2 h t1 t2).push { cls := .type "tuple", data := .seq #[.ref h.objs.size, .ref (zT1 h t1).objs.size] }
abbrev zT4 (h : Heap) (t1 t2 : Addr) : Heap := (zT3 h t1 t2).push { cls := .type "tuple", data := .seq #[.none, .none] }
abbrev zT5 (h : Heap) (t1 t2 : Addr) : Heap := (zT4 h t1 t2).push { cls := .type "zip", data := .fields #[.none, .bool false, .bool false, .ref (zT2 h t1 t2).objs.size, .ref (zT3 h t1 t2).objs.size] }
theorem meets_zip_newT (t1 t2 : Addr) (xs ys : Array Value) :
    Meets (Builtin.«zip.__new__» ⟨[.type "zip", .ref t1, .ref t2], []⟩) (fun _ R s => s.heap.IsTuple t1 xs ∧ s.heap.IsTuple t2 ys ∧ R (.ok (.ret (.ref (zT4 s.heap t1 t2).objs.size))) { s with heap := zT5 s.heap t1 t2 }) :=
  .of_wp fun prog w A R s h => by
    obtain ⟨hp, g, d, tk, os⟩ := s; obtain ⟨q1, q2, h⟩ := h
    have hsub := sub_zip
    have T1 : Heap.IsTuple (Shared.heap ⟨hp, g, d, tk, os⟩) t1 xs := q1
    have T2 : Heap.IsTuple (Shared.heap ⟨hp.push { cls := .type "tuple_iterator", data := .fields #[.ref t1, .int 0 0] }, g, d, tk, os⟩) t2 ys := Heap.IsTuple.push q2 _
    wp_walk using wpAny_pyIter_tuple T1, wpAny_pyIter_tuple T2
    exact ⟨_, rfl, h⟩
section
variable {prog : Program} {w : World} {A : Around} {E : Value → Shared → Prop} {s : Shared}
theorem call_zipT {t1 t2 : Addr} {xs ys : Array Value} {Q : Value → Shared → Prop} (q1 : s.heap.IsTuple t1 xs) (q2 : s.heap.IsTuple t2 ys)
    (h : ∀ h', IsZip h' (s.heap.objs.size + 4) (s.heap.objs.size + 2) (s.heap.objs.size + 3) .none → IsPair h' (s.heap.objs.size + 2) (.ref s.heap.objs.size) (.ref (s.heap.objs.size + 1)) →
      IsPair h' (s.heap.objs.size + 3) .none .none → h'.IsTupleIter s.heap.objs.size t1 0 → h'.IsTupleIter (s.heap.objs.size + 1) t2 0 →
      (∀ c o, s.heap.get? c = some o → h'.get? c = some o) → Q (.ref (s.heap.objs.size + 4)) { s with heap := h' }) :
    wpAny (model prog w) A (call (.type "zip") [.ref t1, .ref t2]) Q E s := by
  refine callType_new F.called_zip (by decide) (F.typeCall_zip_2 _ _) (F.newCall_zip_2 _ _) (fun obj => F.args_object_init_3 obj _ _) F.entry_zip_new (meets_zip_newT t1 t2 xs ys) ⟨q1, q2, ?_⟩
  have z1 : (zT1 s.heap t1).objs.size = s.heap.objs.size + 1 := Heap.size_push ..
  have z2 : (zT2 s.heap t1 t2).objs.size = s.heap.objs.size + 2 := by rw [Heap.size_push, z1]
  have z3 : (zT3 s.heap t1 t2).objs.size = s.heap.objs.size + 3 := by rw [Heap.size_push, z2]
  have z4 : (zT4 s.heap t1 t2).objs.size = s.heap.objs.size + 4 := by rw [Heap.size_push, z3]
  have g5 : (zT5 s.heap t1 t2).get? (zT4 s.heap t1 t2).objs.size = some _ := Heap.get?_push_size _ rfl
  have g4 : (zT5 s.heap t1 t2).get? (zT3 s.heap t1 t2).objs.size = some _ := Heap.get?_push_of_some _ (Heap.get?_push_size _ rfl)
  have g3 : (zT5 s.heap t1 t2).get? (zT2 s.heap t1 t2).objs.size = some _ := Heap.get?_push_of_some _ (Heap.get?_push_of_some _ (Heap.get?_push_size _ rfl))
  have g2 : (zT5 s.heap t1 t2).get? (zT1 s.heap t1).objs.size = some _ := Heap.get?_push_of_some _ (Heap.get?_push_of_some _ (Heap.get?_push_of_some _ (Heap.get?_push_size _ rfl)))
  have g1 : (zT5 s.heap t1 t2).get? s.heap.objs.size = some _ := Heap.get?_push_of_some _ (Heap.get?_push_of_some _ (Heap.get?_push_of_some _ (Heap.get?_push_of_some _ (Heap.get?_push_size _ rfl))))
  show _ ∧ _
  rw [z2, z3, z4] at g5
  rw [z1, z2] at g3
  rw [z3] at g4
  rw [z1] at g2
  rw [z4]
  exact ⟨⟨_, g5, rfl⟩, h _ g5 g3 g4 ⟨_, g1, rfl, rfl⟩ ⟨_, g2, rfl, rfl⟩ fun c o q => Heap.get?_push_of_some _ (Heap.get?_push_of_some _ (Heap.get?_push_of_some _ (Heap.get?_push_of_some _ (Heap.get?_push_of_some _ q))))⟩
end
end PySem

namespace L2
open PySem PySem.Spec PyProof.Rows
def Itz (K : PySem.W.Frag) (a b : Addr) : It :=
  ⟨fun i H => ∃ xs ys x y, SqT K H a xs ∧ SqT K H b ys ∧ xs[i]? = some x ∧ ys[i]? = some y, fun i H v H' => ∃ T, H T = none ∧ v = .ref T ∧ ∀ xs ys x y, SqT K H a xs → SqT K H b ys → xs[i]? = some x → ys[i]? = some y → H' = upd H T (.tup [x, y]),
    fun i H => ∃ xs ys, SqT K H a xs ∧ SqT K H b ys ∧ (xs.length ≤ i ∨ ys.length ≤ i)⟩
theorem turn_zipT {P : Program} {w : World} {K : PySem.W.Frag} {elts : List Expr} {k : Nat} {tp : Pos} (a b z TI TO i1 i2 : Addr) (D : ZipApart z TI TO i1 i2 a b) :
    Turn P w K (.Tuple elts k tp) (Itz K a b) [z, TI, TO, i1, i2] z (fun i h => IsZip h z TI TO .none ∧ IsPair h TI (.ref i1) (.ref i2) ∧ (∃ u v, IsPair h TO u v) ∧ h.IsTupleIter i1 a i ∧ h.IsTupleIter i2 b i) where
  mem := by simp
  obj := fun i h st c hc => by
    obtain ⟨q1, q2, ⟨u, v, q3⟩, ⟨o4, q4, _, d4⟩, ⟨o5, q5, _, d5⟩⟩ := st
    simp only [List.mem_cons, List.not_mem_nil, or_false] at hc
    rcases hc with rfl | rfl | rfl | rfl | rfl
    · exact ⟨_, q1, fun v z => by cases z⟩
    · exact ⟨_, q2, fun v z => by cases z⟩
    · exact ⟨_, q3, fun v z => by cases z⟩
    · exact ⟨_, q4, fun v z => by rw [d4] at z; cases z⟩
    · exact ⟨_, q5, fun v z => by rw [d5] at z; cases z⟩
  keep := fun i h h' st kk => by
    obtain ⟨q1, q2, ⟨u, v, q3⟩, q4, q5⟩ := st
    exact ⟨kk z (by simp) _ q1, kk TI (by simp) _ q2, ⟨u, v, kk TO (by simp) _ q3⟩, q4.at2 fun o q => kk i1 (by simp) o q, q5.at2 fun o q => kk i2 (by simp) o q⟩
  item := by
    intro X hP hw hK hc i pins s σ H E I hf st hg
    subst hP hw hK
    obtain ⟨xs, ys, x, y, hqa, hqb, hx, hy⟩ := hg
    obtain ⟨q1, q2, ⟨u0, v0, q3⟩, q4, q5⟩ := st
    obtain ⟨ia, ra, pa, hza⟩ := I.tuple hqa
    obtain ⟨ib, rb, pb, hzb⟩ := I.tuple hqb
    have pa : s.heap.IsTuple a ia.toArray := pa
    have pb : s.heap.IsTuple b ib.toArray := pb
    obtain ⟨u, hu, ru⟩ := ra.get hx
    obtain ⟨v, hv, rv⟩ := rb.get hy
    refine next_zipT D q1 q2 q3 q4 q5 pa pb (x := u) (y := v) (by simpa using hu) (by simpa using hv) fun h' a1 a2 a3 a4 a5 kk => ?_
    have kf : ∀ c o, c ∉ [z, TI, TO, i1, i2] → s.heap.get? c = some o → h'.get? c = some o := fun c o hcc q => kk c o (fun e => hcc (by simp [e])) (fun e => hcc (by simp [e])) (fun e => hcc (by simp [e])) (fun e => hcc (by simp [e])) q
    have ne : ∀ c ∈ [z, TI, TO, i1, i2], c ≠ s.heap.objs.size := fun c hcc => by
      obtain ⟨o4, e4, _⟩ := q4
      obtain ⟨o5, e5, _⟩ := q5
      simp only [List.mem_cons, List.not_mem_nil, or_false] at hcc
      rcases hcc with rfl | rfl | rfl | rfl | rfl
      · exact Nat.ne_of_lt (Heap.lt_size q1)
      · exact Nat.ne_of_lt (Heap.lt_size q2)
      · exact Nat.ne_of_lt (Heap.lt_size q3)
      · exact Nat.ne_of_lt (Heap.lt_size e4)
      · exact Nat.ne_of_lt (Heap.lt_size e5)
    have I1 : Inv X pins σ (upd H s.heap.objs.size (.tup [x, y])) { s with heap := h', toks := s.toks } := I.yields (vals := [u, v]) hf kf (Nat.le_refl _) ⟨_, a5, rfl, _, rfl⟩ (.cons ru (.cons rv .nil)) (by show 2 ≤ sizeLine; decide)
    have hf1 := fp_upd (o := .tup [x, y]) hf ne
    refine ⟨_, rfl, wpAny_letOwnedTupleGo_zip a1 fun h'' Z2 sb => ?_⟩
    have I2 : Inv X pins σ (upd H s.heap.objs.size (.tup [x, y])) { s with heap := h'', toks := s.toks } := I1.turnedL (t' := s.toks) hf1 fun c o hcc q => (sb.2 c fun e => hcc (by simp [e])).trans q
    refine ⟨.ref s.heap.objs.size, _, I2, rfl, ⟨_, I.hok.fresh (Nat.le_refl _), rfl, fun xs' ys' x' y' hxs hys hx' hy' => ?_⟩, ⟨Z2, sb.extBut _ _ D.TIz (kk _ _ D.TIz D.TITO D.TIi1 D.TIi2 q2), ⟨u, v, sb.extBut _ _ D.TOz a2⟩, a3.extBut sb.extBut D.i1z, a4.extBut sb.extBut D.i2z⟩, fun c hcc => (hf1 c hcc).1⟩
    have e1 := I.tuple_inj hxs hqa
    have e2 := I.tuple_inj hys hqb
    subst e1 e2
    rw [hx] at hx'; rw [hy] at hy'
    rw [Option.some.inj hx', Option.some.inj hy']
  done := by
    intro X hP hw hK hc i pins s σ H E I hf st hg
    subst hP hw hK
    obtain ⟨xs, ys, hqa, hqb, over⟩ := hg
    obtain ⟨q1, q2, ⟨u0, v0, q3⟩, q4, q5⟩ := st
    obtain ⟨ia, ra, pa, hza⟩ := I.tuple hqa
    obtain ⟨ib, rb, pb, hzb⟩ := I.tuple hqb
    have la := ra.length
    have lb := rb.length
    refine next_zipT_end (I.ok.hd hc) D q1 q2 q3 q4 q5 (show s.heap.IsTuple a ia.toArray from pa) (show s.heap.IsTuple b ib.toArray from pb) ?_ fun h' kk => ⟨rfl, I.turnedL (t' := s.toks) hf fun c o hcc q => kk c o (fun e => hcc (by simp [e])) (fun e => hcc (by simp [e])) (fun e => hcc (by simp [e])) (fun e => hcc (by simp [e])) q⟩
    rcases over with q | q
    · exact .inl (by simp; omega)
    · exact .inr (by simp; omega)
  self := fun _ _ _ _ _ st h => wpAny_pyIter_zip st.1 h

section
variable {X : Cx} {elts : List Expr} {k : Nat} {tp : Pos}
def iZipT (K : PySem.W.Frag) (ta : TA) : TI := fun σ H R => ta σ H fun vs H1 => ∃ a b, vs = [.ref a, .ref b] ∧ (∃ xs, SqT K H1 a xs) ∧ (∃ ys, SqT K H1 b ys) ∧ R (Itz K a b) H1
theorem pi_zipT {a b : Expr} {ta : TA} {p pos : Pos} (hg : Gl X "zip") (hm : X.mg "zip" = none) (ha : PA X [a, b] ta) (hs : starEach [a, b] X.env = [(false, eval a X.env), (false, eval b X.env)] := by rfl) (hs2 : starEach [b] X.env = [(false, eval b X.env)] := by rfl) :
    PI X (.Tuple elts k tp) (.Call (.Name "zip" p) [a, b] [] pos) (iZipT X.K ta) := by
  intro pins s σ H R I h
  refine Call_ (ld_blt I hg hm boot_zip (PyProof.Rows.callWith_type1 (thn (ha pos pins s σ H _ I h) fun us s1 ⟨vs, H1, I1, r1, q1⟩ => ?_) (by rw [hs, hs2]) (by rw [hs2]; rfl)))
  obtain ⟨t1, t2, e, ⟨xs, hqa⟩, ⟨ys, hqb⟩, q⟩ := q1
  subst e
  obtain ⟨u, v, rfl, rx, ry⟩ := vals2 r1
  cases rx
  cases ry
  obtain ⟨ia, ra, pa, hza⟩ := I1.tuple hqa
  obtain ⟨ib, rb, pb, hzb⟩ := I1.tuple hqb
  have pa : s1.heap.IsTuple t1 ia.toArray := pa
  have pb : s1.heap.IsTuple t2 ib.toArray := pb
  have l1 : t1 < s1.heap.objs.size := by obtain ⟨o, q, _⟩ := pa; exact Heap.lt_size q
  have l2 : t2 < s1.heap.objs.size := by obtain ⟨o, q, _⟩ := pb; exact Heap.lt_size q
  refine call_zipT pa pb fun h' a1 a2 a3 a4 a5 kk => wpAny_pyIter_zip a1 ?_
  refine ⟨_, [s1.heap.objs.size + 4, s1.heap.objs.size + 2, s1.heap.objs.size + 3, s1.heap.objs.size, s1.heap.objs.size + 1], _, _, H1, rfl, I1.kept (t' := s1.toks) kk, turn_zipT t1 t2 _ _ _ _ _ (zipApart_new l1 l2), ⟨a1, a2, ⟨_, _, a3⟩, a4, a5⟩, fun c hc => ?_, q⟩
  have up : ∀ n, FpOk X pins H1 (s1.heap.objs.size + n) := fun n => I1.fpOk (Nat.le_add_right _ _) (I1.hok.fresh (Nat.le_add_right _ _))
  simp only [List.mem_cons, List.not_mem_nil, or_false] at hc
  rcases hc with rfl | rfl | rfl | rfl | rfl
  · exact up 4
  · exact up 2
  · exact up 3
  · exact up 0
  · exact up 1
end
end L2

set_option maxRecDepth 100000
set_option maxHeartbeats 4000000
namespace L2
open PySem PySem.Spec PyProof.Rows

section
variable {X : Cx}
def rIsiT (K : PySem.W.Frag) : List V → Hp → VK → Prop := fun xs H Q => ∃ x n t b, xs = [x, .ty n] ∧ TyOf K H x t ∧ PySem.W.kitOne K t (.type n) = some b ∧ Q (.bl b) H
theorem call_isiT : CallR X (.builtin "isinstance") (rIsiT X.K) := by
  intro pins s σ H xs us Q I r h
  obtain ⟨x, n, t, b, rfl, ty, e, q⟩ := h
  obtain ⟨u, v, rfl, rx, ry⟩ := vals2 r
  cases ry
  exact isinst_ok I rx ty e fun tk => ⟨.bl b, H, I.tok _, rfl, q⟩
theorem vals_bls {bs : List Bool} : ∀ {us : List Value}, Vals (bs.map V.bl) us → us = bs.map Value.bool := by
  induction bs with
  | nil => intro us r; cases r; rfl
  | cons b bs ih =>
    intro us r
    rw [List.map_cons] at r
    cases r with
    | cons r1 r2 =>
      cases (show _ = Value.bool b from r1)
      rw [ih r2]
      rfl
theorem all_range_get (bs : List Bool) : ((List.range bs.length).all fun i => bs.getD i true) = bs.all id := by
  rw [Bool.eq_iff_iff]
  simp only [List.all_eq_true, List.mem_range, id]
  constructor
  · intro h x hx
    obtain ⟨i, hi, rfl⟩ := List.mem_iff_getElem.mp hx
    have := h i hi
    simpa [List.getD, hi] using this
  · intro h i hi
    have := h bs[i] (List.getElem_mem hi)
    simpa [List.getD, hi] using this
def rAll (K : PySem.W.Frag) : List V → Hp → VK → Prop := fun xs H Q => ∃ (p : Addr) (bs : List Bool), xs = [.ref p] ∧ SqL K H p (bs.map V.bl) ∧ Q (.bl (bs.all id)) H
theorem call_all (hc : X.calm = true) : CallR X (.builtin "all") (rAll X.K) := by
  intro pins s σ H xs us Q I r h
  obtain ⟨p, bs, rfl, hq, q⟩ := h
  obtain ⟨u, rfl, rx⟩ := vals1 r
  cases rx
  obtain ⟨its, rv, pl, hz⟩ := I.list hq
  have hits := vals_bls rv
  have hl := pl.isList
  have hlt : p < s.heap.objs.size := by obtain ⟨o, e, _⟩ := hl; exact Heap.lt_size e
  have hh : X.A.in1.handled = none := I.ok.hd hc
  refine call_all_walk (wpAny_pyIter_list hl ?_)
  refine ⟨s.heap.objs.size, _, _, _, _, _, fun i => bs.getD i true, rfl, Walks.list hh s.heap.objs.size p (Nat.ne_of_lt hlt) its.toArray, ⟨⟨_, Heap.get?_push_size _ rfl, rfl, rfl⟩, hl.push _⟩, ?_, fun h' tk hk => ?_⟩
  · intro i v s' Q' E' hv hQ
    have e : v = .bool (bs.getD i true) := by
      have hv' : its[i]? = some v := by simpa using hv
      rw [hits, List.getElem?_map] at hv'
      cases e : bs[i]? with
      | none => rw [e] at hv'; cases hv'
      | some b => rw [e] at hv'; simp [List.getD, e]; exact (Option.some.inj hv').symm
    subst e
    first
      | exact wpAny_pure hQ
      | exact hQ
  · have e : its.toArray.size = bs.length := by rw [hits]; simp
    have I1 : Inv X pins σ H { s with heap := s.heap.push { cls := .type "list_iterator", data := .fields #[.ref p, .int 0 0] } } := I.kept (t' := s.toks) fun b o e => Heap.get?_push_of_some _ e
    have f : ∀ b ∈ [s.heap.objs.size], FpOk X pins H b := fun b hb => by rw [List.mem_singleton.mp hb]; exact I.fpOk (Nat.le_refl _) (I.hok.fresh (Nat.le_refl _))
    refine ⟨.bl (bs.all id), H, I1.turnedL (t' := tk) (ch := [s.heap.objs.size]) f fun b o hb e => hk b o hb e, ?_, q⟩
    show Value.bool _ = Value.bool _
    rw [e, all_range_get]

end
end L2

namespace HT
open PySem PyProof.Rows
section
variable {prog : Program} {w : World} {A : Around} {E : Value → Shared → Prop} {s : Shared}
theorem getItem_tuple_all {t sl : Addr} {items : Array Value} {vl vu : Value} {lo hi : Option Int} {Q : Value → Shared → Prop} (ht : IsTup s.heap t items) (hs : s.heap.IsSliceOf sl vl vu .none) (pl : IsPart vl lo) (pu : IsPart vu hi)
    (hw : sIx items.size 0 lo = 0 ∧ sIx items.size items.size hi = items.size) (h : Q (.ref t) s) : wpAny (model prog w) A (getItem (.ref t) (.ref sl)) Q E s := by
  obtain ⟨os, hos, hcs, hds⟩ := id hs
  have hTs : s.TypeIs (.ref sl) "slice" := ⟨os, hos, hcs⟩
  unfold getItem
  try with_reducible refine wpAny_holding ?_
  first | refine wpAny_bind (wpAny_pure ?_) | skip
  refine wpAny_bind (wpAny_sequenceKey ht.typeIs (by decide) ?_)
  refine wpAny_bind (wpAny_callSpecial?_slot (name := Str.ofString "__getitem__") ht.typeIs PyProof.Rows.slot_tuple_getitem (wpAny_call_entry PyProof.Rows.slot_tuple_getitem ht.typeIs entry_tuple_getitem ?_ (args_tuple_getitem _ _)))
  show wpAny _ _ (Builtin.Tuple.tupleItemsOf (.ref t) >>= _) _ _ s
  refine wpAny_bind (tupleItemsOf_ ht (wpAny_bind (wpAny_typeOf hTs ?_)))
  rw [if_pos (by decide)]
  refine wpAny_bind (sliceApplied_gen hs pl pu ?_)
  have yes : (((sIx items.size 0 lo : Nat) : Int) == 0 && (1 : Int) == 1 && (sIx items.size items.size hi - sIx items.size 0 lo) == items.size) = true := by
    rw [hw.1, hw.2]; simp
  show wpAny _ _ (if (((sIx items.size 0 lo : Nat) : Int) == 0 && (1 : Int) == 1 && (sIx items.size items.size hi - sIx items.size 0 lo) == items.size) = true then _ else _) _ _ s
  rw [if_pos yes]
  refine wpAny_bind (m := Builtin.Tuple.tupleIsExact _) ?_
  unfold Builtin.Tuple.tupleIsExact
  refine wpAny_bind (wpAny_typeOf ht.typeIs (wpAny_pure ?_))
  simp only [beq_self_eq_true, if_true]
  first
    | exact wpAny_bind (wpAny_rule (wpAny_pure ⟨_, rfl, wpAny_pure h⟩))
    | exact wpAny_bind (wpAny_rule (wpAny_bind (wpAny_pure (wpAny_pure ⟨_, rfl, wpAny_pure h⟩))))
    | exact wpAny_bind (wpAny_rule (wpAny_bind (wpAny_pure ⟨_, rfl, wpAny_pure h⟩)))
    | (trace_state; fail)
end
end HT

namespace L2
open PySem PySem.Spec PyProof.Rows
section
variable {X : Cx}
def rSlTA (K : PySem.W.Frag) : V → Option Int → Option Int → Hp → VK → Prop := fun x lo hi H Q => ∃ a xs, x = .ref a ∧ SqT K H a xs ∧ (cutV xs lo hi = xs → Q (.ref a) H) ∧ ∀ p, H p = none → Q (.ref p) (upd H p (.tup (cutV xs lo hi)))
theorem sl_tupA : SlR X (rSlTA X.K) := by
  intro pins s σ H x v vl vu lo hi sl Q I rx hs pl pu h
  obtain ⟨a, xs, rfl, hx, h1, h2⟩ := h
  by_cases hw : HT.sIx xs.length 0 lo = 0 ∧ HT.sIx xs.length xs.length hi = xs.length
  · have e : cutV xs lo hi = xs := by unfold cutV; rw [hw.1, hw.2]; simp
    cases rx
    obtain ⟨its, r, ht, hz⟩ := I.tuple hx
    have hlen : its.toArray.size = xs.length := by rw [List.size_toArray]; exact r.length.symm
    exact ⟨"tuple", _, PyProof.Rows.slot_tuple_getitem.lookup, ht.typeIs, HT.getItem_tuple_all ht hs pl pu (by rw [hlen]; exact hw) ⟨.ref a, H, I, rfl, h1 e⟩⟩
  · exact sl_tup pins s σ H (.ref a) v vl vu lo hi sl Q I rx hs pl pu ⟨a, xs, rfl, hx, hw, h2⟩
end

theorem comp_by {J : It} {g : TG} {tc : TT} {te : TE} {R : Hp → Prop} {σ : St} {H : Hp} {D : Addr} (n : Nat) (Pv : Nat → St → Hp → Prop) (h0 : Pv 0 σ H)
    (go : ∀ i σ H, i < n → Pv i σ H → J.go i H ∧ ∀ x H', J.yld i H x H' → g x σ H' fun σ3 H3 => tc σ3 H3 fun b H4 =>
      if b = true then te σ3 H4 fun y H5 => ∃ ys, H5 D = some (.lst ys) ∧ ys.length < sizeLine ∧ Pv (i + 1) σ3 (upd H5 D (.lst (ys ++ [y]))) else Pv (i + 1) σ3 H4) (stop : ∀ σ H, Pv n σ H → J.stop n H ∧ R H) :
    ∃ W : Nat → Nat → St → Hp → Prop, (∃ m, W 0 m σ H) ∧ ∀ i m σ H, W i m σ H →
      (J.stop i H ∧ R H) ∨ (J.go i H ∧ ∃ N : St → Hp → Prop, (∀ σ' H', N σ' H' → ∃ m', m' < m ∧ W (i + 1) m' σ' H') ∧ ∀ x H', J.yld i H x H' → g x σ H' fun σ3 H3 => tc σ3 H3 fun b H4 =>
        if b = true then te σ3 H4 fun y H5 => ∃ ys, H5 D = some (.lst ys) ∧ ys.length < sizeLine ∧ N σ3 (upd H5 D (.lst (ys ++ [y]))) else N σ3 H4) := by
  refine ⟨fun i m σ H => m = n - i ∧ i ≤ n ∧ Pv i σ H, ⟨n, by simp, Nat.zero_le _, h0⟩, ?_⟩
  rintro i m σ H ⟨rfl, hi, p⟩
  by_cases hlt : i < n
  · obtain ⟨q1, q2⟩ := go i σ H hlt p
    exact .inr ⟨q1, Pv (i + 1), fun σ' H' p' => ⟨n - (i + 1), by omega, rfl, hlt, p'⟩, q2⟩
  · have e : i = n := by omega
    subst e
    exact .inl (stop σ H p)

theorem Same.upd {H : Hp} {a : Addr} {o : HO} (h : H a = none) : Same H (upd H a o) := fun b u e => by rw [upd_ne (ne_of_none e h)]; exact e
theorem Same.tup {K : PySem.W.Frag} {H H' : Hp} {a : Addr} {xs : List V} (e : Same H H') (h : SqT K H a xs) : SqT K H' a xs := by
  rcases h with (h | ⟨o, h⟩) | h
  · exact .inl (.inl (e _ _ h))
  · exact .inl (.inr ⟨o, e _ _ h⟩)
  · exact .inr h
theorem Same.put {H H' : Hp} {a : Addr} {o : HO} (e : Same H H') (h : H a = none) : Same H (L2.upd H' a o) := fun b u q => by rw [upd_ne (ne_of_none q h)]; exact e b u q
def isFun : ScopeKind → Bool
  | .function => true
  | _ => false
theorem isFun_eq {k : ScopeKind} (h : isFun k = true) : k = .function := by
  cases k <;> first | rfl | cases h
def compChk (Nx : List Str) (scx : Scope) (N : List Str) (scope : Scope) (own : Nat) (caps : List Nat) : Bool :=
  isFun scope.kind && scope.names.all (fun y => (y.2 != .local || scope.names.lookup y.1 == some .local) && y.2 != .cell && (y.2 != .free || scx.names.lookup y.1 == some .cell || scx.names.lookup y.1 == some .free)) &&
    N.length == own + caps.length && (caps.zip (N.drop own)).all fun p => decide (Nx[p.1]? = some p.2) && scope.names.lookup p.2 == some .free
theorem compOk {X : Cx} {N : List Str} {scope : Scope} {own : Nat} {caps : List Nat} (Nx : List Str) (scx : Scope) (h : compChk Nx scx N scope own caps = true) (hN : X.N = Nx := by rfl) (hs : X.env.scope = scx := by rfl) : CompOk X N scope own caps := by
  unfold compChk at h
  simp only [Bool.and_eq_true, List.all_eq_true] at h
  obtain ⟨⟨⟨h1, h2⟩, h3⟩, h4⟩ := h
  refine ⟨isFun_eq h1, fun y hy hl => ?_, fun y hy hc => ?_, fun y hy hf => ?_, by simpa using h3, fun i j x e1 e2 => ?_⟩
  · have := (h2 y hy).1.1
    simpa [hl] using this
  · have := (h2 y hy).1.2
    simp [hc] at this
  · have := (h2 y hy).2
    show X.env.scope.names.lookup y.1 = some .cell ∨ X.env.scope.names.lookup y.1 = some .free
    rw [hs]
    simpa [hf] using this
  · have hm : (j, x) ∈ caps.zip (N.drop own) := by
      have e3 : (N.drop own)[i]? = some x := by rw [List.getElem?_drop]; exact e2
      exact List.mem_iff_getElem?.mpr ⟨i, by rw [List.getElem?_zip_eq_some]; exact ⟨e1, e3⟩⟩
    have := h4 _ hm
    rw [hN]
    exact ⟨of_decide_eq_true this.1, by simpa using this.2⟩

structure Cal (P : Program) (w : World) (K : PySem.W.Frag) (mg : Str → Option Value) (base : Heap) (k : Nat) (x : Str) (ps : List Str) (sp : Sp) : Prop where
  ex : ∃ f fd, FnOk P w K mg base CX0 k f fd ps sp ∧ mg x = some (.ref f) ∧ PySem.W.keepIn K (.ref f) = true ∧ Binds K fd ps []
structure Laid (K : PySem.W.Frag) (mg : Str → Option Value) (x : Str) (st : Stmt) (ps : List Str) : Prop where
  ex : ∃ f fd, Fun K x x st f fd ∧ mg x = some (.ref f) ∧ Binds K fd ps []
section
variable {P : Program} {w : World} {K : PySem.W.Frag} {mg : Str → Option Value} {base : Heap}
theorem Laid.cal {x : Str} {st : Stmt} {N ps : List Str} {k : Nat} {sp : Sp} (L : Laid K mg x st ps) (S : FnScope N ps (defScope st)) (len : ∀ vs H Q E, sp vs H Q E → vs.length = ps.length)
    (hbody : ∀ (f : Addr) (cdv : Value) (A : Around) (outer : List Env) (s : Shared) (H : Hp) (vs : List V) (Q : VK) (E : XK), Room k (A.deeper (envOfC x (defScope st) s.heap.objs.size f cdv)) → sp vs H Q E →
      ∃ t, PSs (cxOf CX0 P w K mg base N x (defScope st) f cdv A outer s H E).nox (defBody st) t ∧ t { nx := fun _ H' => Q .non H', rt := Q } (start N vs) H) : Cal P w K mg base (k + 1) x ps sp := by
  obtain ⟨f, fd, F, m, b⟩ := L.ex
  exact ⟨f, fd, F.ok S len (fun cdv A outer s H vs Q E hr h => hbody f cdv A outer s H vs Q E hr h), m, F.kp, b⟩
theorem laid_mk {h : Heap} {x : Str} {st : Stmt} {ps : List Str} {f : Addr} {oc : Value} {od an : Option Addr} {osl : Array (Option Value)} {kV doc pm cdv ct : Value} (X : K.In h) (G : h.Ns mainGlobals mg) (a : PySem.W.nsIn K mainGlobals x = some (some (.ref f)))
    (l : K.lookup f = some ⟨oc, od, .func (PySem.W.fnOf x x (defArgs st) (defBody st) (defScope st) .none kV doc pm an cdv ct), osl⟩) (c : PySem.W.codeIn K cdv x = true) (k : PySem.W.keepIn K (.ref f) = true)
    (hb : ∀ (kV doc pm : Value) (an : Option Addr) (cdv ct : Value) (us : List Value), us.length = ps.length → bindArgs (PySem.W.fnOf x x (defArgs st) (defBody st) (defScope st) .none kV doc pm an cdv ct) ⟨us, []⟩ = pure (ps.zip us)) : Laid K mg x st ps :=
  ⟨f, _, fun_mk l c k, PySem.W.mg_of X G a, (fun_mk l c k).binds hb⟩
end
section
variable {X : Cx} {k k' : Nat} {x : Str} {ps : List Str} {sp : Sp} {p pos : Pos} {e : Expr} {es : List Expr} {t : TA}
theorem pe_cal (c : Cal X.prog X.w X.K X.mg X.base k x ps sp) (hr : Room k' X.A) (hk : k ≤ k') (hg : Gl X x) (ha : PA X (e :: es) t) (hdb : (x == ("__debug__" : Str)) = false := by decide) (he : starEach (e :: es) X.env = (false, eval e X.env) :: starEach es X.env := by rfl)
    (hpl : (backTo pos (starEach es X.env)).any (·.1) = false := by rfl) : PE X (.Call (.Name x p) (e :: es) [] pos) (tCall sp [] E0 t) := by
  obtain ⟨f, fd, F, m, kp, b⟩ := c.ex
  exact pe_call F (hr.mono hk) hg m kp b .nil pass0 ha hdb he hpl
end
def tyS (H : Hp) : V → Option String
  | .non => some "NoneType"
  | .bl _ => some "bool"
  | .int _ => some "int"
  | .str _ => some "str"
  | .ref p => match H p with
    | some (.lst _) => some "list"
    | some (.tup _) => some "tuple"
    | some (.frz _ (.lst _)) => some "list"
    | _ => none
  | _ => none
def subS (a n : String) : Bool := a == n || (a == "bool" && n == "int")
def knownS (n : String) : Bool := n == "bool" || n == "int" || n == "str" || n == "list" || n == "tuple"
theorem kit_all (K : PySem.W.Frag) : ∀ a ∈ ["NoneType", "bool", "int", "str", "list", "tuple"], ∀ n ∈ ["bool", "int", "str", "list", "tuple"], PySem.W.kitOne K (.type a) (.type n) = some (subS a n) := by
  intro a ha n hn
  simp only [List.mem_cons, List.not_mem_nil, or_false] at ha hn
  rcases ha with rfl | rfl | rfl | rfl | rfl | rfl <;> rcases hn with rfl | rfl | rfl | rfl | rfl <;> kernel_rfl
theorem tyS_ty {K : PySem.W.Frag} {H : Hp} {x : V} {a : String} (h : tyS H x = some a) : TyOf K H x (.type a) ∧ a ∈ ["NoneType", "bool", "int", "str", "list", "tuple"] := by
  unfold tyS at h
  split at h
  · cases h; exact ⟨.non, by simp⟩
  · cases h; exact ⟨.bl _, by simp⟩
  · cases h; exact ⟨.int _, by simp⟩
  · cases h; exact ⟨.str _, by simp⟩
  · split at h
    · rename_i e; cases h; exact ⟨.lst e, by simp⟩
    · rename_i e; cases h; exact ⟨.tup e, by simp⟩
    · rename_i e; cases h; exact ⟨.frz e, by simp⟩
    · cases h
  · cases h
section
variable {X : Cx}
def rIsiS : List V → Hp → VK → Prop := fun xs H Q => ∃ x n a, xs = [x, .ty n] ∧ tyS H x = some a ∧ knownS n = true ∧ Q (.bl (subS a n)) H
theorem call_isiS : CallR X (.builtin "isinstance") rIsiS := by
  intro pins s σ H xs us Q I r h
  obtain ⟨x, n, a, rfl, ty, kn, q⟩ := h
  obtain ⟨t1, t2⟩ := tyS_ty (K := X.K) ty
  refine call_isiT pins s σ H _ us Q I r ⟨x, n, _, _, rfl, t1, kit_all X.K a t2 n ?_, q⟩
  unfold knownS at kn
  simp only [Bool.or_eq_true, beq_iff_eq] at kn
  simp only [List.mem_cons, List.not_mem_nil, or_false]
  rcases kn with (((kn | kn) | kn) | kn) | kn <;> simp [kn]
theorem tyS_tup {H : Hp} {p : Addr} {xs : List V} (h : H p = some (.tup xs)) : tyS H (.ref p) = some "tuple" := by simp only [tyS, h]
theorem tyS_lst {H : Hp} {p : Addr} {xs : List V} (h : H p = some (.lst xs)) : tyS H (.ref p) = some "list" := by simp only [tyS, h]
end
theorem bt_isinstance : bootBuiltins "isinstance" = some (.builtin "isinstance") := by decide +kernel
theorem bt_len : bootBuiltins "len" = some (.builtin "len") := by decide +kernel
theorem bt_all : bootBuiltins "all" = some (.builtin "all") := by decide +kernel
theorem bt_int : bootBuiltins "int" = some (.type "int") := by decide +kernel
theorem bt_bool : bootBuiltins "bool" = some (.type "bool") := by decide +kernel
theorem bt_str : bootBuiltins "str" = some (.type "str") := by decide +kernel
theorem bt_list : bootBuiltins "list" = some (.type "list") := by decide +kernel
theorem bt_tuple : bootBuiltins "tuple" = some (.type "tuple") := by decide +kernel
end L2

set_option maxRecDepth 100000
set_option maxHeartbeats 4000000
namespace L2
open PySem PySem.Spec PyProof.Rows

structure VMeth (P : Program) (w : World) (K : PySem.W.Frag) (mg : Str → Option Value) (base : Heap) (k : Nat) (C : Addr) (m : Str) (ps : List Str) (sp : Sp) : Prop where
  cl : Cls K C
  ex : ∃ f fd, Meth K C m f ∧ FnOk P w K mg base CX0 k f fd ps sp ∧ Binds K fd ps []
def tVM (P : Program) (w : World) (K : PySem.W.Frag) (mg : Str → Option Value) (base : Heap) (k : Nat) (m : Str) (ta : TE) (t : TA) : TE := fun σ H Q => ta σ H fun x H1 => ∃ a C dx fs ps sp, x = .ref a ∧ H1 a = some (.ins C dx fs) ∧ VMeth P w K mg base k C m ps sp ∧ fs.lookup m = none ∧
  t σ H1 fun vs H2 => sp (x :: vs) H2 Q E0
structure CMeth (K : PySem.W.Frag) (C : Addr) (m : Str) (f : Addr) : Prop where
  rd : PySem.W.readsIn K C (.type "type") = true
  fc : PySem.W.findCls K (.ref C) (.type "type") m = some (.val (.ref f))
  sg : PySem.W.specialIn K (.ref C) "__getattribute__" = some (some (.builtin "type.__getattribute__"))
  kp : PySem.W.keepIn K (.ref f) = true
structure CCal (P : Program) (w : World) (K : PySem.W.Frag) (mg : Str → Option Value) (base : Heap) (k : Nat) (x m : Str) (ps : List Str) (sp : Sp) : Prop where
  ex : ∃ C f fd, mg x = some (.ref C) ∧ CMeth K C m f ∧ FnOk P w K mg base CX0 k f fd ps sp ∧ Binds K fd ps []
structure Makes (P : Program) (w : World) (K : PySem.W.Frag) (mg : Str → Option Value) (base : Heap) (k : Nat) (x : Str) (C : Addr) (ps : List Str) (sp : Sp) : Prop where
  ex : ∃ f fd, Mk K C f ∧ FnOk P w K mg base CX0 k f fd ps sp ∧ Binds K fd ps []
  at_ : mg x = some (.ref C)
section
variable {X : Cx} {k k' : Nat} {C : Addr} {ps : List Str} {sp : Sp} {x m : Str} {p pos apos : Pos} {e o : Expr} {es : List Expr} {ta : TE} {t : TA}
theorem pe_mak0 (c : Makes X.prog X.w X.K X.mg X.base k x C ps sp) (hr : Room k' X.A) (hk : k + 1 ≤ k') (hg : Gl X x) (hdb : (x == ("__debug__" : Str)) = false := by decide) : PE X (.Call (.Name x p) [] [] pos) (tMake C sp [] E0 tNil) := by
  obtain ⟨f, fd, M, F, b⟩ := c.ex
  exact pe_make0 M F (hr.mono hk) hg c.at_ b .nil pass0 hdb

theorem vals_at {xs : List V} {us : List Value} (r : Vals xs us) {j : Nat} (h : j < us.toArray.size) : RelV (xs.getD j .non) us.toArray[j] := by
  have hj : j < us.length := by simpa using h
  have hx : j < xs.length := by rw [r.length]; exact hj
  obtain ⟨u, hu, ru⟩ := r.get (i := j) (x := xs[j]) (by simp [hx])
  have e1 : us.toArray[j] = u := by
    have : us[j]? = some us[j] := by simp [hj]
    rw [this] at hu
    simpa using Option.some.inj hu
  rw [e1]
  simpa [List.getD, hx] using ru
theorem eqV_refl {x : V} (h : flatV x = true) : eqV x x = true := by
  cases x <;> first | rfl | (simp [eqV]; done) | (simp [flatV] at h)
theorem strsAre_of {ts : List Str} : ∀ {us : List Value}, Vals (ts.map V.str) us → StrsAre us ts := by
  induction ts with
  | nil => intro us r; cases r; exact .nil
  | cons z ts ih =>
    intro us r
    rw [List.map_cons] at r
    cases r with
    | cons r1 r2 =>
      obtain ⟨t, e⟩ := r1
      subst e
      exact .cons z t (ih r2)
end
section
variable {X : Cx} {e o : Expr} {es : List Expr} {ta : TE} {t : TA} {pos apos : Pos} {m f : Str}
theorem ix_listK (K : PySem.W.Frag) (h : X.K = K := by rfl) : IxR X (rIxL K) := by subst h; exact ix_list
theorem ix_tupK (K : PySem.W.Frag) (h : X.K = K := by rfl) : IxR X (rIxT K) := by subst h; exact ix_tup
theorem sl_tupAK (K : PySem.W.Frag) (h : X.K = K := by rfl) : SlR X (rSlTA K) := by subst h; exact sl_tupA
theorem pg_tupK {k : Nat} {g : TGs} {n : Nat} (K : PySem.W.Frag) (hc : X.calm = true) (h : PGs X es g) (hK : X.K = K := by rfl) (hn : (assignEach es X.env).length = n := by rfl) (hst : (assignEach es X.env).findIdx? (·.1) = none := by rfl) : PG X (.Tuple es k pos) (gTup K n g) := by
  subst hK
  exact pg_tup hc h hn hst
theorem pe_fldK (K : PySem.W.Frag) (he : PE X e ta) (hb : attributeBase e f X.env (eval e X.env) = eval e X.env) (hK : X.K = K := by rfl) : PE X (.Attribute e f pos) (tFld K ta f) := by
  subst hK
  exact pe_fld he hb
end
end L2

set_option maxRecDepth 100000
set_option maxHeartbeats 4000000
namespace L2
open PySem PySem.Spec PyProof.Rows
section
variable {X : Cx} {pos : Pos}
def gLst (K : PySem.W.Frag) (n : Nat) (t : TGs) : TG := fun v σ H Q => ∃ a xs, v = .ref a ∧ SqL K H a xs ∧ xs.length = n ∧ t xs σ H Q
theorem pg_lst {es : List Expr} {k : Nat} {t : TGs} {n : Nat} (hc : X.calm = true) (h : PGs X es t)
    (hn : (assignEach es X.env).length = n := by rfl) (hst : (assignEach es X.env).findIdx? (·.1) = none := by rfl) : PG X (.Tuple es k pos) (gLst X.K n t) := by
  intro pins s σ H v u Q I r hw
  obtain ⟨a, xs, e1, hq, hl, hw⟩ := hw
  subst e1
  cases r
  obtain ⟨its, rv, ht, hz⟩ := I.list hq
  have hn' : (assignEach es X.env).length = its.toArray.size := by simp [hn, ← hl, rv.length]
  rw [PyProof.Rows.assign_Tuple]
  refine wpAny_bind (wpAny_standAt ?_)
  unfold unpack
  rw [hn', hst]
  refine wpAny_bind (wpAny_holding (PySem.W.kun_itemsOf (I.ok.hd hc) ht.isList fun h' hx => ?_))
  have I1 : Inv X pins σ H { s with heap := h' } := I.kept (t' := s.toks) fun b o e => hx b o (Nat.ne_of_lt (Heap.lt_size e)) e
  exact h pins _ σ H xs _ Q I1 (by simpa using rv) hw
end

def rLen (K : PySem.W.Frag) : List V → Hp → VK → Prop := fun xs H Q => ∃ p ys, xs = [.ref p] ∧ (SqL K H p ys ∨ SqT K H p ys) ∧ Q (.int ys.length) H
def rTupOf (K : PySem.W.Frag) : List V → Hp → VK → Prop := fun xs H Q => ∃ p ys, xs = [.ref p] ∧ ((SqL K H p ys ∧ ∀ l, H l = none → Q (.ref l) (upd H l (.tup ys))) ∨ (SqT K H p ys ∧ Q (.ref p) H))
def rLstOf (K : PySem.W.Frag) : List V → Hp → VK → Prop := fun xs H Q => ∃ p ys, xs = [.ref p] ∧ (SqL K H p ys ∨ SqT K H p ys) ∧ ∀ l, H l = none → Q (.ref l) (upd H l (.lst ys))
def rMax2 : List V → Hp → VK → Prop := fun xs H Q => ∃ i j, xs = [.int i, .int j] ∧ Q (.int (if j > i then j else i)) H
def rMin2 : List V → Hp → VK → Prop := fun xs H Q => ∃ i j, xs = [.int i, .int j] ∧ Q (.int (if j < i then j else i)) H
def rInt1 : List V → Hp → VK → Prop := fun xs H Q => (∃ i, xs = [.int i] ∧ Q (.int i) H) ∨ ∃ k, xs = [.bl k] ∧ Q (.int (if k then 1 else 0)) H
def rStr1 : List V → Hp → VK → Prop := fun xs H Q => (∃ z, xs = [.str z] ∧ Q (.str z) H) ∨ ∃ i, xs = [.int i] ∧ i.natAbs.log2 < 1920 ∧ Q (.str (toString i)) H
section
variable {X : Cx}
theorem lenK (K : PySem.W.Frag) (h : X.K = K := by rfl) : CallR X (.builtin "len") (rLen K) := by subst h; exact call_len_seq
theorem tupOfK (K : PySem.W.Frag) (h : X.K = K := by rfl) : CallR X (.type "tuple") (rTupOf K) := by subst h; exact call_tuple_of
theorem lstOfK (K : PySem.W.Frag) (h : X.K = K := by rfl) : CallR X (.type "list") (rLstOf K) := by subst h; exact call_list_of
theorem int1 : CallR X (.type "int") rInt1 := call_int1
end
section
variable {σ : St} {H : Hp} {Q : VK} {B : Bool → Hp → Prop} {L : List V → Hp → Prop} {ta tb : TE} {t : TA} {c d : TT} {nx bk ct : St → Hp → Prop} {rt : VK} {g : TG} {K : PySem.W.Frag}
theorem r_var {i : Nat} {v : V} (h : σ[i]? = some (some v)) (q : Q v H) : tVar i σ H Q := ⟨v, h, q⟩
theorem r_c {v : V} (q : Q v H) : tC v σ H Q := q
theorem r_op {r : R2} (q : ta σ H fun x H1 => tb σ H1 fun y H2 => r x y H2 Q) : tOp r ta tb σ H Q := q
theorem r_un {r : V → Hp → VK → Prop} (q : ta σ H fun x H1 => r x H1 Q) : tUn r ta σ H Q := q
theorem r_I0 {f : Int → Int → V} {i j : Int} (q : Q (f i j) H) : rI0 f (.int i) (.int j) H Q := ⟨i, j, rfl, rfl, q⟩
theorem r_I {C : Int → Int → Prop} {f : Int → Int → V} {i j : Int} (h : C i j) (q : Q (f i j) H) : rI C f (.int i) (.int j) H Q := ⟨i, j, rfl, rfl, h, q⟩
theorem r_U {f : Int → V} {i : Int} (q : Q (f i) H) : rU f (.int i) H Q := ⟨i, rfl, q⟩
theorem r_isN (q : ta σ H fun x H1 => Q (.bl (decide (x = .non))) H1) : tIsN ta σ H Q := q
theorem r_notN (q : ta σ H fun x H1 => Q (.bl (!decide (x = .non))) H1) : tNotN ta σ H Q := q
theorem r_B (q : ta σ H fun x H1 => ∃ k, x = .bl k ∧ B k H1) : tB ta σ H B := q
theorem r_test (q : ta σ H fun x H1 => ∃ k, x = .bl k ∧ B k H1) : tTest ta σ H B := q
theorem r_bl {b : Bool} {P : Bool → Prop} (q : P b) : ∃ k, V.bl b = V.bl k ∧ P k := ⟨b, rfl, q⟩
theorem r_and (q : c σ H fun k H1 => if k = true then d σ H1 B else B false H1) : tAnd c d σ H B := q
theorem r_or (q : c σ H fun k H1 => if k = true then B true H1 else d σ H1 B) : tOr c d σ H B := q
theorem r_not (q : c σ H fun k H1 => B (!k) H1) : tNot c σ H B := q
theorem r_andV (q : ta σ H fun x H1 => ∃ k, x = .bl k ∧ if k = true then tb σ H1 Q else Q (.bl false) H1) : tAndV ta tb σ H Q := q
theorem r_orV (q : ta σ H fun x H1 => ∃ k, x = .bl k ∧ if k = true then Q (.bl true) H1 else tb σ H1 Q) : tOrV ta tb σ H Q := q
theorem r_notV (q : ta σ H fun x H1 => ∃ k, x = .bl k ∧ Q (.bl (!k)) H1) : tNotV ta σ H Q := q
theorem r_if (q : c σ H fun k H1 => if k = true then ta σ H1 Q else tb σ H1 Q) : tIf c ta tb σ H Q := q
theorem r_cons (q : ta σ H fun x H1 => t σ H1 fun xs H2 => L (x :: xs) H2) : tCons ta t σ H L := q
theorem r_nil (q : L [] H) : tNil σ H L := q
theorem r_tup (q : t σ H fun xs H1 => xs.length ≤ sizeLine ∧ ∀ p, H1 p = none → Q (.ref p) (upd H1 p (.tup xs))) : tTup t σ H Q := q
theorem r_lst (q : t σ H fun xs H1 => xs.length ≤ sizeLine ∧ ∀ p, H1 p = none → Q (.ref p) (upd H1 p (.lst xs))) : tLst t σ H Q := q
theorem r_al {n : Nat} {P : Prop} (h : Nat.ble n sizeLine = true) (q : P) : n ≤ sizeLine ∧ P := ⟨Nat.le_of_ble_eq_true h, q⟩
theorem r_call {sp : Sp} {E : XK} (q : t σ H fun vs H1 => sp (vs ++ []) H1 Q E) : tCall sp [] E t σ H Q := q
theorem r_cb {r : List V → Hp → VK → Prop} (q : t σ H fun vs H1 => r vs H1 Q) : tCB r t σ H Q := q
theorem r_bm {T : String} {r : V → List V → Hp → VK → Prop} (q : ta σ H fun x H1 => tyV K T x H1 ∧ t σ H1 fun xs H2 => r x xs H2 Q) : tBM K T r ta t σ H Q := q
theorem r_sl {r : V → Option Int → Option Int → Hp → VK → Prop} {tl th : TO} (q : ta σ H fun x H1 => tl σ H1 fun l H2 => th σ H2 fun u H3 => r x l u H3 Q) : tSl r ta tl th σ H Q := q
theorem r_np {P : Option Int → Hp → Prop} (q : P none H) : tNoPart σ H P := q
theorem r_pt {P : Option Int → Hp → Prop} (q : ta σ H fun x H1 => ∃ i, x = .int i ∧ P (some i) H1) : tPart ta σ H P := q
theorem r_int {i : Int} {P : Int → Prop} (q : P i) : ∃ k, V.int i = V.int k ∧ P k := ⟨i, rfl, q⟩
theorem r_eqI {i j : Int} (q : Q (.bl (decide (i = j))) H) : rEq (.int i) (.int j) H Q := ⟨rfl, by rw [show decide (V.int i = V.int j) = decide (i = j) by simp]; exact q⟩
theorem r_eqS {i j : Str} (q : Q (.bl (decide (i = j))) H) : rEq (.str i) (.str j) H Q := ⟨rfl, by rw [show decide (V.str i = V.str j) = decide (i = j) by simp]; exact q⟩
theorem r_eqB {i j : Bool} (q : Q (.bl (decide (i = j))) H) : rEq (.bl i) (.bl j) H Q := ⟨rfl, by rw [show decide (V.bl i = V.bl j) = decide (i = j) by simp]; exact q⟩
theorem r_neI {i j : Int} (q : Q (.bl (!decide (i = j))) H) : rNe (.int i) (.int j) H Q := ⟨rfl, by rw [show decide (V.int i = V.int j) = decide (i = j) by simp]; exact q⟩
theorem r_neS {i j : Str} (q : Q (.bl (!decide (i = j))) H) : rNe (.str i) (.str j) H Q := ⟨rfl, by rw [show decide (V.str i = V.str j) = decide (i = j) by simp]; exact q⟩
theorem r_neB {i j : Bool} (q : Q (.bl (!decide (i = j))) H) : rNe (.bl i) (.bl j) H Q := ⟨rfl, by rw [show decide (V.bl i = V.bl j) = decide (i = j) by simp]; exact q⟩
theorem r_ixT {p : Addr} {xs : List V} {i : Int} {v : V} (h : SqT K H p xs) (e : atI xs i = some v) (q : Q v H) : rIxT K (.ref p) (.int i) H Q := ⟨p, xs, i, v, rfl, rfl, h, e, q⟩
theorem r_ixL {p : Addr} {xs : List V} {i : Int} {v : V} (h : SqL K H p xs) (e : atI xs i = some v) (q : Q v H) : rIxL K (.ref p) (.int i) H Q := ⟨p, xs, i, v, rfl, rfl, h, e, q⟩
theorem r_lenT {p : Addr} {xs : List V} (h : SqT K H p xs) (q : Q (.int xs.length) H) : rLen K [.ref p] H Q := ⟨p, xs, rfl, .inr h, q⟩
theorem r_lenL {p : Addr} {xs : List V} (h : SqL K H p xs) (q : Q (.int xs.length) H) : rLen K [.ref p] H Q := ⟨p, xs, rfl, .inl h, q⟩
theorem r_lenU {p : Addr} {xs : List V} (h : SqL K H p xs ∨ SqT K H p xs) (q : Q (.int xs.length) H) : rLen K [.ref p] H Q := ⟨p, xs, rfl, h, q⟩
theorem r_ixU {p : Addr} {xs : List V} {i : Int} {v : V} (h : SqL K H p xs ∨ SqT K H p xs) (e : atI xs i = some v) (q : Q v H) : rIx K (.ref p) (.int i) H Q := by
  rcases h with h | h
  · exact .inl (r_ixL h e q)
  · exact .inr (.inl (r_ixT h e q))
theorem atI0 {v : V} {l : List V} : atI (v :: l) 0 = some v := atI_nat (j := 0) rfl
theorem atI_off {xs : List V} {j : Nat} {v : V} (h : xs[j]? = some v) : atI xs (0 + (j : Int)) = some v := by rw [Int.zero_add]; exact atI_nat h
theorem r_isi {x : V} {n a : String} {b : Bool} (h : tyS H x = some a) (k : knownS n = true) (e : subS a n = b) (q : Q (.bl b) H) : rIsiS [x, .ty n] H Q := ⟨x, n, a, rfl, h, k, by rw [e]; exact q⟩
theorem r_isi_ib {i : Int} (q : Q (.bl false) H) : rIsiS [.int i, .ty "bool"] H Q := r_isi rfl (by decide +kernel) (by decide +kernel) q
theorem r_isi_ii {i : Int} (q : Q (.bl true) H) : rIsiS [.int i, .ty "int"] H Q := r_isi rfl (by decide +kernel) (by decide +kernel) q
theorem r_isi_bb {i : Bool} (q : Q (.bl true) H) : rIsiS [.bl i, .ty "bool"] H Q := r_isi rfl (by decide +kernel) (by decide +kernel) q
theorem r_isi_bi {i : Bool} (q : Q (.bl true) H) : rIsiS [.bl i, .ty "int"] H Q := r_isi rfl (by decide +kernel) (by decide +kernel) q
theorem r_isi_ss {i : Str} (q : Q (.bl true) H) : rIsiS [.str i, .ty "str"] H Q := r_isi rfl (by decide +kernel) (by decide +kernel) q
theorem r_isi_sb {i : Str} (q : Q (.bl false) H) : rIsiS [.str i, .ty "bool"] H Q := r_isi rfl (by decide +kernel) (by decide +kernel) q
theorem r_isi_si {i : Str} (q : Q (.bl false) H) : rIsiS [.str i, .ty "int"] H Q := r_isi rfl (by decide +kernel) (by decide +kernel) q
theorem r_isi_st {i : Str} (q : Q (.bl false) H) : rIsiS [.str i, .ty "tuple"] H Q := r_isi rfl (by decide +kernel) (by decide +kernel) q
theorem r_isi_it {i : Int} (q : Q (.bl false) H) : rIsiS [.int i, .ty "tuple"] H Q := r_isi rfl (by decide +kernel) (by decide +kernel) q
theorem r_isi_bt {i : Bool} (q : Q (.bl false) H) : rIsiS [.bl i, .ty "tuple"] H Q := r_isi rfl (by decide +kernel) (by decide +kernel) q
theorem r_isi_is {i : Int} (q : Q (.bl false) H) : rIsiS [.int i, .ty "str"] H Q := r_isi rfl (by decide +kernel) (by decide +kernel) q
theorem r_isi_bs {i : Bool} (q : Q (.bl false) H) : rIsiS [.bl i, .ty "str"] H Q := r_isi rfl (by decide +kernel) (by decide +kernel) q
theorem r_isi_nl (q : Q (.bl false) H) : rIsiS [.non, .ty "list"] H Q := r_isi rfl (by decide +kernel) (by decide +kernel) q
theorem r_isi_tt {p : Addr} {xs : List V} (h : H p = some (.tup xs)) (q : Q (.bl true) H) : rIsiS [.ref p, .ty "tuple"] H Q := r_isi (tyS_tup h) (by decide +kernel) (by decide +kernel) q
theorem r_isi_tl {p : Addr} {xs : List V} (h : H p = some (.tup xs)) (q : Q (.bl false) H) : rIsiS [.ref p, .ty "list"] H Q := r_isi (tyS_tup h) (by decide +kernel) (by decide +kernel) q
theorem r_isi_ll {p : Addr} {xs : List V} (h : H p = some (.lst xs)) (q : Q (.bl true) H) : rIsiS [.ref p, .ty "list"] H Q := r_isi (tyS_lst h) (by decide +kernel) (by decide +kernel) q
theorem r_isi_lt {p : Addr} {xs : List V} (h : H p = some (.lst xs)) (q : Q (.bl false) H) : rIsiS [.ref p, .ty "tuple"] H Q := r_isi (tyS_lst h) (by decide +kernel) (by decide +kernel) q
theorem r_seq {t u : TS} (q : t ⟨u ⟨nx, rt, bk, ct⟩, rt, bk, ct⟩ σ H) : tSeq t u ⟨nx, rt, bk, ct⟩ σ H := q
theorem r_asg (q : ta σ H fun x H1 => g x σ H1 nx) : tAsg ta g ⟨nx, rt, bk, ct⟩ σ H := q
theorem r_name {i : Nat} {v : V} {N : St → Hp → Prop} (q : N (σ.set i (some v)) H) : gName i v σ H N := q
theorem r_ifS {t u : TS} {D : Ends} (q : c σ H fun k H1 => if k = true then t D σ H1 else u D σ H1) : tIfS c t u D σ H := q
theorem r_ret (q : ta σ H rt) : tRet ta ⟨nx, rt, bk, ct⟩ σ H := q
theorem r_retN (q : rt .non H) : tRetN ⟨nx, rt, bk, ct⟩ σ H := q
theorem r_next (q : nx σ H) : tNext ⟨nx, rt, bk, ct⟩ σ H := q
theorem r_drop (q : ta σ H fun _ H1 => nx σ H1) : tDrop ta ⟨nx, rt, bk, ct⟩ σ H := q
theorem r_sub {to ti : TE} {ts : TSet} {v : V} {N : St → Hp → Prop} (q : to σ H fun o H1 => ti σ H1 fun i H2 => ts o i v H2 fun H3 => N σ H3) : gSub to ti ts v σ H N := q
theorem r_augS {to ti te : TE} {tget : V → V → Hp → VK → Prop} {tip : TIp} {tset : TSet} (q : to σ H fun o H1 => ti σ H1 fun i H2 => tget o i H2 fun x H3 => te σ H3 fun y H4 => tip x y H4 fun z H5 => tset o i z H5 fun H6 => nx σ H6) : tAugS to ti te tget tip tset ⟨nx, rt, bk, ct⟩ σ H := q
theorem r_ipI {f : Int → Int → Int} {i j : Int} (q : Q (.int (f i j)) H) : ipI f (.int i) (.int j) H Q := ⟨i, j, rfl, rfl, q⟩
theorem r_setL {p : Addr} {xs : List V} {k : Int} {j : Nat} {v : V} {R : Hp → Prop} (h : H p = some (.lst xs)) (e : ixN xs.length k = some j) (q : R (upd H p (.lst (xs.set j v)))) : rSetL (.ref p) (.int k) v H R := ⟨p, xs, k, j, rfl, rfl, h, e, q⟩
theorem r_gT {n : Nat} {gs : TGs} {p : Addr} {xs : List V} {N : St → Hp → Prop} (h : SqT K H p xs) (e : xs.length = n) (q : gs xs σ H N) : gTup K n gs (.ref p) σ H N := ⟨p, xs, rfl, h, e, q⟩
theorem r_gL {n : Nat} {gs : TGs} {p : Addr} {xs : List V} {N : St → Hp → Prop} (h : SqL K H p xs) (e : xs.length = n) (q : gs xs σ H N) : gLst K n gs (.ref p) σ H N := ⟨p, xs, rfl, h, e, q⟩
theorem r_gc {gs : TGs} {v : V} {vs : List V} {N : St → Hp → Prop} (q : g v σ H fun σ' H' => gs vs σ' H' N) : gCons g gs (v :: vs) σ H N := ⟨v, vs, rfl, q⟩
theorem r_gn {N : St → Hp → Prop} (q : N σ H) : gNil [] σ H N := ⟨rfl, q⟩
theorem r_app {p : Addr} {xs : List V} {y : V} (h : H p = some (.lst xs)) (hz : xs.length < sizeLine) (q : Q .non (upd H p (.lst (xs ++ [y])))) : rAppend (.ref p) [y] H Q := ⟨p, xs, y, rfl, rfl, h, hz, q⟩
theorem r_tyL {p : Addr} {xs : List V} {P : Prop} (h : H p = some (.lst xs)) (q : P) : tyV K "list" (.ref p) H ∧ P := ⟨.inl ⟨rfl, _, SqL.of h⟩, q⟩
theorem ifd {p : Prop} [Decidable p] {A B : Prop} (h1 : p → A) (h2 : ¬ p → B) : if decide p = true then A else B := by
  by_cases h : p
  · rw [if_pos (decide_eq_true h)]; exact h1 h
  · rw [if_neg (by simp [h])]; exact h2 h
theorem ifn {p : Prop} [Decidable p] {A B : Prop} (h1 : ¬ p → A) (h2 : p → B) : if (!decide p) = true then A else B := by
  by_cases h : p
  · rw [if_neg (by simp [h])]; exact h2 h
  · rw [if_pos (by simp [h])]; exact h1 h
theorem r_max2 {x y : Int} (q : Q (.int (if y > x then y else x)) H) : rMax2 [.int x, .int y] H Q := ⟨x, y, rfl, q⟩
theorem r_min2 {x y : Int} (q : Q (.int (if y < x then y else x)) H) : rMin2 [.int x, .int y] H Q := ⟨x, y, rfl, q⟩
theorem r_inti {x : Int} (q : Q (.int x) H) : rInt1 [.int x] H Q := .inl ⟨x, rfl, q⟩
theorem r_intb {x : Bool} (q : Q (.int (if x then 1 else 0)) H) : rInt1 [.bl x] H Q := .inr ⟨x, rfl, q⟩
theorem r_strs {x : Str} (q : Q (.str x) H) : rStr1 [.str x] H Q := .inl ⟨x, rfl, q⟩
theorem r_tol {p : Addr} {ys : List V} (h : SqL K H p ys) (q : ∀ l, H l = none → Q (.ref l) (upd H l (.tup ys))) : rTupOf K [.ref p] H Q := ⟨p, ys, rfl, .inl ⟨h, q⟩⟩
theorem r_tot {p : Addr} {ys : List V} (h : SqT K H p ys) (q : Q (.ref p) H) : rTupOf K [.ref p] H Q := ⟨p, ys, rfl, .inr ⟨h, q⟩⟩
theorem r_lof {p : Addr} {ys : List V} (h : SqL K H p ys ∨ SqT K H p ys) (q : ∀ l, H l = none → Q (.ref l) (upd H l (.lst ys))) : rLstOf K [.ref p] H Q := ⟨p, ys, rfl, h, q⟩
theorem ifnT {A B : Prop} (h : B) : if (!true) = true then A else B := iteF h
theorem ifnF {A B : Prop} (h : A) : if (!false) = true then A else B := iteT h
theorem up_keep {a b : Addr} {o u : HO} (h : H b = some u) (n : H a = none) : upd H a o b = some u := by rw [upd_ne (ne_of_none h n)]; exact h
theorem up_oth {a b : Addr} {o u : HO} (h : H b = some u) (n : b ≠ a) : upd H a o b = some u := by rw [upd_ne n]; exact h
end
section
variable {σ : St} {H : Hp} {g : TG} {tb : TS} {nx bk ct : St → Hp → Prop} {rt : VK} {t : TA} {wi : TI}
theorem r_for (q : wi σ H fun J H1 => ∃ W : Nat → Nat → St → Hp → Prop, (∃ m, W 0 m σ H1) ∧ ∀ i m σ H, W i m σ H →
    (J.stop i H ∧ nx σ H) ∨ (J.go i H ∧ ∃ N : St → Hp → Prop, (∀ σ' H', N σ' H' → ∃ m', m' < m ∧ W (i + 1) m' σ' H') ∧ ∀ x H', J.yld i H x H' → g x σ H' fun σ2 H2 => tb ⟨N, rt, nx, N⟩ σ2 H2)) : tFor wi g tb ⟨nx, rt, bk, ct⟩ σ H := q
def rRg (R : It → Hp → Prop) : List V → Hp → Prop := fun vs H1 => ∃ j : Int, vs = [.int j] ∧ -(2 ^ 62) ≤ j ∧ j < 2 ^ 62 ∧ R (Itr 0 j.toNat) H1
def rRg2 (R : It → Hp → Prop) : List V → Hp → Prop := fun vs H1 => ∃ i j : Int, vs = [.int i, .int j] ∧ (-(2 ^ 62) ≤ i ∧ i < 2 ^ 62 ∧ -(2 ^ 62) ≤ j ∧ j < 2 ^ 62) ∧ R (Itr i (j - i).toNat) H1
theorem r_rng1 {R : It → Hp → Prop} (q : t σ H (rRg R)) : iRng1 t σ H R := q
theorem r_rng2 {R : It → Hp → Prop} (q : t σ H (rRg2 R)) : iRng2 t σ H R := q
theorem r_comp {tc : TT} {te : TE} {own : Nat} {caps : List Nat} {Q : VK} (q : wi σ H fun J H1 => ∀ D, H1 D = none → ∃ W : Nat → Nat → St → Hp → Prop, (∃ m, W 0 m (compSt own caps σ) (upd H1 D (.lst []))) ∧ ∀ i m σ' H', W i m σ' H' →
    (J.stop i H' ∧ Q (.ref D) H') ∨ (J.go i H' ∧ ∃ N : St → Hp → Prop, (∀ σ'' H'', N σ'' H'' → ∃ m', m' < m ∧ W (i + 1) m' σ'' H'') ∧ ∀ x H2, J.yld i H' x H2 → g x σ' H2 fun σ3 H3 => tc σ3 H3 fun b H4 =>
      if b = true then te σ3 H4 fun y H5 => ∃ ys, H5 D = some (.lst ys) ∧ ys.length < sizeLine ∧ N σ3 (upd H5 D (.lst (ys ++ [y]))) else N σ3 H4)) : tComp wi g tc te own caps σ H Q := q
theorem r_yes {B : Bool → Hp → Prop} (q : B true H) : tYes σ H B := q
theorem r_iL {K : PySem.W.Frag} {tl : TE} {R : It → Hp → Prop} (q : tl σ H fun x H1 => ∃ a, x = .ref a ∧ (∃ xs, SqL K H1 a xs) ∧ R (Itl K a) H1) : iList K tl σ H R := q
theorem r_iT {K : PySem.W.Frag} {tl : TE} {R : It → Hp → Prop} (q : tl σ H fun x H1 => ∃ a, x = .ref a ∧ (∃ xs, SqT K H1 a xs) ∧ R (Itt K a) H1) : iTup K tl σ H R := q
theorem r_eL {K : PySem.W.Frag} {R : It → Hp → Prop} (q : t σ H fun vs H1 => ∃ a, vs = [.ref a] ∧ (∃ xs, SqL K H1 a xs) ∧ R (Ite fun H xs => SqL K H a xs) H1) : iEnumL K t σ H R := q
theorem r_eT {K : PySem.W.Frag} {R : It → Hp → Prop} (q : t σ H fun vs H1 => ∃ a, vs = [.ref a] ∧ (∃ xs, SqT K H1 a xs) ∧ R (Ite fun H xs => SqT K H a xs) H1) : iEnumT K t σ H R := q
theorem r_refL {K : PySem.W.Frag} {p : Addr} {xs : List V} {R : Addr → Prop} (h : SqL K H p xs) (q : R p) : ∃ a, V.ref p = .ref a ∧ (∃ xs, SqL K H a xs) ∧ R a := ⟨p, rfl, ⟨xs, h⟩, q⟩
theorem r_refT {K : PySem.W.Frag} {p : Addr} {xs : List V} {R : Addr → Prop} (h : SqT K H p xs) (q : R p) : ∃ a, V.ref p = .ref a ∧ (∃ xs, SqT K H a xs) ∧ R a := ⟨p, rfl, ⟨xs, h⟩, q⟩
theorem r_refL1 {K : PySem.W.Frag} {p : Addr} {xs : List V} {R : Addr → Prop} (h : SqL K H p xs) (q : R p) : ∃ a, [V.ref p] = [.ref a] ∧ (∃ xs, SqL K H a xs) ∧ R a := ⟨p, rfl, ⟨xs, h⟩, q⟩
theorem r_refT1 {K : PySem.W.Frag} {p : Addr} {xs : List V} {R : Addr → Prop} (h : SqT K H p xs) (q : R p) : ∃ a, [V.ref p] = [.ref a] ∧ (∃ xs, SqT K H a xs) ∧ R a := ⟨p, rfl, ⟨xs, h⟩, q⟩
theorem r_rg {j : Int} {R : It → Hp → Prop} (h : -1000000 ≤ j ∧ j ≤ 1000000) (q : R (Itr 0 j.toNat) H) : rRg R [.int j] H := ⟨j, rfl, by omega, by omega, q⟩
theorem r_rg2 {i j : Int} {R : It → Hp → Prop} (h : (-1000000 ≤ i ∧ i ≤ 1000000) ∧ -1000000 ≤ j ∧ j ≤ 1000000) (q : R (Itr i (j - i).toNat) H) : rRg2 R [.int i, .int j] H := ⟨i, j, rfl, by omega, q⟩
end

section
variable {J : It} {g : TG} {tb : TS} {nx : St → Hp → Prop} {rt : VK} {σ : St} {H : Hp} {K : PySem.W.Frag} {a : Addr} {xs : List V} {tc : TT} {te : TE} {R : Hp → Prop} {D : Addr}
abbrev ForG (J : It) (g : TG) (tb : TS) (nx : St → Hp → Prop) (rt : VK) (σ : St) (H : Hp) : Prop := ∃ W : Nat → Nat → St → Hp → Prop, (∃ m, W 0 m σ H) ∧ ∀ i m σ H, W i m σ H →
    (J.stop i H ∧ nx σ H) ∨ (J.go i H ∧ ∃ N : St → Hp → Prop, (∀ σ' H', N σ' H' → ∃ m', m' < m ∧ W (i + 1) m' σ' H') ∧ ∀ x H', J.yld i H x H' → g x σ H' fun σ2 H2 => tb ⟨N, rt, nx, N⟩ σ2 H2)
theorem for_by2 (n : Nat) (Pv : Nat → St → Hp → Prop) (h0 : Pv 0 σ H)
    (go : ∀ i σ H, i < n → Pv i σ H → J.go i H ∧ ∀ x H', J.yld i H x H' → g x σ H' fun σ2 H2 => tb ⟨Pv (i + 1), rt, nx, Pv (i + 1)⟩ σ2 H2) (stop : ∀ σ H, Pv n σ H → J.stop n H ∧ nx σ H) : ForG J g tb nx rt σ H := by
  refine ⟨fun i m σ H => m = n - i ∧ i ≤ n ∧ Pv i σ H, ⟨n, by simp, Nat.zero_le _, h0⟩, ?_⟩
  rintro i m σ H ⟨rfl, hi, p⟩
  by_cases hlt : i < n
  · obtain ⟨q1, q2⟩ := go i σ H hlt p
    exact .inr ⟨q1, Pv (i + 1), fun σ' H' p' => ⟨n - (i + 1), by omega, rfl, hlt, p'⟩, q2⟩
  · have e : i = n := by omega
    subst e
    exact .inl (stop σ H p)
theorem for_rng {lo : Int} {n : Nat} (Pv : Nat → St → Hp → Prop) (h0 : Pv 0 σ H) (go : ∀ i σ H, i < n → Pv i σ H → g (.int (lo + (i : Nat))) σ H fun σ2 H2 => tb ⟨Pv (i + 1), rt, nx, Pv (i + 1)⟩ σ2 H2) (stop : ∀ σ H, Pv n σ H → nx σ H) : ForG (Itr lo n) g tb nx rt σ H :=
  for_by2 n Pv h0 (fun i σ H hi p => ⟨hi, fun x H' ⟨e1, e2⟩ => by subst e1 e2; exact go i σ _ hi p⟩) fun σ H p => ⟨Nat.le_refl _, stop σ H p⟩
theorem for_tpl (xs : List V) (Pv : Nat → St → Hp → Prop) (h0 : Pv 0 σ H) (hl : ∀ i σ H, Pv i σ H → SqT K H a xs) (go : ∀ i x σ H, xs[i]? = some x → Pv i σ H → g x σ H fun σ2 H2 => tb ⟨Pv (i + 1), rt, nx, Pv (i + 1)⟩ σ2 H2) (stop : ∀ σ H, Pv xs.length σ H → nx σ H) : ForG (Itt K a) g tb nx rt σ H :=
  for_by2 xs.length Pv h0 (fun i σ H hi p => ⟨⟨xs, xs[i], hl i σ H p, by simp [hi]⟩, fun x H' ⟨e1, e2⟩ => by subst e1; exact go i x σ _ (e2 xs (hl i σ _ p)) p⟩) fun σ H p => ⟨⟨xs, hl _ σ H p, Nat.le_refl _⟩, stop σ H p⟩
abbrev CompG (J : It) (g : TG) (tc : TT) (te : TE) (R : Hp → Prop) (D : Addr) (σ : St) (H : Hp) : Prop := ∃ W : Nat → Nat → St → Hp → Prop, (∃ m, W 0 m σ H) ∧ ∀ i m σ H, W i m σ H →
      (J.stop i H ∧ R H) ∨ (J.go i H ∧ ∃ N : St → Hp → Prop, (∀ σ' H', N σ' H' → ∃ m', m' < m ∧ W (i + 1) m' σ' H') ∧ ∀ x H', J.yld i H x H' → g x σ H' fun σ3 H3 => tc σ3 H3 fun b H4 =>
        if b = true then te σ3 H4 fun y H5 => ∃ ys, H5 D = some (.lst ys) ∧ ys.length < sizeLine ∧ N σ3 (upd H5 D (.lst (ys ++ [y]))) else N σ3 H4)
theorem comp_lst (xs : List V) (Pv : Nat → St → Hp → Prop) (h0 : Pv 0 σ H) (hl : ∀ i σ H, Pv i σ H → SqL K H a xs) (go : ∀ i x σ H, xs[i]? = some x → Pv i σ H → g x σ H fun σ3 H3 => tc σ3 H3 fun b H4 =>
      if b = true then te σ3 H4 fun y H5 => ∃ ys, H5 D = some (.lst ys) ∧ ys.length < sizeLine ∧ Pv (i + 1) σ3 (upd H5 D (.lst (ys ++ [y]))) else Pv (i + 1) σ3 H4) (stop : ∀ σ H, Pv xs.length σ H → R H) : CompG (Itl K a) g tc te R D σ H :=
  comp_by xs.length Pv h0 (fun i σ H hi p => ⟨⟨xs, xs[i], hl i σ H p, by simp [hi]⟩, fun x H' ⟨e1, e2⟩ => by subst e1; exact go i x σ _ (e2 xs (hl i σ _ p)) p⟩) fun σ H p => ⟨⟨xs, hl _ σ H p, Nat.le_refl _⟩, stop σ H p⟩
theorem comp_tpl (xs : List V) (Pv : Nat → St → Hp → Prop) (h0 : Pv 0 σ H) (hl : ∀ i σ H, Pv i σ H → SqT K H a xs) (go : ∀ i x σ H, xs[i]? = some x → Pv i σ H → g x σ H fun σ3 H3 => tc σ3 H3 fun b H4 =>
      if b = true then te σ3 H4 fun y H5 => ∃ ys, H5 D = some (.lst ys) ∧ ys.length < sizeLine ∧ Pv (i + 1) σ3 (upd H5 D (.lst (ys ++ [y]))) else Pv (i + 1) σ3 H4) (stop : ∀ σ H, Pv xs.length σ H → R H) : CompG (Itt K a) g tc te R D σ H :=
  comp_by xs.length Pv h0 (fun i σ H hi p => ⟨⟨xs, xs[i], hl i σ H p, by simp [hi]⟩, fun x H' ⟨e1, e2⟩ => by subst e1; exact go i x σ _ (e2 xs (hl i σ _ p)) p⟩) fun σ H p => ⟨⟨xs, hl _ σ H p, Nat.le_refl _⟩, stop σ H p⟩
end

section
variable {X : Cx} {pos : Pos} {tg : Expr} {es : List Expr} {e o l : Expr} {ta te tl : TE} {t : TA} {K : PySem.W.Frag}
theorem pi_listK (K : PySem.W.Frag) (hl : PE X l tl) (h : X.K = K := by rfl) : PI X tg l (iList K tl) := by subst h; exact pi_list hl
theorem pi_tupK (K : PySem.W.Frag) (hl : PE X l tl) (h : X.K = K := by rfl) : PI X tg l (iTup K tl) := by subst h; exact pi_tup hl
theorem pi_zipTK {elts : List Expr} {k : Nat} {tp : Pos} {a b : Expr} {p pos : Pos} (K : PySem.W.Frag) (hg : Gl X "zip") (hm : X.mg "zip" = none) (ha : PA X [a, b] t) (h : X.K = K := by rfl) (hs : starEach [a, b] X.env = [(false, eval a X.env), (false, eval b X.env)] := by rfl) (hs2 : starEach [b] X.env = [(false, eval b X.env)] := by rfl) :
    PI X (.Tuple elts k tp) (.Call (.Name "zip" p) [a, b] [] pos) (iZipT K t) := by subst h; exact pi_zipT hg hm ha hs hs2
theorem pg_lstK {k : Nat} {gs : TGs} {n : Nat} (K : PySem.W.Frag) (hc : X.calm = true) (h : PGs X es gs) (hK : X.K = K := by rfl) (hn : (assignEach es X.env).length = n := by rfl) (hst : (assignEach es X.env).findIdx? (·.1) = none := by rfl) : PG X (.Tuple es k pos) (gLst K n gs) := by subst hK; exact pg_lst hc h hn hst
theorem op_in_seqK (K : PySem.W.Frag) (h : X.K = K := by rfl) : OpR X (compareOp .In) (rIn K false) := by subst h; exact op_in_seq
theorem call_allK (K : PySem.W.Frag) (hc : X.calm = true) (h : X.K = K := by rfl) : CallR X (.builtin "all") (rAll K) := by subst h; exact call_all hc
theorem line_big : 1000000 < sizeLine := by decide
end

def TSame (H H' : Hp) : Prop := ∀ p xs, H p = some (.tup xs) → H' p = some (.tup xs)
theorem TSame.refl (H : Hp) : TSame H H := fun _ _ h => h
theorem TSame.trans {H H1 H2 : Hp} (a : TSame H H1) (b : TSame H1 H2) : TSame H H2 := fun p xs h => b p xs (a p xs h)
theorem Same.ts {H H' : Hp} (s : Same H H') : TSame H H' := fun p _ h => s p _ h
theorem TSame.new {H : Hp} {a : Addr} {o : HO} (h : H a = none) : TSame H (upd H a o) := (Same.upd h).ts
theorem TSame.lst {H : Hp} {a : Addr} {ys : List V} {o : HO} (h : H a = some (.lst ys)) : TSame H (upd H a o) := fun p xs e => by rw [upd_ne (ne_of e h (by intro z; cases z))]; exact e
end L2

set_option maxRecDepth 100000
set_option maxHeartbeats 4000000
namespace Ce
open PySem L2
def bit (x : Int) (t : Nat) : Bool := decide (x / 2 ^ t % 2 = 1)
def cnt (P : Nat → Bool) : Nat → Nat
  | 0 => 0
  | n + 1 => cnt P n + (if P n = true then 1 else 0)
theorem set_map {α : Type} (f : Nat → α) (n j : Nat) (v : α) : ((List.range n).map f).set j v = (List.range n).map fun k => if k = j then v else f k := by
  apply List.ext_getElem?
  intro i
  rw [List.getElem?_set]
  simp only [List.getElem?_map, List.length_map, List.length_range]
  by_cases h : j = i
  · subst h
    by_cases hj : j < n
    · simp [hj]
    · simp [hj]
  · have h' : ¬ i = j := fun e => h e.symm
    by_cases hi : i < n
    · simp [h, h', hi]
    · simp [h, hi]
def dP (ds : Nat → Option Int) (op k : Int) (w : Nat) : Bool := decide (ds w = some k) && bit op w
theorem mod_lo (x : Int) {n : Int} (h : 0 < n) : 0 ≤ x % n := Int.emod_nonneg _ (by omega)
theorem mod_hi (x : Int) {n : Int} (h : 0 < n) : x % n < n := Int.emod_lt_of_pos _ h
inductive Gt where
  | plain | door (k : Int) | need (k : Int) | bar (b : Int) | wade (h k : Int) | float (h : Int)
def Gt.vs : Gt → List V
  | .plain => [.str "plain"]
  | .door k => [.str "door", .int k]
  | .need k => [.str "need", .int k]
  | .bar b => [.str "bar", .int b]
  | .wade h k => [.str "wade", .int h, .int k]
  | .float h => [.str "float", .int h]
def Gt.ok : Gt → Prop
  | .plain => True
  | .door k => 0 ≤ k ∧ k < 12
  | .need k => 0 ≤ k ∧ k < 12
  | .bar b => 0 ≤ b ∧ b < 8
  | .wade h k => (0 ≤ h ∧ h < 10) ∧ 0 ≤ k ∧ k < 12
  | .float h => 0 ≤ h ∧ h < 10
def Gt.dk : Gt → Option Int
  | .door k => some k
  | _ => none
def Gt.word : Gt → Str
  | .plain => "plain"
  | .door _ => "door"
  | .need _ => "need"
  | .bar _ => "bar"
  | .wade _ _ => "wade"
  | .float _ => "float"
def Gt.ns : Gt → List Int
  | .plain => []
  | .door k => [k]
  | .need k => [k]
  | .bar b => [b]
  | .wade h k => [h, k]
  | .float h => [h]
theorem Gt.vs_eq (g : Gt) : g.vs = .str g.word :: g.ns.map V.int := by cases g <;> rfl
theorem Gt.flat (g : Gt) : g.vs.all flatV = true := by cases g <;> rfl
theorem Gt.ns_len (g : Gt) : g.ns.length ≤ 2 := by cases g <;> simp [Gt.ns]
structure Way where
  a : Int
  b : Int
  g : Gt
  back : Bool
structure Cl where
  rooms : Int
  fst : Int
  lst : Int
  ways : List Way
  things : List (Int × Int)
  levers : List (Int × Int)
  wheels : List (Int × Int)
  bars : Int
  water : Int
structure ClOk (C : Cl) : Prop where
  r1 : 1 ≤ C.rooms
  r2 : C.rooms ≤ 14
  f : 0 ≤ C.fst ∧ C.fst < C.rooms
  l : 0 ≤ C.lst ∧ C.lst < C.rooms
  wl : C.ways.length ≤ 20
  tl : C.things.length ≤ 8
  ll : C.levers.length ≤ 4
  vl : C.wheels.length ≤ 4
  w : ∀ x ∈ C.ways, (0 ≤ x.a ∧ x.a < C.rooms) ∧ (0 ≤ x.b ∧ x.b < C.rooms) ∧ x.a ≠ x.b ∧ x.g.ok
  t : ∀ x ∈ C.things, (0 ≤ x.1 ∧ x.1 < C.rooms) ∧ 0 ≤ x.2 ∧ x.2 < 12
  lv : ∀ x ∈ C.levers, (0 ≤ x.1 ∧ x.1 < C.rooms) ∧ 1 ≤ x.2 ∧ x.2 ≤ 255
  wh : ∀ x ∈ C.wheels, (0 ≤ x.1 ∧ x.1 < C.rooms) ∧ 0 ≤ x.2 ∧ x.2 ≤ 9
  b : 0 ≤ C.bars ∧ C.bars ≤ 255
  wa : 0 ≤ C.water ∧ C.water ≤ 9
def PairAt (H : Hp) (p : Addr) (x : Int × Int) : Prop := H p = some (.tup [.int x.1, .int x.2])
def WayAt (H : Hp) (p : Addr) (x : Way) : Prop := ∃ g, H p = some (.tup [.int x.a, .int x.b, .ref g, .bl x.back]) ∧ H g = some (.tup x.g.vs)
def Rows {α : Type} (At : Hp → Addr → α → Prop) (H : Hp) (ps : List Addr) (xs : List α) : Prop := ps.length = xs.length ∧ ∀ (i : Nat) (p : Addr) (x : α), ps[i]? = some p → xs[i]? = some x → At H p x
def TupOf {α : Type} (At : Hp → Addr → α → Prop) (H : Hp) (q : Addr) (xs : List α) : Prop := ∃ ps, H q = some (.tup (ps.map V.ref)) ∧ Rows At H ps xs
def LstOf {α : Type} (At : Hp → Addr → α → Prop) (H : Hp) (q : Addr) (xs : List α) : Prop := ∃ ps, H q = some (.lst (ps.map V.ref)) ∧ Rows At H ps xs
section
variable {α : Type} {At : Hp → Addr → α → Prop} {H H' : Hp} {ps : List Addr} {xs : List α} {p q : Addr} {x : α}
theorem PairAt.mono (s : TSame H H') {p : Addr} {x : Int × Int} (h : PairAt H p x) : PairAt H' p x := s _ _ h
theorem WayAt.mono (s : TSame H H') {p : Addr} {x : Way} (h : WayAt H p x) : WayAt H' p x := let ⟨g, h1, h2⟩ := h; ⟨g, s _ _ h1, s _ _ h2⟩
theorem Rows.mono (m : ∀ p x, At H p x → At H' p x) (h : Rows At H ps xs) : Rows At H' ps xs := ⟨h.1, fun i p x h1 h2 => m p x (h.2 i p x h1 h2)⟩
theorem Rows.nil : Rows At H [] [] := ⟨rfl, fun i p x h _ => by simp at h⟩
theorem Rows.snoc (h : Rows At H ps xs) (hx : At H p x) : Rows At H (ps ++ [p]) (xs ++ [x]) := by
  refine ⟨by simp [h.1], fun i q y h1 h2 => ?_⟩
  by_cases hi : i < ps.length
  · rw [List.getElem?_append_left hi] at h1
    rw [List.getElem?_append_left (by rw [← h.1]; exact hi)] at h2
    exact h.2 i q y h1 h2
  · have e : i = ps.length := by
      have := (List.getElem?_eq_some_iff.mp h1).1
      simp at this
      omega
    subst e
    rw [List.getElem?_append_right (Nat.le_refl _)] at h1
    rw [List.getElem?_append_right (by rw [h.1]; exact Nat.le_refl _), ← h.1] at h2
    simp at h1 h2
    rw [← h1, ← h2]
    exact hx
theorem Rows.get (h : Rows At H ps xs) {i : Nat} (hi : i < xs.length) : ∃ p, (ps.map V.ref)[i]? = some (.ref p) ∧ At H p xs[i] := by
  have hp : i < ps.length := by rw [h.1]; exact hi
  exact ⟨ps[i], by simp [hp], h.2 i _ _ (by simp [hp]) (by simp [hi])⟩
theorem TupOf.mono (s : TSame H H') (m : ∀ p x, At H p x → At H' p x) (h : TupOf At H q xs) : TupOf At H' q xs := let ⟨ps, h1, h2⟩ := h; ⟨ps, s _ _ h1, h2.mono m⟩
theorem TupOf.get (h : TupOf At H q xs) : ∃ vs, H q = some (.tup vs) ∧ vs.length = xs.length ∧ ∀ i (hi : i < xs.length), ∃ p, vs[i]? = some (.ref p) ∧ At H p xs[i] := by
  obtain ⟨ps, h1, h2⟩ := h
  exact ⟨_, h1, by simp [h2.1], fun i hi => h2.get hi⟩
end
structure ClAt (H : Hp) (c : Addr) (C : Cl) : Prop where
  ex : ∃ w t l v, H c = some (.tup [.int C.rooms, .int C.fst, .int C.lst, .ref w, .ref t, .ref l, .ref v, .int C.bars, .int C.water]) ∧ TupOf WayAt H w C.ways ∧ TupOf PairAt H t C.things ∧ TupOf PairAt H l C.levers ∧ TupOf PairAt H v C.wheels
theorem ClAt.mono {H H' : Hp} (s : TSame H H') {c : Addr} {C : Cl} (h : ClAt H c C) : ClAt H' c C := by
  obtain ⟨w, t, l, v, h0, h1, h2, h3, h4⟩ := h.ex
  exact ⟨w, t, l, v, s _ _ h0, h1.mono s (fun _ _ => WayAt.mono s), h2.mono s (fun _ _ => PairAt.mono s), h3.mono s (fun _ _ => PairAt.mono s), h4.mono s (fun _ _ => PairAt.mono s)⟩
def WOk (r : Int) (x : Way) : Prop := (0 ≤ x.a ∧ x.a < r) ∧ (0 ≤ x.b ∧ x.b < r) ∧ x.a ≠ x.b ∧ x.g.ok
def POk (r lo hi : Int) (x : Int × Int) : Prop := (0 ≤ x.1 ∧ x.1 < r) ∧ lo ≤ x.2 ∧ x.2 ≤ hi
structure Apart (L l0 l1 l2 l3 : Addr) : Prop where
  L0 : L ≠ l0
  L1 : L ≠ l1
  L2 : L ≠ l2
  L3 : L ≠ l3
  e01 : l0 ≠ l1
  e02 : l0 ≠ l2
  e03 : l0 ≠ l3
  e12 : l1 ≠ l2
  e13 : l1 ≠ l3
  e23 : l2 ≠ l3
structure Grown {α : Type} (At : Hp → Addr → α → Prop) (ok : α → Prop) (most : Nat) (H : Hp) (l : Addr) : Prop where
  ex : ∃ xs : List α, LstOf At H l xs ∧ xs.length ≤ most ∧ ∀ x ∈ xs, ok x
section
variable {α : Type} {At : Hp → Addr → α → Prop} {ok : α → Prop} {most : Nat} {H H' : Hp} {l m : Addr}
theorem Grown.at (g : Grown At ok most H l) : ∃ xs, H l = some (.lst xs) ∧ xs.length ≤ most := by
  obtain ⟨xs, ⟨ps, h1, h2⟩, h3, _⟩ := g.ex
  exact ⟨_, h1, by rw [List.length_map, h2.1]; exact h3⟩
theorem Grown.none (h : H l = some (.lst [])) : Grown At ok most H l := ⟨[], ⟨[], h, Rows.nil⟩, Nat.zero_le _, fun _ h => by simp at h⟩
theorem Grown.stay (g : Grown At ok most H l) (mo : ∀ p x, At H p x → At H' p x) (e : H' l = H l) : Grown At ok most H' l := by
  obtain ⟨xs, ⟨ps, h1, h2⟩, h3, h4⟩ := g.ex
  exact ⟨xs, ⟨ps, by rw [e]; exact h1, h2.mono mo⟩, h3, h4⟩
theorem Grown.same (g : Grown At ok most H l) (mo : ∀ p x, At H p x → At H' p x) (s : Same H H') : Grown At ok most H' l := by
  obtain ⟨xs, ⟨ps, h1, h2⟩, h3, h4⟩ := g.ex
  exact ⟨xs, ⟨ps, s _ _ h1, h2.mono mo⟩, h3, h4⟩
theorem Grown.app (g : Grown At ok most H l) {ys : List V} {p : Addr} {x : α} (mo : ∀ q x, At H q x → At (upd H l (.lst (ys ++ [.ref p]))) q x) (hy : H l = some (.lst ys)) (hl : ys.length < most) (hx : At H p x) (hok : ok x) : Grown At ok most (upd H l (.lst (ys ++ [.ref p]))) l := by
  obtain ⟨xs, ⟨ps, h1, h2⟩, h3, h4⟩ := g.ex
  rw [h1] at hy
  have e : ps.map V.ref = ys := by
    have := Option.some.inj hy
    injection this
  subst e
  refine ⟨xs ++ [x], ⟨ps ++ [p], by rw [upd_same, List.map_append]; rfl, (h2.mono mo).snoc (mo _ _ hx)⟩, ?_, fun z hz => ?_⟩
  · rw [List.length_append, ← h2.1]
    rw [List.length_map] at hl
    exact hl
  · rcases List.mem_append.mp hz with hz | hz
    · exact h4 z hz
    · rw [List.mem_singleton.mp hz]; exact hok
end
structure Four (H : Hp) (r : Int) (L l0 l1 l2 l3 : Addr) : Prop where
  hL : H L = some (.lst [.ref l0, .ref l1, .ref l2, .ref l3])
  g0 : Grown WayAt (WOk r) 20 H l0
  g1 : Grown PairAt (POk r 0 11) 8 H l1
  g2 : Grown PairAt (POk r 1 255) 4 H l2
  g3 : Grown PairAt (POk r 0 9) 4 H l3
section
variable {H H' : Hp} {r : Int} {L l0 l1 l2 l3 p : Addr} {ys : List V}
theorem Four.same (F : Four H r L l0 l1 l2 l3) (s : Same H H') : Four H' r L l0 l1 l2 l3 :=
  ⟨s _ _ F.hL, F.g0.same (fun _ _ => WayAt.mono s.ts) s, F.g1.same (fun _ _ => PairAt.mono s.ts) s, F.g2.same (fun _ _ => PairAt.mono s.ts) s, F.g3.same (fun _ _ => PairAt.mono s.ts) s⟩
theorem Four.way (A : Apart L l0 l1 l2 l3) (F : Four H r L l0 l1 l2 l3) (hy : H l0 = some (.lst ys)) (hl : ys.length < 20) {x : Way} (hx : WayAt H p x) (ok : WOk r x) : Four (upd H l0 (.lst (ys ++ [.ref p]))) r L l0 l1 l2 l3 := by
  have ts : TSame H (upd H l0 (.lst (ys ++ [.ref p]))) := TSame.lst hy
  exact ⟨by rw [upd_ne A.L0]; exact F.hL, F.g0.app (fun _ _ => WayAt.mono ts) hy hl hx ok, F.g1.stay (fun _ _ => PairAt.mono ts) (upd_ne A.e01.symm), F.g2.stay (fun _ _ => PairAt.mono ts) (upd_ne A.e02.symm), F.g3.stay (fun _ _ => PairAt.mono ts) (upd_ne A.e03.symm)⟩
theorem Four.thing (A : Apart L l0 l1 l2 l3) (F : Four H r L l0 l1 l2 l3) (hy : H l1 = some (.lst ys)) (hl : ys.length < 8) {x : Int × Int} (hx : PairAt H p x) (ok : POk r 0 11 x) : Four (upd H l1 (.lst (ys ++ [.ref p]))) r L l0 l1 l2 l3 := by
  have ts : TSame H (upd H l1 (.lst (ys ++ [.ref p]))) := TSame.lst hy
  exact ⟨by rw [upd_ne A.L1]; exact F.hL, F.g0.stay (fun _ _ => WayAt.mono ts) (upd_ne A.e01), F.g1.app (fun _ _ => PairAt.mono ts) hy hl hx ok, F.g2.stay (fun _ _ => PairAt.mono ts) (upd_ne A.e12.symm), F.g3.stay (fun _ _ => PairAt.mono ts) (upd_ne A.e13.symm)⟩
theorem Four.lever (A : Apart L l0 l1 l2 l3) (F : Four H r L l0 l1 l2 l3) (hy : H l2 = some (.lst ys)) (hl : ys.length < 4) {x : Int × Int} (hx : PairAt H p x) (ok : POk r 1 255 x) : Four (upd H l2 (.lst (ys ++ [.ref p]))) r L l0 l1 l2 l3 := by
  have ts : TSame H (upd H l2 (.lst (ys ++ [.ref p]))) := TSame.lst hy
  exact ⟨by rw [upd_ne A.L2]; exact F.hL, F.g0.stay (fun _ _ => WayAt.mono ts) (upd_ne A.e02), F.g1.stay (fun _ _ => PairAt.mono ts) (upd_ne A.e12), F.g2.app (fun _ _ => PairAt.mono ts) hy hl hx ok, F.g3.stay (fun _ _ => PairAt.mono ts) (upd_ne A.e23.symm)⟩
end
def tP (C : Cl) (tk k : Int) (t : Nat) : Bool := decide ((C.things.getD t (0, 0)).2 = k) && bit tk t
def dsOf (C : Cl) (w : Nat) : Option Int := (C.ways[w]?).bind fun x => x.g.dk
def hold (C : Cl) (tk op k : Int) : Int := (cnt (tP C tk k) C.things.length : Int) - (cnt (dP (dsOf C) op k) C.ways.length : Int)
def cl (f : Int → Int) : List V := (List.range 12).map fun k : Nat => V.int (f k)
structure StOk (C : Cl) (rm tk op b wt : Int) : Prop where
  hrm : 0 ≤ rm ∧ rm < C.rooms
  htk : 0 ≤ tk ∧ tk < 2 ^ C.things.length
  hop : 0 ≤ op ∧ op < 2 ^ C.ways.length
  dr : ∀ i, i < C.ways.length → bit op i = true → (dsOf C i).isSome = true
  hb : 0 ≤ b ∧ b ≤ 255
  hwt : 0 ≤ wt ∧ wt ≤ 9
  held : ∀ k, 0 ≤ k → k < 12 → 0 ≤ hold C tk op k
end Ce

set_option maxRecDepth 100000
set_option maxHeartbeats 4000000
namespace L2
open PySem PySem.Spec PyProof.Rows
section
variable {X : Cx}
end
section
variable {H : Hp} {Q : VK} {K : PySem.W.Frag} {σ : St}
theorem r_chain {r r' : R2} {ta tb tc : TE} (q : ta σ H fun x H1 => tb σ H1 fun y H2 => r x y H2 fun z H3 => ∃ k, z = .bl k ∧ (if k = true then tc σ H3 fun w' H4 => r' y w' H4 Q else Q (.bl false) H3)) : tChain r r' ta tb tc σ H Q := q
end
end L2

set_option maxRecDepth 100000
set_option maxHeartbeats 4000000
namespace Ce
open PySem L2
end Ce

set_option maxRecDepth 100000
set_option maxHeartbeats 4000000
namespace L2
open PySem PySem.Spec PyProof.Rows
structure LaidM (K : PySem.W.Frag) (C : Addr) (m qual : Str) (st : Stmt) (ps : List Str) : Prop where
  ex : ∃ f fd, Fun K m qual st f fd ∧ Meth K C m f ∧ Binds K fd ps []
structure LaidI (K : PySem.W.Frag) (mg : Str → Option Value) (x : Str) (C : Addr) (qual : Str) (st : Stmt) (ps : List Str) : Prop where
  ex : ∃ f fd, Fun K "__init__" qual st f fd ∧ Mk K C f ∧ Binds K fd ps []
  at_ : mg x = some (.ref C)
structure LaidC (K : PySem.W.Frag) (mg : Str → Option Value) (x m qual : Str) (st : Stmt) (ps : List Str) : Prop where
  ex : ∃ C f fd, mg x = some (.ref C) ∧ Fun K m qual st f fd ∧ CMeth K C m f ∧ Binds K fd ps []
structure Tyc (K : PySem.W.Frag) (C : Addr) : Prop where
  ha : PySem.W.findIn K (.ref C) "__class__" = some (some (.builtin "object.__class__"))
  hn : PySem.W.specialIn K (.builtin "object.__class__") "__get__" = some (some (.builtin "getset_descriptor.__get__"))
  htk : PySem.W.takesIn K (.builtin "object.__class__") = some true
  hm : PySem.W.mroIn K C (.type "object") = some true
section
variable {P : Program} {w : World} {K : PySem.W.Frag} {mg : Str → Option Value} {base : Heap}
theorem LaidI.makes {x : Str} {C : Addr} {qual : Str} {st : Stmt} {N ps : List Str} {k : Nat} {sp : Sp} (L : LaidI K mg x C qual st ps) (S : FnScope N ps (defScope st)) (len : ∀ vs H Q E, sp vs H Q E → vs.length = ps.length)
    (hbody : ∀ (f : Addr) (cdv : Value) (A : Around) (outer : List Env) (s : Shared) (H : Hp) (vs : List V) (Q : VK) (E : XK), Room k (A.deeper (envOfC qual (defScope st) s.heap.objs.size f cdv)) → sp vs H Q E →
      ∃ t, PSs (cxOf CX0 P w K mg base N qual (defScope st) f cdv A outer s H E).nox (defBody st) t ∧ t { nx := fun _ H' => Q .non H', rt := Q } (start N vs) H) : Makes P w K mg base (k + 1) x C ps sp := by
  obtain ⟨f, fd, F, M, b⟩ := L.ex
  exact ⟨⟨f, fd, M, F.ok S len (fun cdv A outer s H vs Q E hr h => hbody f cdv A outer s H vs Q E hr h), b⟩, L.at_⟩
end
def rFld (K : PySem.W.Frag) (f : Str) (x : V) (H : Hp) (Q : VK) : Prop := ∃ a C dx fs v, x = .ref a ∧ H a = some (.ins C dx fs) ∧ Cls K C ∧ NoAttr K C f ∧ fs.lookup f = some v ∧ Q v H
def rSetF (K : PySem.W.Frag) (f : Str) (x y : V) (H : Hp) (R : Hp → Prop) : Prop := ∃ a C dx fs, x = .ref a ∧ H a = some (.ins C dx fs) ∧ Cls K C ∧ NoAttr K C f ∧ fs.length < 1000 ∧ R (upd H a (.ins C dx (putF f y fs)))
def rVM (P : Program) (w : World) (K : PySem.W.Frag) (mg : Str → Option Value) (base : Heap) (k : Nat) (m : Str) (σ : St) (t : TA) (x : V) (H : Hp) (Q : VK) : Prop := ∃ a C dx fs ps sp, x = .ref a ∧ H a = some (.ins C dx fs) ∧ VMeth P w K mg base k C m ps sp ∧ fs.lookup m = none ∧ t σ H fun vs H2 => sp (x :: vs) H2 Q E0
section
variable {σ : St} {H : Hp} {Q : VK} {K : PySem.W.Frag} {ta tv : TE} {t : TA} {f m : Str} {nx bk ct : St → Hp → Prop} {rt : VK} {P : Program} {w : World} {mg : Str → Option Value} {base : Heap} {k : Nat}
theorem r_fld0 (q : ta σ H fun x H1 => rFld K f x H1 Q) : tFld K ta f σ H Q := q
theorem r_setf0 (q : tv σ H fun y H1 => ta σ H1 fun x H2 => rSetF K f x y H2 fun H3 => nx σ H3) : sFld K ta tv f ⟨nx, rt, bk, ct⟩ σ H := q
theorem r_vm0 (q : ta σ H fun x H1 => rVM P w K mg base k m σ t x H1 Q) : tVM P w K mg base k m ta t σ H Q := q
theorem r_fld {a C dx : Addr} {fs : List (Str × V)} {v : V} (h : H a = some (.ins C dx fs)) (c : Cls K C) (n : NoAttr K C f) (l : fs.lookup f = some v) (q : Q v H) : rFld K f (.ref a) H Q := ⟨a, C, dx, fs, v, rfl, h, c, n, l, q⟩
theorem r_setf {a C dx : Addr} {fs : List (Str × V)} {y : V} {R : Hp → Prop} (h : H a = some (.ins C dx fs)) (c : Cls K C) (n : NoAttr K C f) (l : fs.length < 1000) (q : R (upd H a (.ins C dx (putF f y fs)))) : rSetF K f (.ref a) y H R := ⟨a, C, dx, fs, rfl, h, c, n, l, q⟩
theorem r_make {C : Addr} {sp : Sp} {E : XK} (q : t σ H fun vs H1 => ∀ x dx, H1 x = none → H1 dx = none → dx ≠ x → sp (.ref x :: (vs ++ [])) (upd (upd H1 dx (.own x)) x (.ins C dx [])) (fun v H2 => v = .non ∧ Q (.ref x) H2) E) : tMake C sp [] E t σ H Q := q
end
section
variable {X : Cx}
theorem ps_fldK {o value : Expr} {ta tv : TE} {f : Str} {pos pos' : Pos} (K : PySem.W.Frag) (ha : PE X o ta) (hv : PE X value tv) (hs : swapsWith value (some (.Attribute o f pos')) pos.line X.env = pure false) (hK : X.K = K := by rfl) : PS X (.Assign [.Attribute o f pos'] value pos) (sFld K ta tv f) := by subst hK; exact ps_fld ha hv hs
end
theorem Same.ins {H H' : Hp} (s : Same H H') {a C dx : Addr} {fs : List (Str × V)} (h : H a = some (.ins C dx fs)) : H' a = some (.ins C dx fs) := s _ _ h
end L2

set_option maxRecDepth 100000
set_option maxHeartbeats 4000000
namespace L2
open PySem PySem.Spec PyProof.Rows
inductive Deq (K : PySem.W.Frag) (H : Hp) : Nat → V → V → Bool → Prop where
  | flat {n : Nat} {x y : V} (fx : flatV x = true) (fy : flatV y = true) : Deq K H n x y (eqV x y)
  | same {n : Nat} (a : Addr) : Deq K H n (.ref a) (.ref a) true
  | tup {n : Nat} {a b : Addr} {xs ys : List V} {e : Nat → Bool} (hne : a ≠ b) (ha : SqT K H a xs) (hb : SqT K H b ys) (h : ∀ j, j < xs.length → j < ys.length → Deq K H n (xs.getD j .non) (ys.getD j .non) (e j)) :
      Deq K H (n + 1) (.ref a) (.ref b) ((List.range (min xs.length ys.length)).all e && xs.length == ys.length)
  | lst {n : Nat} {a b : Addr} {xs ys : List V} {e : Nat → Bool} (hne : a ≠ b) (ha : SqL K H a xs) (hb : SqL K H b ys) (hl : xs.length = ys.length) (h : ∀ j, j < xs.length → j < ys.length → Deq K H n (xs.getD j .non) (ys.getD j .non) (e j)) :
      Deq K H (n + 1) (.ref a) (.ref b) ((List.range xs.length).all e)
  | lstn {n : Nat} {a b : Addr} {xs ys : List V} (hne : a ≠ b) (ha : SqL K H a xs) (hb : SqL K H b ys) (hl : xs.length ≠ ys.length) : Deq K H (n + 1) (.ref a) (.ref b) false
section
variable {X : Cx} {pins : List (Addr × Obj)} {σ : St} {H : Hp} {s : Shared}
theorem eqAt_D (I : Inv X pins σ H s) {n : Nat} {x y : V} {b : Bool} (d : Deq X.K H n x y b) : ∀ {A : Around} {u v : Value}, A.units + n < cLine → RelV x u → RelV y v → SeqAt.EqAt A s u v b := by
  induction d with
  | flat fx fy => intro A u v _ rx ry; exact eqAt_V rx ry fx fy
  | same a => intro A u v _ rx ry; cases rx; cases ry; exact SeqAt.EqAt.same _
  | @tup n a b xs ys e hne ha hb h ih =>
    intro A u v hu rx ry
    cases rx
    cases ry
    obtain ⟨ia, ra, pa, _⟩ := I.tuple ha
    obtain ⟨ib, rb, pb, _⟩ := I.tuple hb
    have la := ra.length
    have lb := rb.length
    refine SeqAt.EqAt.of_refs hne ?_
    have q := SeqAt.RcAt.tuples (A := A) (e := e) (show s.heap.IsTuple a ia.toArray from pa) (show s.heap.IsTuple b ib.toArray from pb) (by omega) (fun j h1 h2 => ih j (by simpa [la] using h1) (by simpa [lb] using h2) (by show A.units + 1 + n < cLine; omega) (vals_at ra h1) (vals_at rb h2))
    simpa [la, lb] using q
  | @lst n a b xs ys e hne ha hb hl h ih =>
    intro A u v hu rx ry
    cases rx
    cases ry
    obtain ⟨ia, ra, pa, _⟩ := I.list ha
    obtain ⟨ib, rb, pb, _⟩ := I.list hb
    have la := ra.length
    have lb := rb.length
    refine SeqAt.EqAt.of_refs hne ?_
    have q := SeqAt.RcAt.lists (A := A) (e := e) pa.isList pb.isList (by simp; omega) (by omega) (fun j h1 h2 => ih j (by simpa [la] using h1) (by simpa [lb] using h2) (by show A.units + 1 + n < cLine; omega) (vals_at ra h1) (vals_at rb h2))
    simpa [la] using q
  | @lstn n a b xs ys hne ha hb hl =>
    intro A u v hu rx ry
    cases rx
    cases ry
    obtain ⟨ia, ra, pa, _⟩ := I.list ha
    obtain ⟨ib, rb, pb, _⟩ := I.list hb
    have la := ra.length
    have lb := rb.length
    exact SeqAt.EqAt.of_refs hne (SeqAt.RcAt.lists_lengths pa.isList pb.isList (by simp; omega) (by omega))
end
def rEqD (K : PySem.W.Frag) (n : Nat) : R2 := fun x y H Q =>
  (∃ p q xs ys e, x = .ref p ∧ y = .ref q ∧ SqT K H p xs ∧ SqT K H q ys ∧ (∀ j, j < xs.length → j < ys.length → Deq K H n (xs.getD j .non) (ys.getD j .non) (e j)) ∧ Q (.bl ((List.range (min xs.length ys.length)).all e && xs.length == ys.length)) H) ∨
  (∃ p q xs ys e, x = .ref p ∧ y = .ref q ∧ SqL K H p xs ∧ SqL K H q ys ∧ xs.length = ys.length ∧ (∀ j, j < xs.length → j < ys.length → Deq K H n (xs.getD j .non) (ys.getD j .non) (e j)) ∧ Q (.bl ((List.range xs.length).all e)) H) ∨
  (∃ p q xs ys, x = .ref p ∧ y = .ref q ∧ SqL K H p xs ∧ SqL K H q ys ∧ xs.length ≠ ys.length ∧ Q (.bl false) H)
section
variable {X : Cx}
theorem op_eqD (K : PySem.W.Frag) (n : Nat) (hu : X.A.units + n + 1 < cLine) (hK : X.K = K := by rfl) : OpR X (compareOp .Eq) (rEqD K n) := by
  subst hK
  intro pins s σ H x y v u Q I rx ry h
  rcases h with ⟨p, q, xs, ys, e, rfl, rfl, hp, hq, hd, k⟩ | ⟨p, q, xs, ys, e, rfl, rfl, hp, hq, hl, hd, k⟩ | ⟨p, q, xs, ys, rfl, rfl, hp, hq, hl, k⟩
  · cases rx
    cases ry
    obtain ⟨ia, ra, pa, _⟩ := I.tuple hp
    obtain ⟨ib, rb, pb, _⟩ := I.tuple hq
    have la := ra.length
    have lb := rb.length
    refine SeqAt.eq_tupleAt (e := e) (show s.heap.IsTuple p ia.toArray from pa) (show s.heap.IsTuple q ib.toArray from pb) (by omega) (fun j h1 h2 => eqAt_D I (hd j (by simpa [la] using h1) (by simpa [lb] using h2)) (by show X.A.units + 1 + n < cLine; omega) (vals_at ra h1) (vals_at rb h2)) ⟨.bl _, H, I, ?_, k⟩
    show Value.bool _ = Value.bool _
    simp [la, lb]
  · cases rx
    cases ry
    obtain ⟨ia, ra, pa, _⟩ := I.list hp
    obtain ⟨ib, rb, pb, _⟩ := I.list hq
    have la := ra.length
    have lb := rb.length
    refine SeqAt.eq_listAt (e := e) pa.isList pb.isList (by simp; omega) (by omega) (fun j h1 h2 => eqAt_D I (hd j (by simpa [la] using h1) (by simpa [lb] using h2)) (by show X.A.units + 1 + n < cLine; omega) (vals_at ra h1) (vals_at rb h2)) ⟨.bl _, H, I, ?_, k⟩
    show Value.bool _ = Value.bool _
    simp [la]
  · cases rx
    cases ry
    obtain ⟨ia, ra, pa, _⟩ := I.list hp
    obtain ⟨ib, rb, pb, _⟩ := I.list hq
    have la := ra.length
    have lb := rb.length
    exact SeqAt.eq_list_lengthsAt pa.isList pb.isList (by simp; omega) (by omega) ⟨.bl false, H, I, rfl, k⟩
end
section
variable {H : Hp} {Q : VK} {K : PySem.W.Frag} {n : Nat} {p q : Addr} {xs ys : List V}
theorem Deq.self {x : V} (h : flatV x = true ∨ ∃ a, x = .ref a) : Deq K H n x x true := by
  rcases h with h | ⟨a, rfl⟩
  · have := Deq.flat (K := K) (H := H) (n := n) h h
    rw [eqV_refl h] at this
    exact this
  · exact .same a
end
def tFs (ta tb : TE) : TE := fun σ H Q => ta σ H fun x H1 => ∃ z1 : Str, x = .str z1 ∧ z1.length ≤ sizeLine ∧ tb σ H1 fun y H2 => ∃ z2 : Str, y = .str z2 ∧ z1.length + z2.length ≤ sizeLine ∧ ∀ z : Str, z.length = z1.length + z2.length → Q (.str z) H2
def tFv (te : TE) : TE := fun σ H Q => te σ H fun x H1 => ∃ z : Str, x = .str z ∧ z.length ≤ sizeLine ∧ Q (.str z) H1
section
variable {X : Cx} {a b e : Expr} {ta tb te : TE} {pos : Pos}
theorem len_app (x y : Str) : (x ++ y).length = x.length + y.length := strLen_append x y
end
section
variable {σ : St} {H : Hp} {Q : VK} {ta tb te : TE}
theorem r_fv (q : te σ H fun x H1 => ∃ z : Str, x = .str z ∧ z.length ≤ sizeLine ∧ Q (.str z) H1) : tFv te σ H Q := q
theorem r_fs (q : ta σ H fun x H1 => ∃ z1 : Str, x = .str z1 ∧ z1.length ≤ sizeLine ∧ tb σ H1 fun y H2 => ∃ z2 : Str, y = .str z2 ∧ z1.length + z2.length ≤ sizeLine ∧ ∀ z : Str, z.length = z1.length + z2.length → Q (.str z) H2) : tFs ta tb σ H Q := q
end
end L2

set_option maxRecDepth 100000
set_option maxHeartbeats 4000000
namespace L2
open PySem PySem.Spec PyProof.Rows
structure FunD (K : PySem.W.Frag) (x : Str) (st : Stmt) (ds : List Value) (f : Addr) (fd : FuncData) : Prop where
  ex : ∃ (T : Addr) (o : Obj) (n : Nat) (oc : Value) (od : Option Addr) (kV doc pm : Value) (an : Option Addr) (cdv ct : Value) (osl : Array (Option Value)),
    fd = PySem.W.fnOf x x (defArgs st) (defBody st) (defScope st) (.ref T) kV doc pm an cdv ct ∧ K.lookup f = some ⟨oc, od, .func fd, osl⟩ ∧ PySem.W.codeIn K cdv x = true ∧ K.lookup T = some o ∧ o.data = .seq ds.toArray n
  kp : PySem.W.keepIn K (.ref f) = true
structure LaidD (K : PySem.W.Frag) (mg : Str → Option Value) (x : Str) (st : Stmt) (ds : List Value) : Prop where
  ex : ∃ f fd, FunD K x st ds f fd ∧ mg x = some (.ref f)
structure CalD (P : Program) (w : World) (K : PySem.W.Frag) (mg : Str → Option Value) (base : Heap) (k : Nat) (x : Str) (ps : List Str) (sp : Sp) (st : Stmt) (ds : List Value) : Prop where
  ex : ∃ f fd, FnOk P w K mg base CX0 k f fd ps sp ∧ mg x = some (.ref f) ∧ FunD K x st ds f fd
def BnD (x : Str) (st : Stmt) (ds : List Value) (args : Args) (binds : List (Str × Value)) : Prop :=
  ∀ (T : Addr) (kV doc pm : Value) (an : Option Addr) (cdv ct : Value), ∃ k, bindArgs (PySem.W.fnOf x x (defArgs st) (defBody st) (defScope st) (.ref T) kV doc pm an cdv ct) args = seqItems? (.ref T) >>= k ∧ k (some ds.toArray) = pure binds
section
variable {P : Program} {w : World} {K : PySem.W.Frag} {mg : Str → Option Value} {base : Heap} {x : Str} {st : Stmt} {ds : List Value}
theorem FunD.bind {f : Addr} {fd : FuncData} {args : Args} {binds : List (Str × Value)} {s : Shared} (F : FunD K x st ds f fd) (X : K.In s.heap) (h : BnD x st ds args binds) : BindsTo s fd args binds := by
  obtain ⟨T, o, n, oc, od, kV, doc, pm, an, cdv, ct, osl, rfl, lk, hcd, ho, hs⟩ := F.ex
  obtain ⟨k, h1, h2⟩ := h T kV doc pm an cdv ct
  exact PySem.W.binds_K X rfl ho hs h1 h2
theorem LaidD.cal {N ps : List Str} {k : Nat} {sp : Sp} (L : LaidD K mg x st ds) (S : FnScope N ps (defScope st)) (len : ∀ vs H Q E, sp vs H Q E → vs.length = ps.length)
    (hbody : ∀ (f : Addr) (cdv : Value) (A : Around) (outer : List Env) (s : Shared) (H : Hp) (vs : List V) (Q : VK) (E : XK), Room k (A.deeper (envOfC x (defScope st) s.heap.objs.size f cdv)) → sp vs H Q E →
      ∃ t, PSs (cxOf CX0 P w K mg base N x (defScope st) f cdv A outer s H E).nox (defBody st) t ∧ t { nx := fun _ H' => Q .non H', rt := Q } (start N vs) H) : CalD P w K mg base (k + 1) x ps sp st ds := by
  obtain ⟨f, fd, F, m⟩ := L.ex
  refine ⟨f, fd, ?_, m, F⟩
  obtain ⟨T, o, n, oc, od, kV, doc, pm, an, cdv, ct, osl, rfl, lk, hcd, ho, hs⟩ := F.ex
  refine fn_of lk hcd S len fun A outer s H vs Q E hr hsp => ?_
  obtain ⟨t, h, q⟩ := hbody f cdv A outer s H vs Q E hr hsp
  exact ⟨t, h.nox, q⟩
theorem laidD_mk {h : Heap} {f T : Addr} {oc : Value} {od an : Option Addr} {osl : Array (Option Value)} {kV doc pm cdv ct : Value} {o : Obj} {n : Nat} (X : K.In h) (G : h.Ns mainGlobals mg) (a : PySem.W.nsIn K mainGlobals x = some (some (.ref f)))
    (l : K.lookup f = some ⟨oc, od, .func (PySem.W.fnOf x x (defArgs st) (defBody st) (defScope st) (.ref T) kV doc pm an cdv ct), osl⟩) (c : PySem.W.codeIn K cdv x = true) (k : PySem.W.keepIn K (.ref f) = true)
    (ho : K.lookup T = some o) (hs : o.data = .seq ds.toArray n) : LaidD K mg x st ds :=
  ⟨f, _, ⟨⟨T, o, n, oc, od, kV, doc, pm, an, cdv, ct, osl, rfl, l, c, ho, hs⟩, k⟩, PySem.W.mg_of X G a⟩
end
section
variable {X : Cx} {k k' : Nat} {x : Str} {ps ks : List Str} {sp : Sp} {p pos : Pos} {e : Expr} {es : List Expr} {kws : List Keyword} {t tk : TA} {st : Stmt} {ds ds' : List Value} {dvs : List V}
theorem r_callD {sp : Sp} {E : XK} {σ : St} {H : Hp} {Q : VK} (q : t σ H fun vs H1 => sp (vs ++ dvs) H1 Q E) : tCall sp dvs E t σ H Q := q
theorem r_callK {sp : Sp} {E : XK} {σ : St} {H : Hp} {Q : VK} {gV : List V → List V → List V} (q : t σ H fun vs H1 => tk σ H1 fun zs H2 => sp (gV vs zs) H2 Q E) : tCallK sp gV E t tk σ H Q := q
theorem r_bm0 {K : PySem.W.Frag} {T : String} {r : V → List V → Hp → VK → Prop} {to : TE} {σ : St} {H : Hp} {Q : VK} (q : to σ H fun x H1 => tyV K T x H1 ∧ r x [] H1 Q) : tBM0 K T r to σ H Q := q
end
end L2

set_option maxRecDepth 100000
set_option maxHeartbeats 4000000
namespace HT
open PySem PyProof.Rows
section
variable {prog : Program} {w : World} {A : Around} {E : Value → Shared → Prop} {s : Shared}
end
end HT
namespace L2
open PySem PySem.Spec PyProof.Rows
section
variable {X : Cx}
end
section
variable {H : Hp} {Q : VK} {K : PySem.W.Frag}
end
theorem int_len {i : Int} (h : i.natAbs.log2 < 1920) : (Str.ofString (toString i)).length ≤ 1921 := int_text_len_1921 h
end L2

set_option maxRecDepth 100000
set_option maxHeartbeats 4000000
namespace Ce
open PySem L2
def letsG (g : Gt) (f : Int → Int) (op : Bool) (bars wt : Int) : Bool := match g with
  | .plain => true
  | .door _ => op
  | .need k => decide (0 < f k)
  | .bar b => bit bars b.toNat
  | .wade h k => decide (wt ≤ h) || decide (0 < f k)
  | .float h => decide (h ≤ wt)
inductive Wd where
  | go | pull | take | turn | unlock
  deriving DecidableEq
def Wd.str : Wd → Str
  | .go => "go"
  | .pull => "pull"
  | .take => "take"
  | .turn => "turn"
  | .unlock => "unlock"
def Wd.part : Wd → Int
  | .go => 3
  | .pull => 5
  | .take => 4
  | .turn => 6
  | .unlock => 3
structure Sd where
  rm : Int
  tk : Int
  op : Int
  b : Int
  wt : Int
def Sd.vs (s : Sd) : List V := [.int s.rm, .int s.tk, .int s.op, .int s.b, .int s.wt]
def Sd.ok (C : Cl) (s : Sd) : Prop := StOk C s.rm s.tk s.op s.b s.wt
def enterB (x : Way) (rm : Int) : Bool := decide (rm = x.a) || (decide (rm = x.b) && x.back)
def canB (C : Cl) (s : Sd) (i : Nat) : Wd → Bool
  | .go => match C.ways[i]? with
    | some x => enterB x s.rm && letsG x.g (hold C s.tk s.op) (bit s.op i) s.b s.wt
    | none => false
  | .pull => match C.levers[i]? with
    | some x => decide (s.rm = x.1)
    | none => false
  | .take => match C.things[i]? with
    | some x => decide (s.rm = x.1) && !bit s.tk i
    | none => false
  | .turn => match C.wheels[i]? with
    | some x => decide (s.rm = x.1) && !decide (s.wt = x.2)
    | none => false
  | .unlock => match C.ways[i]? with
    | some x => match x.g.dk with
      | some k => (enterB x s.rm && !bit s.op i) && decide (0 < hold C s.tk s.op k)
      | none => false
    | none => false
def doneB (C : Cl) (s : Sd) (i : Nat) : Wd → Sd
  | .go => match C.ways[i]? with
    | some x => { s with rm := if s.rm = x.a then x.b else x.a }
    | none => s
  | .pull => match C.levers[i]? with
    | some x => { s with b := Builtin.bitXor s.b x.2 }
    | none => s
  | .take => { s with tk := s.tk + 2 ^ i }
  | .turn => match C.wheels[i]? with
    | some x => { s with wt := x.2 }
    | none => s
  | .unlock => { s with op := s.op + 2 ^ i }
def Cl.num (C : Cl) : Wd → Nat
  | .go => C.ways.length
  | .pull => C.levers.length
  | .take => C.things.length
  | .turn => C.wheels.length
  | .unlock => C.ways.length
def canD (C : Cl) (s : Sd) (d : Wd) (n : Int) : Bool := !decide (s.rm = C.lst) && (decide (0 ≤ n) && canB C s n.toNat d)
def doneD (C : Cl) (s : Sd) (d : Wd) (n : Int) : Sd := doneB C s n.toNat d
theorem canB_lt {C : Cl} {s : Sd} {i : Nat} {d : Wd} (h : canB C s i d = true) : i < C.num d := by
  cases d <;> simp only [canB] at h
  · cases e : C.ways[i]? with
    | none => rw [e] at h; simp at h
    | some x => exact (List.getElem?_eq_some_iff.mp e).1
  · cases e : C.levers[i]? with
    | none => rw [e] at h; simp at h
    | some x => exact (List.getElem?_eq_some_iff.mp e).1
  · cases e : C.things[i]? with
    | none => rw [e] at h; simp at h
    | some x => exact (List.getElem?_eq_some_iff.mp e).1
  · cases e : C.wheels[i]? with
    | none => rw [e] at h; simp at h
    | some x => exact (List.getElem?_eq_some_iff.mp e).1
  · cases e : C.ways[i]? with
    | none => rw [e] at h; simp at h
    | some x => exact (List.getElem?_eq_some_iff.mp e).1
theorem canD_of {C : Cl} {s : Sd} {d : Wd} {n : Int} (h : canD C s d n = true) : ¬ s.rm = C.lst ∧ ∃ i : Nat, n = (i : Int) ∧ i < C.num d ∧ canB C s i d = true := by
  unfold canD at h
  simp only [Bool.and_eq_true, Bool.not_eq_true', decide_eq_false_iff_not, decide_eq_true_eq] at h
  exact ⟨h.1, n.toNat, by omega, canB_lt h.2.2, h.2.2⟩
theorem go_of {C : Cl} {s : Sd} {i : Nat} (hc : canD C s .go (i : Int) = true) : ∃ x, C.ways[i]? = some x ∧ enterB x s.rm = true ∧ letsG x.g (hold C s.tk s.op) (bit s.op i) s.b s.wt = true ∧ ¬ s.rm = C.lst ∧ doneD C s .go (i : Int) = { s with rm := if s.rm = x.a then x.b else x.a } := by
  obtain ⟨hl, j, e, hi, hb⟩ := canD_of hc
  have e' : i = j := by omega
  subst e'
  have hi' : i < C.ways.length := hi
  have hx : C.ways[i]? = some C.ways[i] := List.getElem?_eq_getElem hi'
  simp only [canB, hx, Bool.and_eq_true] at hb
  exact ⟨C.ways[i], hx, hb.1, hb.2, hl, by unfold doneD; rw [Int.toNat_natCast]; simp [doneB, hi']⟩
structure Walk (C : Cl) (s0 : Sd) (row : List (Wd × Nat)) (sts : List Sd) : Prop where
  len : sts.length = row.length + 1
  fst : sts[0]? = some s0
  go : ∀ i x, row[i]? = some x → ∃ a, sts[i]? = some a ∧ a.ok C ∧ canD C a x.1 (x.2 : Int) = true ∧ sts[i + 1]? = some (doneD C a x.1 (x.2 : Int))
theorem Walk.nil {C : Cl} {s0 : Sd} : Walk C s0 [] [s0] := ⟨rfl, rfl, fun i x h => by simp at h⟩
theorem Walk.snoc {C : Cl} {s0 : Sd} {row : List (Wd × Nat)} {sts : List Sd} (W : Walk C s0 row sts) {cur : Sd} {x : Wd × Nat} (hl : sts[row.length]? = some cur) (ok : cur.ok C) (hc : canD C cur x.1 (x.2 : Int) = true) : Walk C s0 (row ++ [x]) (sts ++ [doneD C cur x.1 (x.2 : Int)]) := by
  refine ⟨by simp [W.len], ?_, fun i y h => ?_⟩
  · rw [List.getElem?_append_left (by rw [W.len]; omega)]; exact W.fst
  · by_cases hi : i < row.length
    · rw [List.getElem?_append_left hi] at h
      obtain ⟨a, h1, h2, h3, h4⟩ := W.go i y h
      refine ⟨a, ?_, h2, h3, ?_⟩
      · rw [List.getElem?_append_left (by rw [W.len]; omega)]; exact h1
      · rw [List.getElem?_append_left (by rw [W.len]; omega)]; exact h4
    · have e : i = row.length := by
        have := (List.getElem?_eq_some_iff.mp h).1
        simp at this
        omega
      subst e
      rw [List.getElem?_append_right (Nat.le_refl _)] at h
      simp at h
      subst h
      refine ⟨cur, ?_, ok, hc, ?_⟩
      · rw [List.getElem?_append_left (by rw [W.len]; omega)]; exact hl
      · rw [List.getElem?_append_right (by rw [W.len]; omega), W.len]
        simp
end Ce

set_option maxRecDepth 100000
set_option maxHeartbeats 4000000
namespace L2
open PySem PySem.Spec PyProof.Rows
section
variable {X : Cx} {o e : Expr} {es : List Expr} {m : Str} {apos pos : Pos} {k k' : Nat} {ta : TE} {t : TA}
end
end L2

set_option maxRecDepth 100000
set_option maxHeartbeats 4000000
namespace L2
open PySem PySem.Spec PyProof.Rows
section
variable {P : Program} {w : World} {H : Hp} {h : Heap} {a : Addr} {o : HO}
theorem ObjOk.there (x : ObjOk P w H h a o) : ∃ u, h.get? a = some u := by
  cases o with
  | lst xs => obtain ⟨_, _, _, _, e⟩ := x; exact ⟨_, e⟩
  | tup xs => obtain ⟨_, _, _, o, e, _⟩ := x; exact ⟨_, e⟩
  | dK kvs => obtain ⟨_, _, _, _, o, _, _, e, _⟩ := x; exact ⟨_, e⟩
  | dT kvs => obtain ⟨_, _, _, _, o, _, _, e, _⟩ := x; exact ⟨_, e⟩
  | set S n => obtain ⟨o, _, _, _, e, _⟩ := x; exact ⟨_, e⟩
  | ins C dx fs => obtain ⟨_, _, _, e, _⟩ := x; exact ⟨_, e⟩
  | own y => obtain ⟨_, e⟩ := x; exact ⟨_, e⟩
  | xd fs => obtain ⟨_, ⟨_, _, _, e, _⟩, _⟩ := x; exact ⟨_, e⟩
  | rng lo hi => obtain ⟨_, _, _, e⟩ := x; exact ⟨_, e⟩
  | frz ob u => obtain ⟨e, _⟩ := x; exact ⟨_, e⟩
  | tbl ps => exact ⟨_, x⟩
  | met f y => exact ⟨_, x⟩
  | ext φ => obtain ⟨_, ⟨_, e⟩, _⟩ := x; exact ⟨_, e⟩
theorem HOk.none_of (x : HOk P w H h) (e : h.get? a = none) : H a = none := by
  cases q : H a with
  | none => rfl
  | some o => obtain ⟨u, eu⟩ := (x a o q).there; rw [e] at eu; cases eu
end
section
variable {X : Cx} {pins : List (Addr × Obj)} {σ : St} {H : Hp} {s : Shared}
theorem Inv.frame_data (I : Inv X pins σ H s) {b : Addr} (hb : b ∈ frs X.stack) : ∃ o, s.heap.get? b = some o ∧ ∀ vs, o.data ≠ .fields vs := (I.stack.mem hb).2
theorem Inv.noted {h5 : Heap} {as : List Addr} (I : Inv X pins σ H s) (up : s.heap.UpToSlots h5) (keep : ∀ b o, s.heap.get? b = some o → b ∉ as → b ∉ frs X.stack → h5.get? b = some o)
    (hf : ∀ b ∈ as, ∀ o, s.heap.get? b = some o → ∃ vs, o.data = .fields vs) (h0 : ∀ b ∈ as, X.s₀.heap.get? b = none) (hH : ∀ b ∈ as, H b = none) (hp : ∀ b ∈ as, ∀ p ∈ X.pn ++ pins, p.1 ≠ b) : Inv X pins σ H { s with heap := h5 } := by
  have n0 : ∀ b o, X.s₀.heap.get? b = some o → b ∉ as := fun b o e hb => by rw [h0 b hb] at e; cases e
  have nl : ∀ b o, X.s₀.heap.get? b = some o → b ∉ X.fs → b ∉ frs X.stack := fun b o e hb hs => by
    rcases List.mem_cons.mp (I.stkSub b hs) with z | z
    · rw [z] at e
      exact absurd (Heap.lt_size e) (Nat.not_lt.mpr I.ok.above)
    · exact hb z
  obtain ⟨m, hn, hl⟩ := id I.loc
  refine ⟨I.ok, I.os, I.bare, ⟨fun b o e n hb hx => ?_, fun b o e n hb hx => ?_, I.base.free, fun b o e hx => ?_, I.base.tups, I.base.frzs, I.base.tbls⟩, ⟨m, up.ns hn, fun i x v e1 e2 e3 => ?_⟩, fun x c e => ?_, I.free, I.freeC, fun p hpp => ?_, fun b ob e => ?_, I.len⟩
  · exact keep b o (I.base.keep b o e n hb hx) (n0 b o e) (nl b o e hb)
  · obtain ⟨sl, e1⟩ := I.base.slot b o e n hb hx
    have hbs : b ∈ frs X.stack := by
      rcases I.ok.stk with z | ⟨z, _⟩
      · rw [z]; exact hb
      · rw [z]
        obtain ⟨env', h1, h2⟩ := List.mem_filterMap.mp hb
        exact List.mem_filterMap.mpr ⟨env', List.mem_cons_of_mem _ h1, h2⟩
    obtain ⟨o2, e2, d2⟩ := I.frame_data hbs
    rw [e1] at e2
    cases e2
    obtain ⟨sl2, e3⟩ := up b _ e1 d2
    exact ⟨sl2, e3⟩
  · obtain ⟨o', e1⟩ := I.base.there b o e hx
    by_cases hb : b ∈ frs X.stack
    · obtain ⟨o2, e2, d2⟩ := I.frame_data hb
      obtain ⟨sl2, e3⟩ := up b _ e2 d2
      exact ⟨_, e3⟩
    · exact ⟨_, keep b _ e1 (n0 b o e) hb⟩
  · obtain ⟨u, r, l⟩ := hl i x v e1 e2 e3
    refine ⟨u, r, ?_⟩
    rcases l with l | ⟨k1, c, k2, oc, k3, k4⟩
    · exact .inl l
    · obtain ⟨sl, k5⟩ := up c oc k3 (by intro vs z; rw [k4] at z; cases z)
      exact .inr ⟨k1, c, k2, _, k5, k4⟩
  · obtain ⟨v, oc, k3, k4⟩ := I.cell x c e
    obtain ⟨sl, k5⟩ := up c oc k3 (by intro vs z; rw [k4] at z; cases z)
    exact ⟨v, _, k5, k4⟩
  · obtain ⟨e, n, ne, nf, d⟩ := I.pin p hpp
    refine ⟨keep _ _ e (fun hb => hp _ hb p hpp rfl) (fun hb => ?_), n, ne, nf, d⟩
    rcases List.mem_cons.mp (I.stkSub _ hb) with z | z
    · exact ne z
    · exact nf z
  · refine (I.hok b ob e).stay (fun c u hc q => keep c u q (fun hb => ?_) (fun hb => ?_)) (fun _ q => q) fun _ _ q => q
    · have := hH c hb
      rcases hc with rfl | hc
      · rw [this] at e; cases e
      · rw [this] at hc; cases hc
    · have := I.stkFree c hb
      rcases hc with rfl | hc
      · rw [this] at e; cases e
      · rw [this] at hc; cases hc
end
structure Fly (h0 : Heap) (a : Addr) (cls : Value) (H : Hp) (h : Heap) : Prop where
  ex : ∃ oe vs T oT ts a0, h.get? a = some oe ∧ (oe.cls = cls ∧ vs[0]? = some a0) ∧ oe.data = .fields vs ∧ vs[1]? = some (.ref T) ∧ T ≠ a ∧ h.get? T = some oT ∧ oT.data = .fields ts ∧ ts[3]? = some .none ∧ h0.get? T = none ∧ H T = none
  new : h0.get? a = none
  free : H a = none
def CXf (P : Program) (w : World) : CXT := fun outer H s E e s' => ∃ a cls H', e = .ref a ∧ s'.os = s.os ∧ AllBare s'.gens ∧ Un (frs outer) [] H H' s.heap s'.heap ∧ HOk P w H' s'.heap ∧ Fly s.heap a cls H' s'.heap ∧ E cls none H'
section
variable {X : Cx} {pins : List (Addr × Obj)} {σ : St} {H H' : Hp} {s s' : Shared} {E : XK}
theorem frs_in (l : List Env) : ∀ env ∈ l, ∀ a, env.frame = some a → a ∈ frs l := fun env he a ha => List.mem_filterMap.mpr ⟨env, he, ha⟩
theorem Inv.zero (I : Inv X pins σ H s) {b : Addr} (e : s.heap.get? b = none) (hx : X.ex = []) : X.s₀.heap.get? b = none := by
  cases q : X.s₀.heap.get? b with
  | none => rfl
  | some o => obtain ⟨o', e'⟩ := I.base.there b o q (by rw [hx]; simp); rw [e] at e'; cases e'
end
section
variable {P : Program} {w : World} {K : PySem.W.Frag} {mg : Str → Option Value} {base : Heap} {N : List Str} {qual : Str} {scope : Scope} {f : Addr} {cd : Value} {A : Around} {outer : List Env} {s0 : Shared} {H0 : Hp} {E : XK}
theorem raise_xe {pins : List (Addr × Obj)} {σ : St} {H : Hp} {s : Shared} {h' : Heap} {e : Addr} {cls : Value} {args : List Value} (I : Inv (cxOf (CXf P w) P w K mg base N qual scope f cd A outer s0 H0 E) pins σ H s)
    (hx : Heap.MadeExcOf s.heap h' e cls args) (hE : E cls none H) : (cxOf (CXf P w) P w K mg base N qual scope f cd A outer s0 H0 E).xe (.ref e) { s with heap := h' } := by
  have st : (PySem.W.hideAll s.heap (frs (envOfC qual scope s0.heap.objs.size f cd :: outer))).StaysIn s.heap := fun b o q => PySem.W.of_hideAll _ q
  show wpAny _ _ (leaving _ (.ref e)) _ _ _
  refine wpAny_leaves_madeW (base := PySem.W.hideAll s.heap (frs (envOfC qual scope s0.heap.objs.size f cd :: outer))) (h := s.heap) I.ok.frames rfl st (PySem.W.funFrames_hide I.stack (frs_in _)) hx fun h2 t fl tup ht up => ?_
  obtain ⟨f1, f2, f3, oe, vs, T, oT, ts, k1, k2, k3, k4, k5, k6, k7, k8, k9⟩ := fl
  have up2 : s.heap.UpToSlots h2 := fun b o q n => up b o (hx.keeps b o q) n
  have keep : ∀ b o, s.heap.get? b = some o → b ∉ ([] : List Addr) → b ∉ frs (envOfC qual scope s0.heap.objs.size f cd :: outer) → h2.get? b = some o := fun b o q _ hb => f1 b o (PySem.W.hideAll_get _ q hb)
  have J := I.noted (as := []) up2 keep (fun b hb => by simp at hb) (fun b hb => by simp at hb) (fun b hb => by simp at hb) (fun b hb => by simp at hb)
  have hT : s.heap.get? T = none := by
    cases q : s.heap.get? T with
    | none => rfl
    | some o =>
      by_cases hb : T ∈ frs (envOfC qual scope s0.heap.objs.size f cd :: outer)
      · obtain ⟨o2, e2, d2⟩ := I.frame_data hb
        obtain ⟨sl, e3⟩ := up2 T o2 e2 d2
        rw [k7] at e3
        cases e3
        exact absurd k8 (d2 ts)
      · have := PySem.W.hideAll_get _ q hb
        rw [k5] at this; cases this
  exact ⟨e, cls, H, rfl, J.os, J.bare, J.base, J.hok, ⟨⟨oe, vs, T, oT, ts, _, k1, k2, k3, k4, k6, k7, k8, k9, I.zero hT rfl, I.hok.none_of hT⟩, I.zero hx.new rfl, I.hok.none_of hx.new⟩, hE⟩
theorem pass_xe : Passes (CXf P w) (cxOf (CXf P w) P w K mg base N qual scope f cd A outer s0 H0 E) E := by
  intro pins σ H s e s' I h
  obtain ⟨a, cls, H', rfl, os, bare, un, hok, fly, hE⟩ := h
  have J : Inv (cxOf (CXf P w) P w K mg base N qual scope f cd A outer s0 H0 E) pins σ H' s' := I.call' os un hok bare fun b z => absurd z (by simp)
  obtain ⟨oe, vs, T, oT, ts, a0, k1, k2, k3, k4, k6, k7, k8, k9, hT0, hTH⟩ := fly.ex
  have st : (PySem.W.hideAll s'.heap (a :: T :: frs (envOfC qual scope s0.heap.objs.size f cd :: outer))).StaysIn s'.heap := fun b o q => PySem.W.of_hideAll _ q
  show wpAny _ _ (leaving _ (.ref a)) _ _ _
  refine wpAny_leaves_onW (base := PySem.W.hideAll s'.heap (a :: T :: frs (envOfC qual scope s0.heap.objs.size f cd :: outer))) I.ok.frames rfl (cls := cls) (a0 := a0)
    ⟨st, PySem.W.hideAll_none _ List.mem_cons_self, PySem.W.funFrames_hide J.stack (fun env he b hb => List.mem_cons_of_mem _ (List.mem_cons_of_mem _ (frs_in _ env he b hb))), oe, vs, T, oT, ts, k1, k2, k3, k4, PySem.W.hideAll_none _ (List.mem_cons_of_mem _ List.mem_cons_self), k6, k7, k8, k9⟩ fun h2 fl up => ?_
  obtain ⟨f1, f2, f3, oe2, vs2, T2, oT2, ts2, j1, j2, j3, j4, j5, j6, j7, j8, j9⟩ := fl
  have keep : ∀ b o, s'.heap.get? b = some o → b ∉ ([a, T] : List Addr) → b ∉ frs (envOfC qual scope s0.heap.objs.size f cd :: outer) → h2.get? b = some o := fun b o q hb hc => f1 b o (PySem.W.hideAll_get _ q fun z => by
    rcases List.mem_cons.mp z with z | z
    · exact hb (by rw [z]; simp)
    · rcases List.mem_cons.mp z with z | z
      · exact hb (by rw [z]; simp)
      · exact hc z)
  have two : ∀ {p : Addr → Prop}, p a → p T → ∀ b ∈ ([a, T] : List Addr), p b := fun h1 h2 b hb => by
    rcases List.mem_cons.mp hb with rfl | hb
    · exact h1
    · rw [List.mem_singleton.mp hb]; exact h2
  have Z := J.noted (as := [a, T]) up keep (two (fun o q => by rw [k1] at q; cases q; exact ⟨_, k3⟩) (fun o q => by rw [k7] at q; cases q; exact ⟨_, k8⟩)) (two (I.zero fly.new rfl) (I.zero hT0 rfl)) (two fly.free hTH)
    (two (fun p hp z => by have := (I.pin p hp).1; rw [z, fly.new] at this; cases this) (fun p hp z => by have := (I.pin p hp).1; rw [z, hT0] at this; cases this))
  have hT2 : s0.heap.get? T2 = none ∧ H' T2 = none := by
    by_cases eT : T2 = T
    · rw [eT]; exact ⟨I.zero hT0 rfl, hTH⟩
    have hn : s'.heap.get? T2 = none := by
      cases q : s'.heap.get? T2 with
      | none => rfl
      | some o =>
        by_cases hb : T2 ∈ frs (envOfC qual scope s0.heap.objs.size f cd :: outer)
        · obtain ⟨o2, e2, d2⟩ := J.frame_data hb
          obtain ⟨sl, e3⟩ := up T2 o2 e2 d2
          rw [j7] at e3
          cases e3
          exact absurd j8 (d2 ts2)
        · have := PySem.W.hideAll_get (l := a :: T :: frs (envOfC qual scope s0.heap.objs.size f cd :: outer)) q (fun z => by
            rcases List.mem_cons.mp z with z | z
            · exact j6 z
            · rcases List.mem_cons.mp z with z | z
              · exact eT z
              · exact hb z)
          rw [j5] at this; cases this
    exact ⟨J.zero hn rfl, J.hok.none_of hn⟩
  exact ⟨a, cls, H', rfl, Z.os, Z.bare, Z.base, Z.hok, ⟨⟨oe2, vs2, T2, oT2, ts2, a0, j1, j2, j3, j4, j6, j7, j8, j9, hT2.1, hT2.2⟩, I.zero fly.new rfl, fly.free⟩, hE⟩
end
end L2

set_option maxRecDepth 100000
set_option maxHeartbeats 4000000
namespace L2
open PySem PySem.Spec PyProof.Rows
theorem exc_obj {K : PySem.W.Frag} {h : Heap} {C : Addr} {bmB : List Value} {newId : String} (X : K.In h) (q : PySem.W.excIn K C bmB newId = true) :
    ∃ bm N nm qn bs hd sn sub ab col dd k0 k1 k2 k3 k5 mN, h.get? C = some (excClassObj nm qn C N bs bm hd sn sub ab col dd k0 k1 k2 k3 k5 newId) ∧ h.Ns N mN ∧ mN "__init__" = none ∧ OwnTail h bmB bm := by
  unfold PySem.W.excIn at q
  split at q
  case h_2 => cases q
  case h_1 dd cd sl ho =>
    split at q
    case h_2 => cases q
    case h_1 C' bm k0 k1 k2 k3 n k5 hm hs =>
      rw [Bool.and_eq_true, Bool.and_eq_true, Bool.and_eq_true, Bool.and_eq_true, Bool.and_eq_true] at q
      obtain ⟨⟨⟨⟨⟨q1, q2⟩, q3⟩, q4⟩, q5⟩, q6⟩ := q
      have e1 : C' = C := by simpa using q1
      have e2 : n = newId := by simpa using q2
      have e3 : cd.hasDel = false := by simpa using q3
      have e6 : PySem.W.nsIn K cd.ns "__init__" = some none := by simpa using q6
      obtain ⟨a1, a2, a3, a4, a5, a6, a7, a8, a9, a10, a11⟩ := cd
      dsimp only at hm e3 e6 q4 q5
      have esl : sl = #[k0, k1, k2, k3, some (.builtin n), k5] := by
        cases sl
        rename_i l
        dsimp only at hs
        rw [hs]
      subst e1 e2 esl hm e3
      exact ⟨bm, a4, a1, a5, a2, a6, a7, a8, a9, a10, dd, k0, k1, k2, k3, k5, _, X _ _ ho, .of_isNs (PySem.W.isNs_of_in X q5), PySem.W.nsMap_none_of_in X q5 e6, PySem.W.tail_of_in X q4⟩
structure ExcC (K : PySem.W.Frag) (C : Addr) : Prop where
  ex : ∃ (newId initId : String) (bmB : List Value), ExcBaseFacts "ValueError" newId initId bmB ∧ PySem.W.excIn K C bmB newId = true ∧ bmB.contains (.type "BaseException") = true
def Raises (X : Cx) (E : XK) : Prop := ∀ (pins : List (Addr × Obj)) (σ : St) (H : Hp) (s : Shared) (h' : Heap) (e : Addr) (cls : Value) (args : List Value), Inv X pins σ H s → Heap.MadeExcOf s.heap h' e cls args → E cls none H → X.xe (.ref e) { s with heap := h' }
def tRaise (C : Addr) (E : XK) (t : TA) : TS := fun _ σ H => t σ H fun vs H1 => vs.length ≤ sizeLine ∧ E (.ref C) none H1
section
variable {X : Cx} {E : XK} {x : Str} {C : Addr} {e : Expr} {es : List Expr} {t : TA} {np cpos pos : Pos}
theorem ps_raise (hR : Raises X E) (hc : X.calm = true) (hg : Gl X x) (hm : X.mg x = some (.ref C)) (q : ExcC X.K C) (ha : PA X (e :: es) t) (hd : (x == ("__debug__" : Str)) = false := by decide)
    (he : starEach (e :: es) X.env = (false, eval e X.env) :: starEach es X.env := by rfl) (hpl : (backTo cpos (starEach (e :: es) X.env)).any (·.1) = false := by rfl) : PS X (.Raise (some (.Call (.Name x np) (e :: es) [] cpos)) none pos) (tRaise C E t) := by
  intro pins s σ H D I h
  obtain ⟨newId, initId, bmB, F, qi, hb⟩ := q.ex
  obtain ⟨bm, N, nm, qn, bs, hdd, sn, sub, ab, col, dd, k0, k1, k2, k3, k5, mN, hC, hN, hni, TL⟩ := exc_obj I.ok.mod.kin qi
  refine wpAny_Raise_call_subT (C := C) (nm := nm) (q := qn) (N := N) (bs := bs) (bm := bm) (hdct := hdd) (sn := sn) (sub := sub) (ab := ab) (col := col) (dd := dd) (k0 := k0) (k1 := k1) (k2 := k2) (k3 := k3) (k5 := k5) (mN := mN) F (TL.hasType hb) (I.ok.hd hc) hpl hni (ld_glob I hg hm ⟨rfl, ?_⟩ hd)
  have hq := ha cpos pins s σ H _ I h
  rw [he] at hq ⊢
  refine Calls.evalArgs_plain (thn hq fun us s1 ⟨vs, H1, I1, r, hl, hE⟩ => ?_)
  exact ⟨rfl, by rw [← r.length]; exact hl, I1.bk _ _ hC, hN.keeps I1.bk, TL.keeps I1.bk, fun h' ex hx => hR pins σ H1 s1 h' ex _ _ I1 hx hE⟩
end

structure FlyX (X : Cx) (pins : List (Addr × Obj)) (a : Addr) (cls : Value) (H : Hp) (h : Heap) : Prop where
  ex : ∃ oe vs T oT ts a0, h.get? a = some oe ∧ (oe.cls = cls ∧ vs[0]? = some a0) ∧ oe.data = .fields vs ∧ vs[1]? = some (.ref T) ∧ T ≠ a ∧ h.get? T = some oT ∧ oT.data = .fields ts ∧ ts[3]? = some .none ∧ X.s₀.heap.get? T = none ∧ H T = none ∧ ∀ p ∈ X.pn ++ pins, p.1 ≠ T
  new : X.s₀.heap.get? a = none
  free : H a = none
  pn : ∀ p ∈ X.pn ++ pins, p.1 ≠ a
def XP (X : Cx) (pins : List (Addr × Obj)) (σ : St) (Ex : Value → Hp → Prop) (e : Value) (s' : Shared) : Prop := ∃ a cls H', e = .ref a ∧ Inv X pins σ H' s' ∧ FlyX X pins a cls H' s'.heap ∧ Ex cls H'
theorem xp_of {X : Cx} {pins : List (Addr × Obj)} {σ : St} {H : Hp} {s s' : Shared} {E : XK} {e : Value} (I : Inv X pins σ H s) (hx : X.ex = []) (h : CXf X.prog X.w X.stack H s E e s') : XP X pins σ (fun cls H' => E cls none H') e s' := by
  obtain ⟨a, cls, H', rfl, os, bare, un, hok, fly, hE⟩ := h
  have J : Inv X pins σ H' s' := I.call' os un hok bare fun b z => absurd z (by simp)
  obtain ⟨oe, vs, T, oT, ts, a0, k1, k2, k3, k4, k6, k7, k8, k9, hT0, hTH⟩ := fly.ex
  exact ⟨a, cls, H', rfl, J, ⟨⟨oe, vs, T, oT, ts, a0, k1, k2, k3, k4, k6, k7, k8, k9, I.zero hT0 hx, hTH, fun p hp z => by have := (I.pin p hp).1; rw [z, hT0] at this; cases this⟩, I.zero fly.new hx, fly.free, fun p hp z => by have := (I.pin p hp).1; rw [z, fly.new] at this; cases this⟩, hE⟩
abbrev TEx := St → Hp → VK → (Value → Hp → Prop) → Prop
def PEx (X : Cx) (e : Expr) (t : TEx) : Prop :=
  ∀ (pins : List (Addr × Obj)) (s : Shared) (σ : St) (H : Hp) (Q : VK) (Ex : Value → Hp → Prop), Inv X pins σ H s → t σ H Q Ex → wpAny (model X.prog X.w) X.A (eval e X.env) (EP X pins σ Q) (XP X pins σ Ex) s
abbrev TSx := Ends → (St → Value → Hp → Prop) → St → Hp → Prop
def XS (X : Cx) (pins : List (Addr × Obj)) (Ex : St → Value → Hp → Prop) (e : Value) (s' : Shared) : Prop := ∃ σ, XP X pins σ (Ex σ) e s'
def PSx (X : Cx) (st : Stmt) (t : TSx) : Prop :=
  ∀ (pins : List (Addr × Obj)) (s : Shared) (σ : St) (H : Hp) (D : Ends) (Ex : St → Value → Hp → Prop), Inv X pins σ H s → t D Ex σ H → wpAny (model X.prog X.w) X.A (exec st X.env) (SP X pins D) (XS X pins Ex) s
def PSsx (X : Cx) (st : List Stmt) (t : TSx) : Prop :=
  ∀ (pins : List (Addr × Obj)) (s : Shared) (σ : St) (H : Hp) (D : Ends) (Ex : St → Value → Hp → Prop), Inv X pins σ H s → t D Ex σ H → wpAny (model X.prog X.w) X.A (execs st X.env) (SP X pins D) (XS X pins Ex) s
def xCall (sp : Sp) (dvs : List V) (t : TA) : TEx := fun σ H Q Ex => t σ H fun vs H1 => sp (vs ++ dvs) H1 Q fun cls _ H' => Ex cls H'
def xSet (i : Nat) (te : TEx) : TSx := fun D Ex σ H => te σ H (fun v H1 => D.nx (σ.set i (some v)) H1) (Ex σ)
section
variable {X : Cx} {k : Nat} {f : Addr} {fd : FuncData} {ps : List Str} {sp : Sp} {dvs : List V} {ds : List Value} {x : Str} {p pos : Pos} {e : Expr} {es : List Expr} {t : TA}
theorem run_fnX {pins : List (Addr × Obj)} {σ : St} {H : Hp} {s : Shared} {Q : VK} {E : XK} {us : List Value} {vs : List V} (F : FnOk X.prog X.w X.K X.mg X.base (CXf X.prog X.w) k f fd ps sp) (hr : Room k X.A) (hb : Binds X.K fd ps ds) (hd : Vals dvs ds) (hx : X.ex = [])
    (I : Inv X pins σ H s) (r : Vals vs us) (h : sp (vs ++ dvs) H Q E) : wpAny (model X.prog X.w) X.A (call (.ref f) us) (EP X pins σ Q) (XP X pins σ fun cls H' => E cls none H') s := by
  have r2 : Vals (vs ++ dvs) (us ++ ds) := r.append hd
  have hl : (us ++ ds).length = ps.length := by rw [← r2.length]; exact F.len _ _ _ _ h
  refine wpAny_call (codeAny_mono (F.run X.A X.stack s H ⟨us, []⟩ (us ++ ds) (vs ++ dvs) Q E hr I.env0 (hb s us I.kIn hl) r2 h) fun r s' hq => ?_)
  cases r with
  | error e => exact xp_of I hx hq
  | ok fl =>
    cases fl with
    | ret u => exact I.after hq
    | next => exact False.elim hq
    | brk => exact False.elim hq
    | cont => exact False.elim hq
theorem pex_call (F : FnOk X.prog X.w X.K X.mg X.base (CXf X.prog X.w) k f fd ps sp) (hr : Room k X.A) (hg : Gl X x) (hm : X.mg x = some (.ref f)) (hk : PySem.W.keepIn X.K (.ref f) = true) (hb : Binds X.K fd ps ds) (hd : Vals dvs ds) (hx : X.ex = [])
    (ha : PA X.nox (e :: es) t) (hdb : (x == ("__debug__" : Str)) = false := by decide) (he : starEach (e :: es) X.env = (false, eval e X.env) :: starEach es X.env := by rfl) (hpl : (backTo pos (starEach es X.env)).any (·.1) = false := by rfl) :
    PEx X (.Call (.Name x p) (e :: es) [] pos) (xCall sp dvs t) := by
  intro pins s σ H Q Ex I h
  refine wpAny_Call_Name_kw (ld_glob I hg hm ?_ hdb)
  refine PySem.W.callWith_K (h₀ := X.base) I.ok.mod.kin hk (wpAny_mono (ha pos pins s σ H _ (I.wish _) h) (fun us s1 ⟨vs, H1, I1, r, q⟩ => ⟨I1.kIn, ?_⟩) fun _ _ z => False.elim z) he hpl
  exact run_fnX F hr hb hd hx I1.unwish r q
theorem psx_set {i : Nat} {te : TEx} {pos' : Pos} (hN : X.N.Nodup) (hi : X.N[i]? = some x) (hx : Loc X.env.scope x) (he : PEx X e te) (hs : swapsWith e (some (.Name x pos')) pos.line X.env = pure false := by rfl) (hf : X.fn x = true ∨ X.env.scope.names.lookup x = some .local := by first | exact .inl rfl | exact .inr rfl | assumption) :
    PSx X (.Assign [.Name x pos'] e pos) (xSet i te) := by
  intro pins s σ H D Ex I h
  refine wpAny_Assign_Name (wpAny_mono (he pins s σ H _ _ I h) (fun v s1 ⟨y, H1, I1, r1, q1⟩ => ?_) fun _ _ z => ⟨σ, z⟩) hs
  exact store_ok I1 hN hi hx r1 (fun s2 I2 => ⟨_, H1, I2, q1⟩) hf
theorem pssx_one {st : Stmt} {t : TSx} (h1 : PSx X st t) : PSsx X [st] t := by
  intro pins s σ H D Ex I h
  refine wpAny_execs_cons (thn (h1 pins s σ H D Ex I h) fun f s1 q => ?_)
  cases f with
  | next => exact wpAny_execs_nil q
  | ret v => exact q
  | brk => exact q
  | cont => exact q
end
abbrev Cx.marked (X : Cx) (v : Value) : Cx := { X with A := X.A.mark (some v), calm := false, xe := fun _ _ => False }
section
variable {X : Cx} {pins : List (Addr × Obj)} {σ : St} {H : Hp} {s : Shared} {v : Value}
theorem Cx.Ok.marked (ok : X.Ok) (v : Value) : (X.marked v).Ok :=
  ⟨ok.mod, ok.kind, ok.glob, ok.blt, ok.above, ok.inj, ok.has, ok.cab, fun z => Bool.noConfusion z, ok.frames, ok.stk, ok.exf, ok.bs, ok.bsz, ok.noex, ok.exfs, ok.funs, ok.frf⟩
theorem Inv.marked (I : Inv X pins σ H s) (v : Value) : Inv (X.marked v) pins σ H s := ⟨I.ok.marked v, I.os, I.bare, I.base, I.loc, I.cell, I.free, I.freeC, I.pin, I.hok, I.len⟩
theorem Inv.unmarked (ok : X.Ok) (I : Inv (X.marked v) pins σ H s) : Inv X pins σ H s := ⟨ok, I.os, I.bare, I.base, I.loc, I.cell, I.free, I.freeC, I.pin, I.hok, I.len⟩
theorem SP.unmarked {D : Ends} {f : Flow} {s' : Shared} (ok : X.Ok) (h : SP (X.marked v) pins D f s') : SP X pins D f s' := by
  cases f with
  | next => obtain ⟨σ', H', I, q⟩ := h; exact ⟨σ', H', I.unmarked ok, q⟩
  | brk => obtain ⟨σ', H', I, q⟩ := h; exact ⟨σ', H', I.unmarked ok, q⟩
  | cont => obtain ⟨σ', H', I, q⟩ := h; exact ⟨σ', H', I.unmarked ok, q⟩
  | ret u => obtain ⟨v, σ', H', I, r, q⟩ := h; exact ⟨v, σ', H', I.unmarked ok, r, q⟩
end
end L2

set_option maxRecDepth 100000
set_option maxHeartbeats 4000000
namespace L2
open PySem PySem.Spec PyProof.Rows
def tJoin : List TE → Nat → TE
  | [], n => fun _ H Q => ∀ z : Str, z.length = n → Q (.str z) H
  | t :: ts, n => fun σ H Q => t σ H fun x H1 => ∃ z : Str, x = .str z ∧ n + z.length ≤ sizeLine ∧ tJoin ts (n + z.length) σ H1 Q
section
variable {X : Cx} {pos : Pos} {e : Expr} {te : TE}
theorem join_go : ∀ {es : List Expr} {ts : List TE}, Paired (PE X) es ts → ∀ (acc : Str) (pins : List (Addr × Obj)) (s : Shared) (σ : St) (H : Hp) (Q : VK), acc.length ≤ sizeLine → Inv X pins σ H s → tJoin ts acc.length σ H Q → wpAny (model X.prog X.w) X.A (joinParts acc (evalEach es X.env)) (EP X pins σ Q) X.xe s
  | _, _, .nil, acc, pins, s, σ, H, Q, hz, I, h => joinParts_nilE (joinParts_nil ⟨.str acc, H, I.tok _, ⟨_, rfl⟩, h acc rfl⟩ hz)
  | _, _, .cons p r, acc, pins, s, σ, H, Q, hz, I, h => by
    refine joinParts_consE (joinParts_cons (thn (p pins s σ H _ I h) fun v s1 ⟨x, H1, I1, rx, z, ez, hl, q⟩ => ?_))
    subst ez
    obtain ⟨t, rfl⟩ := rx
    have el : (acc ++ z).length = acc.length + z.length := len_app acc z
    exact ⟨by rw [el]; exact hl, join_go r (acc ++ z) pins s1 σ H1 Q (by rw [el]; exact hl) I1 (by rw [el]; exact q)⟩
theorem empty_len : Str.empty.length = 0 := by decide
theorem pe_join {a b : Expr} {es : List Expr} {ts : List TE} (h : Paired (PE X) (a :: b :: es) ts) : PE X (.JoinedStr (a :: b :: es) pos) (tJoin ts 0) := by
  intro pins s σ H Q I hw
  refine JoinedStr_many (join_go h Str.empty pins s σ H Q (by decide) I ?_)
  rw [empty_len]
  exact hw
def tFm (te : TE) : TE := fun σ H Q => te σ H fun x H1 => (∃ i, x = .int i ∧ i.natAbs.log2 < 1920 ∧ ∀ z : Str, z.length ≤ 1921 → Q (.str z) H1) ∨ ∃ y : Str, x = .str y ∧ y.length ≤ sizeLine ∧ Q (.str y) H1
theorem pe_fm (he : PE X e te) : PE X (.FormattedValue e (-1) none pos) (tFm te) := by
  intro pins s σ H Q I h
  refine FormattedValue_plain (thn (he pins s σ H _ I h) fun v s1 ⟨x, H1, I1, rx, q⟩ => ?_)
  rcases q with ⟨i, rfl, hi, q⟩ | ⟨y, rfl, hy, q⟩
  · obtain ⟨t, rfl⟩ := rx
    exact formatField_int_small hi ⟨.str _, H1, I1.tok _, ⟨_, rfl⟩, q _ (int_len hi)⟩
  · obtain ⟨t, rfl⟩ := rx
    exact formatField_str (fun t' tk => ⟨.str y, H1, I1.tok _, ⟨_, rfl⟩, q⟩) hy
def tFr (te : TE) : TE := fun σ H Q => te σ H fun x H1 => ∃ i, x = .int i ∧ i.natAbs.log2 < 1920 ∧ ∀ z : Str, z.length ≤ 1921 → Q (.str z) H1
theorem pe_fr (he : PE X e te) : PE X (.FormattedValue e 114 none pos) (tFr te) := by
  intro pins s σ H Q I h
  refine wpAny_FormattedValue_repr (thn (he pins s σ H _ I h) fun v s1 ⟨x, H1, I1, rx, i, ei, hi, q⟩ => ?_)
  subst ei
  obtain ⟨t, rfl⟩ := rx
  refine pyReprObj_int hi (formatField_str (fun t' tk => ⟨.str _, H1, I1.tok _, ⟨_, rfl⟩, q _ (int_len hi)⟩) (int_text_fits hi))
end
def ShowV : V → Prop
  | .int i => i.natAbs.log2 < 1920
  | .str y => (reprText y).length ≤ 2000
  | .bl _ => True
  | .non => True
  | _ => False
theorem shows_one {h : Heap} {x : V} {u : Value} (r : RelV x u) (hx : ShowV x) : ∃ d, Reads h u d [] ∧ d.showable = true ∧ d.hasDict = false ∧ d.shown.length ≤ 2000 ∧ d.depth = 0 := by
  cases x with
  | non => cases r; exact ⟨.none, .none, rfl, rfl, by decide +kernel, rfl⟩
  | bl b => cases r; exact ⟨.bool b, .bool b, rfl, rfl, by cases b <;> decide +kernel, rfl⟩
  | int i =>
    obtain ⟨t, rfl⟩ := r
    exact ⟨.int i, .int i t, by simp [PyData.showable]; exact hx, rfl, by have := int_len hx; show (Str.ofString (toString i)).length ≤ 2000; omega, rfl⟩
  | str y =>
    obtain ⟨t, rfl⟩ := r
    exact ⟨.str y, .str y t, rfl, rfl, hx, rfl⟩
  | byt b => exact hx.elim
  | flt b => exact hx.elim
  | ref a => exact hx.elim
  | ty n => exact hx.elim
theorem shows_all {h : Heap} : ∀ {xs : List V} {us : List Value}, Vals xs us → (∀ x ∈ xs, ShowV x) → ∃ ds, ReadsAll h us ds [] ∧ PyData.showableAll ds = true ∧ PyData.hasDictAll ds = false ∧ piled (PyData.shownAll ds) ≤ 2002 * xs.length ∧ (PyData.shownAll ds).length = xs.length ∧ PyData.depthAll ds = 0
  | _, _, .nil, _ => ⟨[], .nil, rfl, rfl, by simp [PyData.shownAll, piled], rfl, rfl⟩
  | _, _, .cons (a := x) r t, hx => by
    obtain ⟨d, k1, k2, k3, k4, k5⟩ := shows_one (h := h) r (hx x List.mem_cons_self)
    obtain ⟨ds, j1, j2, j3, j4, j5, j6⟩ := shows_all (h := h) t fun y hy => hx y (List.mem_cons_of_mem _ hy)
    refine ⟨d :: ds, ReadsAll.cons k1 j1, ?_, ?_, ?_, ?_, ?_⟩
    · show (d.showable && PyData.showableAll ds) = true
      rw [k2, j2]; rfl
    · show (d.hasDict || PyData.hasDictAll ds) = false
      rw [k3, j3]; rfl
    · show piled (d.shown :: PyData.shownAll ds) ≤ _
      rw [piled_cons, List.length_cons]
      omega
    · show (d.shown :: PyData.shownAll ds).length = _
      rw [List.length_cons, j5, List.length_cons]
    · show max d.depth (PyData.depthAll ds) = 0
      rw [k5, j6]; rfl
theorem tupleText_len {ts : List Str} : (tupleText ts).length ≤ piled ts + 4 := by
  unfold tupleText
  rw [len_app, len_app]
  have h1 : ((("(" : String) : Str)).length = 1 := by decide +kernel
  have h2 : ∀ b : Bool, ((((if b = true then ",)" else ")") : String) : Str)).length ≤ 2 := by intro b; cases b <;> decide +kernel
  have h3 := h2 (ts.length == 1)
  cases ts with
  | nil =>
    have e : (Str.join ((", " : String) : Str) []).length = 0 := by decide +kernel
    rw [e]
    omega
  | cons x r =>
    have := join_length_add (x :: r) (by simp)
    omega
section
variable {X : Cx} {pos : Pos} {e : Expr} {te : TE}
def tFt (te : TE) : TE := fun σ H Q => te σ H fun x H1 => ∃ p xs, x = .ref p ∧ H1 p = some (.tup xs) ∧ xs.length ≤ 20 ∧ (∀ y ∈ xs, ShowV y) ∧ ∀ z : Str, z.length ≤ 50000 → Q (.str z) H1
theorem pe_ft (hg : X.A.guards = some []) (hu : X.A.units + 8 < cLine) (he : PE X e te) : PE X (.FormattedValue e 114 none pos) (tFt te) := by
  intro pins s σ H Q I h
  refine wpAny_FormattedValue_repr (thn (he pins s σ H _ I h) fun v s1 ⟨x, H1, I1, rx, p, xs, ep, hp, hl, hx, q⟩ => ?_)
  subst ep
  cases rx
  obtain ⟨_, its, r, o, ho, hc, n, hd⟩ := (show ObjOk X.prog X.w H1 s1.heap p (.tup xs) from I1.hok p _ hp)
  obtain ⟨ds, j1, j2, j3, j4, j5, j6⟩ := shows_all (h := s1.heap) r hx
  have big := line_big
  have hz : (PyData.shown (.tuple ds)).length ≤ 50000 := by
    show (tupleText (PyData.shownAll ds)).length ≤ 50000
    have := tupleText_len (ts := PyData.shownAll ds)
    omega
  refine pyReprObj_of_reads (h₀ := s1.heap) (d := .tuple ds) (as := []) (.tuple ho hc hd (by simpa using j1)) (by show PyData.showableAll ds = true; exact j2) (fun z => by rw [show PyData.hasDict (.tuple ds) = PyData.hasDictAll ds from rfl, j3] at z; cases z) hg
    (by show X.A.units + (PyData.depthAll ds + 1) < cLine; rw [j6]; omega) (fun _ _ z => z) (fun h' u tk hk => ?_) (by omega)
  exact formatField_str (fun t' tk' => ⟨.str _, H1, (I1.kept (t' := tk') hk), ⟨_, rfl⟩, q _ hz⟩) (by omega)
end
end L2

set_option maxRecDepth 100000
set_option maxHeartbeats 4000000
namespace L2
open PySem PySem.Spec PyProof.Rows
structure Caught (X : Cx) (pins : List (Addr × Obj)) (a : Addr) (cls : Value) (σ : St) (H : Hp) (s : Shared) : Prop where
  inv : Inv X pins σ H s
  fly : FlyX X pins a cls H s.heap
section
variable {X : Cx} {pins : List (Addr × Obj)} {a : Addr} {cls : Value} {σ : St} {H : Hp} {s : Shared} {h' : Heap}
theorem Caught.opened (c : Caught X pins a cls σ H s) (hx : X.ex = []) : ∃ base a0, Heap.FlyingW base X.stack a cls a0 s.heap ∧ ∀ h5, Heap.FlyingW base X.stack a cls a0 h5 → s.heap.UpToSlots h5 → Caught X pins a cls σ H { s with heap := h5 } := by
  obtain ⟨J, fl⟩ := c
  obtain ⟨oe, vs, T, oT, ts', a0, j1, j2, j3, j4, j6, j7, j8, j9, hT0, hTH, hTp⟩ := fl.ex
  have st : (PySem.W.hideAll s.heap (a :: T :: frs X.stack)).StaysIn s.heap := fun b o w => PySem.W.of_hideAll _ w
  have two : ∀ {p : Addr → Prop}, p a → p T → ∀ b ∈ ([a, T] : List Addr), p b := fun h1 h2 b hb => by
    rcases List.mem_cons.mp hb with rfl | hb
    · exact h1
    · rw [List.mem_singleton.mp hb]; exact h2
  have ff := PySem.W.funFrames_hide (as := a :: T :: frs X.stack) J.stack (fun env he b hb => List.mem_cons_of_mem _ (List.mem_cons_of_mem _ (frs_in _ env he b hb)))
  refine ⟨_, a0, ⟨st, PySem.W.hideAll_none _ List.mem_cons_self, ff, oe, vs, T, oT, ts', j1, j2, j3, j4, PySem.W.hideAll_none _ (List.mem_cons_of_mem _ List.mem_cons_self), j6, j7, j8, j9⟩, fun h5 f up => ?_⟩
  obtain ⟨f1, f2, f3, oe2, vs2, T2, oT2, ts2, i1, i2, i3, i4, i5, i6, i7, i8, i9⟩ := f
  have Z : Inv X pins σ H { s with heap := h5 } := by
    refine J.noted (as := [a, T]) up (fun b o w hb hc => f1 b o (PySem.W.hideAll_get _ w fun y => ?_)) (two (fun o w => by rw [j1] at w; cases w; exact ⟨_, j3⟩) (fun o w => by rw [j7] at w; cases w; exact ⟨_, j8⟩)) (two fl.new hT0) (two fl.free hTH) (two fl.pn hTp)
    rcases List.mem_cons.mp y with y | y
    · exact hb (by rw [y]; simp)
    · rcases List.mem_cons.mp y with y | y
      · exact hb (by rw [y]; simp)
      · exact hc y
  have hT2 : X.s₀.heap.get? T2 = none ∧ H T2 = none ∧ ∀ p ∈ X.pn ++ pins, p.1 ≠ T2 := by
    by_cases eT : T2 = T
    · rw [eT]; exact ⟨hT0, hTH, hTp⟩
    have hn : s.heap.get? T2 = none := by
      cases q : s.heap.get? T2 with
      | none => rfl
      | some o =>
        by_cases hb : T2 ∈ frs X.stack
        · obtain ⟨o2, e2, d2⟩ := J.frame_data hb
          obtain ⟨sl, e3⟩ := up T2 o2 e2 d2
          rw [i7] at e3
          cases e3
          exact absurd i8 (d2 ts2)
        · have := PySem.W.hideAll_get (l := a :: T :: frs X.stack) q (fun z => by
            rcases List.mem_cons.mp z with z | z
            · exact i6 z
            · rcases List.mem_cons.mp z with z | z
              · exact eT z
              · exact hb z)
          rw [i5] at this; cases this
    exact ⟨J.zero hn hx, J.hok.none_of hn, fun p hp z => by have := (J.pin p hp).1; rw [z, hn] at this; cases this⟩
  exact ⟨Z, ⟨⟨oe2, vs2, T2, oT2, ts2, a0, i1, i2, i3, i4, i6, i7, i8, i9, hT2.1, hT2.2.1, hT2.2.2⟩, fl.new, fl.free, fl.pn⟩⟩
theorem Caught.kept {t' : Nat} (c : Caught X pins a cls σ H s) (k : ∀ b u, s.heap.get? b = some u → h'.get? b = some u) : Caught X pins a cls σ H { s with heap := h', toks := t' } := by
  obtain ⟨J, fl⟩ := c
  obtain ⟨oe, vs, T, oT, ts', a0, j1, j2, j3, j4, j6, j7, j8, j9, hT0, hTH, hTp⟩ := fl.ex
  exact ⟨J.kept k, ⟨⟨oe, vs, T, oT, ts', a0, k _ _ j1, j2, j3, j4, j6, k _ _ j7, j8, j9, hT0, hTH, hTp⟩, fl.new, fl.free, fl.pn⟩⟩
theorem Caught.type {M : Model} (c : Caught X pins a cls σ H s) : PySem.W.Looks M s.heap (typeOf (.ref a)) cls := by
  obtain ⟨oe, vs, T, oT, ts', a0, j1, j2, _⟩ := c.fly.ex
  exact j2.1 ▸ (PySem.W.Looks.ld j1).andThen .now
end
abbrev TH := Value → TS
def PH (X : Cx) (hs : List ExceptHandler) (t : TH) : Prop :=
  ∀ (pins : List (Addr × Obj)) (s : Shared) (σ : St) (H : Hp) (D : Ends) (a : Addr) (cls : Value), Caught X pins a cls σ H s → t cls D σ H → wpAny (model X.prog X.w) X.A (handleBy (.ref a) X.env hs) (SP X pins D) X.xe s
def tTryH (tb : TSx) (th : TH) : TS := fun D σ H => tb D (fun σ' cls H' => th cls D σ' H') σ H
theorem ps_tryH {X : Cx} {body : List Stmt} {h0 : ExceptHandler} {hs : List ExceptHandler} {tb : TSx} {th : TH} {pos : Pos} (hst : X.stack = X.env :: X.outer) (hfr : X.env.frame = some X.env.locals) (hx : X.ex = [])
    (hb : PSsx X body tb) (hh : PH X (h0 :: hs) th) : PS X (.Try body (h0 :: hs) [] [] pos) (tTryH tb th) := by
  intro pins s σ H D I h
  refine wpAny_Try_except (wpAny_mono (hb pins s σ H D _ I h) (fun f s1 z => ?_) (fun e s1 z => ?_))
  · cases f with
    | next => exact wpAny_execs_nil z
    | ret v => exact z
    | brk => exact z
    | cont => exact z
  · obtain ⟨σ', a, cls, H', rfl, J, fl, z⟩ := z
    obtain ⟨base, a0, fly, back⟩ := (Caught.mk J fl).opened hx
    rw [hst] at fly back
    refine wpAny_looks_onW (by rw [← hst]; exact I.ok.frames) hfr fly fun h4 held up4 => ?_
    refine wpAny_landsW held fun h5 fly5 up5 => ?_
    exact hh pins _ σ' H' D a cls (back h5 fly5 (up4.trans up5)) z
section
variable {M : Model} {K : PySem.W.Frag}
end
section
variable {X : Cx} {pins : List (Addr × Obj)} {σ : St} {H : Hp} {s : Shared} {A : Around} {E : Value → Shared → Prop}
end
section
variable {X : Cx}
end
section
variable {X : Cx} {pins : List (Addr × Obj)} {a : Addr} {cls : Value} {σ : St} {H : Hp} {s : Shared}
theorem Caught.track (c : Caught X pins a cls σ H s) : ∃ oe, oe.cls = cls ∧ Inv X pins σ (upd H a (.frz oe (.own a))) s := by
  obtain ⟨I, fl⟩ := c
  obtain ⟨oe, vs, T, oT, ts', a0, j1, j2, j3, _⟩ := fl.ex
  have same : ∀ {b : Addr} {o : HO}, H b = some o → upd H a (.frz oe (.own a)) b = some o := fun {b o} e => by
    rw [upd_ne (fun z => by rw [z, fl.free] at e; cases e)]; exact e
  have none' : ∀ {b : Addr}, b ≠ a → H b = none → upd H a (.frz oe (.own a)) b = none := fun {b} n e => by rw [upd_ne n]; exact e
  obtain ⟨m, hn, hl⟩ := id I.loc
  refine ⟨oe, j2.1, ⟨I.ok, I.os, I.bare, ⟨I.base.keep, I.base.slot, fun b o e n hx => none' (fun z => by rw [z, fl.new] at e; cases e) (I.base.free b o e n hx), I.base.there, fun b xs e => same (I.base.tups b xs e), fun b o u e => same (I.base.frzs b o u e), fun b ps e => ?_⟩, I.loc, I.cell, none' (fun z => ?_) I.free, fun x c e => none' (fun z => ?_) (I.freeC x c e), fun p hp => ?_, fun b o e => ?_, I.len⟩⟩
  · obtain ⟨more, e⟩ := I.base.tbls b ps e
    exact ⟨more, same e⟩
  · obtain ⟨o, es, ep, ho, hd, _⟩ := hn
    rw [z, j1] at ho
    cases ho
    rw [j3] at hd; cases hd
  · obtain ⟨v, oc, k3, k4⟩ := I.cell x c e
    rw [z, j1] at k3
    cases k3
    rw [j3] at k4; cases k4
  · obtain ⟨e, n, ne, nf, d⟩ := I.pin p hp
    exact ⟨e, none' (fl.pn p hp) n, ne, nf, d⟩
  · by_cases z : b = a
    · subst z
      rw [upd_same] at e
      cases e
      exact ⟨j1, ⟨_, j1⟩⟩
    · rw [upd_ne z] at e
      exact (I.hok b o e).stay (fun _ _ _ q => q) (fun _ q => same q) fun _ _ q => same q
theorem Inv.gone {i : Nat} {n : Str} {h' : Heap} {t' : Nat} {m : Str → Option Value} {v : Option Value} (I : Inv X pins σ H s) (hN : X.N.Nodup) (hi : X.N[i]? = some n) (hn0 : s.heap.Ns X.env.locals m) (hn : h'.Ns X.env.locals (fun x => if x = n then v else m x)) (hs : Heap.SameBut X.env.locals s.heap h') :
    Inv X pins (σ.set i none) H { s with heap := h', toks := t' } := by
  obtain ⟨m1, hn1, hl⟩ := id I.loc
  have hm : m1 = m := by
    obtain ⟨o1, es1, ep1, k1, k2, _, k4⟩ := hn1
    obtain ⟨o2, es2, ep2, l1, l2, _, l4⟩ := hn0
    rw [k1] at l1
    cases l1
    rw [k2] at l2
    cases l2
    exact funext fun x => (k4 x).symm.trans (l4 x)
  subst hm
  have hiσ : i < σ.length := by rw [I.len]; exact (List.getElem?_eq_some_iff.mp hi).1
  refine ⟨I.ok, I.os, I.bare, ⟨fun b o e n hb hx => ?_, fun b o e n hb hx => ?_, I.base.free, fun b o e hx => ?_, I.base.tups, I.base.frzs, I.base.tbls⟩, ⟨_, hn, fun j y v' e1 e2 e3 => ?_⟩, fun y c e => ?_, I.free, I.freeC, fun p hp => ?_, fun b ob e => ?_, by simpa using I.len⟩
  · exact (hs.2 b (Nat.ne_of_lt (Nat.lt_of_lt_of_le (Heap.lt_size e) I.ok.above))).trans (I.base.keep b o e n hb hx)
  · obtain ⟨sl, e1⟩ := I.base.slot b o e n hb hx
    exact ⟨sl, (hs.2 b (Nat.ne_of_lt (Nat.lt_of_lt_of_le (Heap.lt_size e) I.ok.above))).trans e1⟩
  · obtain ⟨o', e1⟩ := I.base.there b o e hx
    exact ⟨o', (hs.2 b (Nat.ne_of_lt (Nat.lt_of_lt_of_le (Heap.lt_size e) I.ok.above))).trans e1⟩
  · by_cases hj : j = i
    · subst hj
      rw [List.getElem?_set_self hiσ] at e2
      cases e2
    · rw [List.getElem?_set_ne (Ne.symm hj)] at e2
      obtain ⟨u', r', q⟩ := hl j y v' e1 e2 e3
      refine ⟨u', r', ?_⟩
      rcases q with ⟨k, e⟩ | ⟨k, c, e, z⟩
      · refine .inl ⟨k, ?_⟩
        have : y ≠ n := fun e => hj (nodup_ix hN e1 (e ▸ hi))
        simp [this, e]
      · exact .inr ⟨k, c, e, z.sameBut hs (I.cne y c e)⟩
  · obtain ⟨w', z⟩ := I.cell y c e
    exact ⟨w', z.sameBut hs (I.cne y c e)⟩
  · obtain ⟨e, n, ne, nf, d⟩ := I.pin p hp
    exact ⟨(hs.2 p.1 ne).trans e, n, ne, nf, d⟩
  · refine (I.hok b ob e).stay (fun c w' hc q => (hs.2 c ?_).trans q) (fun _ q => q) fun _ _ q => q
    rintro rfl
    rcases hc with rfl | hc
    · rw [I.free] at e; cases e
    · rw [I.free] at hc; cases hc
end
section
variable {K : PySem.W.Frag}
open PySem.W in
theorem isi_yes {M : Program} {w : World} {A : Around} {E : Value → Shared → Prop} {Q : Value → Shared → Prop} {s : Shared} {x t c : Value} (X : K.In s.heap) (LT : ∀ M, PySem.W.Looks M s.heap (typeOf x) t) (e : PySem.W.kitOne K t c = some true) (hx : x ≠ .builtin "__main__.__loader__#opaque") (h : Q (.bool true) s) :
    wpAny (model M w) A (call (.builtin "isinstance") [x, c]) Q E s := by
  obtain ⟨h0, g, d, tt, os⟩ := s
  refine call_isinstance_of ?_ hx
  have LT := LT (model M w)
  unfold kitOne at e
  unfold Builtin.«isinstance.nested»
  refine wpAny_bind (LT.at ?_)
  by_cases q : (t == c) = true
  · rw [if_pos q]
    repeat (first | refine wpAny_pure ?_ | refine wpAny_rule ?_ | refine wpAny_bind ?_)
    exact h
  · rw [if_neg q] at e
    rw [if_neg q]
    obtain ⟨hty, his, hsub⟩ := kit_cls (M := model M w) X e
    have LI : Looks (model M w) h0 (isInstance x c) true := LT.andThen hsub
    refine wpAny_bind (hty.at ?_)
    rw [if_pos (by decide)]
    k_delta "plainIsInstance"
    refine wpAny_bind (wpAny_bind (his.at ?_))
    simp only [Bool.not_true, Bool.false_eq_true, if_false]
    refine wpAny_bind (LI.at ?_)
    simp only [if_true]
    exact wpAny_pure (wpAny_pure h)
end
end L2

set_option maxRecDepth 100000
set_option maxHeartbeats 4000000
namespace L2
open PySem PySem.Spec PyProof.Rows
structure CalX (P : Program) (w : World) (K : PySem.W.Frag) (mg : Str → Option Value) (base : Heap) (k : Nat) (x : Str) (ps : List Str) (sp : Sp) : Prop where
  ex : ∃ f fd, FnOk P w K mg base (CXf P w) k f fd ps sp ∧ mg x = some (.ref f) ∧ PySem.W.keepIn K (.ref f) = true ∧ Binds K fd ps []
structure CalDX (P : Program) (w : World) (K : PySem.W.Frag) (mg : Str → Option Value) (base : Heap) (k : Nat) (x : Str) (ps : List Str) (sp : Sp) (st : Stmt) (ds : List Value) : Prop where
  ex : ∃ f fd, FnOk P w K mg base (CXf P w) k f fd ps sp ∧ mg x = some (.ref f) ∧ FunD K x st ds f fd
section
variable {P : Program} {w : World} {K : PySem.W.Frag} {mg : Str → Option Value} {base : Heap}
theorem Laid.calX {x : Str} {st : Stmt} {N ps : List Str} {k : Nat} {sp : Sp} (L : Laid K mg x st ps) (S : FnScope N ps (defScope st)) (len : ∀ vs H Q E, sp vs H Q E → vs.length = ps.length)
    (hbody : ∀ (f : Addr) (cdv : Value) (A : Around) (outer : List Env) (s : Shared) (H : Hp) (vs : List V) (Q : VK) (E : XK), Room k (A.deeper (envOfC x (defScope st) s.heap.objs.size f cdv)) → sp vs H Q E →
      ∃ t, PSs (cxOf (CXf P w) P w K mg base N x (defScope st) f cdv A outer s H E) (defBody st) t ∧ t { nx := fun _ H' => Q .non H', rt := Q } (start N vs) H) : CalX P w K mg base (k + 1) x ps sp := by
  obtain ⟨f, fd, F, m, b⟩ := L.ex
  refine ⟨f, fd, ?_, m, F.kp, b⟩
  obtain ⟨oc, od, kV, doc, pm, an, cdv, ct, osl, rfl, lk, hcd⟩ := F.ex
  exact fn_of lk hcd S len fun A outer s H vs Q E hr hsp => hbody f cdv A outer s H vs Q E hr hsp
theorem LaidD.calX {x : Str} {st : Stmt} {ds : List Value} {N ps : List Str} {k : Nat} {sp : Sp} (L : LaidD K mg x st ds) (S : FnScope N ps (defScope st)) (len : ∀ vs H Q E, sp vs H Q E → vs.length = ps.length)
    (hbody : ∀ (f : Addr) (cdv : Value) (A : Around) (outer : List Env) (s : Shared) (H : Hp) (vs : List V) (Q : VK) (E : XK), Room k (A.deeper (envOfC x (defScope st) s.heap.objs.size f cdv)) → sp vs H Q E →
      ∃ t, PSs (cxOf (CXf P w) P w K mg base N x (defScope st) f cdv A outer s H E) (defBody st) t ∧ t { nx := fun _ H' => Q .non H', rt := Q } (start N vs) H) : CalDX P w K mg base (k + 1) x ps sp st ds := by
  obtain ⟨f, fd, F, m⟩ := L.ex
  refine ⟨f, fd, ?_, m, F⟩
  obtain ⟨T, o, n, oc, od, kV, doc, pm, an, cdv, ct, osl, rfl, lk, hcd, ho, hs⟩ := F.ex
  exact fn_of lk hcd S len fun A outer s H vs Q E hr hsp => hbody f cdv A outer s H vs Q E hr hsp
end
section
variable {X : Cx} {k k' : Nat} {x : Str} {ps : List Str} {sp : Sp} {p pos : Pos} {e : Expr} {es : List Expr} {t : TA} {E : XK} {st : Stmt} {ds ds' : List Value} {dvs : List V}
theorem pe_calX (c : CalX X.prog X.w X.K X.mg X.base k x ps sp) (hx : Passes (CXf X.prog X.w) X E) (hr : Room k' X.A) (hk : k ≤ k') (hg : Gl X x) (ha : PA X (e :: es) t) (hdb : (x == ("__debug__" : Str)) = false := by decide) (he : starEach (e :: es) X.env = (false, eval e X.env) :: starEach es X.env := by rfl)
    (hpl : (backTo pos (starEach es X.env)).any (·.1) = false := by rfl) : PE X (.Call (.Name x p) (e :: es) [] pos) (tCall sp [] E t) := by
  obtain ⟨f, fd, F, m, kp, b⟩ := c.ex
  exact pe_call F (hr.mono hk) hg m kp b .nil hx ha hdb he hpl
theorem pe_calDX (c : CalDX X.prog X.w X.K X.mg X.base k x ps sp st ds) (hx : Passes (CXf X.prog X.w) X E) (hb : ∀ us : List Value, (us ++ ds').length = ps.length → BnD x st ds ⟨us, []⟩ (ps.zip (us ++ ds'))) (hd : Vals dvs ds') (hr : Room k' X.A) (hk : k ≤ k') (hg : Gl X x) (ha : PA X (e :: es) t)
    (hdb : (x == ("__debug__" : Str)) = false := by decide) (he : starEach (e :: es) X.env = (false, eval e X.env) :: starEach es X.env := by rfl)
    (hpl : (backTo pos (starEach es X.env)).any (·.1) = false := by rfl) : PE X (.Call (.Name x p) (e :: es) [] pos) (tCall sp dvs E t) := by
  obtain ⟨f, fd, F, m, D⟩ := c.ex
  exact pe_call F (hr.mono hk) hg m D.kp (fun s us hX hl => D.bind hX (hb us hl)) hd hx ha hdb he hpl
theorem pex_calX (c : CalX X.prog X.w X.K X.mg X.base k x ps sp) (hX : X.ex = []) (hr : Room k' X.A) (hk : k ≤ k') (hg : Gl X x) (ha : PA X.nox (e :: es) t) (hdb : (x == ("__debug__" : Str)) = false := by decide) (he : starEach (e :: es) X.env = (false, eval e X.env) :: starEach es X.env := by rfl)
    (hpl : (backTo pos (starEach es X.env)).any (·.1) = false := by rfl) : PEx X (.Call (.Name x p) (e :: es) [] pos) (xCall sp [] t) := by
  obtain ⟨f, fd, F, m, kp, b⟩ := c.ex
  exact pex_call F (hr.mono hk) hg m kp b .nil hX ha hdb he hpl
theorem pe_nox {te : TE} (h : PE X.nox e te) : PE X e te := fun pins s σ H Q I q => by
  refine wpAny_mono (h pins s σ H Q (I.wish _) q) (fun v s1 ⟨y, H1, I1, r1, q1⟩ => ⟨y, H1, I1.unwish, r1, q1⟩) fun _ _ z => False.elim z
theorem ps_nox {st : Stmt} {t : TS} (h : PS X.nox st t) : PS X st t := fun pins s σ H D I q => by
  refine wpAny_mono (h pins s σ H D (I.wish _) q) (fun f s1 z => ?_) fun _ _ z => False.elim z
  exact SP.unwish z
theorem r_raise {C : Addr} {D : Ends} {σ : St} {H : Hp} (q : t σ H fun vs H1 => vs.length ≤ sizeLine ∧ E (.ref C) none H1) : tRaise C E t D σ H := q
end
section
variable {P : Program} {w : World} {K : PySem.W.Frag} {mg : Str → Option Value} {base : Heap} {N : List Str} {qual : Str} {scope : Scope} {f : Addr} {cd : Value} {A : Around} {outer : List Env} {s0 : Shared} {H0 : Hp} {E : XK}
theorem raises_xe : Raises (cxOf (CXf P w) P w K mg base N qual scope f cd A outer s0 H0 E) E := fun pins σ H s h' e cls args I hx hE => raise_xe I hx hE
end
section
variable {X : Cx}
theorem pass_no : Passes (CXf X.prog X.w) X E0 := fun _ _ _ _ _ _ _ h => by obtain ⟨a, cls, H', _, _, _, _, _, _, hE⟩ := h; exact hE.elim
end
def plainE : Expr → Bool
  | .Starred .. => false
  | _ => true
theorem starEach_plain {e : Expr} {es : List Expr} {env : Env} (h : plainE e = true) : starEach (e :: es) env = (false, eval e env) :: starEach es env := by
  cases e <;> first | rfl | cases h
theorem pa_c {X : Cx} {e : Expr} {es : List Expr} {te : TE} {t : TA} (ha : PE X e te) (hr : PA X es t) (h : plainE e = true := by rfl) : PA X (e :: es) (tCons te t) := pa_cons ha hr (starEach_plain h)
end L2

set_option maxRecDepth 100000
set_option maxHeartbeats 4000000
namespace L2
open PySem PySem.Spec PySem.Calls PyProof.Rows PySem.W Builtin Builtin.ObjectAttr Builtin.Getset_descriptor
structure ExcT (K : PySem.W.Frag) (C : Addr) : Prop where
  ga : PySem.W.findIn K (.ref C) "__getattribute__" = some (some (.builtin "BaseException.__getattribute__"))
  gh : PySem.W.findIn K (.ref C) "__getattr__" = some none
  ca : PySem.W.findIn K (.ref C) "__class__" = some (some (.builtin "object.__class__"))
  mo : PySem.W.mroIn K C (.type "object") = some true
  mb : PySem.W.mroIn K C (.type "BaseException") = some true
section
variable {prog : Program} {w : World} {A : Around} {E : Value → Shared → Prop} {h : Heap} {g : Array GenState} {d : PySem.Drawn} {t : Nat} {os : OsState} {K : PySem.W.Frag} {x C : Addr}
end
section
variable {X : Cx}
end
end L2

set_option maxRecDepth 100000
set_option maxHeartbeats 4000000
namespace L2
open PySem PySem.Spec PyProof.Rows
section
variable {X : Cx}
end
namespace RevT
section
variable {prog : Program} {w : World} {A : Around} {E : Value → Shared → Prop} {s : Shared} {J : Addr} {fp wr : List Addr} {G : Array GenState → Array GenState → Prop} {n : Nat} {P : Nat → Value → Prop} {St : Nat → Shared → Prop}
end
section
variable {prog : Program} {w : World} {A : Around} {E : Value → Shared → Prop} {s : Shared}
end
end RevT
section
variable {X : Cx} {e : Expr} {te : TE}
end
end L2

set_option maxRecDepth 100000
set_option maxHeartbeats 4000000
namespace L2
open PySem PySem.Spec PyProof.Rows
namespace MaxD
section
variable {prog : Program} {w : World} {A : Around} {R : Result → Shared → Prop} {J : Addr} {fp wr : List Addr} {G : Array GenState → Array GenState → Prop} {n : Nat} {P : Nat → Value → Prop} {St : Nat → Shared → Prop} {kw : List (Str × Value)}
theorem loop (Wk : WalksS prog w A.in1 J fp wr G n P St) (bt : Nat → Nat → Bool) (cm : CmpOf prog w A.in1 .Gt P bt) (B : Addr) (nf : B ∉ fp) :
    ∀ (k j : Nat) (s : Shared) (vb : Value) (c : Nat), n - (j + 1) = k → j + 1 ≤ n → St (j + 1) s → P (argBest bt j) vb →
    s.heap.get? B = some { cls := .type "list", dict := none, data := .seq #[vb, vb] c, slots := #[] } →
    (∀ v s', P (argBest bt (n - 1)) v → Moved (B :: wr) G s s' → R (.ok (.ret v)) s') → codeAny (model prog w) A (.builtin "max.loop" ⟨[.ref J, .none, .ref B], kw⟩) R s := by
  have nw : B ∉ wr := fun z => nf (Wk.sub _ z)
  have su : ∀ b ∈ wr, b ∈ B :: wr := fun b hb => List.mem_cons_of_mem _ hb
  have nm : (toString "max" ++ toString ".loop" : String) = "max.loop" := by decide
  have nB : ∀ {b : Addr}, b ∉ B :: wr → B ≠ b := fun hb z => hb (by rw [z]; exact List.mem_cons_self)
  intro k
  induction k with
  | zero =>
    intro j s vb c hk hj st pb at_ fin
    have hin : j + 1 = n := by omega
    refine codeAny_builtin F.entry_max_loop (by
      rw [Around.under_plainId F.plain_max_loop _]
      show wpAny _ A.in1 (seqItems? (.ref B) >>= _) _ _ s
      refine wpAny_bind (wpAny_seqItems at_ rfl ?_)
      show wpAny _ A.in1 (tryCatch (pyNext (.ref J)) _ >>= _) _ _ s
      refine wpAny_bind (wpAny_tryCatch (Wk.done s _ _ (hin ▸ st) fun s' mv => ?_))
      have at2 := mv.heap B _ nw at_
      show wpAny _ A.in1 (updateSeq B (fun _ => #[]) >>= _) _ _ _
      refine wpAny_bind (wpAny_updateSeq at2 rfl (wpAny_bind (wpAny_letGo (wpAny_pure ?_))))
      exact fin vb _ (by rw [← hin]; exact pb) ((mv.mono su).then_heap (tk := s'.toks) (Nat.le_refl _) fun b o hb e => (Heap.get?_update_other _ _ (nB hb)).trans e))
  | succ k ih =>
    intro j s vb c hk hj st pb at_ fin
    have hlt : j + 1 < n := by omega
    refine codeAny_builtin F.entry_max_loop (by
      rw [Around.under_plainId F.plain_max_loop _]
      show wpAny _ A.in1 (seqItems? (.ref B) >>= _) _ _ s
      refine wpAny_bind (wpAny_seqItems at_ rfl ?_)
      show wpAny _ A.in1 (tryCatch (pyNext (.ref J)) _ >>= _) _ _ s
      refine wpAny_bind (wpAny_tryCatch (Wk.item (j + 1) s _ _ hlt st fun v s' pv st' mv => ?_))
      have at2 := mv.heap B _ nw at_
      show wpAny _ A.in1 (tryCatch (holding [v, v] (richCompare .Gt v vb >>= _)) _ >>= _) _ _ _
      refine wpAny_bind (wpAny_tryCatch (wpAny_holding (wpAny_bind (cm (j + 1) (argBest bt j) v vb _ _ _ pv pb ?_))))
      refine wpAny_bind (wpAny_holding (wpAny_truthy_bool (wpAny_bind (wpAny_letGo (wpAny_pure ?_)))))
      cases hb : bt (j + 1) (argBest bt j) with
      | true =>
        simp only [if_true]
        refine wpAny_bind (wpAny_updateSeq at2 rfl (wpAny_bind (wpAny_letGo ?_)))
        rw [nm]
        refine wpAny_pure ⟨plainId_quiet F.plain_max_loop _, ih (j + 1) _ v _ (by omega) hlt (Wk.frame _ s' _ s'.toks st' (Nat.le_refl _) fun b hbf o e => (Heap.get?_update_other _ _ (fun z : B = b => nf (by rw [z]; exact hbf))).trans e) (by simp only [argBest, hb, if_true]; exact pv) (Heap.get?_update_self _ at2 rfl)
          fun v' s'' pv' mv' => fin v' s'' pv' (Moved.trans Wk.gtrans ((mv.mono su).then_heap (Nat.le_refl _) fun b o hb e => (Heap.get?_update_other _ _ (nB hb)).trans e) mv')⟩
      | false =>
        simp only [Bool.false_eq_true, if_false]
        refine wpAny_bind (wpAny_letGo ?_)
        rw [nm]
        exact wpAny_pure ⟨plainId_quiet F.plain_max_loop _, ih (j + 1) _ vb c (by omega) hlt st' (by simp only [argBest, hb, Bool.false_eq_true, if_false]; exact pb) at2 fun v' s'' pv' mv' => fin v' s'' pv' (Moved.trans Wk.gtrans (mv.mono su) mv')⟩)
theorem first {d : Value} {nmd : Str} (Wk : WalksS prog w A.in1 J fp wr G n P St) (bt : Nat → Nat → Bool) (cm : CmpOf prog w A.in1 .Gt P bt) (B : Addr) (nf : B ∉ fp) {s : Shared} {c : Nat} (st : St 0 s)
    (at_ : s.heap.get? B = some { cls := .type "list", dict := none, data := .seq #[] c, slots := #[] })
    (fin0 : n = 0 → ∀ s', Moved (B :: wr) G s s' → R (.ok (.ret d)) s') (fin : 0 < n → ∀ v s', P (argBest bt (n - 1)) v → Moved (B :: wr) G s s' → R (.ok (.ret v)) s') :
    codeAny (model prog w) A (.builtin "max.loop" ⟨[.ref J, .none, .ref B], [(nmd, d)]⟩) R s := by
  have nw : B ∉ wr := fun z => nf (Wk.sub _ z)
  have su : ∀ b ∈ wr, b ∈ B :: wr := fun b hb => List.mem_cons_of_mem _ hb
  have nm : (toString "max" ++ toString ".loop" : String) = "max.loop" := by decide
  have nB : ∀ {b : Addr}, b ∉ B :: wr → B ≠ b := fun hb z => hb (by rw [z]; exact List.mem_cons_self)
  refine codeAny_builtin F.entry_max_loop (by
    rw [Around.under_plainId F.plain_max_loop _]
    show wpAny _ A.in1 (seqItems? (.ref B) >>= _) _ _ s
    refine wpAny_bind (wpAny_seqItems at_ rfl ?_)
    show wpAny _ A.in1 (tryCatch (pyNext (.ref J)) _ >>= _) _ _ s
    by_cases hn : n = 0
    · refine wpAny_bind (wpAny_tryCatch (Wk.done s _ _ (hn ▸ st) fun s' mv => ?_))
      show wpAny _ A.in1 (rule _ >>= _) _ _ _
      exact wpAny_bind (wpAny_rule (wpAny_pure (fin0 hn s' (mv.mono su))))
    · refine wpAny_bind (wpAny_tryCatch (Wk.item 0 s _ _ (by omega) st fun v s' pv st' mv => ?_))
      have at2 := mv.heap B _ nw at_
      show wpAny _ A.in1 (updateSeq B (fun _ => #[v, v]) >>= _) _ _ _
      refine wpAny_bind (wpAny_updateSeq at2 rfl ?_)
      rw [nm]
      exact wpAny_pure ⟨plainId_quiet F.plain_max_loop _, loop Wk bt cm B nf _ 0 _ v _ rfl (by omega) (Wk.frame _ s' _ s'.toks st' (Nat.le_refl _) fun b hbf o e => (Heap.get?_update_other _ _ (fun z : B = b => nf (by rw [z]; exact hbf))).trans e) pv (Heap.get?_update_self _ at2 rfl) fun v' s'' pv' mv' => fin (by omega) v' s'' pv' (Moved.trans Wk.gtrans ((mv.mono su).then_heap (Nat.le_refl _) fun b o hb e => (Heap.get?_update_other _ _ (nB hb)).trans e) mv')⟩)
theorem tree_kw {id : String} {b : Builtin} {args : List Value} {E : Value → Shared → Prop} {s : Shared} {Q : Value → Shared → Prop} (hk : builtinKind id = none) (hp : plainId id = true) (hb : entryFor table id = some b) (ha : argsOk id ⟨args, kw⟩)
    (hc : wpAny (model prog w) A.in1 (b ⟨args, kw⟩) (fun fin s' => match fin with
      | .done f => (match (Except.ok f : Result) with | .ok (.ret v) => Q v s' | .ok _ => False | .error e => E e s')
      | .again c' => c'.quiet = true ∧ codeAny (model prog w) A c' (fun r s' => match r with | .ok (.ret v) => Q v s' | .ok _ => False | .error e => E e s') s') E s) :
    wpAny (model prog w) A (call (.builtin id) args kw) Q E s := by
  refine wpAny_call (codeAny_call_builtin hp hb ?_)
  simp only [checkBuiltinCall, hk]
  cases sg : Manifest.signature? id with
  | none => exact wpAny_pure hc
  | some sig =>
    simp only [argsOk, sg] at ha
    have e2 : Bind.checkArgs id sig ⟨args, kw⟩ = pure () := ha
    show wpAny _ A.in1 (Bind.checkArgs id sig ⟨args, kw⟩) _ _ s
    rw [e2]
    exact wpAny_pure hc
end
theorem args_maxD (a d : Value) : argsOk "max" ⟨[a], [(Str.ofString "default", d)]⟩ := by unfold argsOk; kernel_rfl
section
variable {prog : Program} {w : World} {A : Around} {E : Value → Shared → Prop} {s : Shared} {l : Addr} {xs : Array (Int × Tok)}
theorem call {d : Value} {Q : Value → Shared → Prop} (hh : A.handled = none) (hl : s.heap.IsList l (intItems xs))
    (h0 : xs.size = 0 → ∀ h' tk, (∀ b o, s.heap.get? b = some o → h'.get? b = some o) → Q d { s with heap := h', toks := tk })
    (h : 0 < xs.size → ∀ v h' tk, (intItems xs)[argBest (fun i j => decide (numAt xs i > numAt xs j)) (xs.size - 1)]? = some v → (∀ b o, s.heap.get? b = some o → h'.get? b = some o) → Q v { s with heap := h', toks := tk }) :
    wpAny (model prog w) A (PySem.call (.builtin "max") [.ref l] [(Str.ofString "default", d)]) Q E s := by
  have nm : (toString "max" ++ toString ".loop" : String) = "max.loop" := by decide
  refine tree_kw F.kind_max F.plain_max F.entry_max (args_maxD _ _) ?_
  show wpAny _ A.in1 (Builtin.Builtins.bindParams "max" ["key", "default"] 0 ⟨[], [(Str.ofString "default", d)]⟩ >>= _) _ _ s
  refine wpAny_bind (wpAny_of_eq (show Builtin.Builtins.bindParams "max" ["key", "default"] 0 ⟨[], [(Str.ofString "default", d)]⟩ = pure [none, some d] from rfl) ?_)
  refine wpAny_bind (wpAny_pure ?_)
  refine wpAny_bind (iter_intList hl fun s₂ e st hfp hlI => ?_)
  subst e
  refine wpAny_bind (wpAny_newObj_type ?_)
  rw [nm]
  have Wk := (Walks.list (prog := prog) (w := w) (A := A.in1) hh s.heap.objs.size l hlI (intItems xs)).toS
  have nf : (s.heap.push { cls := .type "list_iterator", data := .fields #[.ref l, .int 0 0] }).objs.size ∉ [s.heap.objs.size, l] := fun z => absurd (hfp _ z) (Nat.lt_irrefl _)
  have en : (intItems xs).size = xs.size := by simp [intItems]
  have out : ∀ s' : Shared, Moved [s.heap.objs.size] (fun a b => b = a) { s with heap := s.heap.push { cls := .type "list_iterator", data := .fields #[.ref l, .int 0 0] } } s' → ∃ h' tk, s' = { s with heap := h', toks := tk } ∧ ∀ b o, s.heap.get? b = some o → h'.get? b = some o := fun s' mv => by
    obtain ⟨m1, m2, m3, m4, m5⟩ := mv
    obtain ⟨h9, g9, d9, t9, o9⟩ := s'
    obtain ⟨h8, g8, d8, t8, o8⟩ := s
    dsimp only at m1 m2 m3 m4
    subst m2 m3 m4
    exact ⟨h9, t9, rfl, old_kept m1⟩
  refine wpAny_pure ⟨plainId_quiet F.plain_max_loop _, first (nmd := Str.ofString "default") Wk (fun i j => decide (numAt xs i > numAt xs j)) (CmpOf.ints_gt (numAt xs) (fun _ _ => intItems_at)) _ nf (Wk.frame 0 _ _ s.toks st (Nat.le_refl _) fun b _ o e => Heap.get?_push_of_some _ e) (Heap.get?_push_size _ rfl) (fun z s' mv => ?_) (fun z v s' pv mv => ?_)⟩
  · obtain ⟨h', tk, rfl, k⟩ := out s' (Moved.drop_new (tk := s.toks) mv (Nat.le_refl _))
    exact h0 (by omega) h' tk k
  · obtain ⟨h', tk, rfl, k⟩ := out s' (Moved.drop_new (tk := s.toks) mv (Nat.le_refl _))
    exact h (by omega) v h' tk (by rw [en] at pv; exact pv) k
end
end MaxD
section
variable {X : Cx} {e ed : Expr} {te td : TE}
end
section
variable {X : Cx}
end
mutual
inductive Shw (H : Hp) : V → PyData → Prop
  | str (z : Str) : Shw H (.str z) (.str z)
  | tup {p : Addr} {xs : List V} {ds : List PyData} (h : H p = some (.tup xs)) (a : ShwAll H xs ds) : Shw H (.ref p) (.tuple ds)
inductive ShwAll (H : Hp) : List V → List PyData → Prop
  | nil : ShwAll H [] []
  | cons {x : V} {xs : List V} {d : PyData} {ds : List PyData} (a : Shw H x d) (b : ShwAll H xs ds) : ShwAll H (x :: xs) (d :: ds)
end
section
variable {X : Cx} {pins : List (Addr × Obj)} {σ : St} {H : Hp} {s : Shared}
mutual
theorem Shw.reads (I : Inv X pins σ H s) : ∀ {x : V} {d : PyData}, Shw H x d → ∀ {u : Value}, RelV x u → Reads s.heap u d []
  | _, _, .str z, u, r => by obtain ⟨t, rfl⟩ := r; exact .str z t
  | _, _, .tup h a, u, r => by
    cases r
    obtain ⟨_, its, rv, o, ho, hc, n, hd⟩ := (show ObjOk X.prog X.w H s.heap _ (.tup _) from I.hok _ _ h)
    exact .tuple ho hc hd (by simpa using a.reads I rv)
theorem ShwAll.reads (I : Inv X pins σ H s) : ∀ {xs : List V} {ds : List PyData}, ShwAll H xs ds → ∀ {us : List Value}, Vals xs us → ReadsAll s.heap us ds []
  | _, _, .nil, us, r => by cases r; exact .nil
  | _, _, .cons a b, us, r => by
    cases r with
    | cons r1 r2 => exact ReadsAll.cons (as := []) (bs := []) (a.reads I r1) (b.reads I r2)
end
end
end L2

set_option maxRecDepth 100000
set_option maxHeartbeats 4000000
namespace L2
open PySem PySem.Spec PyProof.Rows
open AutoSeq1 (wpAny_loadPart')
namespace Tix
end Tix
section
variable {X : Cx}
end
end L2

set_option maxRecDepth 100000
set_option maxHeartbeats 4000000
namespace Pn
inductive Pl where
  | nd
  | one (w : Nat) (t : Pl)
  | two (w : Nat) (a b : Pl)
def Pl.dp : Pl → Nat
  | .nd => 0
  | .one _ t => t.dp + 1
  | .two _ a b => max a.dp b.dp + 1
def Pl.wf : Pl → Prop
  | .nd => True
  | .one w t => w < 3 ∧ t.wf
  | .two w a b => w < 3 ∧ a.wf ∧ b.wf
def cP : Nat → Int
  | 0 => 1
  | d + 1 => 1 + 3 * cP d + 3 * cP d * cP d
def num : Nat → Pl → Int
  | _, .nd => 0
  | d, .one w t => 1 + (w : Int) * cP (d - 1) + num (d - 1) t
  | d, .two w a b => 1 + 3 * cP (d - 1) + (((w : Int) * cP (d - 1) + num (d - 1) a) * cP (d - 1) + num (d - 1) b)
def un : Nat → Int → Pl
  | 0, _ => .nd
  | d + 1, n => if n = 0 then .nd else if n - 1 < 3 * cP d then .one ((n - 1) / cP d).toNat (un d ((n - 1) % cP d))
    else .two ((n - 1 - 3 * cP d) / (cP d * cP d)).toNat (un d ((n - 1 - 3 * cP d) / cP d % cP d)) (un d ((n - 1 - 3 * cP d) % cP d))
open PySem L2
def w1 (w : Nat) : Str := if w = 0 then "walk" else if w = 1 then "drop" else "spare"
def w2 (w : Nat) : Str := if w = 0 then "lock" else if w = 1 then "door" else "bar"
def Pl.sz : Pl → Nat
  | .nd => 0
  | .one _ t => t.sz + 1
  | .two _ a b => a.sz + b.sz + 1
def Pl.kids : Pl → List Pl
  | .nd => []
  | .one _ t => [t]
  | .two _ a b => [a, b]
def Pl.word : Pl → Str
  | .nd => "end"
  | .one w _ => w1 w
  | .two w _ _ => w2 w
def Pl.is (H : Hp) : Pl → V → Prop
  | .nd, v => ∃ p, v = .ref p ∧ H p = some (.tup [.str "end"])
  | .one w t, v => ∃ p u, v = .ref p ∧ H p = some (.tup [.str (w1 w), u]) ∧ t.is H u
  | .two w a b, v => ∃ p u1 u2, v = .ref p ∧ H p = some (.tup [.str (w2 w), u1, u2]) ∧ a.is H u1 ∧ b.is H u2
theorem Pl.mono {H H' : Hp} (s : TSame H H') : ∀ {t : Pl} {v : V}, t.is H v → t.is H' v
  | .nd, _, ⟨p, e, h⟩ => ⟨p, e, s _ _ h⟩
  | .one _ _, _, ⟨p, u, e, h, a⟩ => ⟨p, u, e, s _ _ h, Pl.mono s a⟩
  | .two _ _ _, _, ⟨p, u1, u2, e, h, a, b⟩ => ⟨p, u1, u2, e, s _ _ h, Pl.mono s a, Pl.mono s b⟩
theorem Pl.opened {H : Hp} : ∀ {t : Pl} {v : V}, t.is H v → ∃ p us, v = .ref p ∧ H p = some (.tup (.str t.word :: us)) ∧ us.length = t.kids.length ∧ ∀ (i : Nat) (u : V), us[i]? = some u → ∃ k : Pl, t.kids[i]? = some k ∧ k.is H u
  | .nd, _, ⟨p, e, h⟩ => ⟨p, [], e, h, rfl, fun i u z => by simp at z⟩
  | .one _ t, _, ⟨p, u, e, h, a⟩ => ⟨p, [u], e, h, rfl, fun i v z => by
      match i, z with
      | 0, z => cases z; exact ⟨t, rfl, a⟩⟩
  | .two _ x y, _, ⟨p, u1, u2, e, h, a, b⟩ => ⟨p, [u1, u2], e, h, rfl, fun i v z => by
      match i, z with
      | 0, z => cases z; exact ⟨x, rfl, a⟩
      | 1, z => cases z; exact ⟨y, rfl, b⟩⟩
theorem Pl.kid_dp : ∀ {t k : Pl}, k ∈ t.kids → k.dp < t.dp
  | .one _ t, k, h => by obtain rfl := List.mem_singleton.mp h; show k.dp < k.dp + 1; omega
  | .two _ a b, k, h => by
    show k.dp < max a.dp b.dp + 1
    rcases List.mem_cons.mp h with rfl | h
    · omega
    · obtain rfl := List.mem_singleton.mp h; omega
end Pn

set_option maxRecDepth 100000
set_option maxHeartbeats 4000000
namespace Pn
end Pn
namespace L2
open PySem PySem.Spec PyProof.Rows
open Builtin.Int (intBits)
section
variable {X : Cx}
end
theorem bits_in {x : Int} : ∀ l : List Int, x ∈ l → intBits x ≤ PySem.W.WData.weightAll (l.map PySem.W.WData.int)
  | [], h => by cases h
  | y :: l, h => by
    rw [List.map_cons, PySem.W.WData.weightAll]
    rcases List.mem_cons.mp h with rfl | h
    · have : PySem.W.WData.weight (.int x) = intBits x := by rw [PySem.W.WData.weight]; rfl
      omega
    · have := bits_in l h
      omega
theorem bits_of {ns : List Int} (h : PySem.W.WData.layableAll [.list (ns.map .int)] = true) : ∀ x ∈ ns, intBits x ≤ 1048576 := by
  intro x hx
  have h1 : PySem.W.WData.layable (.list (ns.map .int)) = true := by simpa [PySem.W.WData.layableAll] using h
  have h2 := of_decide_eq_true (Bool.and_eq_true_iff.mp h1).2
  have h3 : PySem.W.WData.weight (.list (ns.map .int)) = PySem.W.WData.weightAll (ns.map .int) := by rw [PySem.W.WData.weight]
  have := bits_in ns hx
  omega
open PySem PySem.W PySem.Calls PyProof.Rows Att in
/-- walk_of, where the promise may use that a script's numbers have bounded bits -/
theorem walk_ofB {l : PySem.W.OpenLaw} {n k : Nat} {q : Program} {loose : List Str} {XP : (Str → Option Value) → Heap → Prop} {YP : World → Heap → Prop} {d : DefRec} {K : Params → PySem.W.Frag} {CX : World → CXT} {sp : World → Sp} {x : Str}
    (hn : l.most = some n) (hn2 : n ≤ sizeLine) (hdf : d.params.defaults = []) (hr : Room k callerA)
    (hY : ∀ (w : World) (h : Heap), YP w h → (K w.params).In h)
    (F : ∀ (w : World) (mg : Str → Option Value) (fa : Addr) (h : Heap), (K w.params).In h → h.Ns mainGlobals mg → mg d.name = some (.ref fa) →
      ∃ fd : FuncData, (∀ (s : Shared) (u : Value), BindsTo s fd ⟨[u], []⟩ [(x, u)]) ∧
        ∀ base : Heap, (K w.params).In base → base.Ns mainGlobals mg → FnOk l.prog w (K w.params) mg base (CX w) k fa fd [x] (sp w))
    (hsp : ∀ (w : World) (H : Hp) (a : Addr) (ns : List Int), ns.length ≤ n → (∀ x ∈ ns, Builtin.Int.intBits x ≤ 1048576) → Only H → SqL (K w.params) H a (ns.map V.int) → sp w [.ref a] H (fun v _ => v = .bl true) fun _ _ _ => False)
    (hCX : ∀ (w : World) (H : Hp) (s : Shared) (e : Value) (s' : Shared), CX w [] H s (fun _ _ _ => False) e s' → False) :
    PySem.W.WalkO q loose XP YP l.row.toRowW d [] (fun f vs => PySem.call f vs) := by
  intro w s₀ s₁ mg mb G Y fa o pm cd doc dV kV ho hd hcd hD hmg hg args vals as hpre hlay hrd hwl hlo
  obtain rfl : dV = .none := Dflts.none hD hdf
  obtain rfl : kV = .none := Dflts.noKw hD
  obtain ⟨a, vs, ns, rfl, rfl, hobj, hints, hlen⟩ := script_of hn hpre hwl
  have hbits := bits_of hlay
  have KX := hY w _ Y
  obtain ⟨fd, hb, hF⟩ := F w mg fa _ KX G.T.g hmg
  have call : codeAny (model l.prog w) callerA (.call (.ref fa) ⟨[.ref a], []⟩) (fun r s' => r = .ok (.ret (.bool true)) ∧ OldK s₁.heap s'.heap ∧ s'.os = s₁.os ∧ AllBare s'.gens) s₁ :=
    law_call KX G.T.g G.T.b G.T.builtins G.T.nolimit hg hobj hints (Nat.le_trans hlen hn2) hr hF hb (fun H hO hS => hsp w H a ns hlen hbits hO hS) fun H e s' => hCX w H s₁ e s'
  refine enter_call (codeAny_mono call fun r s' hq => ?_)
  obtain ⟨rfl, h2, h3, h4⟩ := hq
  exact ⟨.inl ⟨.bool true, .bool true, [], rfl, fun _ => rfl, .bool true, post_true l _, fun _ => ⟨List.Pairwise.nil, fun _ hm => (nomatch hm)⟩⟩, h2, h3, h4⟩
end L2

set_option maxRecDepth 100000
set_option maxHeartbeats 4000000
namespace L2
open PySem PySem.Spec PyProof.Rows
section
variable {X : Cx} {e : Expr} {te : TE}
end
end L2

set_option maxRecDepth 100000
set_option maxHeartbeats 4000000
namespace PySem
open Sem (wp)
section
variable {prog : Program} {w : World} {A : Around} {E : Value → Shared → Prop} {s : Shared}

end

section
variable {prog : Program} {w : World} {A : Around} {E : Value → Shared → Prop} {s : Shared}
end
end PySem

namespace L2
open PySem PySem.Spec PyProof.Rows
section
variable {X : Cx} {elts : List Expr} {k : Nat} {tp : Pos}
end
end L2

set_option maxRecDepth 100000
set_option maxHeartbeats 4000000
namespace L2
open PySem PySem.Spec PyProof.Rows
open AutoSeq1
namespace Xtt
theorem meets (l : Addr) (items : Array Value) (n : Nat) (b : Addr) (items2 : Array Value) (n2 : Nat) (dd : Option Addr) (sl : Array (Option Value)) (hs0 : ¬(!items.isEmpty && Builtin.List.listTooLong (items.size + items2.size)) = true) (hs1 : items.size ≤ sizeLine) (hs2 : items.size + items2.size ≤ sizeLine + 1) :
    Meets (Builtin.«list.extend» ⟨[.ref l, .ref b], []⟩) (fun _ R s => s.heap.get? l = some { cls := .type "list", dict := none, data := .seq items n, slots := #[] } ∧ s.heap.get? b = some { cls := .type "tuple", dict := dd, data := .seq items2 n2, slots := sl } ∧ R (.ok (.ret Value.none)) { s with heap := s.heap.update l (Obj.mapSeq fun x => x ++ items2), toks := s.toks }) :=
  .of_wp fun prog w A R s h => by
    obtain ⟨hp, g, d, tk, os⟩ := s; obtain ⟨hl, hb, h⟩ := h; have f1 := idx_int; have f2 := AutoSeq1.sub_tuple_tuple; have f3 := AutoSeq1.sub_list_list; have f4 := AutoSeq1.sub_tuple_list; have f5 := AutoSeq1.sub_list_tuple
    have hz' : (items ++ items2).size ≤ sizeLine + 1 := by rw [Array.size_append]; exact hs2
    wp_walk using (wpAny_updateSeq hl rfl (hz := hs1) (_hz' := hz')), wpAny_loadPart' hl, wpAny_loadPart' hb; exact ⟨_, rfl, h⟩
end Xtt
section
variable {X : Cx}
def rExtT : V → List V → Hp → VK → Prop := fun x vs H Q => ∃ l b xs zs, x = .ref l ∧ vs = [.ref b] ∧ H l = some (.lst xs) ∧ H b = some (.tup zs) ∧ xs.length + zs.length ≤ sizeLine ∧ Q .non (upd H l (.lst (xs ++ zs)))
theorem mt_extT : MtM X "list.extend" rExtT := by
  intro pins s σ H x vs v us Q I rx rv h
  obtain ⟨l, b, xs, zs, rfl, rfl, hH, hB, hz, q⟩ := h
  cases rx
  obtain ⟨u, rfl, ru⟩ := rv.one
  cases ru
  obtain ⟨z, its, n, r, hl, e⟩ := I.lstM hH
  obtain ⟨z2, its2, r2, o, ho, hc, n2, hd⟩ := I.hok b _ hB
  have hl2 := r2.length
  obtain ⟨c0, d0, da, sl⟩ := o
  dsimp only at hc hd
  subst hc hd
  have hsz : its.toArray.size + its2.toArray.size ≤ sizeLine := by rw [List.size_toArray, List.size_toArray]; omega
  have hlong : ¬ (!its.toArray.isEmpty && Builtin.List.listTooLong (its.toArray.size + its2.toArray.size)) = true := by
    rw [notLongL hsz, Bool.and_false]
    exact Bool.false_ne_true
  refine call_meets F.slot_list_extend ⟨_, e, rfl⟩ F.entry_list_extend (F.args_list_extend_2 _ _)
    (Xtt.meets l its.toArray n b its2.toArray n2 d0 sl hlong (by rw [List.size_toArray]; omega) (by omega)) ⟨e, ho, ?_⟩
  refine ⟨.non, _, I.lset (its' := its ++ its2) hH e (by simp) (r.append r2) ?_, rfl, q⟩
  rw [List.length_append]
  omega
theorem countIn_strs (k : Str) : ∀ ys : List Str, countIn (.str k) (ys.map PyData.str) = ((ys.count k : Nat) : Int)
  | [] => rfl
  | y :: ys => by
    rw [List.map_cons, countIn, countIn_strs k ys, List.count_cons]
    simp only [same]
    rcases Bool.eq_false_or_eq_true (y == k) with hb | hb <;> simp only [hb, Bool.false_eq_true, if_true, if_false] <;> push_cast <;> omega
def rCntS (K : PySem.W.Frag) : V → List V → Hp → VK → Prop := fun x vs H Q => ∃ (p : Addr) (zs : List Str) (z : Str), x = .ref p ∧ vs = [.str z] ∧ SqL K H p (zs.map V.str) ∧ Q (.int (zs.count z : Nat)) H
theorem mt_cntS (K : PySem.W.Frag) (hK : X.K = K := by rfl) : MtM X "list.count" (rCntS K) := by
  subst hK
  intro pins s σ H x vs v us Q I rx rv h
  obtain ⟨p, zs, z, rfl, rfl, hq, q⟩ := h
  cases rx
  obtain ⟨u, rfl, ry⟩ := vals1 rv
  obtain ⟨t, rfl⟩ := ry
  obtain ⟨its, r, pl, hz⟩ := I.list hq
  refine count_list_strs pl.isList (strsAre_of r) ⟨.int _, H, I.tok _, ⟨_, rfl⟩, ?_⟩
  rw [countIn_strs]
  exact q
def tNotT (ta : TE) : TE := fun σ H Q => ta σ H fun x H1 => ∃ b, x = .bl b ∧ Q (.bl (!b)) H1
theorem ps_fldaugK {o value : Expr} {ta tv : TE} {f : Str} {pos tpos : Pos} {op : Operator} {rd : V → V → Hp → VK → Prop} (K : PySem.W.Frag) (ha : PE X o ta) (hv : PE X value tv) (hop : InOp X op rd) (hK : X.K = K := by rfl) : PS X (.AugAssign (.Attribute o f tpos) op value pos) (sFldAug K ta tv rd f) := by subst hK; exact ps_fldaug ha hv hop
end
section
variable {σ : St} {H : Hp} {Q : VK} {K : PySem.W.Frag} {ta : TE} {nx bk ct : St → Hp → Prop} {rt : VK}
theorem r_aug {i : Nat} {x : V} {te : TE} {ti : TIp} (hv : σ[i]? = some (some x)) (q : te σ H fun y H1 => ti x y H1 fun z H2 => nx (σ.set i (some z)) H2) : tAug i te ti ⟨nx, rt, bk, ct⟩ σ H := ⟨x, hv, q⟩
theorem r_notT0 (q : ta σ H fun x H1 => ∃ b, x = .bl b ∧ Q (.bl (!b)) H1) : tNotT ta σ H Q := q
theorem r_fldaug {i : Nat} {a C dx : Addr} {fs : List (Str × V)} {x y : Int} {f : Str} (hv : σ[i]? = some (some (.ref a))) (h : H a = some (.ins C dx fs)) (c : Cls K C) (n : NoAttr K C f) (l : fs.lookup f = some (.int x)) (lt : fs.length < 1000) (q : nx σ (upd H a (.ins C dx (putF f (.int (x + y)) fs)))) : sFldAug K (tVar i) (tC (.int y)) rAdd f ⟨nx, rt, bk, ct⟩ σ H :=
  ⟨.ref a, hv, a, C, dx, fs, .int x, rfl, h, c, n, l, ⟨x, y, rfl, rfl, dx, fs, h, lt, q⟩⟩
end
end L2

set_option maxRecDepth 100000
set_option maxHeartbeats 4000000
namespace L2
open PySem PySem.Spec PyProof.Rows
end L2
namespace L2
open PySem PySem.Spec PyProof.Rows
end L2
namespace L2
open PySem PySem.Spec PyProof.Rows
end L2
namespace L2
open PySem PySem.Spec PyProof.Rows
section
variable {X : Cx}

variable {a b : Expr} {ta tb : TE} {pos : Pos}
variable {tA tB' : TT} {rest : List Expr}
end
end L2
namespace L2
open PySem PySem.Spec PyProof.Rows
end L2
namespace L2
open PySem PySem.Spec PyProof.Rows
end L2
namespace L2
open PySem PySem.Spec PyProof.Rows
end L2
namespace L2
open PySem PySem.Spec PyProof.Rows
end L2
namespace L2
open PySem PySem.Spec PyProof.Rows
end L2
namespace L2
open PySem PySem.Spec PyProof.Rows
end L2
namespace L2
open PySem PySem.Spec PyProof.Rows
section
variable {κ : Type} [DecidableEq κ]
def valV (kvs : List (κ × V)) (k : κ) : Option V := (kvs.find? fun kv => decide (kv.1 = k)).map (·.2)
def putK (kvs : List (κ × V)) (k : κ) (v : V) : List (κ × V) :=
  if (kvs.any fun kv => decide (kv.1 = k)) = true then kvs.map (fun kv => if kv.1 = k then (kv.1, v) else kv) else kvs ++ [(k, v)]
theorem valV_pos {p : κ × V} {r : List (κ × V)} {k : κ} (e : p.1 = k) : valV (p :: r) k = some p.2 := by simp [valV, List.find?_cons, e]
theorem valV_neg {p : κ × V} {r : List (κ × V)} {k : κ} (e : ¬ p.1 = k) : valV (p :: r) k = valV r k := by simp [valV, List.find?_cons, e]
theorem valV_any (k : κ) : ∀ kvs : List (κ × V), (kvs.any fun kv => decide (kv.1 = k)) = (valV kvs k).isSome
  | [] => rfl
  | p :: r => by
    rw [List.any_cons]
    by_cases e : p.1 = k
    · simp only [valV_pos e, decide_eq_true e, Bool.true_or, Option.isSome_some]
    · rw [valV_neg e, decide_eq_false e, Bool.false_or]; exact valV_any k r
theorem length_putK (kvs : List (κ × V)) (k : κ) (v : V) : (putK kvs k v).length ≤ kvs.length + 1 := by
  unfold putK
  split
  · rw [List.length_map]; omega
  · rw [List.length_append, List.length_cons, List.length_nil]; omega
theorem RelO.isSome_eq {o : Option V} {u : Option Value} (r : RelO o u) : o.isSome = u.isSome := by
  cases o with
  | none => cases u with
    | none => rfl
    | some _ => exact (show False from r).elim
  | some _ => cases u with
    | none => exact (show False from r).elim
    | some _ => rfl
theorem KV.val {kvs : List (κ × V)} {vs : List (κ × Value)} (r : KV kvs vs) (k : κ) : RelO (valV kvs k) (valueAt vs k) := by
  unfold KV at r
  induction r with
  | nil => exact True.intro
  | @cons p q ps qs h t ih =>
    obtain ⟨h1, h2⟩ := h
    by_cases e : p.1 = k
    · have e' : q.1 = k := h1.symm.trans e
      have b : valueAt (q :: qs) k = some q.2 := by simp [valueAt, List.find?_cons, e']
      rw [valV_pos e, b]; exact h2
    · have e' : ¬ q.1 = k := fun z => e (h1.trans z)
      have b : valueAt (q :: qs) k = valueAt qs k := by simp [valueAt, List.find?_cons, e']
      rw [valV_neg e, b]; exact ih
theorem KV.any {kvs : List (κ × V)} {vs : List (κ × Value)} (r : KV kvs vs) (k : κ) : (kvs.any fun kv => decide (kv.1 = k)) = vs.any fun kv => decide (kv.1 = k) := by
  unfold KV at r
  induction r with
  | nil => rfl
  | cons h t ih => rw [List.any_cons, List.any_cons, ih, h.1]
theorem KV.repl {kvs : List (κ × V)} {vs : List (κ × Value)} (r : KV kvs vs) (k : κ) {y : V} {u : Value} (ry : RelV y u) :
    KV (kvs.map fun kv => if kv.1 = k then (kv.1, y) else kv) (vs.map fun kv => if kv.1 = k then (kv.1, u) else kv) := by
  unfold KV at r ⊢
  induction r with
  | nil => exact .nil
  | @cons p q ps qs h t ih =>
    rw [List.map_cons, List.map_cons]
    refine .cons ?_ ih
    obtain ⟨h1, h2⟩ := h
    by_cases e : p.1 = k
    · rw [if_pos e, if_pos (h1.symm.trans e)]; exact ⟨h1, ry⟩
    · rw [if_neg e, if_neg (fun z => e (h1.trans z))]; exact ⟨h1, h2⟩
theorem KV.put {kvs : List (κ × V)} {vs : List (κ × Value)} (r : KV kvs vs) (k : κ) {y : V} {u : Value} (ry : RelV y u) : KV (putK kvs k y) (stored vs k u) := by
  unfold putK stored
  rw [r.any k]
  by_cases e : (vs.any fun kv => decide (kv.1 = k)) = true
  · rw [if_pos e, if_pos e]; exact r.repl k ry
  · rw [if_neg e, if_neg e]; exact Paired.snoc r ⟨rfl, ry⟩
theorem KV.keys {kvs : List (κ × V)} {vs : List (κ × Value)} (r : KV kvs vs) : kvs.map (·.1) = vs.map (·.1) := by
  unfold KV at r
  induction r with
  | nil => rfl
  | cons h t ih => rw [List.map_cons, List.map_cons, ih, h.1]
theorem KV.length {kvs : List (κ × V)} {vs : List (κ × Value)} (r : KV kvs vs) : kvs.length = vs.length := Paired.length r
end
theorem kV_is {P : Program} {w : World} {k : Key} {u : Value} (r : RelV (kV k) u) : (mixKind P w).is k u = true := by
  cases k with
  | inl i => obtain ⟨t, e⟩ := (show ∃ t, u = Value.int i t from r); subst e; exact mixKind_int P w i t
  | inr x => obtain ⟨t, e⟩ := (show ∃ t, u = Value.str x t from r); subst e; exact mixKind_str P w x t
theorem items_are {P : Program} {w : World} : ∀ {ks : List Key} {us : List Value}, Vals (ks.map kV) us → ItemsAre (mixKind P w) ks us
  | [], _, r => by rw [List.map_nil] at r; cases r; exact .nil
  | k :: ks, _, r => by
    rw [List.map_cons] at r
    cases r with
    | cons h t => exact .cons (kV_is h) (items_are t)

abbrev KT (H : Hp) : List (List Key × V) → List (List Key × Addr × Value) → Prop := Paired fun p q => p.1 = q.1 ∧ H q.2.1 = some (.tup (p.1.map kV)) ∧ RelV p.2 q.2.2
theorem KT.val {H : Hp} {kvs : List (List Key × V)} {xs : List (List Key × Addr × Value)} (r : KT H kvs xs) (k : List Key) : RelO (valV kvs k) ((atKey xs k).map (·.2)) := by
  induction r with
  | nil => exact True.intro
  | @cons p q ps qs h t ih =>
    obtain ⟨h1, _, h2⟩ := h
    by_cases e : p.1 = k
    · have e' : q.1 = k := h1.symm.trans e
      have b : atKey (q :: qs) k = some q.2 := by simp [atKey, List.find?_cons, e']
      rw [valV_pos e, b]; exact h2
    · have e' : ¬ q.1 = k := fun z => e (h1.trans z)
      have b : atKey (q :: qs) k = atKey qs k := by simp [atKey, List.find?_cons, e']
      rw [valV_neg e, b]; exact ih
theorem KT.repl {H : Hp} {kvs : List (List Key × V)} {xs : List (List Key × Addr × Value)} (r : KT H kvs xs) (k : List Key) {y : V} {u : Value} (ry : RelV y u) :
    KT H (kvs.map fun kv => if kv.1 = k then (kv.1, y) else kv) (xs.map (putAt k u)) := by
  induction r with
  | nil => exact .nil
  | @cons p q ps qs h t ih =>
    rw [List.map_cons, List.map_cons]
    refine .cons ?_ ih
    obtain ⟨h1, h2, h3⟩ := h
    unfold putAt
    by_cases e : p.1 = k
    · rw [if_pos e, if_pos (h1.symm.trans e)]; exact ⟨h1, h2, ry⟩
    · rw [if_neg e, if_neg (fun z => e (h1.trans z))]; exact ⟨h1, h2, h3⟩
theorem KT.put {H : Hp} {kvs : List (List Key × V)} {xs : List (List Key × Addr × Value)} (r : KT H kvs xs) (k : List Key) {b : Addr} {y : V} {u : Value} (hb : H b = some (.tup (k.map kV))) (ry : RelV y u) :
    KT H (putK kvs k y) (storedH xs k b u) := by
  have e : (kvs.any fun kv => decide (kv.1 = k)) = (atKey xs k).isSome := by
    rw [valV_any, (r.val k).isSome_eq, Option.isSome_map]
  unfold putK storedH
  rw [e]
  by_cases q : (atKey xs k).isSome = true
  · rw [if_pos q, if_pos q]; exact r.repl k ry
  · rw [if_neg q, if_neg q]; exact Paired.snoc r ⟨rfl, hb, ry⟩
theorem KT.keeps {H H' : Hp} {kvs : List (List Key × V)} {xs : List (List Key × Addr × Value)} (r : KT H kvs xs) (ht : ∀ b ys, H b = some (.tup ys) → H' b = some (.tup ys)) : KT H' kvs xs :=
  Paired.mapP r fun _ _ z => ⟨z.1, ht _ _ z.2.1, z.2.2⟩

section
variable {P : Program} {w : World} {H : Hp} {h : Heap} {a : Addr}
theorem rd_of {u : HO} (ok : HOk P w H h) (e : Rd H a u) : ObjOk P w H h a u := e.ok ok
theorem dk_rd {kvs : List (Key × V)} (ok : HOk P w H h) (e : Rd H a (.dK kvs)) : kvs.length ≤ sizeLine ∧ (a == sysModules) = false ∧ ∃ vs, KV kvs vs ∧ h.DictOf (mixKind P w) a vs :=
  show ObjOk P w H h a (.dK kvs) from rd_of ok e
theorem dk_of {kvs : List (Key × V)} (ok : HOk P w H h) (e : H a = some (.dK kvs)) : kvs.length ≤ sizeLine ∧ (a == sysModules) = false ∧ ∃ vs, KV kvs vs ∧ h.DictOf (mixKind P w) a vs := dk_rd ok (.inl e)
theorem key_of {ks : List Key} (ok : HOk P w H h) (e : H a = some (.tup (ks.map kV))) : (tupleKind (mixKind P w)).is h ks a := by
  obtain ⟨_, its, r, o, h1, h2, n, h3⟩ := (show ObjOk P w H h a (.tup (ks.map kV)) from ok a _ e)
  exact ⟨o, its.toArray, n, h1, h2, h3, by simpa using items_are r⟩
theorem dt_rd {kvs : List (List Key × V)} (ok : HOk P w H h) (e : Rd H a (.dT kvs)) : kvs.length ≤ sizeLine ∧ (a == sysModules) = false ∧
    ∃ xs, KT H kvs xs ∧ h.DictOfH (tupleKind (mixKind P w)) a xs := by
  obtain ⟨z, y, xs, r, o, es, ep, h1, h2, h3, h4, h5⟩ := (show ObjOk P w H h a (.dT kvs) from rd_of ok e)
  refine ⟨z, y, xs, r, o, es, ep, h1, h2, h3, h4, fun x hx => ?_, h5⟩
  have all : ∀ {l : List (List Key × V)} {m : List (List Key × Addr × Value)}, KT H l m → ∀ x ∈ m, (tupleKind (mixKind P w)).is h x.1 x.2.1 := by
    intro l m q
    induction q with
    | nil => intro x hx; exact nomatch hx
    | @cons p q ps qs hq t ih =>
      intro x hx
      rcases List.mem_cons.mp hx with e | hx
      · subst e
        exact key_of ok (by rw [← hq.1]; exact hq.2.1)
      · exact ih x hx
  exact all r x hx
end
def DGet (H : Hp) (a : Addr) (y : V) (r : Option V) : Prop :=
  (∃ kvs k, Rd H a (.dK kvs) ∧ y = kV k ∧ r = valV kvs k) ∨ ∃ kvs k b, Rd H a (.dT kvs) ∧ y = .ref b ∧ H b = some (.tup (k.map kV)) ∧ r = valV kvs k
def DPut (H : Hp) (a : Addr) (y v : V) (H' : Hp) : Prop :=
  (∃ kvs k, H a = some (.dK kvs) ∧ y = kV k ∧ kvs.length < sizeLine ∧ H' = upd H a (.dK (putK kvs k v))) ∨
  ∃ kvs k b, H a = some (.dT kvs) ∧ y = .ref b ∧ H b = some (.tup (k.map kV)) ∧ kvs.length < sizeLine ∧ H' = upd H a (.dT (putK kvs k v))
theorem DGet.k {H : Hp} {a : Addr} {kvs : List (Key × V)} {k : Key} (e : H a = some (.dK kvs)) : DGet H a (kV k) (valV kvs k) := .inl ⟨kvs, k, .inl e, rfl, rfl⟩
theorem DGet.t {H : Hp} {a b : Addr} {kvs : List (List Key × V)} {k : List Key} (e : H a = some (.dT kvs)) (eb : H b = some (.tup (k.map kV))) : DGet H a (.ref b) (valV kvs k) := .inr ⟨kvs, k, b, .inl e, rfl, eb, rfl⟩
theorem DPut.k {H : Hp} {a : Addr} {kvs : List (Key × V)} {k : Key} {v : V} (e : H a = some (.dK kvs)) (hl : kvs.length < sizeLine) : DPut H a (kV k) v (upd H a (.dK (putK kvs k v))) := .inl ⟨kvs, k, e, rfl, hl, rfl⟩
theorem DPut.t {H : Hp} {a b : Addr} {kvs : List (List Key × V)} {k : List Key} {v : V} (e : H a = some (.dT kvs)) (eb : H b = some (.tup (k.map kV))) (hl : kvs.length < sizeLine) :
    DPut H a (.ref b) v (upd H a (.dT (putK kvs k v))) := .inr ⟨kvs, k, b, e, rfl, eb, hl, rfl⟩


section
variable {X : Cx} {pins : List (Addr × Obj)} {σ : St} {H : Hp} {s : Shared} {a : Addr} {y v : V} {u r : Value} {o : Option V} {A : Around} {E : Value → Shared → Prop}

theorem Inv.big (I : Inv X pins σ H s) : sysModules < s.heap.objs.size := by
  have h : mainGlobals < s.heap.objs.size := (I.mod.glob.keeps I.bk).lt
  exact Nat.lt_trans (by decide) h

theorem d_getItem {Q : Value → Shared → Prop} (hu : A.units + 1 < cLine) (I : Inv X pins σ H s) (g : DGet H a y (some v)) (ry : RelV y u) (h : ∀ w' s', Inv X pins σ H s' → RelV v w' → Q w' s') :
    wpAny (model X.prog X.w) A (getItem (.ref a) u) Q E s := by
  rcases g with ⟨kvs, k, e, ey, l⟩ | ⟨kvs, k, b, e, ey, eb, l⟩
  · subst ey
    obtain ⟨z, hd, vs, rel, dd⟩ := dk_rd I.hok e
    obtain ⟨w', hw, rw'⟩ := RelO.some_of (v := v) (o := valueAt vs k) (by rw [l]; exact rel.val k)
    exact wpAny_getItem_of (kV_is ry) dd.mapOf hw (h w' _ (I.tok _) rw')
  · subst ey
    cases (show u = Value.ref b from ry)
    obtain ⟨z, hd, xs, rel, dd⟩ := dt_rd I.hok e
    obtain ⟨w', hw, rw'⟩ := RelO.some_of (v := v) (o := (atKey xs k).map (·.2)) (by rw [l]; exact rel.val k)
    obtain ⟨p, hp, hp2⟩ := Option.map_eq_some_iff.mp hw
    refine wpAny_getItem_heap (tupleKind_room_in1 hu) (key_of I.hok eb) dd hp ?_
    rw [hp2]
    exact h w' _ (I.tok _) rw'
theorem d_write {h' : Heap} {t' : Nat} {ob : HO} (I : Inv X pins σ H s) (mu : Mut (H a)) (hs : Heap.SameBut a s.heap h') (he : ∃ q, h'.get? a = some q) (new : ObjOk X.prog X.w (upd H a ob) h' a ob) :
    Inv X pins σ (upd H a ob) { s with heap := h', toks := t' } :=
  I.write (x := a) (e := a) mu (.inl rfl) (fun b q hb z => (hs.2 b hb).trans z) he new
theorem dk_new {P : Program} {w : World} {H' : Hp} {h' : Heap} {kvs : List (Key × V)} {vs : List (Key × Value)} (z : kvs.length ≤ sizeLine) (hd : (a == sysModules) = false) (rel : KV kvs vs) (dd : h'.DictOf (mixKind P w) a vs) :
    ObjOk P w H' h' a (.dK kvs) := ⟨z, hd, vs, rel, dd⟩
end
def NoSl (i : Expr) : Prop := ∀ ov iv, subscripted i false ov iv = operate [ov, iv] (getItem ov iv)
theorem subD_of {prog : Program} {w : World} {A : Around} {E : Value → Shared → Prop} {s : Shared} {env : Env} {value slice : Expr} {pos : Pos} {T id : String} {Q : Value → Shared → Prop}
    (hl : typeLookup (.type T) "__getitem__" = pure (some (.builtin id))) (hs : NoSl slice)
    (h : wpAny (model prog w) A (eval value env) (fun o s₁ => wpAny (model prog w) A (eval slice env) (fun i s₂ => s₂.TypeIs o T ∧ wpAny (model prog w) A (getItem o i) Q E s₂) E s₁) E s) :
    wpAny (model prog w) A (eval (.Subscript value slice pos) env) Q E s := by
  refine Subscript_ (wpAny_mono h (fun o s₁ h₁ => wpAny_mono h₁ (fun i s₂ h₂ => ?_) fun _ _ x => x) fun _ _ x => x)
  obtain ⟨hT, h₂⟩ := h₂
  unfold subscriptTail
  refine wpAny_bind ?_
  rw [getitemInPython_of_ne hT.not_modules]
  refine wpAny_bind (wpAny_specialOf hT hl ?_)
  have fin : wpAny (model prog w) A (subscripted slice false o i) (fun r s₃ => wpAny (model prog w) A (letTemporaryGo value o r >>= fun _ => pure r) Q E s₃) E s₂ := by
    rw [hs o i]
    exact wpAny_operating (wpAny_mono h₂ (fun r s₃ h₃ => wpAny_bind (wpAny_letTemporaryGo (wpAny_pure h₃))) fun _ _ x => x)
  first
    | exact wpAny_pure (wpAny_bind fin)
    | exact wpAny_bind (wpAny_pure (wpAny_bind fin))
    | exact wpAny_bind fin

theorem dict_typeIs {X : Cx} {pins : List (Addr × Obj)} {σ : St} {H : Hp} {s : Shared} {a : Addr} {y : V} {o : Option V} (I : Inv X pins σ H s) (g : DGet H a y o) : s.TypeIs (.ref a) "dict" := by
  rcases g with ⟨kvs, k, e, _, _⟩ | ⟨kvs, k, b, e, _, _, _⟩
  · obtain ⟨_, _, vs, _, dd⟩ := dk_rd I.hok e
    exact dd.typeIs
  · obtain ⟨_, _, xs, _, dd⟩ := dt_rd I.hok e
    exact dd.typeIs
def tDGet (td ty : TE) : TE := fun σ H Q => td σ H fun x H1 => ty σ H1 fun y H2 => ∃ a v, x = .ref a ∧ DGet H2 a y (some v) ∧ Q v H2
section
variable {X : Cx} {o i e value : Expr} {pos pos' tpos : Pos} {td ty tv : TE}
theorem pe_dget (hu : X.A.units + 1 < cLine) (ho : PE X o td) (hi : PE X i ty) (hs : NoSl i) : PE X (.Subscript o i pos) (tDGet td ty) := by
  intro pins s σ H Q I h
  refine subD_of PySem.F.slot_dict_getitem.lookup hs (thn (ho pins s σ H _ I h) fun u s1 ⟨x, H1, I1, rx, q1⟩ => thn (hi pins s1 σ H1 _ I1 q1) fun iv s2 ⟨y, H2, I2, ry, a, v, ex, g, q2⟩ => ?_)
  subst ex
  obtain rfl : u = Value.ref a := rx
  exact ⟨dict_typeIs I2 g, d_getItem hu I2 g ry fun w' s3 I3 rw' => ⟨v, H2, I3, rw', q2⟩⟩
end
theorem dk_empty {P : Program} {w : World} {H : Hp} (h : Heap) (hb : sysModules < h.objs.size) : ObjOk P w H (h.push { cls := .type "dict", data := .dict #[] }) h.objs.size (.dK []) :=
  ⟨Nat.zero_le _, beq_eq_false_iff_ne.mpr (Ne.symm (Nat.ne_of_lt hb)), [], .nil, Heap.DictOf.new h⟩
def tPairs : List (TE × TE) → St → Hp → (List (V × V) → Hp → Prop) → Prop
  | [], _, H, Q => Q [] H
  | (tk, tv) :: r, σ, H, Q => tk σ H fun x H1 => tv σ H1 fun y H2 => tPairs r σ H2 fun ps H3 => Q ((x, y) :: ps) H3
abbrev VV : List (V × V) → List (Value × Value) → Prop := Paired fun p q => RelV p.1 q.1 ∧ RelV p.2 q.2
def PPs (X : Cx) (pos : Pos) (keys : List (Option Expr)) (values : List Expr) (trs : List (TE × TE)) : Prop :=
  ∀ (pins : List (Addr × Obj)) (s : Shared) (σ : St) (H : Hp) (Q : List (V × V) → Hp → Prop), Inv X pins σ H s → tPairs trs σ H Q →
    wpAny (model X.prog X.w) X.A (evalPairs (pairTrees keys values X.env pos)) (fun vs s' => ∃ ps H', Inv X pins σ H' s' ∧ VV ps vs ∧ Q ps H') X.xe s
theorem pps_nil {X : Cx} {pos : Pos} : PPs X pos [] [] [] := fun pins s σ H Q I h => pairTrees_nil_walk ⟨[], H, I, .nil, h⟩
theorem pps_cons {X : Cx} {pos : Pos} {k v : Expr} {ks : List (Option Expr)} {vs : List Expr} {tk tv : TE} {trs : List (TE × TE)} (hk : PE X k tk) (hv : PE X v tv) (hr : PPs X pos ks vs trs) :
    PPs X pos (some k :: ks) (v :: vs) ((tk, tv) :: trs) := fun pins s σ H Q I h =>
  pairTrees_cons_walk (thn (hk pins s σ H _ I h) fun u s1 ⟨x, H1, I1, rx, q1⟩ => thn (hv pins s1 σ H1 _ I1 q1) fun w2 s2 ⟨y, H2, I2, ry, q2⟩ =>
    thn (hr pins s2 σ H2 _ I2 q2) fun ws s3 ⟨ps, H3, I3, rel, q3⟩ => ⟨(x, y) :: ps, H3, I3, .cons ⟨rx, ry⟩ rel, q3⟩)

def mergeK (kvs more : List (Key × V)) : List (Key × V) := more.foldl (fun acc kv => putK acc kv.1 kv.2) kvs
theorem KV.merge : ∀ {more : List (Key × V)} {rs : List (Key × Value)} {kvs : List (Key × V)} {vs : List (Key × Value)}, KV more rs → KV kvs vs → KV (mergeK kvs more) (merged vs rs) := by
  intro more rs kvs vs r
  unfold KV at r
  induction r generalizing kvs vs with
  | nil => intro q; exact q
  | @cons p q ps qs h t ih =>
    intro r0
    have e : KV (putK kvs p.1 p.2) (stored vs q.1 q.2) := by
      have := r0.put p.1 h.2
      rw [← h.1]; exact this
    exact ih e
theorem length_mergeK : ∀ (more kvs : List (Key × V)), (mergeK kvs more).length ≤ kvs.length + more.length
  | [], kvs => by show kvs.length ≤ kvs.length + 0; omega
  | p :: r, kvs => by
    have h1 := length_mergeK r (putK kvs p.1 p.2)
    have h2 := length_putK kvs p.1 p.2
    show (mergeK (putK kvs p.1 p.2) r).length ≤ _
    rw [List.length_cons]; omega
theorem carries_of {P : Program} {w : World} : ∀ {kvs : List (Key × V)} {ws : List (Value × Value)}, VV (kvs.map fun kv => (kV kv.1, kv.2)) ws → ∃ rs, Carries (mixKind P w) ws rs ∧ KV kvs rs
  | [], _, r => by rw [List.map_nil] at r; cases r; exact ⟨[], True.intro, .nil⟩
  | p :: kvs, _, r => by
    rw [List.map_cons] at r
    cases r with
    | @cons a b as bs h t =>
      obtain ⟨rs, c, q⟩ := carries_of (P := P) (w := w) t
      obtain ⟨b1, b2⟩ := b
      exact ⟨(p.1, b2) :: rs, ⟨kV_is h.1, rfl, c⟩, .cons ⟨rfl, h.2⟩ q⟩
def tDisp (trs : List (TE × TE)) : TE := fun σ H Q => ∀ p, H p = none → tPairs trs σ (upd H p (.dK [])) fun ps H2 => H2 p = some (.dK []) ∧ ∃ kvs : List (Key × V), ps = kvs.map (fun kv => (kV kv.1, kv.2)) ∧ kvs.length ≤ 15 ∧ Q (.ref p) (upd H2 p (.dK (mergeK [] kvs)))
theorem pe_disp {X : Cx} {pos : Pos} {keys : List (Option Expr)} {values : List Expr} {trs : List (TE × TE)} (h : PPs X pos keys values trs) (hall : keys.all (·.isSome) = true) (hl : keys.length = values.length) (h0 : keys ≠ [])
    (h15 : keys.length ≤ 15) : PE X (.Dict keys values pos) (tDisp trs) := by
  intro pins s σ H Q I q
  have hn := I.hok.fresh (Nat.le_refl s.heap.objs.size)
  have I1 := I.laid (a := s.heap.objs.size) (o := .dK []) (h' := s.heap.push { cls := .type "dict", data := .dict #[] }) (t' := s.toks) (fun _ _ q => Heap.get?_push_of_some _ q) (Nat.le_refl _) (dk_empty s.heap I.big)
  refine wpAny_Dict_walk (knd := mixKind X.prog X.w) hall hl h0 h15 (thn (h pins _ σ _ _ I1 (q _ hn)) fun ws s2 ⟨ps, H2, I2, rel, e, kvs, ep, lk, q2⟩ => ?_)
  subst ep
  obtain ⟨rs, c, rk⟩ := carries_of (P := X.prog) (w := X.w) rel
  obtain ⟨z, hd, vs0, r0, dd⟩ := dk_of I2.hok e
  cases r0
  refine ⟨rs, c, dd, fun h' dd' hs => ⟨.ref s.heap.objs.size, _, ?_, rfl, q2⟩⟩
  have hz : (mergeK [] kvs).length ≤ sizeLine := by
    have h1 := length_mergeK kvs []
    rw [List.length_nil] at h1
    rw [sizeLine_eq]; omega
  have he : ∃ q, h'.get? s.heap.objs.size = some q := let ⟨q, _, _, hq, _⟩ := dd'; ⟨q, hq⟩
  exact d_write I2 (by rw [e]; exact True.intro) hs he (dk_new hz hd (rk.merge .nil) dd')


end L2
namespace Att
open PySem PySem.W PySem.Calls PyProof.Rows
end Att
namespace L2
open PySem PySem.Spec PyProof.Rows
end L2
namespace L2
open PySem PySem.Spec PyProof.Rows
end L2
namespace L2
open PySem PySem.Spec PyProof.Rows
end L2

set_option maxRecDepth 100000
set_option maxHeartbeats 4000000
namespace L2
open PySem PySem.Spec PyProof.Rows
def hOne (K : PySem.W.Frag) (C : Addr) (t : TS) : TH := fun cls D σ H => PySem.W.exmOne K cls (.ref C) = some true ∧ t D σ H
theorem ph_one {X : Cx} {x : Str} {C : Addr} {b0 : Stmt} {suite : List Stmt} {np pos : Pos} {rest : List ExceptHandler} {t : TS} (K : PySem.W.Frag) (hx : X.ex = []) (hg : Gl X x) (hm : X.mg x = some (.ref C))
    (hs : ∀ v, PSs (X.marked v) (b0 :: suite) t) (hd : (x == ("__debug__" : Str)) = false := by decide) (hK : X.K = K := by rfl) :
    PH X (.ExceptHandler (some (.Name x np)) none (b0 :: suite) pos :: rest) (hOne K C t) := by
  subst hK
  intro pins s σ H D a cls c ⟨h1, h2⟩
  refine wpAny_handleBy_cons (codeAny_handlers_test (ld_glob (X := X.marked (.ref a)) (c.inv.marked _) hg hm ?_ hd)) (by intro y; cases y)
  refine (PySem.W.exm_one c.inv.kIn c.type h1).here ?_
  refine codeAny_handlers_suite ?_
  obtain ⟨base, a0, fly, back⟩ := c.opened hx
  refine lands_againW fly fun h6 fly6 up6 => ?_
  have c6 := back h6 fly6 up6
  exact wpAny_mono (hs (.ref a) pins _ σ H D (c6.inv.marked _) h2) (fun f s7 y => y.unmarked c.inv.ok) fun _ _ y => False.elim y
def d3 (a1 b1 a2 b2 a3 b3 : Str) : List (Key × V) := mergeK [] [(.inr a1, .str b1), (.inr a2, .str b2), (.inr a3, .str b3)]
theorem r_d3 {σ : St} {H : Hp} {Q : VK} {ty : TE} {a1 b1 a2 b2 a3 b3 w z : Str} (hy : ∀ (H' : Hp) (R : VK), R (.str w) H' → ty σ H' R) (hv : valV (d3 a1 b1 a2 b2 a3 b3) (.inr w) = some (.str z)) (q : ∀ p H', H p = none → Same H H' → Q (.str z) H') :
    tDGet (tDisp [(tC (.str a1), tC (.str b1)), (tC (.str a2), tC (.str b2)), (tC (.str a3), tC (.str b3))]) ty σ H Q := by
  unfold tDGet tDisp
  intro p hp
  refine ⟨upd_same, [(.inr a1, .str b1), (.inr a2, .str b2), (.inr a3, .str b3)], rfl, by show 3 ≤ 15; omega, ?_⟩
  exact hy _ _ ⟨p, .str z, rfl, .inl ⟨_, .inr w, .inl upd_same, rfl, hv.symm⟩, q p _ hp (((Same.refl H).put hp).put hp)⟩
end L2

set_option maxRecDepth 100000
set_option maxHeartbeats 4000000
namespace Pn
open Ce PySem
def Pl.ends : Pl → Bool
  | .nd => true
  | .one w t => decide (w = 2) && t.ends
  | .two _ _ _ => false
def Pl.rm : Pl → Nat
  | .nd => 0
  | .one w t => (if w = 2 then 0 else 1) + t.rm
  | .two _ a b => a.rm + b.rm + 1
def Pl.wy : Pl → Nat
  | .nd => 0
  | .one w t => (if w = 2 then 0 else 1) + t.wy
  | .two _ a b => a.wy + b.wy + 1 + (if a.ends = true then 0 else 1)
def Pl.th : Pl → Nat
  | .nd => 0
  | .one w t => (if w = 2 then 1 else 0) + t.th
  | .two w a b => a.th + b.th + (if w = 2 then 0 else 1)
def Pl.lv : Pl → Nat
  | .nd => 0
  | .one _ t => t.lv
  | .two w a b => a.lv + b.lv + (if w = 2 then 1 else 0)
def Pl.tot (f : Pl → Nat) : Pl → Nat
  | .nd => f .nd
  | .one w t => f (.one w t) + t.tot f
  | .two w a b => f (.two w a b) + (a.tot f + b.tot f)
theorem Pl.tot_kids (f : Pl → Nat) : ∀ t : Pl, t.tot f = f t + (t.kids.map (Pl.tot f)).sum
  | .nd => rfl
  | .one w t => by simp [Pl.tot, Pl.kids]
  | .two w a b => by simp [Pl.tot, Pl.kids]
def Pl.nc (t : Pl) : Nat := t.tot fun _ => 1
theorem Pl.nc_sz : ∀ t : Pl, t.nc ≤ 2 * t.sz + 1
  | .nd => by decide
  | .one w t => by
    have := t.nc_sz
    show 1 + t.nc ≤ 2 * (t.sz + 1) + 1
    omega
  | .two w a b => by
    have := a.nc_sz
    have := b.nc_sz
    show 1 + (a.nc + b.nc) ≤ 2 * (a.sz + b.sz + 1) + 1
    omega
theorem Pl.nc_pos (t : Pl) : 1 ≤ t.nc := by
  unfold Pl.nc
  rw [Pl.tot_kids]
  omega
def isw (z : Str) (t : Pl) : Nat := if t.word = z then 1 else 0
def is2 : Pl → Nat
  | .two _ _ _ => 1
  | _ => 0
def isb : Pl → Nat
  | .two _ a _ => if a.ends = true then 0 else 1
  | _ => 0
theorem isw_eq {z : Str} {t : Pl} (h : t.word = z) : isw z t = 1 := if_pos h
theorem isw_ne {z : Str} {t : Pl} (h : ¬ t.word = z) : isw z t = 0 := if_neg h
theorem s_wd : ¬ ("walk" : Str) = "drop" := by decide +kernel
theorem s_ws : ¬ ("walk" : Str) = "spare" := by decide +kernel
theorem s_wl : ¬ ("walk" : Str) = "lock" := by decide +kernel
theorem s_wo : ¬ ("walk" : Str) = "door" := by decide +kernel
theorem s_wb : ¬ ("walk" : Str) = "bar" := by decide +kernel
theorem s_we : ¬ ("end" : Str) = "walk" := by decide +kernel
theorem s_ds : ¬ ("drop" : Str) = "spare" := by decide +kernel
theorem s_dl : ¬ ("drop" : Str) = "lock" := by decide +kernel
theorem s_do : ¬ ("drop" : Str) = "door" := by decide +kernel
theorem s_db : ¬ ("drop" : Str) = "bar" := by decide +kernel
theorem s_de : ¬ ("end" : Str) = "drop" := by decide +kernel
theorem s_sl : ¬ ("spare" : Str) = "lock" := by decide +kernel
theorem s_so : ¬ ("spare" : Str) = "door" := by decide +kernel
theorem s_sb : ¬ ("spare" : Str) = "bar" := by decide +kernel
theorem s_se : ¬ ("end" : Str) = "spare" := by decide +kernel
theorem s_lo : ¬ ("lock" : Str) = "door" := by decide +kernel
theorem s_lb : ¬ ("lock" : Str) = "bar" := by decide +kernel
theorem s_le : ¬ ("end" : Str) = "lock" := by decide +kernel
theorem s_ob : ¬ ("door" : Str) = "bar" := by decide +kernel
theorem s_oe : ¬ ("end" : Str) = "door" := by decide +kernel
theorem s_be : ¬ ("end" : Str) = "bar" := by decide +kernel
theorem sy {a b : Str} (h : ¬ a = b) : ¬ b = a := fun e => h e.symm
structure Wds (t : Pl) (wk dr sp lk dn br : Nat) : Prop where
  wk : isw "walk" t = wk
  dr : isw "drop" t = dr
  sp : isw "spare" t = sp
  lk : isw "lock" t = lk
  dn : isw "door" t = dn
  br : isw "bar" t = br
theorem wds_nd : Wds .nd 0 0 0 0 0 0 := ⟨isw_ne s_we, isw_ne s_de, isw_ne s_se, isw_ne s_le, isw_ne s_oe, isw_ne s_be⟩
theorem wds_0 (t : Pl) : Wds (.one 0 t) 1 0 0 0 0 0 := ⟨isw_eq rfl, isw_ne s_wd, isw_ne s_ws, isw_ne s_wl, isw_ne s_wo, isw_ne s_wb⟩
theorem wds_1 (t : Pl) : Wds (.one 1 t) 0 1 0 0 0 0 := ⟨isw_ne (sy s_wd), isw_eq rfl, isw_ne s_ds, isw_ne s_dl, isw_ne s_do, isw_ne s_db⟩
theorem wds_2 (t : Pl) : Wds (.one 2 t) 0 0 1 0 0 0 := ⟨isw_ne (sy s_ws), isw_ne (sy s_ds), isw_eq rfl, isw_ne s_sl, isw_ne s_so, isw_ne s_sb⟩
theorem wds_3 (a b : Pl) : Wds (.two 0 a b) 0 0 0 1 0 0 := ⟨isw_ne (sy s_wl), isw_ne (sy s_dl), isw_ne (sy s_sl), isw_eq rfl, isw_ne s_lo, isw_ne s_lb⟩
theorem wds_4 (a b : Pl) : Wds (.two 1 a b) 0 0 0 0 1 0 := ⟨isw_ne (sy s_wo), isw_ne (sy s_do), isw_ne (sy s_so), isw_ne (sy s_lo), isw_eq rfl, isw_ne s_ob⟩
theorem wds_5 (a b : Pl) : Wds (.two 2 a b) 0 0 0 0 0 1 := ⟨isw_ne (sy s_wb), isw_ne (sy s_db), isw_ne (sy s_sb), isw_ne (sy s_lb), isw_ne (sy s_ob), isw_eq rfl⟩
structure Cts (t : Pl) : Prop where
  rm : t.rm = t.tot (isw "walk") + t.tot (isw "drop") + t.tot is2
  wy : t.wy = t.rm + t.tot isb
  th : t.th = t.tot (isw "spare") + t.tot (isw "lock") + t.tot (isw "door")
  lv : t.lv = t.tot (isw "bar")
theorem Pl.tot_1 (f : Pl → Nat) (w : Nat) (t : Pl) : (Pl.one w t).tot f = f (.one w t) + t.tot f := rfl
theorem Pl.tot_2 (f : Pl → Nat) (w : Nat) (a b : Pl) : (Pl.two w a b).tot f = f (.two w a b) + (a.tot f + b.tot f) := rfl
theorem Pl.cts : ∀ {t : Pl}, t.wf → Cts t
  | .nd, _ => by
    have h := wds_nd
    exact ⟨by show 0 = isw _ _ + isw _ _ + 0; rw [h.wk, h.dr], rfl, by show 0 = isw _ _ + isw _ _ + isw _ _; rw [h.sp, h.lk, h.dn], by show 0 = isw _ _; rw [h.br]⟩
  | .one w t, ⟨hw, ht⟩ => by
    have c := Pl.cts ht
    have a1 := c.rm
    have a2 := c.wy
    have a3 := c.th
    have a4 := c.lv
    have x : w = 0 ∨ w = 1 ∨ w = 2 := by omega
    have e2 : is2 (.one w t) = 0 := rfl
    have eb : isb (.one w t) = 0 := rfl
    refine ⟨?_, ?_, ?_, ?_⟩ <;> simp only [Pl.tot_1, e2, eb, Pl.rm, Pl.wy, Pl.th, Pl.lv] <;> rcases x with rfl | rfl | rfl
    · have h := wds_0 t; rw [h.wk, h.dr, if_neg (by omega)]; omega
    · have h := wds_1 t; rw [h.wk, h.dr, if_neg (by omega)]; omega
    · have h := wds_2 t; rw [h.wk, h.dr, if_pos rfl]; omega
    · rw [if_neg (by omega)]; omega
    · rw [if_neg (by omega)]; omega
    · rw [if_pos rfl]; omega
    · have h := wds_0 t; rw [h.sp, h.lk, h.dn, if_neg (by omega)]; omega
    · have h := wds_1 t; rw [h.sp, h.lk, h.dn, if_neg (by omega)]; omega
    · have h := wds_2 t; rw [h.sp, h.lk, h.dn, if_pos rfl]; omega
    · have h := wds_0 t; rw [h.br]; omega
    · have h := wds_1 t; rw [h.br]; omega
    · have h := wds_2 t; rw [h.br]; omega
  | .two w a b, ⟨hw, ha, hb⟩ => by
    have c := Pl.cts ha
    have a1 := c.rm
    have a2 := c.wy
    have a3 := c.th
    have a4 := c.lv
    have d := Pl.cts hb
    have b1 := d.rm
    have b2 := d.wy
    have b3 := d.th
    have b4 := d.lv
    have x : w = 0 ∨ w = 1 ∨ w = 2 := by omega
    have e2 : is2 (.two w a b) = 1 := rfl
    have eb : isb (.two w a b) = if a.ends = true then 0 else 1 := rfl
    refine ⟨?_, ?_, ?_, ?_⟩ <;> simp only [Pl.tot_2, e2, eb, Pl.rm, Pl.wy, Pl.th, Pl.lv] <;> rcases x with rfl | rfl | rfl
    · have h := wds_3 a b; rw [h.wk, h.dr]; omega
    · have h := wds_4 a b; rw [h.wk, h.dr]; omega
    · have h := wds_5 a b; rw [h.wk, h.dr]; omega
    · omega
    · omega
    · omega
    · have h := wds_3 a b; rw [h.sp, h.lk, h.dn, if_neg (by omega)]; omega
    · have h := wds_4 a b; rw [h.sp, h.lk, h.dn, if_neg (by omega)]; omega
    · have h := wds_5 a b; rw [h.sp, h.lk, h.dn, if_pos rfl]; omega
    · have h := wds_3 a b; rw [h.br, if_neg (by omega)]; omega
    · have h := wds_4 a b; rw [h.br, if_neg (by omega)]; omega
    · have h := wds_5 a b; rw [h.br, if_pos rfl]; omega
def Done (t : Pl) (ts : List Pl) (i : Nat) : Prop := ∀ f : Pl → Nat, ((ts.take i).map f).sum + ((ts.drop i).map (Pl.tot f)).sum = t.tot f
theorem Done.zero (t : Pl) : Done t [t] 0 := fun f => by simp
theorem Done.step {t x : Pl} {ts : List Pl} {i : Nat} (h : Done t ts i) (hx : ts[i]? = some x) : Done t (ts ++ x.kids) (i + 1) := fun f => by
  have hi : i < ts.length := (List.getElem?_eq_some_iff.mp hx).1
  have ex : ts[i] = x := (List.getElem?_eq_some_iff.mp hx).2
  have g := h f
  rw [List.drop_eq_getElem_cons hi, ex, List.map_cons, List.sum_cons, Pl.tot_kids f x] at g
  rw [List.take_append_of_le_length (by omega), List.drop_append_of_le_length (by omega), List.take_succ_eq_append_getElem hi, ex]
  simp only [List.map_append, List.sum_append, List.map_cons, List.map_nil, List.sum_cons, List.sum_nil]
  omega
theorem sum_len (ts : List Pl) : ts.length ≤ (ts.map Pl.nc).sum := by
  induction ts with
  | nil => simp
  | cons a l ih =>
    have := a.nc_pos
    simp only [List.map_cons, List.sum_cons, List.length_cons]
    omega
def left (ts : List Pl) (i : Nat) : Nat := ((ts.drop i).map Pl.nc).sum
theorem Done.left {t : Pl} {ts : List Pl} {i : Nat} (h : Done t ts i) (hi : i ≤ ts.length) : i + left ts i = t.nc := by
  have g := h fun _ => 1
  rw [List.map_const', List.sum_replicate_nat, List.length_take, Nat.min_eq_left hi] at g
  have e : ((ts.drop i).map (Pl.tot fun _ => 1)).sum = Pn.left ts i := rfl
  have e2 : (t.tot fun _ => 1) = t.nc := rfl
  omega
theorem Done.len {t : Pl} {ts : List Pl} {i : Nat} (h : Done t ts i) (hi : i ≤ ts.length) : ts.length ≤ t.nc := by
  have a := h.left hi
  have b := sum_len (ts.drop i)
  rw [List.length_drop] at b
  have e : ((ts.drop i).map Pl.nc).sum = Pn.left ts i := rfl
  omega
theorem Done.all {t : Pl} {ts : List Pl} (h : Done t ts ts.length) (f : Pl → Nat) : (ts.map f).sum = t.tot f := by
  have g := h f
  rw [List.take_length, List.drop_length] at g
  simpa using g
theorem count_words (z : Str) (ts : List Pl) : (ts.map Pl.word).count z = (ts.map (isw z)).sum := by
  induction ts with
  | nil => simp
  | cons a l ih =>
    rw [List.map_cons, List.count_cons, List.map_cons, List.sum_cons, ih]
    unfold isw
    by_cases h : a.word = z
    · rw [if_pos (by simpa using h), if_pos h]; omega
    · rw [if_neg (by simpa using h), if_neg h]; omega
structure Si where
  rooms : Int
  ways : List Way
  things : List (Int × Int)
  levers : List (Int × Int)
  kinds : Int
def Si.new : Si := ⟨1, [], [], [], 0⟩
def Si.room (s : Si) (h : Int) (g : Gt) (back : Bool) : Si := ⟨s.rooms + 1, s.ways ++ [⟨h, s.rooms, g, back⟩], s.things, s.levers, s.kinds⟩
def Si.thing (s : Si) (x : Int × Int) : Si := ⟨s.rooms, s.ways, s.things ++ [x], s.levers, s.kinds⟩
def Si.kind (s : Si) : Si := ⟨s.rooms, s.ways, s.things, s.levers, s.kinds + 1⟩
def Si.lever (s : Si) (x : Int × Int) : Si := ⟨s.rooms, s.ways, s.things, s.levers ++ [x], s.kinds⟩
def Si.way (s : Si) (x : Way) : Si := ⟨s.rooms, s.ways ++ [x], s.things, s.levers, s.kinds⟩
def Si.gate (s : Si) (w : Nat) (r : Int) : Si := if w = 2 then s.lever (r, 2 ^ s.levers.length) else s.kind.thing (r, s.kinds)
def Si.gt (s : Si) (w : Nat) : Gt := if w = 2 then .bar s.levers.length else if w = 0 then .need s.kinds else .door s.kinds
def Si.bk (s : Si) (e h : Int) : Si := if e = h then s else s.way ⟨e, h, .plain, false⟩
def bld : Pl → Si → Int → Si × Int
  | .nd, s, h => (s, h)
  | .one w t, s, h => if w = 2 then bld t (s.thing (h, 11)) h else bld t (s.room h .plain (decide (w = 0))) s.rooms
  | .two w a b, s, h => bld b ((((bld a s h).1.gate w (bld a s h).2).bk (bld a s h).2 h).room h ((bld a s h).1.gt w) true) (((bld a s h).1.gate w (bld a s h).2).bk (bld a s h).2 h).rooms
def GB (k : Int) (l : Nat) : Gt → Prop
  | .plain => True
  | .need j => 0 ≤ j ∧ j < k
  | .door j => 0 ≤ j ∧ j < k
  | .bar b => 0 ≤ b ∧ b < l
  | _ => False
theorem GB.mono {k k' : Int} {l l' : Nat} (hk : k ≤ k') (hl : l ≤ l') : ∀ {g : Gt}, GB k l g → GB k' l' g
  | .plain, _ => trivial
  | .need j, h => ⟨h.1, by have := h.2; omega⟩
  | .door j, h => ⟨h.1, by have := h.2; omega⟩
  | .bar b, h => ⟨h.1, by have := h.2; omega⟩
theorem GB.ok {k : Int} {l : Nat} (hk : k ≤ 11) (hl : l ≤ 8) : ∀ {g : Gt}, GB k l g → g.ok
  | .plain, _ => trivial
  | .need j, h => ⟨h.1, by have := h.2; omega⟩
  | .door j, h => ⟨h.1, by have := h.2; omega⟩
  | .bar b, h => ⟨h.1, by have := h.2; omega⟩
structure Si.Ok (s : Si) : Prop where
  r : 1 ≤ s.rooms
  k0 : 0 ≤ s.kinds
  k : s.kinds ≤ s.things.length
  w : ∀ x ∈ s.ways, (0 ≤ x.a ∧ x.a < s.rooms) ∧ (0 ≤ x.b ∧ x.b < s.rooms) ∧ x.a ≠ x.b ∧ GB s.kinds s.levers.length x.g
  t : ∀ x ∈ s.things, (0 ≤ x.1 ∧ x.1 < s.rooms) ∧ 0 ≤ x.2 ∧ (x.2 = 11 ∨ x.2 < s.kinds)
  l : ∀ x ∈ s.levers, (0 ≤ x.1 ∧ x.1 < s.rooms) ∧ ∃ i, i < s.levers.length ∧ x.2 = 2 ^ i
theorem Si.Ok.new : Si.new.Ok := ⟨by decide, by decide, by decide, fun _ h => (by cases h), fun _ h => (by cases h), fun _ h => (by cases h)⟩
theorem Si.Ok.room {s : Si} (o : s.Ok) {h : Int} {g : Gt} {bk : Bool} (h0 : 0 ≤ h) (h1 : h < s.rooms) (hg : GB s.kinds s.levers.length g) : (s.room h g bk).Ok := by
  have hr := o.r
  refine ⟨by show 1 ≤ s.rooms + 1; omega, o.k0, o.k, fun x hx => ?_, fun x hx => ?_, fun x hx => ?_⟩
  · rcases List.mem_append.mp hx with hx | hx
    · obtain ⟨a, b, c, d⟩ := o.w x hx
      exact ⟨⟨a.1, by show x.a < s.rooms + 1; omega⟩, ⟨b.1, by show x.b < s.rooms + 1; omega⟩, c, d⟩
    · obtain rfl := List.mem_singleton.mp hx
      exact ⟨⟨h0, by show h < s.rooms + 1; omega⟩, ⟨by show 0 ≤ s.rooms; omega, by show s.rooms < s.rooms + 1; omega⟩, by show h ≠ s.rooms; omega, hg⟩
  · obtain ⟨a, b⟩ := o.t x hx
    exact ⟨⟨a.1, by show x.1 < s.rooms + 1; omega⟩, b⟩
  · obtain ⟨a, b⟩ := o.l x hx
    exact ⟨⟨a.1, by show x.1 < s.rooms + 1; omega⟩, b⟩
theorem Si.Ok.way {s : Si} (o : s.Ok) {x : Way} (ha : 0 ≤ x.a ∧ x.a < s.rooms) (hb : 0 ≤ x.b ∧ x.b < s.rooms) (hn : x.a ≠ x.b) (hg : GB s.kinds s.levers.length x.g) : (s.way x).Ok := by
  refine ⟨o.r, o.k0, o.k, fun y hy => ?_, o.t, o.l⟩
  rcases List.mem_append.mp hy with hy | hy
  · exact o.w y hy
  · obtain rfl := List.mem_singleton.mp hy
    exact ⟨ha, hb, hn, hg⟩
theorem Si.Ok.spare {s : Si} (o : s.Ok) {h : Int} (h0 : 0 ≤ h) (h1 : h < s.rooms) : (s.thing (h, 11)).Ok := by
  refine ⟨o.r, o.k0, by have := o.k; show s.kinds ≤ ((s.things ++ [_]).length : Int); simp; omega, o.w, fun y hy => ?_, o.l⟩
  rcases List.mem_append.mp hy with hy | hy
  · exact o.t y hy
  · obtain rfl := List.mem_singleton.mp hy
    exact ⟨⟨h0, h1⟩, by show (0 : Int) ≤ 11; omega, .inl rfl⟩
theorem Si.Ok.gate {s : Si} (o : s.Ok) {h : Int} (w : Nat) (h0 : 0 ≤ h) (h1 : h < s.rooms) : (s.gate w h).Ok := by
  unfold Si.gate
  split
  · refine ⟨o.r, o.k0, o.k, fun y hy => ?_, o.t, fun y hy => ?_⟩
    · obtain ⟨a, b, c, d⟩ := o.w y hy
      exact ⟨a, b, c, d.mono (Int.le_refl _) (by show _ ≤ (s.levers ++ [_]).length; simp)⟩
    · have el : (s.lever (h, 2 ^ s.levers.length)).levers.length = s.levers.length + 1 := by show (s.levers ++ [_]).length = _; simp
      rcases List.mem_append.mp hy with hy | hy
      · obtain ⟨a, i, b, c⟩ := o.l y hy
        exact ⟨a, i, by omega, c⟩
      · obtain rfl := List.mem_singleton.mp hy
        exact ⟨⟨h0, h1⟩, s.levers.length, by omega, rfl⟩
  · have k0 := o.k0
    have k1 := o.k
    refine ⟨o.r, by show 0 ≤ s.kinds + 1; omega, by show s.kinds + 1 ≤ ((s.things ++ [_]).length : Int); simp; omega, fun y hy => ?_, fun y hy => ?_, o.l⟩
    · obtain ⟨a, b, c, d⟩ := o.w y hy
      exact ⟨a, b, c, d.mono (by show s.kinds ≤ s.kinds + 1; omega) (Nat.le_refl _)⟩
    · rcases List.mem_append.mp hy with hy | hy
      · obtain ⟨a, b, c⟩ := o.t y hy
        refine ⟨a, b, ?_⟩
        rcases c with c | c
        · exact .inl c
        · exact .inr (by show y.2 < s.kinds + 1; omega)
      · obtain rfl := List.mem_singleton.mp hy
        exact ⟨⟨h0, h1⟩, k0, .inr (by show s.kinds < s.kinds + 1; omega)⟩
theorem Si.gate_rooms (s : Si) (w : Nat) (h : Int) : (s.gate w h).rooms = s.rooms := by unfold Si.gate; split <;> rfl
theorem Si.gate_ways (s : Si) (w : Nat) (h : Int) : (s.gate w h).ways = s.ways := by unfold Si.gate; split <;> rfl
theorem Si.gate_things (s : Si) (w : Nat) (h : Int) : (s.gate w h).things.length = s.things.length + (if w = 2 then 0 else 1) := by
  unfold Si.gate
  split
  · rfl
  · show (s.things ++ [_]).length = _; simp
theorem Si.gate_levers (s : Si) (w : Nat) (h : Int) : (s.gate w h).levers.length = s.levers.length + (if w = 2 then 1 else 0) := by
  unfold Si.gate
  split
  · show (s.levers ++ [_]).length = _; simp
  · rfl
theorem Si.gt_ok {s : Si} (o : s.Ok) (w : Nat) (h : Int) : GB (s.gate w h).kinds (s.gate w h).levers.length (s.gt w) := by
  have k0 := o.k0
  unfold Si.gate Si.gt
  by_cases e : w = 2
  · rw [if_pos e, if_pos e]
    refine ⟨by omega, ?_⟩
    show ((s.levers.length : Nat) : Int) < (((s.levers ++ [_]).length : Nat) : Int)
    simp; omega
  · rw [if_neg e, if_neg e]
    by_cases e0 : w = 0
    · rw [if_pos e0]
      exact ⟨k0, by show s.kinds < s.kinds + 1; omega⟩
    · rw [if_neg e0]
      exact ⟨k0, by show s.kinds < s.kinds + 1; omega⟩
theorem Si.bk_rooms (s : Si) (e h : Int) : (s.bk e h).rooms = s.rooms := by unfold Si.bk; split <;> rfl
theorem Si.bk_things (s : Si) (e h : Int) : (s.bk e h).things = s.things := by unfold Si.bk; split <;> rfl
theorem Si.bk_levers (s : Si) (e h : Int) : (s.bk e h).levers = s.levers := by unfold Si.bk; split <;> rfl
theorem Si.bk_kinds (s : Si) (e h : Int) : (s.bk e h).kinds = s.kinds := by unfold Si.bk; split <;> rfl
theorem Si.bk_ways (s : Si) (e h : Int) : (s.bk e h).ways.length = s.ways.length + (if e = h then 0 else 1) := by
  unfold Si.bk
  split
  · rfl
  · show (s.ways ++ [_]).length = _; simp
theorem Si.Ok.bk {s : Si} (o : s.Ok) {e h : Int} (h0 : 0 ≤ h ∧ h < s.rooms) (e0 : 0 ≤ e ∧ e < s.rooms) : (s.bk e h).Ok := by
  unfold Si.bk
  split
  · exact o
  · next n => exact o.way e0 h0 n trivial
structure Bd (t : Pl) (s : Si) (h : Int) (r : Si × Int) : Prop where
  ok : r.1.Ok
  e : 0 ≤ r.2 ∧ r.2 < r.1.rooms
  rm : r.1.rooms = s.rooms + t.rm
  wy : r.1.ways.length = s.ways.length + t.wy
  th : r.1.things.length = s.things.length + t.th
  lv : r.1.levers.length = s.levers.length + t.lv
  same : t.ends = true → r.2 = h
  other : t.ends = false → s.rooms ≤ r.2
theorem bld_ok : ∀ (t : Pl) (s : Si) (h : Int), s.Ok → 0 ≤ h → h < s.rooms → Bd t s h (bld t s h)
  | .nd, s, h, o, h0, h1 => ⟨o, ⟨h0, h1⟩, by show s.rooms = s.rooms + 0; omega, rfl, rfl, rfl, fun _ => rfl, fun z => by cases z⟩
  | .one w t, s, h, o, h0, h1 => by
    unfold bld
    by_cases e : w = 2
    · rw [if_pos e]
      have b := bld_ok t (s.thing (h, 11)) h (o.spare h0 h1) h0 h1
      refine ⟨b.ok, b.e, ?_, ?_, ?_, ?_, fun z => ?_, fun z => ?_⟩
      · rw [b.rm]; simp only [Pl.rm, if_pos e]; show s.rooms + _ = _; omega
      · rw [b.wy]; simp only [Pl.wy, if_pos e]; show s.ways.length + _ = _; omega
      · rw [b.th]; simp only [Pl.th, if_pos e]; show (s.things ++ [_]).length + _ = _; simp; omega
      · rw [b.lv]; rfl
      · simp only [Pl.ends, e, decide_true, Bool.true_and] at z
        exact b.same z
      · simp only [Pl.ends, e, decide_true, Bool.true_and] at z
        exact b.other z
    · rw [if_neg e]
      have hr := o.r
      have b := bld_ok t (s.room h .plain (decide (w = 0))) s.rooms (o.room h0 h1 trivial) (by omega) (by show s.rooms < s.rooms + 1; omega)
      have er : (s.room h .plain (decide (w = 0))).rooms = s.rooms + 1 := rfl
      refine ⟨b.ok, b.e, ?_, ?_, ?_, ?_, fun z => ?_, fun z => ?_⟩
      · rw [b.rm]; simp only [Pl.rm, if_neg e]; show s.rooms + 1 + _ = _; omega
      · rw [b.wy]; simp only [Pl.wy, if_neg e]; show (s.ways ++ [_]).length + _ = _; simp; omega
      · rw [b.th]; simp only [Pl.th, if_neg e]; show s.things.length + _ = _; omega
      · rw [b.lv]; rfl
      · simp [Pl.ends, e] at z
      · cases ht : t.ends with
        | true => rw [b.same ht]; exact Int.le_refl _
        | false => have := b.other ht; omega
  | .two w x y, s, h, o, h0, h1 => by
    unfold bld
    have b := bld_ok x s h o h0 h1
    generalize bld x s h = r at b ⊢
    obtain ⟨r1, r2⟩ := r
    have bo : r1.Ok := b.ok
    have be : 0 ≤ r2 ∧ r2 < r1.rooms := b.e
    have b1 : r1.rooms = s.rooms + x.rm := b.rm
    have hb : h < r1.rooms := by omega
    have go := bo.gate w be.1 be.2
    have gr := r1.gate_rooms w r2
    have ko := go.bk (e := r2) (h := h) ⟨h0, by omega⟩ ⟨be.1, by omega⟩
    have kr := (r1.gate w r2).bk_rooms r2 h
    have gb := Si.gt_ok bo w r2
    have kk := (r1.gate w r2).bk_kinds r2 h
    have kl := (r1.gate w r2).bk_levers r2 h
    have hr := ko.r
    have ro := ko.room (h := h) (g := r1.gt w) (bk := true) h0 (by omega) (by rw [kk, kl]; exact gb)
    have c := bld_ok y _ (((r1.gate w r2).bk r2 h).rooms) ro (by omega) (by show ((r1.gate w r2).bk r2 h).rooms < ((r1.gate w r2).bk r2 h).rooms + 1; omega)
    have kw := (r1.gate w r2).bk_ways r2 h
    have gw := r1.gate_ways w r2
    have gt := r1.gate_things w r2
    have gl := r1.gate_levers w r2
    have kt := (r1.gate w r2).bk_things r2 h
    have cr := c.rm
    have cw := c.wy
    have ct := c.th
    have cl := c.lv
    have er : (((r1.gate w r2).bk r2 h).room h (r1.gt w) true).rooms = ((r1.gate w r2).bk r2 h).rooms + 1 := rfl
    have ew : (((r1.gate w r2).bk r2 h).room h (r1.gt w) true).ways.length = ((r1.gate w r2).bk r2 h).ways.length + 1 := by show (_ ++ [_]).length = _; simp
    have et : (((r1.gate w r2).bk r2 h).room h (r1.gt w) true).things = ((r1.gate w r2).bk r2 h).things := rfl
    have el : (((r1.gate w r2).bk r2 h).room h (r1.gt w) true).levers = ((r1.gate w r2).bk r2 h).levers := rfl
    have bw : r1.ways.length = s.ways.length + x.wy := b.wy
    have bt : r1.things.length = s.things.length + x.th := b.th
    have bl : r1.levers.length = s.levers.length + x.lv := b.lv
    have ee : (if r2 = h then 0 else 1) = (if x.ends = true then 0 else 1) := by
      cases hx : x.ends with
      | true => have : r2 = h := b.same hx; rw [if_pos this]; rfl
      | false => have : s.rooms ≤ r2 := b.other hx; rw [if_neg (by omega)]; rfl
    rw [gw] at kw
    rw [kt] at et
    rw [kl] at el
    rw [et] at ct
    rw [el] at cl
    refine ⟨c.ok, c.e, ?_, ?_, ?_, ?_, fun z => (by cases z), fun _ => ?_⟩
    · rw [cr, er, kr, gr, b1]; simp only [Pl.rm]; omega
    · rw [cw, ew, kw, bw, ee]; simp only [Pl.wy]; omega
    · rw [ct, gt, bt]; simp only [Pl.th]; omega
    · rw [cl, gl, bl]; simp only [Pl.lv]; omega
    · cases hy : y.ends with
      | true => rw [c.same hy]; omega
      | false => exact Int.le_trans (by omega) (c.other hy)
structure Pl.fits (t : Pl) : Prop where
  rm : t.rm ≤ 13
  wy : t.wy ≤ 20
  th : t.th ≤ 8
  lv : t.lv ≤ 4
def site (t : Pl) : Si := (bld t .new 0).1
def last (t : Pl) : Int := (bld t .new 0).2
theorem site_bd (t : Pl) : Bd t .new 0 (site t, last t) := bld_ok t .new 0 Si.Ok.new (by decide) (by decide)
theorem pow_le {i : Nat} (h : i < 8) : (1 : Int) ≤ 2 ^ i ∧ (2 : Int) ^ i ≤ 255 := by
  have : i = 0 ∨ i = 1 ∨ i = 2 ∨ i = 3 ∨ i = 4 ∨ i = 5 ∨ i = 6 ∨ i = 7 := by omega
  rcases this with rfl | rfl | rfl | rfl | rfl | rfl | rfl | rfl <;> decide
structure Good (s : Si) (e : Int) : Prop where
  r : 1 ≤ s.rooms ∧ s.rooms ≤ 14
  e : 0 ≤ e ∧ e < s.rooms
  wl : s.ways.length ≤ 20
  tl : s.things.length ≤ 8
  ll : s.levers.length ≤ 4
  w : ∀ x ∈ s.ways, WOk s.rooms x
  t : ∀ x ∈ s.things, POk s.rooms 0 11 x
  l : ∀ x ∈ s.levers, POk s.rooms 1 255 x
theorem site_good {t : Pl} (f : t.fits) : Good (site t) (last t) := by
  have b := site_bd t
  have o : (site t).Ok := b.ok
  have r1 := o.r
  have r2 : (site t).rooms = 1 + t.rm := b.rm
  have f1 := f.rm
  have w1 : (site t).ways.length = 0 + t.wy := b.wy
  have f2 := f.wy
  have t1 : (site t).things.length = 0 + t.th := b.th
  have f3 := f.th
  have l1 : (site t).levers.length = 0 + t.lv := b.lv
  have f4 := f.lv
  have k1 := o.k
  refine ⟨⟨r1, by omega⟩, b.e, by omega, by omega, by omega, fun x hx => ?_, fun x hx => ?_, fun x hx => ?_⟩
  · obtain ⟨a, c, d, g⟩ := o.w x hx
    exact ⟨a, c, d, g.ok (by omega) (by omega)⟩
  · obtain ⟨a, c, d⟩ := o.t x hx
    exact ⟨a, c, by rcases d with d | d <;> omega⟩
  · obtain ⟨a, i, hi, e⟩ := o.l x hx
    have := pow_le (i := i) (by omega)
    rw [← e] at this
    exact ⟨a, this⟩
end Pn
namespace Pn
open Ce PySem
def sd : Pl → List Pl
  | .two _ a _ => [a]
  | _ => []
theorem sd_len (ts : List Pl) : (ts.flatMap sd).length = (ts.map is2).sum := by
  induction ts with
  | nil => rfl
  | cons a l ih =>
    rw [List.flatMap_cons, List.length_append, ih, List.map_cons, List.sum_cons]
    cases a <;> rfl
theorem sd_back (ts : List Pl) : ((ts.flatMap sd).filter fun a => !a.ends).length = (ts.map isb).sum := by
  induction ts with
  | nil => rfl
  | cons a l ih =>
    rw [List.flatMap_cons, List.filter_append, List.length_append, ih, List.map_cons, List.sum_cons]
    cases a with
    | nd => rfl
    | one w t => rfl
    | two w a b =>
      show (List.filter _ [a]).length + _ = (if a.ends = true then 0 else 1) + _
      cases h : a.ends <;> simp [List.filter, h]
theorem sd_le (ts : List Pl) : (ts.flatMap sd).length ≤ ts.length := by
  rw [sd_len]
  induction ts with
  | nil => simp
  | cons a l ih =>
    rw [List.map_cons, List.sum_cons, List.length_cons]
    cases a <;> simp only [is2] <;> omega
theorem sd_snoc (ts : List Pl) (a : Pl) : (ts ++ [a]).flatMap sd = ts.flatMap sd ++ sd a := by simp
theorem fits_iff {t : Pl} (c : Cts t) {a b d e f g h i : Nat} (h1 : a = t.tot (isw "walk")) (h2 : b = t.tot (isw "drop")) (h3 : d = t.tot is2) (h4 : e = t.tot isb) (h5 : f = t.tot (isw "spare")) (h6 : g = t.tot (isw "lock")) (h7 : h = t.tot (isw "door")) (h8 : i = t.tot (isw "bar")) :
    t.fits ↔ (a + b + d + 1 ≤ 14 ∧ a + b + d + e ≤ 20 ∧ f + g + h ≤ 8 ∧ i ≤ 4) := by
  have c1 := c.rm
  have c2 := c.wy
  have c3 := c.th
  have c4 := c.lv
  constructor
  · intro z
    have z1 := z.rm
    have z2 := z.wy
    have z3 := z.th
    have z4 := z.lv
    omega
  · rintro ⟨z1, z2, z3, z4⟩
    exact ⟨by omega, by omega, by omega, by omega⟩
def clOf (t : Pl) : Cl := ⟨(site t).rooms, 0, last t, (site t).ways, (site t).things, (site t).levers, [], 0, 0⟩
end Pn

set_option maxRecDepth 100000
set_option maxHeartbeats 4000000
namespace Pn
open Ce PySem
inductive Pi where
  | pl (t : Pl) (h : Int)
  | bey (w : Nat) (t : Pl) (h : Int)
def Pi.mu : Pi → Nat
  | .pl t _ => 3 * t.sz + 1
  | .bey _ t _ => 3 * t.sz + 2
def muP (l : List Pi) : Nat := (l.map Pi.mu).sum
def run : List Pi → Si → List Int → Si × List Int
  | [], s, es => (s, es)
  | .pl t h :: r, s, es => run r (bld t s h).1 (es ++ [(bld t s h).2])
  | .bey w t h :: r, s, es =>
    let e := es.getLastD 0
    let s2 := (s.gate w e).bk e h
    run r (bld t (s2.room h (s.gt w) true) s2.rooms).1 (es.dropLast ++ [(bld t (s2.room h (s.gt w) true) s2.rooms).2])
theorem run_nd {r : List Pi} {s : Si} {es : List Int} {h : Int} : run (.pl .nd h :: r) s es = run r s (es ++ [h]) := rfl
theorem run_spare {r : List Pi} {s : Si} {es : List Int} {h : Int} {t : Pl} : run (.pl (.one 2 t) h :: r) s es = run (.pl t h :: r) (s.thing (h, 11)) es := by
  simp only [run, bld, if_pos]
theorem run_one {r : List Pi} {s : Si} {es : List Int} {h : Int} {w : Nat} {t : Pl} (hw : w ≠ 2) : run (.pl (.one w t) h :: r) s es = run (.pl t s.rooms :: r) (s.room h .plain (decide (w = 0))) es := by
  simp only [run, bld, if_neg hw]
theorem run_two {r : List Pi} {s : Si} {es : List Int} {h : Int} {w : Nat} {a b : Pl} : run (.pl (.two w a b) h :: r) s es = run (.pl a h :: .bey w b h :: r) s es := by
  simp only [run, bld, List.getLastD_concat, List.dropLast_concat]
theorem run_bey {r : List Pi} {s : Si} {es : List Int} {h e : Int} {w : Nat} {t : Pl} : run (.bey w t h :: r) s (es ++ [e]) = run (.pl t ((s.gate w e).bk e h).rooms :: r) (((s.gate w e).bk e h).room h (s.gt w) true) es := by
  simp only [run, List.getLastD_concat, List.dropLast_concat]
end Pn
namespace Pn
open Ce PySem
structure Le (a b : Si) : Prop where
  r : a.rooms ≤ b.rooms
  w : a.ways.length ≤ b.ways.length
  t : a.things.length ≤ b.things.length
  l : a.levers.length ≤ b.levers.length
theorem Le.refl (a : Si) : Le a a := ⟨Int.le_refl _, Nat.le_refl _, Nat.le_refl _, Nat.le_refl _⟩
theorem Le.trans {a b c : Si} (h : Le a b) (g : Le b c) : Le a c := ⟨Int.le_trans h.r g.r, Nat.le_trans h.w g.w, Nat.le_trans h.t g.t, Nat.le_trans h.l g.l⟩
theorem Le.room (s : Si) (h : Int) (g : Gt) (b : Bool) : Le s (s.room h g b) := ⟨by show s.rooms ≤ s.rooms + 1; omega, by show _ ≤ (s.ways ++ [_]).length; simp, Nat.le_refl _, Nat.le_refl _⟩
theorem Le.thing (s : Si) (x : Int × Int) : Le s (s.thing x) := ⟨Int.le_refl _, Nat.le_refl _, by show _ ≤ (s.things ++ [_]).length; simp, Nat.le_refl _⟩
theorem Le.gate (s : Si) (w : Nat) (e : Int) : Le s (s.gate w e) := by
  have a := s.gate_things w e
  have b := s.gate_levers w e
  exact ⟨by rw [s.gate_rooms]; exact Int.le_refl _, by rw [s.gate_ways]; exact Nat.le_refl _, by omega, by omega⟩
theorem Le.bk (s : Si) (e h : Int) : Le s (s.bk e h) := by
  have a := s.bk_ways e h
  exact ⟨by rw [s.bk_rooms]; exact Int.le_refl _, by omega, by rw [s.bk_things]; exact Nat.le_refl _, by rw [s.bk_levers]; exact Nat.le_refl _⟩
theorem bld_le : ∀ (t : Pl) (s : Si) (h : Int), Le s (bld t s h).1
  | .nd, s, h => Le.refl _
  | .one w t, s, h => by
    unfold bld
    split
    · exact (Le.thing s _).trans (bld_le t _ _)
    · exact (Le.room s _ _ _).trans (bld_le t _ _)
  | .two w a b, s, h => by
    unfold bld
    exact (bld_le a s h).trans ((Le.gate _ w _).trans ((Le.bk _ _ h).trans ((Le.room _ h _ _).trans (bld_le b _ _))))
theorem run_le : ∀ (its : List Pi) (s : Si) (es : List Int), Le s (run its s es).1
  | [], s, es => Le.refl _
  | .pl t h :: r, s, es => (bld_le t s h).trans (run_le r _ _)
  | .bey w t h :: r, s, es => by
    unfold run
    exact (Le.gate s w _).trans ((Le.bk _ _ h).trans ((Le.room _ h _ _).trans ((bld_le t _ _).trans (run_le r _ _))))
def nk (T : List (Int × Int)) : Nat := (T.filter fun x => decide (x.2 ≠ 11)).length
theorem nk_11 (T : List (Int × Int)) (h : Int) : nk (T ++ [(h, 11)]) = nk T := by
  unfold nk
  rw [List.filter_append]
  simp
theorem nk_k (T : List (Int × Int)) (h : Int) {k : Int} (hk : k ≠ 11) : nk (T ++ [(h, k)]) = nk T + 1 := by
  unfold nk
  rw [List.filter_append]
  simp [hk]
theorem nk_le (T : List (Int × Int)) : nk T ≤ T.length := List.length_filter_le _ _
structure Bes (f : Prop) (s : Si) (r : Int) (W : List Way) (T L : List (Int × Int)) : Prop where
  r : r = s.rooms
  w : W.length = s.ways.length
  t : T.length = s.things.length
  l : L.length = s.levers.length
  ew : f → W = s.ways
  et : f → T = s.things
  el : f → L = s.levers
  ek : f → (nk T : Int) = s.kinds
def s0 (r : Int) (W : List Way) (T L : List (Int × Int)) : Si := ⟨r, W, T, L, nk T⟩
def Si.go (s : Si) (w : Nat) (e h : Int) : Si := ((s.gate w e).bk e h).room h (s.gt w) true
theorem Bes.eq {f : Prop} {s : Si} {r : Int} {W : List Way} {T L : List (Int × Int)} (b : Bes f s r W T L) (hf : f) : s0 r W T L = s := by
  unfold s0
  rw [b.r, b.ew hf, b.el hf, b.ek hf, b.et hf]
theorem Bes.new (f : Prop) : Bes f Si.new 1 [] [] [] := ⟨rfl, rfl, rfl, rfl, fun _ => rfl, fun _ => rfl, fun _ => rfl, fun _ => rfl⟩
theorem Bes.spare {f : Prop} {s : Si} {r : Int} {W : List Way} {T L : List (Int × Int)} (b : Bes f s r W T L) (h : Int) : Bes f (s.thing (h, 11)) r W (T ++ [(h, 11)]) L :=
  ⟨b.r, b.w, by show (T ++ [_]).length = (s.things ++ [_]).length; simp [b.t], b.l, b.ew, fun hf => by show _ = s.things ++ [_]; rw [b.et hf], b.el, fun hf => by rw [nk_11]; exact b.ek hf⟩
theorem Bes.room {f : Prop} {s : Si} {r : Int} {W : List Way} {T L : List (Int × Int)} (b : Bes f s r W T L) (h : Int) (bk : Bool) : Bes f (s.room h .plain bk) (r + 1) (W ++ [⟨h, r, .plain, bk⟩]) T L :=
  ⟨by rw [b.r]; rfl, by show (W ++ [_]).length = (s.ways ++ [_]).length; simp [b.w], b.t, b.l, fun hf => by show _ = s.ways ++ [_]; rw [b.ew hf, b.r], b.et, b.el, b.ek⟩
theorem go_w (s : Si) (w : Nat) (e h : Int) : (s.go w e h).ways.length = s.ways.length + (if e = h then 0 else 1) + 1 := by
  show (_ ++ [_]).length = _
  rw [List.length_append, Si.bk_ways, Si.gate_ways]
  rfl
theorem go_t (s : Si) (w : Nat) (e h : Int) : (s.go w e h).things.length = s.things.length + (if w = 2 then 0 else 1) := by
  show ((s.gate w e).bk e h).things.length = _
  rw [Si.bk_things, Si.gate_things]
theorem go_l (s : Si) (w : Nat) (e h : Int) : (s.go w e h).levers.length = s.levers.length + (if w = 2 then 1 else 0) := by
  show ((s.gate w e).bk e h).levers.length = _
  rw [Si.bk_levers, Si.gate_levers]
theorem go_r (s : Si) (w : Nat) (e h : Int) : (s.go w e h).rooms = s.rooms + 1 := by
  show ((s.gate w e).bk e h).rooms + 1 = _
  rw [Si.bk_rooms, Si.gate_rooms]
theorem go_k (s : Si) (w : Nat) (e h : Int) : (s.go w e h).kinds = s.kinds + (if w = 2 then 0 else 1) := by
  show ((s.gate w e).bk e h).kinds = _
  rw [Si.bk_kinds]
  unfold Si.gate
  split
  · show s.kinds = _; omega
  · rfl
theorem go_things (s : Si) (w : Nat) (e h : Int) : (s.go w e h).things = if w = 2 then s.things else s.things ++ [(e, s.kinds)] := by
  show ((s.gate w e).bk e h).things = _
  rw [Si.bk_things]
  unfold Si.gate
  split <;> rfl
theorem Bes.go {f : Prop} {s : Si} {r : Int} {W : List Way} {T L L' : List (Int × Int)} (b : Bes f s r W T L) {w : Nat} {e h : Int} (hl : L'.length = ((s0 r W T L).go w e h).levers.length) (hf : f → L' = ((s0 r W T L).go w e h).levers) (hk : f → s.kinds ≠ 11) : Bes f (s.go w e h) (r + 1) ((s0 r W T L).go w e h).ways ((s0 r W T L).go w e h).things L' := by
  refine ⟨by rw [go_r, b.r], ?_, ?_, ?_, fun z => ?_, fun z => ?_, fun z => ?_, fun z => ?_⟩
  · rw [go_w, go_w, show (s0 r W T L).ways.length = W.length from rfl, b.w]
  · rw [go_t, go_t, show (s0 r W T L).things.length = T.length from rfl, b.t]
  · rw [hl, go_l, go_l, show (s0 r W T L).levers.length = L.length from rfl, b.l]
  · rw [b.eq z]
  · rw [b.eq z]
  · rw [hf z, b.eq z]
  · rw [b.eq z, go_things, go_k]
    have ek := b.ek z
    rw [b.et z] at ek
    by_cases e2 : w = 2
    · rw [if_pos e2, if_pos e2]; omega
    · rw [if_neg e2, if_neg e2, nk_k _ _ (hk z)]; omega
theorem run_bey' {r : List Pi} {s : Si} {es : List Int} {h e : Int} {w : Nat} {t : Pl} : run (.bey w t h :: r) s (es ++ [e]) = run (.pl t s.rooms :: r) (s.go w e h) es := by
  rw [run_bey, Si.bk_rooms, Si.gate_rooms]
  rfl
theorem muP_app (a : List Pi) (x : Pi) : muP (a ++ [x]) = muP a + x.mu := by simp [muP]
end Pn
namespace Pn
open Ce PySem
def okE : List Pi → Nat → Prop
  | [], _ => True
  | .pl _ _ :: r, n => okE r (n + 1)
  | .bey _ _ _ :: r, n => 1 ≤ n ∧ okE r n
def Pi.wf : Pi → Prop
  | .pl t _ => t.wf
  | .bey w t _ => w < 3 ∧ t.wf
theorem Pl.wy_le : ∀ t : Pl, t.wy ≤ 2 * t.sz
  | .nd => Nat.le_refl _
  | .one w t => by
    have := t.wy_le
    show (if w = 2 then 0 else 1) + t.wy ≤ 2 * (t.sz + 1)
    split <;> omega
  | .two w a b => by
    have := a.wy_le
    have := b.wy_le
    show a.wy + b.wy + 1 + (if a.ends = true then 0 else 1) ≤ 2 * (a.sz + b.sz + 1)
    split <;> omega
theorem Pl.th_le : ∀ t : Pl, t.th ≤ t.sz
  | .nd => Nat.le_refl _
  | .one w t => by
    have := t.th_le
    show (if w = 2 then 1 else 0) + t.th ≤ t.sz + 1
    split <;> omega
  | .two w a b => by
    have := a.th_le
    have := b.th_le
    show a.th + b.th + (if w = 2 then 0 else 1) ≤ a.sz + b.sz + 1
    split <;> omega
theorem Pl.lv_le : ∀ t : Pl, t.lv ≤ t.sz
  | .nd => Nat.le_refl _
  | .one w t => by
    have := t.lv_le
    show t.lv ≤ t.sz + 1
    omega
  | .two w a b => by
    have := a.lv_le
    have := b.lv_le
    show a.lv + b.lv + (if w = 2 then 1 else 0) ≤ a.sz + b.sz + 1
    split <;> omega
theorem mu_len (its : List Pi) : its.length ≤ muP its := by
  unfold muP
  induction its with
  | nil => simp
  | cons a l ih =>
    have : 1 ≤ a.mu := by cases a <;> simp [Pi.mu]
    simp only [List.map_cons, List.sum_cons, List.length_cons]
    omega
end Pn

set_option maxRecDepth 100000
set_option maxHeartbeats 4000000
namespace Mine
open PySem L2
def top (i : Nat) : Stmt := PySem.Challenge.pw_delve_k65_cellars_built.main.body.getD i (.Pass ⟨0, 0, 0, 0⟩)
abbrev s_within : Stmt := top 9
abbrev s_is_gate : Stmt := top 11
abbrev s_tops_of : Stmt := top 12
abbrev s_cellar : Stmt := top 19
abbrev s_check_number : Stmt := top 20
abbrev s_made_ways : Stmt := top 21
abbrev s_made_pairs : Stmt := top 22
abbrev s_made_rows : Stmt := top 23
abbrev s_built : Stmt := top 29
abbrev s_build : Stmt := top 30
abbrev s_new_gate : Stmt := top 31
abbrev s_new_room : Stmt := top 32
abbrev s_check_size : Stmt := top 33
abbrev s_check_most : Stmt := top 34
abbrev s_parts_of : Stmt := top 35
abbrev s_ends_here : Stmt := top 36
abbrev s__law_cell_at : Stmt := top 38
abbrev s__law_next : Stmt := top 39
abbrev s__law_plan : Stmt := top 40
abbrev s__law_laid : Stmt := top 41
abbrev s__law_beyond : Stmt := top 42
abbrev s__law_alike : Stmt := top 43
abbrev s_law : Stmt := top 44
abbrev s_Site_init : Stmt := inClass (top 28) 0
theorem sc_within : FnScope ["number", "least", "most"] ["number", "least", "most"] (defScope s_within) := ⟨rfl, rfl, rfl, by decide +kernel, rfl, by decide +kernel, by decide +kernel⟩
theorem sc_is_gate : FnScope ["thing", "tops", "numbers"] ["thing"] (defScope s_is_gate) := ⟨rfl, rfl, rfl, by decide +kernel, rfl, by decide +kernel, by decide +kernel⟩
theorem sc_tops_of : FnScope ["word"] ["word"] (defScope s_tops_of) := ⟨rfl, rfl, rfl, by decide +kernel, rfl, by decide +kernel, by decide +kernel⟩
theorem sc_cellar : FnScope ["rooms", "first", "last", "ways", "things", "levers", "wheels", "bars", "water"] ["rooms", "first", "last", "ways", "things", "levers", "wheels", "bars", "water"] (defScope s_cellar) := ⟨rfl, rfl, rfl, by decide +kernel, rfl, by decide +kernel, by decide +kernel⟩
theorem sc_check_number : FnScope ["name", "number", "least", "most"] ["name", "number", "least", "most"] (defScope s_check_number) := ⟨rfl, rfl, rfl, by decide +kernel, rfl, by decide +kernel, by decide +kernel⟩
theorem sc_made_ways : FnScope ["rooms", "ways", "made", "a", "b", "gate", "back"] ["rooms", "ways"] (defScope s_made_ways) := ⟨rfl, rfl, rfl, by decide +kernel, rfl, by decide +kernel, by decide +kernel⟩
theorem sc_made_pairs : FnScope ["name", "rooms", "pairs", "most_pairs", "least", "most", "made", "room", "number"] ["name", "rooms", "pairs", "most_pairs", "least", "most"] (defScope s_made_pairs) := ⟨rfl, rfl, rfl, by decide +kernel, rfl, by decide +kernel, by decide +kernel⟩
theorem sc_made_rows : FnScope ["name", "rows", "most", "made"] ["name", "rows", "most"] (defScope s_made_rows) := ⟨rfl, rfl, rfl, by decide +kernel, rfl, by decide +kernel, by decide +kernel⟩
theorem sc_built : FnScope ["plan", "site", "last"] ["plan"] (defScope s_built) := ⟨rfl, rfl, rfl, by decide +kernel, rfl, by decide +kernel, by decide +kernel⟩
theorem sc_build : FnScope ["site", "plan", "here", "word", "side_end", "gate"] ["site", "plan", "here"] (defScope s_build) := ⟨rfl, rfl, rfl, by decide +kernel, rfl, by decide +kernel, by decide +kernel⟩
theorem sc_new_gate : FnScope ["site", "word", "room", "bar", "kind"] ["site", "word", "room"] (defScope s_new_gate) := ⟨rfl, rfl, rfl, by decide +kernel, rfl, by decide +kernel, by decide +kernel⟩
theorem sc_new_room : FnScope ["site", "here", "gate", "back", "room"] ["site", "here", "gate", "back"] (defScope s_new_room) := ⟨rfl, rfl, rfl, by decide +kernel, rfl, by decide +kernel, by decide +kernel⟩
theorem sc_check_size : FnScope ["plan", "parts", "words", "sides", "new_rooms", "ways_back"] ["plan"] (defScope s_check_size) := ⟨rfl, rfl, rfl, by decide +kernel, rfl, by decide +kernel, by decide +kernel⟩
theorem sc_check_most : FnScope ["name", "number", "most"] ["name", "number", "most"] (defScope s_check_most) := ⟨rfl, rfl, rfl, by decide +kernel, rfl, by decide +kernel, by decide +kernel⟩
theorem sc_parts_of : FnScope ["plan", "parts", "place"] ["plan"] (defScope s_parts_of) := ⟨rfl, rfl, rfl, by decide +kernel, rfl, by decide +kernel, by decide +kernel⟩
theorem sc_ends_here : FnScope ["plan"] ["plan"] (defScope s_ends_here) := ⟨rfl, rfl, rfl, by decide +kernel, rfl, by decide +kernel, by decide +kernel⟩
theorem sc__law_cell_at : FnScope ["_law_script", "_law_k"] ["_law_script", "_law_k"] (defScope s__law_cell_at) := ⟨rfl, rfl, rfl, by decide +kernel, rfl, by decide +kernel, by decide +kernel⟩
theorem sc__law_next : FnScope ["_law_script", "_law_state"] ["_law_script", "_law_state"] (defScope s__law_next) := ⟨rfl, rfl, rfl, by decide +kernel, rfl, by decide +kernel, by decide +kernel⟩
theorem sc__law_plan : FnScope ["_law_script", "_law_state", "_law_room", "_law_cell", "_law_way", "_law_first_part", "_law_inner"] ["_law_script", "_law_state", "_law_room"] (defScope s__law_plan) := ⟨rfl, rfl, rfl, by decide +kernel, rfl, by decide +kernel, by decide +kernel⟩
theorem sc__law_laid : FnScope ["_law_plan_here", "_law_made", "_law_pile", "_law_ends", "_law_first_part", "_law_part", "_law_here", "_law_gate", "_law_end"] ["_law_plan_here"] (defScope s__law_laid) := ⟨rfl, rfl, rfl, by decide +kernel, rfl, by decide +kernel, by decide +kernel⟩
theorem sc__law_beyond : FnScope ["_law_made", "_law_pile", "_law_part", "_law_here", "_law_end", "_law_first_part", "_law_number", "_law_gate"] ["_law_made", "_law_pile", "_law_part", "_law_here", "_law_end", "_law_first_part"] (defScope s__law_beyond) := ⟨rfl, rfl, rfl, by decide +kernel, rfl, by decide +kernel, by decide +kernel⟩
theorem sc__law_alike : FnScope ["_law_told", "_law_due", "_law_k"] ["_law_told", "_law_due"] (defScope s__law_alike) := ⟨rfl, rfl, rfl, by decide +kernel, rfl, by decide +kernel, by decide +kernel⟩
theorem sc_law : FnScope ["_law_script", "_law_most", "_law_plan_here", "_law_rooms", "_law_ways", "_law_things", "_law_levers", "_law_last", "_law_told", "_law_refused", "_law_due", "_law_again"] ["_law_script"] (defScope s_law) := ⟨rfl, rfl, rfl, by decide +kernel, rfl, by decide +kernel, by decide +kernel⟩
theorem sc_Site_init : FnScope ["self"] ["self"] (defScope s_Site_init) := ⟨rfl, rfl, rfl, by decide +kernel, rfl, by decide +kernel, by decide +kernel⟩
structure Cs where
  Site : Addr
structure Txt (mg : Str → Option Value) (cs : Cs) : Prop where
  n_all : mg "all" = none
  n_bool : mg "bool" = none
  n_int : mg "int" = none
  n_isinstance : mg "isinstance" = none
  n_len : mg "len" = none
  n_list : mg "list" = none
  n_range : mg "range" = none
  n_str : mg "str" = none
  n_tuple : mg "tuple" = none
  n_zip : mg "zip" = none
  e_ALL_BARS : ∃ t, mg "ALL_BARS" = some (.int 255 t)
  e_FIRST_ROOM : ∃ t, mg "FIRST_ROOM" = some (.int 0 t)
  e_LAST_BAR : ∃ t, mg "LAST_BAR" = some (.int 7 t)
  e_LAST_KIND : ∃ t, mg "LAST_KIND" = some (.int 11 t)
  e_MOST_LEVERS : ∃ t, mg "MOST_LEVERS" = some (.int 4 t)
  e_MOST_ROOMS : ∃ t, mg "MOST_ROOMS" = some (.int 14 t)
  e_MOST_THINGS : ∃ t, mg "MOST_THINGS" = some (.int 8 t)
  e_MOST_WAYS : ∃ t, mg "MOST_WAYS" = some (.int 20 t)
  e_MOST_WHEELS : ∃ t, mg "MOST_WHEELS" = some (.int 4 t)
  e_SPARE_KIND : ∃ t, mg "SPARE_KIND" = some (.int 11 t)
  e_TOP_HEIGHT : ∃ t, mg "TOP_HEIGHT" = some (.int 9 t)
  c_Site : mg "Site" = some (.ref cs.Site)
structure Tk (K : PySem.W.Frag) (mg : Str → Option Value) : Prop where
  TWO_PARTS : ∃ p, mg "TWO_PARTS" = some (.ref p) ∧ (∀ H, SqT K H p [.str "lock", .str "door", .str "bar"]) ∧ ∃ o, K.lookup p = some o ∧ o.cls = .type "tuple" ∧ o.dict = none
structure Tcl (K : PySem.W.Frag) (cs : Cs) : Prop where
  cl_Site : Cls K cs.Site
  no_Site_kinds : NoAttr K cs.Site "kinds"
  no_Site_levers : NoAttr K cs.Site "levers"
  no_Site_rooms : NoAttr K cs.Site "rooms"
  no_Site_things : NoAttr K cs.Site "things"
  no_Site_ways : NoAttr K cs.Site "ways"
structure Xs where
  NoCellar : Addr
  TooMany : Addr
structure Tx (K : PySem.W.Frag) (mg : Str → Option Value) (xs : Xs) : Prop where
  at_NoCellar : mg "NoCellar" = some (.ref xs.NoCellar)
  at_TooMany : mg "TooMany" = some (.ref xs.TooMany)
  ex_NoCellar : ExcC K xs.NoCellar
  mo_NoCellar_0 : PySem.W.exmOne K (.ref xs.NoCellar) (.ref xs.TooMany) = some false
  ex_TooMany : ExcC K xs.TooMany
  mo_TooMany_0 : PySem.W.exmOne K (.ref xs.TooMany) (.ref xs.TooMany) = some true
-- ROOM 24
local macro_rules | `(tactic| walk_at "ne") => `(tactic| refine ifd (fun h => absurd h (by decide +kernel)) (fun _ => ?_))
local macro_rules | `(tactic| walk_at "eq") => `(tactic| refine ifd (fun _ => ?_) (fun h => absurd rfl h))
local macro_rules | `(tactic| walk_at "at") => `(tactic| first | rfl | exact atI0 | exact atI_off (by assumption) | exact atI_nat (by assumption) | assumption)
local macro_rules | `(tactic| walk_at "hp") => `(tactic| first | with_reducible assumption | with_reducible exact upd_same | ((with_reducible apply up_keep); (rotate_left; (with_reducible assumption)); walk_at "hp") | exact upd_same)
local macro_rules | `(tactic| walk_at "sq") => `(tactic| first | with_reducible assumption | ((with_reducible apply SqT.of); walk_at "hp") | ((with_reducible apply SqL.of); walk_at "hp") | ((with_reducible refine' Same.seq ?s ?h); (case h => with_reducible assumption); (case s => walk_at "sm")) | ((with_reducible refine' Same.tup ?s ?h); (case h => with_reducible assumption); (case s => walk_at "sm")))
local macro_rules | `(tactic| walk_at "sm") => `(tactic| first | with_reducible assumption | with_reducible exact Same.refl _ | ((with_reducible refine Same.trans ?_ (Same.upd (by assumption))); walk_at "sm"))
local macro_rules | `(tactic| walk_at "side") => `(tactic| first | assumption | omega | (exact ⟨by omega, by omega⟩) | (exact Or.inl ⟨by omega, by omega⟩) | (exact Or.inr ⟨by omega, by omega⟩) | (exact ⟨by omega, by omega, by omega⟩) | (exact ⟨by omega, by omega, by decide⟩) | (exact ⟨⟨by omega, by omega⟩, by omega, by omega⟩))
local macro_rules | `(tactic| walk_at "rd1") => `(tactic| first | ((with_reducible refine' r_var ?h ?_); (case h => rfl)) | with_reducible refine' r_op ?_ | with_reducible refine' r_c ?_ | with_reducible refine' r_cons ?_ | with_reducible refine' r_nil ?_ | with_reducible refine' r_seq ?_ | with_reducible refine' r_asg ?_ | with_reducible refine' r_name ?_ | with_reducible refine' r_call ?_ | with_reducible refine' r_cb ?_ | with_reducible refine' r_I0 ?_ | with_reducible refine' r_test ?_ | with_reducible refine' r_bl ?_ | with_reducible refine' r_B ?_ | with_reducible refine' r_ifS ?_ | with_reducible refine' r_ret ?_ | with_reducible refine' r_eqI ?_ | with_reducible refine' r_eqS ?_ | with_reducible refine' r_eqB ?_ | with_reducible refine' r_neI ?_ | with_reducible refine' r_neS ?_ | with_reducible refine' r_neB ?_ | with_reducible refine' r_and ?_ | with_reducible refine' r_or ?_ | with_reducible refine' r_not ?_ | with_reducible refine' r_un ?_ | with_reducible refine' r_U ?_ | with_reducible refine' r_isN ?_ | with_reducible refine' r_notN ?_ | with_reducible refine' r_andV ?_ | with_reducible refine' r_orV ?_ | with_reducible refine' r_notV ?_ | with_reducible refine' r_if ?_ | with_reducible refine' r_tup ?_ | with_reducible refine' r_lst ?_ | with_reducible refine' r_sl ?_ | with_reducible refine' r_np ?_ | with_reducible refine' r_pt ?_ | with_reducible refine' r_int ?_ | with_reducible refine' r_fld0 ?_ | with_reducible refine' r_setf0 ?_ | with_reducible refine' r_vm0 ?_ | with_reducible refine' r_make ?_ | with_reducible refine' r_chain ?_ | with_reducible refine' r_max2 ?_ | with_reducible refine' r_min2 ?_ | with_reducible refine' r_inti ?_ | with_reducible refine' r_intb ?_ | with_reducible refine' r_strs ?_ | with_reducible refine' r_next ?_ | with_reducible refine' r_drop ?_ | with_reducible refine' r_sub ?_ | with_reducible refine' r_augS ?_ | with_reducible refine' r_ipI ?_ | with_reducible refine' r_gc ?_ | with_reducible refine' r_gn ?_ | with_reducible refine' r_retN ?_ | with_reducible refine' r_bm ?_ | with_reducible refine' r_bm0 ?_ | with_reducible refine' r_for ?_ | with_reducible refine' r_rng1 ?_ | with_reducible refine' r_rng2 ?_ | with_reducible refine' r_comp ?_ | with_reducible refine' r_yes ?_ | with_reducible refine' r_iL ?_ | with_reducible refine' r_iT ?_ | with_reducible refine' r_eL ?_ | with_reducible refine' r_eT ?_ | with_reducible refine' iteT ?_ | with_reducible refine' iteF ?_ | with_reducible refine' ifnT ?_ | with_reducible refine' ifnF ?_ | with_reducible refine' r_fs ?_ | with_reducible refine' r_fv ?_ | with_reducible refine' r_callD ?_ | with_reducible refine' r_callK ?_ | with_reducible refine' r_isi_ii ?_ | with_reducible refine' r_isi_ib ?_ | with_reducible refine' r_isi_bb ?_ | with_reducible refine' r_isi_bi ?_ | with_reducible refine' r_isi_ss ?_ | with_reducible refine' r_isi_sb ?_ | with_reducible refine' r_isi_si ?_ | with_reducible refine' r_isi_st ?_ | with_reducible refine' r_isi_it ?_ | with_reducible refine' r_isi_bt ?_ | with_reducible refine' r_isi_is ?_ | with_reducible refine' r_isi_bs ?_ | with_reducible refine' r_isi_nl ?_ | with_reducible refine' r_notT0 ?_ | ((with_reducible refine' r_I ?h ?_); (case h => walk_at "side")) | ((with_reducible refine' r_al ?h ?_); (case h => rfl)) | ((with_reducible refine' r_aug ?h ?_); (case h => rfl)) | ((with_reducible refine' r_ixT ?h ?e ?_); (case h => walk_at "sq"); (case e => walk_at "at")) | ((with_reducible refine' r_ixL ?h ?e ?_); (case h => walk_at "sq"); (case e => walk_at "at")) | ((with_reducible refine' r_ixU ?h ?e ?_); (case h => assumption); (case e => walk_at "at")) | ((with_reducible refine' r_lenT ?h ?_); (case h => walk_at "sq")) | ((with_reducible refine' r_lenL ?h ?_); (case h => walk_at "sq")) | ((with_reducible refine' r_lenU ?h ?_); (case h => assumption)) | ((with_reducible refine' r_refT ?h ?_); (case h => walk_at "sq")) | ((with_reducible refine' r_refL ?h ?_); (case h => walk_at "sq")) | ((with_reducible refine' r_refT1 ?h ?_); (case h => walk_at "sq")) | ((with_reducible refine' r_refL1 ?h ?_); (case h => walk_at "sq")) | ((with_reducible refine' r_tyL ?h ?_); (case h => walk_at "hp")) | ((with_reducible refine' r_isi_tt ?h ?_); (case h => walk_at "hp")) | ((with_reducible refine' r_isi_tl ?h ?_); (case h => walk_at "hp")) | ((with_reducible refine' r_isi_ll ?h ?_); (case h => walk_at "hp")) | ((with_reducible refine' r_isi_lt ?h ?_); (case h => walk_at "hp")) | ((with_reducible refine' r_gT ?h ?e ?_); (case h => walk_at "sq"); (case e => rfl)) | ((with_reducible refine' r_gL ?h ?e ?_); (case h => walk_at "sq"); (case e => rfl)) | ((with_reducible refine' r_rg ?h ?_); (case h => walk_at "side")) | ((with_reducible refine' r_rg2 ?h ?_); (case h => walk_at "side")))
local macro_rules | `(tactic| walk_at "rd") => `(tactic| repeat (walk_at "rd1"))
seal L2.PA L2.PE
open Ce Pn

def topsOf (z : Str) : Option (List Int) :=
  if z = "plain" then some [] else if z = "door" then some [11] else if z = "need" then some [11] else if z = "bar" then some [7] else if z = "wade" then some [9, 11] else if z = "float" then some [9] else none
theorem topsOf_plain : topsOf "plain" = some [] := by decide +kernel
theorem topsOf_door : topsOf "door" = some [11] := by decide +kernel
theorem topsOf_need : topsOf "need" = some [11] := by decide +kernel
theorem topsOf_bar : topsOf "bar" = some [7] := by decide +kernel
theorem topsOf_wade : topsOf "wade" = some [9, 11] := by decide +kernel
theorem topsOf_float : topsOf "float" = some [9] := by decide +kernel
theorem topsOf_none {z : Str} (h1 : ¬ z = "plain") (h2 : ¬ z = "door") (h3 : ¬ z = "need") (h4 : ¬ z = "bar") (h5 : ¬ z = "wade") (h6 : ¬ z = "float") : topsOf z = none := by
  unfold topsOf
  rw [if_neg h1, if_neg h2, if_neg h3, if_neg h4, if_neg h5, if_neg h6]
def chk (n t : Int) : Bool := decide (0 ≤ n) && decide (n ≤ t)
def gateOk (z : Str) (ns : List Int) : Bool := match topsOf z with
  | none => false
  | some ts => decide (ns.length = ts.length) && (List.zipWith chk ns ts).all id
theorem gateOk_none {z : Str} {ns : List Int} (h : topsOf z = none) : gateOk z ns = false := by unfold gateOk; rw [h]
theorem gateOk_len {z : Str} {ns ts : List Int} (h : topsOf z = some ts) (hl : ¬ ns.length = ts.length) : gateOk z ns = false := by unfold gateOk; rw [h]; simp [hl]
theorem gateOk_all {z : Str} {ns ts : List Int} (h : topsOf z = some ts) (hl : ns.length = ts.length) : gateOk z ns = (List.zipWith chk ns ts).all id := by unfold gateOk; rw [h]; simp [hl]
theorem subS_ib : subS "int" "bool" = false := by decide +kernel
theorem subS_ii : subS "int" "int" = true := by decide +kernel
theorem subS_tt : subS "tuple" "tuple" = true := by decide +kernel
theorem cutV_tail (x : V) (l : List V) : cutV (x :: l) (some 1) none = l := by
  unfold cutV
  have e1 : HT.sIx (x :: l).length 0 (some 1) = 1 := by rw [show (1 : Int) = ((1 : Nat) : Int) from rfl, HT.sIx_nat]; simp
  have e2 : HT.sIx (x :: l).length (x :: l).length none = l.length + 1 := by rw [HT.sIx_none]; rfl
  rw [e1, e2]
  simp
theorem atI_ints {xs : List Int} {j : Nat} (h : j < xs.length) : atI (xs.map V.int) (j : Int) = some (.int (xs.getD j 0)) := atI_nat (by simp [List.getD, h])
theorem gateOk_ok {g : Gt} (h : g.ok) : gateOk g.word g.ns = true := by
  cases g with
  | plain => rw [gateOk_all (z := Gt.plain.word) (ns := Gt.plain.ns) topsOf_plain rfl]; rfl
  | door k => have h' : 0 ≤ k ∧ k < 12 := h; rw [gateOk_all (z := (Gt.door k).word) (ns := (Gt.door k).ns) topsOf_door rfl]; simp [Gt.ns, chk]; omega
  | need k => have h' : 0 ≤ k ∧ k < 12 := h; rw [gateOk_all (z := (Gt.need k).word) (ns := (Gt.need k).ns) topsOf_need rfl]; simp [Gt.ns, chk]; omega
  | bar k => have h' : 0 ≤ k ∧ k < 8 := h; rw [gateOk_all (z := (Gt.bar k).word) (ns := (Gt.bar k).ns) topsOf_bar rfl]; simp [Gt.ns, chk]; omega
  | wade a k => have h' : (0 ≤ a ∧ a < 10) ∧ 0 ≤ k ∧ k < 12 := h; rw [gateOk_all (z := (Gt.wade a k).word) (ns := (Gt.wade a k).ns) topsOf_wade rfl]; simp [Gt.ns, chk]; omega
  | float k => have h' : 0 ≤ k ∧ k < 10 := h; rw [gateOk_all (z := (Gt.float k).word) (ns := (Gt.float k).ns) topsOf_float rfl]; simp [Gt.ns, chk]; omega
def RowIn (H : Hp) (v : V) (xs : List V) : Prop := (v = .non ∧ xs = []) ∨ (∃ p, v = .ref p ∧ H p = some (.lst xs)) ∨ ∃ p, v = .ref p ∧ H p = some (.tup xs)
theorem RowIn.mono {H H' : Hp} {v : V} {xs : List V} (s : Same H H') (h : RowIn H v xs) : RowIn H' v xs := by
  rcases h with h | ⟨p, e, h⟩ | ⟨p, e, h⟩
  · exact .inl h
  · exact .inr (.inl ⟨p, e, s _ _ h⟩)
  · exact .inr (.inr ⟨p, e, s _ _ h⟩)
def RowOk (H : Hp) (x : V) : Prop := ∃ p ys, x = .ref p ∧ H p = some (.tup ys)
def TupO (H : Hp) (v : V) : Option (List Int) → Prop
  | none => v = .non
  | some l => ∃ p, v = .ref p ∧ H p = some (.tup (l.map V.int))
def spWithin : Sp := fun vs H Q _ => ∃ n a b, vs = [.int n, .int a, .int b] ∧ Q (.bl (decide (a ≤ n) && decide (n ≤ b))) H
def spTops : Sp := fun vs H Q _ => ∃ z, vs = [.str z] ∧ ∀ v H', Same H H' → TupO H' v (topsOf z) → Q v H'
def spIsGate : Sp := fun vs H Q _ => ∃ (p : Addr) (z : Str) (ns : List Int), vs = [.ref p] ∧ H p = some (.tup (.str z :: ns.map V.int)) ∧ ns.length ≤ 10 ∧ ∀ H', Same H H' → Q (.bl (gateOk z ns)) H'
abbrev psC : List Str := ["rooms", "first", "last", "ways", "things", "levers", "wheels", "bars", "water"]
abbrev dsC (d1 d2 : Tok) : List Value := [.none, .none, .none, .int 0 d1, .int 0 d2]
theorem bd_cellar_9 (d1 d2 : Tok) (us : List Value) (hl : (us ++ []).length = psC.length) : BnD "cellar" s_cellar (dsC d1 d2) ⟨us, []⟩ (psC.zip (us ++ [])) := by
  have hl2 : us.length = 9 := by simpa using hl
  match us, hl2 with
  | [_, _, _, _, _, _, _, _, _], _ => exact fun _ _ _ _ _ _ _ => ⟨_, rfl, rfl⟩
theorem dv_cellar_9 (d1 d2 : Tok) : Vals [] [] := .nil
theorem sm_of {H H' : Hp} {a : Addr} {o : HO} (e : upd H a o = H') (h : H a = none) : Same H H' := e ▸ Same.upd h
theorem at_of {H H' : Hp} {a : Addr} {o : HO} (e : upd H a o = H') : H' a = some o := e ▸ upd_same
def Sml (n : Int) : Prop := n.natAbs.log2 < 1920
theorem Sml.of {n : Int} (h : n.natAbs < 2 ^ 1000) : Sml n := by
  unfold Sml
  by_cases h0 : n.natAbs = 0
  · rw [h0]; decide +kernel
  · have := (Nat.log2_lt h0).mpr h
    omega
theorem hu8_of {A : Around} {k : Nat} (hr : Room k A) : A.units + 8 < cLine := by have := hr.un; omega
theorem jc {y : Str} {ts : List TE} {n : Nat} {σ : St} {H : Hp} {Q : VK} (hy : y.length ≤ 100) (hn : n ≤ 500000) (q : ∀ m, m ≤ n + 100 → tJoin ts m σ H Q) : tJoin (tC (.str y) :: ts) n σ H Q := ⟨y, rfl, by have := line_big; omega, q _ (by omega)⟩
theorem jn {n : Nat} {σ : St} {H : Hp} {Q : VK} (q : ∀ z : Str, z.length ≤ n → Q (.str z) H) : tJoin [] n σ H Q := fun z hz => q z (by omega)
theorem jfi {te : TE} {ts : List TE} {n : Nat} {σ : St} {H : Hp} {Q : VK} {i : Int} (hi : Sml i) (hn : n ≤ 500000) (ht : ∀ K : VK, K (.int i) H → te σ H K) (q : ∀ m, m ≤ n + 1921 → tJoin ts m σ H Q) : tJoin (tFm te :: ts) n σ H Q :=
  ht _ (.inl ⟨i, rfl, hi, fun z hz => ⟨z, rfl, by have := line_big; omega, q _ (by omega)⟩⟩)
theorem jfs {te : TE} {ts : List TE} {n : Nat} {σ : St} {H : Hp} {Q : VK} {y : Str} {b : Nat} (hy : y.length ≤ b) (hn : n ≤ 500000 ∧ b ≤ 1000) (ht : ∀ K : VK, K (.str y) H → te σ H K) (q : ∀ m, m ≤ n + b → tJoin ts m σ H Q) : tJoin (tFm te :: ts) n σ H Q :=
  ht _ (.inr ⟨y, rfl, by have := line_big; omega, ⟨y, rfl, by have := line_big; omega, q _ (by omega)⟩⟩)
theorem jfr {te : TE} {ts : List TE} {n : Nat} {σ : St} {H : Hp} {Q : VK} {i : Int} (hi : Sml i) (hn : n ≤ 500000) (ht : ∀ K : VK, K (.int i) H → te σ H K) (q : ∀ m, m ≤ n + 1921 → tJoin ts m σ H Q) : tJoin (tFr te :: ts) n σ H Q :=
  ht _ ⟨i, rfl, hi, fun z hz => ⟨z, rfl, by have := line_big; omega, q _ (by omega)⟩⟩
theorem jft {te : TE} {ts : List TE} {n : Nat} {σ : St} {H : Hp} {Q : VK} {p : Addr} {xs : List V} (hp : H p = some (.tup xs)) (hl : xs.length ≤ 20) (hx : ∀ y ∈ xs, ShowV y) (hn : n ≤ 500000) (ht : ∀ K : VK, K (.ref p) H → te σ H K) (q : ∀ m, m ≤ n + 50000 → tJoin ts m σ H Q) : tJoin (tFt te :: ts) n σ H Q :=
  ht _ ⟨p, xs, rfl, hp, hl, hx, fun z hz => ⟨z, rfl, by have := line_big; omega, q _ (by omega)⟩⟩
def spCheck (C : Addr) : Sp := fun vs H Q E => ∃ (z : Str) (n a b : Int), vs = [.str z, .int n, .int a, .int b] ∧ z.length ≤ 1000 ∧ Sml n ∧ Sml a ∧ Sml b ∧ ((a ≤ n ∧ n ≤ b) → Q .non H) ∧ (¬ (a ≤ n ∧ n ≤ b) → E (.ref C) none H)
def spRows (C : Addr) : Sp := fun vs H Q E => ∃ (z : Str) (v : V) (m : Int) (xs : List V), vs = [.str z, v, .int m] ∧ z.length ≤ 200 ∧ Sml m ∧ RowIn H v xs ∧ xs.length ≤ 1000 ∧ (∀ x ∈ xs, RowOk H x) ∧ (xs.length ≤ m → ∀ (p : Addr) (H' : Hp), Same H H' → H' p = some (.tup xs) → Q (.ref p) H') ∧ (¬ xs.length ≤ m → ∀ H', Same H H' → E (.ref C) none H')
structure Wy where
  (a b : Int)
  (z : Str)
  (ns : List Int)
  (bk : Bool)
def Wy.good (y : Wy) (r : Int) : Prop := (0 ≤ y.a ∧ y.a < r) ∧ (0 ≤ y.b ∧ y.b < r) ∧ y.a ≠ y.b ∧ gateOk y.z y.ns = true
def WayIs (H : Hp) (x : V) (y : Wy) : Prop := ∃ p g, x = .ref p ∧ H p = some (.tup [.int y.a, .int y.b, .ref g, .bl y.bk]) ∧ H g = some (.tup (.str y.z :: y.ns.map V.int)) ∧ y.ns.length ≤ 10 ∧ Sml y.a ∧ Sml y.b ∧ (reprText y.z).length ≤ 2000 ∧ ∀ n ∈ y.ns, Sml n
def PairIs (H : Hp) (x : V) (a n : Int) : Prop := ∃ p, x = .ref p ∧ H p = some (.tup [.int a, .int n]) ∧ Sml a ∧ Sml n
theorem WayIs.mono {H H' : Hp} {x : V} {y : Wy} (s : TSame H H') (h : WayIs H x y) : WayIs H' x y := by
  obtain ⟨p, g, e, h1, h2, h3⟩ := h
  exact ⟨p, g, e, s _ _ h1, s _ _ h2, h3⟩
theorem PairIs.mono {H H' : Hp} {x : V} {a n : Int} (s : TSame H H') (h : PairIs H x a n) : PairIs H' x a n := by
  obtain ⟨p, e, h1, h3⟩ := h
  exact ⟨p, e, s _ _ h1, h3⟩
theorem WayIs.row {H : Hp} {x : V} {y : Wy} (h : WayIs H x y) : RowOk H x := by
  obtain ⟨p, g, e, h1, h2⟩ := h
  exact ⟨p, _, e, h1⟩
theorem PairIs.row {H : Hp} {x : V} {a n : Int} (h : PairIs H x a n) : RowOk H x := by
  obtain ⟨p, e, h1, h3⟩ := h
  exact ⟨p, _, e, h1⟩
def WaysIs (H : Hp) (zs : List V) (ys : Nat → Wy) : Prop := ∀ i x, zs[i]? = some x → WayIs H x (ys i)
def PairsIs (H : Hp) (zs : List V) (ys : Nat → Int × Int) : Prop := ∀ i x, zs[i]? = some x → PairIs H x (ys i).1 (ys i).2
def goodW (r : Int) (zs : List V) (ys : Nat → Wy) : Prop := zs.length ≤ 20 ∧ ∀ i, i < zs.length → (ys i).good r
def goodP (r m lo hi : Int) (zs : List V) (ys : Nat → Int × Int) : Prop := zs.length ≤ m ∧ ∀ i, i < zs.length → (0 ≤ (ys i).1 ∧ (ys i).1 < r) ∧ lo ≤ (ys i).2 ∧ (ys i).2 ≤ hi
def spMW (C : Addr) : Sp := fun vs H Q E => ∃ (r : Int) (v : V) (zs : List V) (ys : Nat → Wy), vs = [.int r, v] ∧ Sml (r - 1) ∧ RowIn H v zs ∧ WaysIs H zs ys ∧ zs.length ≤ 1000 ∧ (goodW r zs ys → ∀ (p : Addr) (H' : Hp), Same H H' → H' p = some (.tup zs) → Q (.ref p) H') ∧ (¬ goodW r zs ys → ∀ H', Same H H' → E (.ref C) none H')
def spMP (C : Addr) : Sp := fun vs H Q E => ∃ (z : Str) (r : Int) (v : V) (m lo hi : Int) (zs : List V) (ys : Nat → Int × Int), vs = [.str z, .int r, v, .int m, .int lo, .int hi] ∧ z.length ≤ 100 ∧ Sml (r - 1) ∧ Sml m ∧ Sml lo ∧ Sml hi ∧ RowIn H v zs ∧ PairsIs H zs ys ∧ zs.length ≤ 1000 ∧ (goodP r m lo hi zs ys → ∀ (p : Addr) (H' : Hp), Same H H' → H' p = some (.tup zs) → Q (.ref p) H') ∧ (¬ goodP r m lo hi zs ys → ∀ H', Same H H' → E (.ref C) none H')
theorem sml0 : Sml 0 := .of (by decide +kernel)
theorem sml20 : Sml 20 := .of (by decide +kernel)
theorem mem_get {zs : List V} {x : V} (h : x ∈ zs) : ∃ i : Nat, zs[i]? = some x := by
  obtain ⟨i, hi, e⟩ := List.mem_iff_getElem.mp h
  exact ⟨i, by simp [hi, e]⟩
structure Hand where
  (r f l b wt : Int)
  (v1 v2 v3 v4 : V)
  (z1 z2 z3 z4 : List V)
  (y1 : Nat → Wy)
  (y2 y3 y4 : Nat → Int × Int)
def Hand.vs (h : Hand) : List V := [.int h.r, .int h.f, .int h.l, h.v1, h.v2, h.v3, h.v4, .int h.b, .int h.wt]
structure HandOk (H : Hp) (h : Hand) : Prop where
  sr : Sml h.r
  sr1 : Sml (h.r - 1)
  sf : Sml h.f
  sl : Sml h.l
  sb : Sml h.b
  sw : Sml h.wt
  i1 : RowIn H h.v1 h.z1
  i2 : RowIn H h.v2 h.z2
  i3 : RowIn H h.v3 h.z3
  i4 : RowIn H h.v4 h.z4
  w1 : WaysIs H h.z1 h.y1
  w2 : PairsIs H h.z2 h.y2
  w3 : PairsIs H h.z3 h.y3
  w4 : PairsIs H h.z4 h.y4
  l1 : h.z1.length ≤ 1000
  l2 : h.z2.length ≤ 1000
  l3 : h.z3.length ≤ 1000
  l4 : h.z4.length ≤ 1000
theorem HandOk.mono {H H' : Hp} {h : Hand} (s : Same H H') (o : HandOk H h) : HandOk H' h :=
  ⟨o.sr, o.sr1, o.sf, o.sl, o.sb, o.sw, o.i1.mono s, o.i2.mono s, o.i3.mono s, o.i4.mono s, fun i x e => (o.w1 i x e).mono s.ts, fun i x e => (o.w2 i x e).mono s.ts, fun i x e => (o.w3 i x e).mono s.ts, fun i x e => (o.w4 i x e).mono s.ts, o.l1, o.l2, o.l3, o.l4⟩
structure Hand.good (h : Hand) : Prop where
  r : 1 ≤ h.r ∧ h.r ≤ 14
  f : 0 ≤ h.f ∧ h.f ≤ h.r - 1
  l : 0 ≤ h.l ∧ h.l ≤ h.r - 1
  b : 0 ≤ h.b ∧ h.b ≤ 255
  w : 0 ≤ h.wt ∧ h.wt ≤ 9
  g1 : goodW h.r h.z1 h.y1
  g2 : goodP h.r 8 0 11 h.z2 h.y2
  g3 : goodP h.r 4 1 255 h.z3 h.y3
  g4 : goodP h.r 4 0 9 h.z4 h.y4
def Made (h : Hand) (p : Addr) (H : Hp) : Prop := ∃ p1 p2 p3 p4, H p = some (.tup [.int h.r, .int h.f, .int h.l, .ref p1, .ref p2, .ref p3, .ref p4, .int h.b, .int h.wt]) ∧ H p1 = some (.tup h.z1) ∧ H p2 = some (.tup h.z2) ∧ H p3 = some (.tup h.z3) ∧ H p4 = some (.tup h.z4)
def spCellar (C : Addr) : Sp := fun vs H Q E => ∃ h : Hand, vs = h.vs ∧ HandOk H h ∧ (h.good → ∀ (p : Addr) (H' : Hp), Same H H' → Made h p H' → Q (.ref p) H') ∧ (¬ h.good → ∀ H', Same H H' → E (.ref C) none H')
theorem sml1 : Sml 1 := .of (by decide +kernel)
theorem sml4 : Sml 4 := .of (by decide +kernel)
theorem sml8 : Sml 8 := .of (by decide +kernel)
theorem sml9 : Sml 9 := .of (by decide +kernel)
theorem sml11 : Sml 11 := .of (by decide +kernel)
theorem sml14 : Sml 14 := .of (by decide +kernel)
theorem sml255 : Sml 255 := .of (by decide +kernel)
section
variable {P : Program} {w : World} {K : PySem.W.Frag} {mg : Str → Option Value} {base : Heap} {xs : Xs} {cs : Cs}

theorem ok_within (T : Txt mg cs) (L : Laid K mg "within" s_within ["number", "least", "most"]) : Cal P w K mg base 1 "within" ["number", "least", "most"] spWithin := by
  refine L.cal (k := 0) sc_within (fun vs H Q E h => ?_) (fun f cdv A outer s H vs Q E hr h => ?_)
  · obtain ⟨n, a, b, rfl, _⟩ := h
    rfl
  · obtain ⟨n, a, b, rfl, k⟩ := h
    refine ⟨_, (pss_cons (ps_if (PW.pt (pw_or (pt_val (pe_callB call_isiS rfl T.n_isinstance bt_isinstance (pa_cons (pv 0) (pa_cons (pe_bltn (v := .ty "bool") rfl T.n_bool bt_bool rfl) pa_nil)))) (pw_or1 (pt_not (pt_val (pe_callB call_isiS rfl T.n_isinstance bt_isinstance (pa_cons (pv 0) (pa_cons (pe_bltn (v := .ty "int") rfl T.n_int bt_int rfl) pa_nil)))))))) (pss_one (ps_ret pe_bl)) pss_nil)
      (pss_one (ps_ret (pe_chain op_le op_le (pv 1) (pv 0) (pv 2))))), ?_⟩
    refine ⟨_, rfl, _, "bool", "int", rfl, rfl, by decide, _, rfl, ?_⟩
    rw [subS_ib]
    refine iteF ?_
    refine ⟨_, rfl, _, "int", "int", rfl, rfl, by decide, _, rfl, ?_⟩
    rw [subS_ii]
    refine iteF ?_
    refine ⟨_, rfl, _, rfl, _, _, rfl, rfl, _, rfl, ?_⟩
    refine ite2 (fun h1 => ?_) (fun h1 => ?_)
    · refine ⟨_, rfl, _, _, rfl, rfl, ?_⟩
      rw [h1, Bool.true_and] at k
      exact k
    · have h1' : decide (a ≤ n) = false := by simpa using h1
      rw [h1', Bool.false_and] at k
      exact k
theorem ok_tops_of (T : Txt mg cs) (L : Laid K mg "tops_of" s_tops_of ["word"]) : Cal P w K mg base 1 "tops_of" ["word"] spTops := by
  obtain ⟨t1, e_LAST_KIND⟩ := T.e_LAST_KIND
  obtain ⟨t2, e_LAST_BAR⟩ := T.e_LAST_BAR
  obtain ⟨t3, e_TOP_HEIGHT⟩ := T.e_TOP_HEIGHT
  refine L.cal (k := 0) sc_tops_of (fun vs H Q E h => ?_) (fun f cdv A outer s H vs Q E hr h => ?_)
  · obtain ⟨z, rfl, _⟩ := h
    rfl
  · obtain ⟨z, rfl, k⟩ := h
    refine ⟨_, (pss_cons (ps_if (pt_cmpR op_eq (pv 0) pe_str (nomark _)) (pss_one (ps_ret (pe_tup pa_nil))) pss_nil)
      (pss_cons (ps_if (PW.pt (pw_or (pt_cmpR op_eq (pv 0) pe_str (nomark _)) (pw_or1 (pt_cmpR op_eq (pv 0) pe_str (nomark _))))) (pss_one (ps_ret (pe_tup (pa_cons (pe_glob (v := .int 11) rfl e_LAST_KIND ⟨_, rfl⟩) pa_nil)))) pss_nil)
      (pss_cons (ps_if (pt_cmpR op_eq (pv 0) pe_str (nomark _)) (pss_one (ps_ret (pe_tup (pa_cons (pe_glob (v := .int 7) rfl e_LAST_BAR ⟨_, rfl⟩) pa_nil)))) pss_nil)
      (pss_cons (ps_if (pt_cmpR op_eq (pv 0) pe_str (nomark _)) (pss_one (ps_ret (pe_tup (pa_cons (pe_glob (v := .int 9) rfl e_TOP_HEIGHT ⟨_, rfl⟩) (pa_cons (pe_glob (v := .int 11) rfl e_LAST_KIND ⟨_, rfl⟩) pa_nil))))) pss_nil)
      (pss_cons (ps_if (pt_cmpR op_eq (pv 0) pe_str (nomark _)) (pss_one (ps_ret (pe_tup (pa_cons (pe_glob (v := .int 9) rfl e_TOP_HEIGHT ⟨_, rfl⟩) pa_nil)))) pss_nil)
      (pss_one (ps_ret pe_non))))))), ?_⟩
    have fin : ∀ l : List Int, topsOf z = some l → ∀ p, H p = none → Q (.ref p) (upd H p (.tup (l.map V.int))) := fun l e p hp => k _ _ (Same.upd hp) (by rw [e]; exact ⟨p, rfl, upd_same⟩)
    have S : ∀ {y : Str}, decide (V.str z = V.str y) = true → z = y := fun h => by have := of_decide_eq_true h; cases this; rfl
    have N : ∀ {y : Str}, ¬ decide (V.str z = V.str y) = true → ¬ z = y := fun h e => h (by rw [e]; exact decide_eq_true rfl)
    refine ⟨_, rfl, rfl, _, rfl, ite2 (fun h1 => ?_) (fun h1 => ?_)⟩
    · exact ⟨by decide, fun p hp => fin [] (by rw [S h1]; exact topsOf_plain) p hp⟩
    refine ⟨_, rfl, rfl, _, rfl, ?_⟩
    refine ite2 (fun h2 => ?_) (fun h2 => ?_)
    · refine iteT ?_
      exact ⟨by decide, fun p hp => fin [11] (by rw [S h2]; exact topsOf_door) p hp⟩
    refine ⟨_, rfl, rfl, _, rfl, ite2 (fun h3 => ?_) (fun h3 => ?_)⟩
    · exact ⟨by decide, fun p hp => fin [11] (by rw [S h3]; exact topsOf_need) p hp⟩
    refine ⟨_, rfl, rfl, _, rfl, ite2 (fun h4 => ?_) (fun h4 => ?_)⟩
    · exact ⟨by decide, fun p hp => fin [7] (by rw [S h4]; exact topsOf_bar) p hp⟩
    refine ⟨_, rfl, rfl, _, rfl, ite2 (fun h5 => ?_) (fun h5 => ?_)⟩
    · exact ⟨by decide, fun p hp => fin [9, 11] (by rw [S h5]; exact topsOf_wade) p hp⟩
    refine ⟨_, rfl, rfl, _, rfl, ite2 (fun h6 => ?_) (fun h6 => ?_)⟩
    · exact ⟨by decide, fun p hp => fin [9] (by rw [S h6]; exact topsOf_float) p hp⟩
    exact k _ _ (Same.refl _) (by rw [topsOf_none (N h1) (N h2) (N h3) (N h4) (N h5) (N h6)]; rfl)
theorem ok_is_gate (T : Txt mg cs) (L : Laid K mg "is_gate" s_is_gate ["thing"]) (C_tops_of : Cal P w K mg base 1 "tops_of" ["word"] spTops) (C_within : Cal P w K mg base 1 "within" ["number", "least", "most"] spWithin) : Cal P w K mg base 2 "is_gate" ["thing"] spIsGate := by
  refine L.cal (k := 1) sc_is_gate (fun vs H Q E h => ?_) (fun f cdv A outer s H vs Q E hr h => ?_)
  · obtain ⟨p, z, ns, rfl, _⟩ := h
    rfl
  · obtain ⟨p, z, ns, rfl, hp, hl, k⟩ := h
    refine ⟨_, (pss_cons (ps_if (PW.pt (pw_or (pt_not (pt_val (pe_callB call_isiS rfl T.n_isinstance bt_isinstance (pa_cons (pv 0) (pa_cons (pe_bltn (v := .ty "tuple") rfl T.n_tuple bt_tuple rfl) pa_nil))))) (pw_or1 (pt_cmpR op_eq (pe_callB (lenK K) rfl T.n_len bt_len (pa_cons (pv 0) pa_nil)) pe_int (nomark _))))) (pss_one (ps_ret pe_bl)) pss_nil)
      (pss_cons (ps_set (i := 1) sc_is_gate.nd rfl (Or.inl rfl) (pe_cal C_tops_of hr (by decide) rfl (pa_cons (pe_ix (ix_tupK K) (pv 0) pe_int (fun _ _ => rfl)) pa_nil)))
      (pss_cons (ps_set (i := 2) sc_is_gate.nd rfl (Or.inl rfl) (pe_slice (sl_tupAK K) (pv 0) (po_some pe_int) po_none))
      (pss_cons (ps_if (PW.pt (pw_or (pt_cmp (pc_isN (pv 1))) (pw_or1 (pt_cmpR op_ne (pe_callB (lenK K) rfl T.n_len bt_len (pa_cons (pv 2) pa_nil)) (pe_callB (lenK K) rfl T.n_len bt_len (pa_cons (pv 1) pa_nil)) (nomark _))))) (pss_one (ps_ret pe_bl)) pss_nil)
      (pss_one (ps_ret (pe_callB (call_allK K rfl) rfl T.n_all bt_all (pa_cons (pe_comp (compOk (N := ["number", "top"]) (own := 2) (caps := []) ["thing", "tops", "numbers"] (defScope s_is_gate) (by decide +kernel)) rfl (pi_zipTK K rfl T.n_zip (pa_cons (pv 2) (pa_cons (pv 1) pa_nil))) (fun _ _ _ _ => (pg_tupK (n := 2) K rfl (pgs_cons (pg_name (i := 0) (show List.Nodup (["number", "top"] : List Str) by decide +kernel) rfl (Or.inl rfl)) (pgs_cons (pg_name (i := 1) (show List.Nodup (["number", "top"] : List Str) by decide +kernel) rfl (Or.inl rfl)) pgs_nil)))) (fun _ _ _ _ => pf_nil) (fun _ _ _ _ => (pe_cal C_within hr (by decide) rfl (pa_cons (pv 0) (pa_cons pe_int (pa_cons (pv 1) pa_nil)))))) pa_nil)))))))), ?_⟩
    refine ⟨_, rfl, _, "tuple", "tuple", rfl, tyS_tup hp, by decide, _, rfl, ?_⟩
    rw [subS_tt]
    refine iteF ?_
    refine ⟨_, rfl, p, _, rfl, .inr (SqT.of hp), rfl, _, rfl, ite2 (fun h1 => ?_) (fun _ => ?_)⟩
    · have := of_decide_eq_true h1
      simp at this
      omega
    refine ⟨_, rfl, p, _, _, _, rfl, rfl, SqT.of hp, atI_nat (j := 0) rfl, z, rfl, fun v H1 s1 tv => ?_⟩
    have hp1 := s1 _ _ hp
    refine ⟨_, rfl, _, rfl, p, _, rfl, SqT.of hp1, fun e => ?_, fun q hq => ?_⟩
    · rw [cutV_tail] at e
      have := congrArg List.length e
      simp at this
    rw [cutV_tail]
    have s2 : Same H (upd H1 q (.tup (ns.map V.int))) := s1.trans (Same.upd hq)
    cases ht : topsOf z with
    | none =>
      rw [ht] at tv
      obtain rfl : v = .non := tv
      refine ⟨_, rfl, _, rfl, iteT (iteT ?_)⟩
      have := k _ s2
      rw [gateOk_none ht] at this
      exact this
    | some ts =>
      rw [ht] at tv
      obtain ⟨r, rfl, hr0⟩ := tv
      have hr1 : (upd H1 q (.tup (ns.map V.int))) r = some (.tup (ts.map V.int)) := by rw [upd_ne (ne_of_none hr0 hq)]; exact hr0
      refine ⟨_, rfl, _, rfl, iteF ?_⟩
      refine ⟨_, rfl, q, _, rfl, .inr (SqT.of upd_same), _, rfl, r, _, rfl, .inr (SqT.of hr1), rfl, _, rfl, ite2 (fun h1 => ?_) (fun h1 => ?_)⟩
      · have hne : ¬ ns.length = ts.length := fun e => by simp [e] at h1
        have := k _ s2
        rw [gateOk_len ht hne] at this
        exact this
      · have hlen : ns.length = ts.length := by
          simp at h1
          omega
        refine ⟨_, rfl, _, rfl, q, r, rfl, ⟨_, SqT.of upd_same⟩, ⟨_, SqT.of hr1⟩, fun D hD => ?_⟩
        refine comp_by ns.length (fun i σ H' => ∃ v0 v1, σ = [v0, v1] ∧ Same (upd H1 q (.tup (ns.map V.int))) H' ∧ H' D = some (.lst (((List.zipWith chk ns ts).take i).map V.bl))) ⟨none, none, rfl, Same.upd hD, upd_same⟩ ?_ ?_
        · rintro i σ H' hi ⟨v0, v1, rfl, s3, hD3⟩
          have hq3 := s3 _ _ (upd_same (H := H1) (a := q) (o := .tup (ns.map V.int)))
          have hr3 := s3 _ _ hr1
          refine ⟨⟨_, _, V.int (ns.getD i 0), V.int (ts.getD i 0), SqT.of hq3, SqT.of hr3, by simp [List.getD, hi], by simp [List.getD, show i < ts.length by omega]⟩, ?_⟩
          rintro x H4 ⟨t, ht0, rfl, hy⟩
          have e4 := hy _ _ (V.int (ns.getD i 0)) (V.int (ts.getD i 0)) (SqT.of hq3) (SqT.of hr3) (by simp [List.getD, hi]) (by simp [List.getD, show i < ts.length by omega])
          subst e4
          refine ⟨t, _, rfl, SqT.of upd_same, rfl, _, _, rfl, _, _, rfl, rfl, ?_⟩
          have nD : D ≠ t := ne_of_none hD3 ht0
          refine ⟨_, rfl, _, rfl, _, _, _, rfl, _, (by rw [upd_ne nD]; exact hD3), ?_, _, _, rfl, ?_, ?_⟩
          · rw [List.length_map, List.length_take]
            exact Nat.lt_of_le_of_lt (Nat.min_le_left _ _) (Nat.lt_trans hi (Nat.lt_of_le_of_lt hl (by decide)))
          · intro b o e
            have nb : b ≠ D := ne_of_none e hD
            rw [upd_ne nb, upd_ne (ne_of_none (s3 b o e) ht0)]
            exact s3 b o e
          · rw [upd_same, List.take_add_one]
            have e5 : (List.zipWith chk ns ts)[i]? = some (chk (ns.getD i 0) (ts.getD i 0)) := by
              rw [List.getElem?_zipWith]
              simp [List.getD, hi, show i < ts.length by omega]
            rw [e5]
            simp [chk]
        · rintro σ H' ⟨v0, v1, rfl, s3, hD3⟩
          have hq3 := s3 _ _ (upd_same (H := H1) (a := q) (o := .tup (ns.map V.int)))
          have hr3 := s3 _ _ hr1
          refine ⟨⟨_, _, SqT.of hq3, SqT.of hr3, .inl (by simp)⟩, D, List.zipWith chk ns ts, rfl, SqL.of ?_, ?_⟩
          · rw [hD3, List.take_of_length_le (by rw [List.length_zipWith]; omega)]
          · have := k _ (s2.trans s3)
            rw [gateOk_all ht hlen] at this
            exact this
theorem ok_check (T : Txt mg cs) (TX : Tx K mg xs) (L : Laid K mg "check_number" s_check_number ["name", "number", "least", "most"]) (C_within : Cal P w K mg base 1 "within" ["number", "least", "most"] spWithin) : CalX P w K mg base 2 "check_number" ["name", "number", "least", "most"] (spCheck xs.NoCellar) := by
  refine L.calX (k := 1) sc_check_number (fun vs H Q E h => ?_) (fun f cdv A outer s H vs Q E hr h => ?_)
  · obtain ⟨z, n, a, b, rfl, _⟩ := h
    rfl
  · obtain ⟨z, n, a, b, rfl, hz, hn, ha, hb, k, ke⟩ := h
    refine ⟨_, (pss_one (ps_if (pt_not (pt_val (pe_cal C_within hr (by decide) rfl (pa_cons (pv 1) (pa_cons (pv 2) (pa_cons (pv 3) pa_nil)))))) (pss_one (ps_raise raises_xe rfl rfl TX.at_NoCellar TX.ex_NoCellar (pa_cons (pe_join (.cons (pe_fm (pv 0)) (.cons pe_str (.cons (pe_fr (pv 1)) (.cons pe_str (.cons (pe_fm (pv 2)) (.cons pe_str (.cons (pe_fm (pv 3)) .nil)))))))) pa_nil))) pss_nil)), ?_⟩
    walk_at "rd"
    refine ⟨n, a, b, rfl, ?_⟩
    by_cases hg : a ≤ n ∧ n ≤ b
    · rw [show (decide (a ≤ n) && decide (n ≤ b)) = true by simp [hg]]
      walk_at "rd"
      exact k hg
    · rw [show (decide (a ≤ n) && decide (n ≤ b)) = false by rw [← Bool.not_eq_true]; simpa using hg]
      walk_at "rd"
      refine r_raise ?_
      walk_at "rd"
      refine jfs (y := z) (b := 1000) (by omega) (by omega) (fun K h => ⟨_, rfl, h⟩) fun m1 h1 => ?_
      refine jc (by decide +kernel) (by omega) fun m2 h2 => ?_
      refine jfr hn (by omega) (fun K h => ⟨_, rfl, h⟩) fun m3 h3 => ?_
      refine jc (by decide +kernel) (by omega) fun m4 h4 => ?_
      refine jfi ha (by omega) (fun K h => ⟨_, rfl, h⟩) fun m5 h5 => ?_
      refine jc (by decide +kernel) (by omega) fun m6 h6 => ?_
      refine jfi hb (by omega) (fun K h => ⟨_, rfl, h⟩) fun m7 h7 => ?_
      refine jn fun y hy => ?_
      walk_at "rd"
      exact ke hg
theorem ok_rows (T : Txt mg cs) (TX : Tx K mg xs) (L : Laid K mg "made_rows" s_made_rows ["name", "rows", "most"]) : CalX P w K mg base 1 "made_rows" ["name", "rows", "most"] (spRows xs.NoCellar) := by
  refine L.calX (k := 0) sc_made_rows (fun vs H Q E h => ?_) (fun f cdv A outer s H vs Q E hr h => ?_)
  · obtain ⟨z, v, m, xs, rfl, _⟩ := h
    rfl
  · obtain ⟨z, v, m, ys, rfl, hz, hm, hv, hl, ok, k, ke⟩ := h
    have big := line_big
    have step : ∀ (D : Addr) (H' : Hp) (i : Nat) (x : V), H D = none → ys[i]? = some x → Same H H' → H' D = some (.lst (ys.take i)) → ∃ zs, H' D = some (.lst zs) ∧ zs.length < sizeLine ∧ ∃ v0, ([some x] : St) = [v0] ∧ Same H (upd H' D (.lst (zs ++ [x]))) ∧ (upd H' D (.lst (zs ++ [x]))) D = some (.lst (ys.take (i + 1))) := by
      intro D H' i x hD hx s1 hd
      refine ⟨_, hd, by rw [List.length_take]; omega, _, rfl, s1.put hD, ?_⟩
      rw [upd_same, List.take_add_one, hx]
      rfl
    rcases hv with ⟨rfl, rfl⟩ | ⟨p, rfl, hp⟩ | ⟨p, rfl, hp⟩
    · refine ⟨_, (pss_cons (ps_set (i := 3) sc_made_rows.nd rfl (Or.inl rfl) (pe_ifExp (pt_cmp (pc_isN (pv 1))) (pe_tup pa_nil) (pe_callTy (tupOfK K) rfl T.n_tuple bt_tuple (pa_cons (pe_nox (pe_comp (compOk (N := ["row"]) (own := 1) (caps := []) ["name", "rows", "most", "made"] (defScope s_made_rows) (by decide +kernel)) rfl (pi_listK K (pv 1)) (fun _ _ _ _ => (pg_name (i := 0) (show List.Nodup (["row"] : List Str) by decide +kernel) rfl (Or.inl rfl))) (fun _ _ _ _ => pf_nil) (fun _ _ _ _ => (pe_callTy (tupOfK K) rfl T.n_tuple bt_tuple (pa_cons (pv 0) pa_nil))))) pa_nil))))
      (pss_cons (ps_if (pt_cmpR op_gt (pe_callB (lenK K) rfl T.n_len bt_len (pa_cons (pv 3) pa_nil)) (pv 2) (nomark _)) (pss_one (ps_raise raises_xe rfl rfl TX.at_NoCellar TX.ex_NoCellar (pa_cons (pe_join (.cons (pe_fm (pv 0)) (.cons pe_str (.cons (pe_fm (pv 2)) .nil)))) pa_nil))) pss_nil)
      (pss_one (ps_ret (pv 3))))), ?_⟩
      walk_at "rd"
      walk_at "eq"
      walk_at "rd"
      intro q hq
      walk_at "rd"
      refine ifd (fun h => ?_) (fun h => ?_)
      · refine r_raise ?_
        walk_at "rd"
        refine jfs (y := z) (b := 1000) (by omega) (by omega) (fun K h => ⟨_, rfl, h⟩) fun m1 h1 => ?_
        refine jc (by decide +kernel) (by omega) fun m2 h2 => ?_
        refine jfi hm (by omega) (fun K h => ⟨_, rfl, h⟩) fun m3 h3 => ?_
        refine jn fun y hy => ?_
        walk_at "rd"
        exact ke (by simp at h ⊢; omega) _ (Same.upd hq)
      walk_at "rd"
      exact k (by simp at h ⊢; omega) q _ (Same.upd hq) upd_same
    · refine ⟨_, (pss_cons (ps_set (i := 3) sc_made_rows.nd rfl (Or.inl rfl) (pe_ifExp (pt_cmp (pc_isN (pv 1))) (pe_tup pa_nil) (pe_callTy (tupOfK K) rfl T.n_tuple bt_tuple (pa_cons (pe_nox (pe_comp (compOk (N := ["row"]) (own := 1) (caps := []) ["name", "rows", "most", "made"] (defScope s_made_rows) (by decide +kernel)) rfl (pi_listK K (pv 1)) (fun _ _ _ _ => (pg_name (i := 0) (show List.Nodup (["row"] : List Str) by decide +kernel) rfl (Or.inl rfl))) (fun _ _ _ _ => pf_nil) (fun _ _ _ _ => (pe_callTy (tupOfK K) rfl T.n_tuple bt_tuple (pa_cons (pv 0) pa_nil))))) pa_nil))))
      (pss_cons (ps_if (pt_cmpR op_gt (pe_callB (lenK K) rfl T.n_len bt_len (pa_cons (pv 3) pa_nil)) (pv 2) (nomark _)) (pss_one (ps_raise raises_xe rfl rfl TX.at_NoCellar TX.ex_NoCellar (pa_cons (pe_join (.cons (pe_fm (pv 0)) (.cons pe_str (.cons (pe_fm (pv 2)) .nil)))) pa_nil))) pss_nil)
      (pss_one (ps_ret (pv 3))))), ?_⟩
      walk_at "rd"
      refine ifd (fun h => nomatch h) (fun _ => ?_)
      walk_at "rd"
      intro D hD
      refine comp_lst ys (fun i σ H' => ∃ v0, σ = [v0] ∧ Same H H' ∧ H' D = some (.lst (ys.take i))) ⟨none, rfl, Same.upd hD, by rw [upd_same]; rfl⟩ ?_ ?_ ?_
      · rintro i σ H' ⟨_, rfl, s1, _⟩
        exact SqL.of (s1 _ _ hp)
      · rintro i x σ H' hx ⟨v0, rfl, s1, hd⟩
        obtain ⟨a, ys', rfl, ha⟩ := ok x (List.mem_of_getElem? hx)
        have ha1 := s1 _ _ ha
        walk_at "rd"
        exact r_tot (SqT.of ha1) (step D H' i _ hD hx s1 hd)
      · rintro σ H' ⟨v0, rfl, s1, hd⟩
        rw [List.take_length] at hd
        walk_at "rd"
        refine r_tol (SqL.of hd) fun q hq => ?_
        walk_at "rd"
        refine ifd (fun h => ?_) (fun h => ?_)
        · refine r_raise ?_
          walk_at "rd"
          refine jfs (y := z) (b := 1000) (by omega) (by omega) (fun K h => ⟨_, rfl, h⟩) fun m1 h1 => ?_
          refine jc (by decide +kernel) (by omega) fun m2 h2 => ?_
          refine jfi hm (by omega) (fun K h => ⟨_, rfl, h⟩) fun m3 h3 => ?_
          refine jn fun y hy => ?_
          walk_at "rd"
          exact ke (by omega) _ (s1.trans (Same.upd hq))
        walk_at "rd"
        exact k (by omega) q _ (s1.trans (Same.upd hq)) upd_same
    · refine ⟨_, (pss_cons (ps_set (i := 3) sc_made_rows.nd rfl (Or.inl rfl) (pe_ifExp (pt_cmp (pc_isN (pv 1))) (pe_tup pa_nil) (pe_callTy (tupOfK K) rfl T.n_tuple bt_tuple (pa_cons (pe_nox (pe_comp (compOk (N := ["row"]) (own := 1) (caps := []) ["name", "rows", "most", "made"] (defScope s_made_rows) (by decide +kernel)) rfl (pi_tupK K (pv 1)) (fun _ _ _ _ => (pg_name (i := 0) (show List.Nodup (["row"] : List Str) by decide +kernel) rfl (Or.inl rfl))) (fun _ _ _ _ => pf_nil) (fun _ _ _ _ => (pe_callTy (tupOfK K) rfl T.n_tuple bt_tuple (pa_cons (pv 0) pa_nil))))) pa_nil))))
      (pss_cons (ps_if (pt_cmpR op_gt (pe_callB (lenK K) rfl T.n_len bt_len (pa_cons (pv 3) pa_nil)) (pv 2) (nomark _)) (pss_one (ps_raise raises_xe rfl rfl TX.at_NoCellar TX.ex_NoCellar (pa_cons (pe_join (.cons (pe_fm (pv 0)) (.cons pe_str (.cons (pe_fm (pv 2)) .nil)))) pa_nil))) pss_nil)
      (pss_one (ps_ret (pv 3))))), ?_⟩
      walk_at "rd"
      refine ifd (fun h => nomatch h) (fun _ => ?_)
      walk_at "rd"
      intro D hD
      refine comp_tpl ys (fun i σ H' => ∃ v0, σ = [v0] ∧ Same H H' ∧ H' D = some (.lst (ys.take i))) ⟨none, rfl, Same.upd hD, by rw [upd_same]; rfl⟩ ?_ ?_ ?_
      · rintro i σ H' ⟨_, rfl, s1, _⟩
        exact SqT.of (s1 _ _ hp)
      · rintro i x σ H' hx ⟨v0, rfl, s1, hd⟩
        obtain ⟨a, ys', rfl, ha⟩ := ok x (List.mem_of_getElem? hx)
        have ha1 := s1 _ _ ha
        walk_at "rd"
        exact r_tot (SqT.of ha1) (step D H' i _ hD hx s1 hd)
      · rintro σ H' ⟨v0, rfl, s1, hd⟩
        rw [List.take_length] at hd
        walk_at "rd"
        refine r_tol (SqL.of hd) fun q hq => ?_
        walk_at "rd"
        refine ifd (fun h => ?_) (fun h => ?_)
        · refine r_raise ?_
          walk_at "rd"
          refine jfs (y := z) (b := 1000) (by omega) (by omega) (fun K h => ⟨_, rfl, h⟩) fun m1 h1 => ?_
          refine jc (by decide +kernel) (by omega) fun m2 h2 => ?_
          refine jfi hm (by omega) (fun K h => ⟨_, rfl, h⟩) fun m3 h3 => ?_
          refine jn fun y hy => ?_
          walk_at "rd"
          exact ke (by omega) _ (s1.trans (Same.upd hq))
        walk_at "rd"
        exact k (by omega) q _ (s1.trans (Same.upd hq)) upd_same
theorem ok_mw (T : Txt mg cs) (TX : Tx K mg xs) (L : Laid K mg "made_ways" s_made_ways ["rooms", "ways"]) (C_check_number : CalX P w K mg base 2 "check_number" ["name", "number", "least", "most"] (spCheck xs.NoCellar)) (C_made_rows : CalX P w K mg base 1 "made_rows" ["name", "rows", "most"] (spRows xs.NoCellar)) (C_is_gate : Cal P w K mg base 2 "is_gate" ["thing"] spIsGate) : CalX P w K mg base 3 "made_ways" ["rooms", "ways"] (spMW xs.NoCellar) := by
  obtain ⟨t1, e_MOST_WAYS⟩ := T.e_MOST_WAYS
  refine L.calX (k := 2) sc_made_ways (fun vs H Q E h => ?_) (fun f cdv A outer s H vs Q E hr h => ?_)
  · obtain ⟨r, v, zs, ys, rfl, _⟩ := h
    rfl
  · obtain ⟨r, v, zs, ys, rfl, hsr, hv, ok, hl, k, ke⟩ := h
    have hu := hu_of hr
    refine ⟨_, (pss_cons (ps_set (i := 2) sc_made_ways.nd rfl (Or.inl rfl) (pe_calX C_made_rows pass_xe hr (by decide) rfl (pa_cons pe_str (pa_cons (pv 1) (pa_cons (pe_glob (v := .int 20) rfl e_MOST_WAYS ⟨_, rfl⟩) pa_nil)))))
      (pss_cons (ps_for PassesOwn.leaving rfl (pi_tupK K (pv 2)) (pg_tupK (n := 4) K rfl (pgs_cons (pg_name (i := 3) sc_made_ways.nd rfl (Or.inl rfl)) (pgs_cons (pg_name (i := 4) sc_made_ways.nd rfl (Or.inl rfl)) (pgs_cons (pg_name (i := 5) sc_made_ways.nd rfl (Or.inl rfl)) (pgs_cons (pg_name (i := 6) sc_made_ways.nd rfl (Or.inl rfl)) pgs_nil))))) (pss_cons (ps_expr (pe_calX C_check_number pass_xe hr (by decide) rfl (pa_cons pe_str (pa_cons (pv 3) (pa_cons pe_int (pa_cons (pe_op op_sub (pv 0) pe_int) pa_nil))))))
      (pss_cons (ps_expr (pe_calX C_check_number pass_xe hr (by decide) rfl (pa_cons pe_str (pa_cons (pv 4) (pa_cons pe_int (pa_cons (pe_op op_sub (pv 0) pe_int) pa_nil))))))
      (pss_cons (ps_if (pt_cmpR op_eq (pv 3) (pv 4) (nomark _)) (pss_one (ps_raise raises_xe rfl rfl TX.at_NoCellar TX.ex_NoCellar (pa_cons (pe_join (.cons pe_str (.cons (pe_fm (pv 3)) (.cons pe_str .nil)))) pa_nil))) pss_nil)
      (pss_one (ps_if (pt_not (pt_val (pe_cal C_is_gate hr (by decide) rfl (pa_cons (pv 5) pa_nil)))) (pss_one (ps_raise raises_xe rfl rfl TX.at_NoCellar TX.ex_NoCellar (pa_cons (pe_join (.cons pe_str (.cons (pe_ft hr.gd (hu8_of hr) (pv 5)) (.cons pe_str .nil)))) pa_nil))) pss_nil))))))
      (pss_one (ps_ret (pv 2))))), ?_⟩
    walk_at "rd"
    refine ⟨_, v, 20, zs, rfl, by decide +kernel, sml20, hv, hl, fun x hx => ?_, fun h20 p H1 s1 hp => ?_, fun h20 H1 s1 => ke (fun g => h20 (by have := g.1; omega)) H1 s1⟩
    · obtain ⟨i, e⟩ := mem_get hx
      exact (ok i x e).row
    have no : ∀ (i : Nat) (H' : Hp), Same H H' → i < zs.length → ¬ (ys i).good r → E (.ref xs.NoCellar) none H' := fun i H' s hi hg => ke (fun g => hg (g.2 i hi)) H' s
    walk_at "rd"
    refine for_tpl zs (fun i σ H' => ∃ v3 v4 v5 v6, σ = [some (.int r), some v, some (.ref p), v3, v4, v5, v6] ∧ Same H1 H' ∧ ∀ j, j < i → (ys j).good r) ⟨none, none, none, none, rfl, Same.refl _, fun j hj => absurd hj (by omega)⟩ ?_ ?_ ?_
    · rintro i σ H' ⟨_, _, _, _, rfl, s2, _⟩
      exact SqT.of (s2 _ _ hp)
    · rintro i x σ H' hx ⟨v3, v4, v5, v6, rfl, s2, g0⟩
      have hi : i < zs.length := (List.getElem?_eq_some_iff.mp hx).1
      have s12 := s1.trans s2
      have no' : ∀ H2, Same H' H2 → ¬ (ys i).good r → E (.ref xs.NoCellar) none H2 := fun H2 s3 hg => no i H2 (s12.trans s3) hi hg
      obtain ⟨p1, g, rfl, hp1, hg, hnl, sa, sb, hzz, sn⟩ := (ok i x hx).mono s12.ts
      walk_at "rd"
      refine ⟨_, (ys i).a, 0, r - 1, rfl, by decide +kernel, sa, sml0, hsr, fun ha => ?_, fun ha => no' _ (.refl _) fun g => ha (by have := g.1; omega)⟩
      walk_at "rd"
      refine ⟨_, (ys i).b, 0, r - 1, rfl, by decide +kernel, sb, sml0, hsr, fun hb => ?_, fun hb => no' _ (.refl _) fun g => hb (by have := g.2.1; omega)⟩
      walk_at "rd"
      refine ifd (fun hab => ?_) (fun hab => ?_)
      · refine r_raise ?_
        walk_at "rd"
        refine jc (by decide +kernel) (by omega) fun m1 h1 => ?_
        refine jfi sa (by omega) (fun K h => ⟨_, rfl, h⟩) fun m2 h2 => ?_
        refine jc (by decide +kernel) (by omega) fun m3 h3 => ?_
        refine jn fun y hy => ?_
        walk_at "rd"
        exact no' _ (.refl _) fun g => g.2.2.1 hab
      walk_at "rd"
      refine ⟨g, (ys i).z, (ys i).ns, rfl, hg, by omega, fun H2 s3 => ?_⟩
      by_cases hgo : gateOk (ys i).z (ys i).ns = true
      · rw [hgo]
        walk_at "rd"
        exact ⟨_, _, _, _, rfl, s2.trans s3, fun j hj => if e : j = i then by subst e; exact ⟨by omega, by omega, hab, hgo⟩ else g0 j (by omega)⟩
      · rw [Bool.not_eq_true] at hgo
        rw [hgo]
        walk_at "rd"
        refine r_raise ?_
        walk_at "rd"
        refine jc (by decide +kernel) (by omega) fun m1 h1 => ?_
        refine jft (s3 _ _ hg) (by simp; omega) (fun y hy => ?_) (by omega) (fun K h => ⟨_, rfl, h⟩) fun m2 h2 => ?_
        · rcases List.mem_cons.mp hy with rfl | hy
          · exact hzz
          · obtain ⟨n, hn, rfl⟩ := List.mem_map.mp hy
            exact sn n hn
        refine jc (by decide +kernel) (by omega) fun m3 h3 => ?_
        refine jn fun y hy => ?_
        walk_at "rd"
        exact no' _ s3 fun g => by have := g.2.2.2; rw [hgo] at this; cases this
    · rintro σ H' ⟨v3, v4, v5, v6, rfl, s2, g0⟩
      walk_at "rd"
      exact k ⟨by omega, g0⟩ p H' (s1.trans s2) (s2 _ _ hp)
theorem ok_mp (T : Txt mg cs) (TX : Tx K mg xs) (L : Laid K mg "made_pairs" s_made_pairs ["name", "rooms", "pairs", "most_pairs", "least", "most"]) (C_check_number : CalX P w K mg base 2 "check_number" ["name", "number", "least", "most"] (spCheck xs.NoCellar)) (C_made_rows : CalX P w K mg base 1 "made_rows" ["name", "rows", "most"] (spRows xs.NoCellar)) : CalX P w K mg base 3 "made_pairs" ["name", "rooms", "pairs", "most_pairs", "least", "most"] (spMP xs.NoCellar) := by
  refine L.calX (k := 2) sc_made_pairs (fun vs H Q E h => ?_) (fun f cdv A outer s H vs Q E hr h => ?_)
  · obtain ⟨z, r, v, m, lo, hi, zs, ys, rfl, _⟩ := h
    rfl
  · obtain ⟨z, r, v, m, lo, hi, zs, ys, rfl, hz, hsr, hm, hlo, hhi, hv, ok, hl, k, ke⟩ := h
    refine ⟨_, (pss_cons (ps_set (i := 6) sc_made_pairs.nd rfl (Or.inl rfl) (pe_calX C_made_rows pass_xe hr (by decide) rfl (pa_cons (pv 0) (pa_cons (pv 2) (pa_cons (pv 3) pa_nil)))))
      (pss_cons (ps_for PassesOwn.leaving rfl (pi_tupK K (pv 6)) (pg_tupK (n := 2) K rfl (pgs_cons (pg_name (i := 7) sc_made_pairs.nd rfl (Or.inl rfl)) (pgs_cons (pg_name (i := 8) sc_made_pairs.nd rfl (Or.inl rfl)) pgs_nil))) (pss_cons (ps_expr (pe_calX C_check_number pass_xe hr (by decide) rfl (pa_cons (pe_join (.cons (pe_fm (pv 0)) (.cons pe_str .nil))) (pa_cons (pv 7) (pa_cons pe_int (pa_cons (pe_op op_sub (pv 1) pe_int) pa_nil))))))
      (pss_one (ps_expr (pe_calX C_check_number pass_xe hr (by decide) rfl (pa_cons (pe_join (.cons (pe_fm (pv 0)) (.cons pe_str .nil))) (pa_cons (pv 8) (pa_cons (pv 4) (pa_cons (pv 5) pa_nil)))))))))
      (pss_one (ps_ret (pv 6))))), ?_⟩
    walk_at "rd"
    refine ⟨z, v, m, zs, rfl, by omega, hm, hv, hl, fun x hx => ?_, fun h20 p H1 s1 hp => ?_, fun h20 H1 s1 => ke (fun g => h20 g.1) H1 s1⟩
    · obtain ⟨i, e⟩ := mem_get hx
      exact (ok i x e).row
    have no : ∀ (i : Nat) (H' : Hp), Same H H' → i < zs.length → ¬ ((0 ≤ (ys i).1 ∧ (ys i).1 < r) ∧ lo ≤ (ys i).2 ∧ (ys i).2 ≤ hi) → E (.ref xs.NoCellar) none H' := fun i H' s hi hg => ke (fun g => hg (g.2 i hi)) H' s
    walk_at "rd"
    refine for_tpl zs (fun i σ H' => ∃ v7 v8, σ = [some (.str z), some (.int r), some v, some (.int m), some (.int lo), some (.int hi), some (.ref p), v7, v8] ∧ Same H1 H' ∧ ∀ j, j < i → (0 ≤ (ys j).1 ∧ (ys j).1 < r) ∧ lo ≤ (ys j).2 ∧ (ys j).2 ≤ hi) ⟨none, none, rfl, Same.refl _, fun j hj => absurd hj (by omega)⟩ ?_ ?_ ?_
    · rintro i σ H' ⟨_, _, rfl, s2, _⟩
      exact SqT.of (s2 _ _ hp)
    · rintro i x σ H' hx ⟨v7, v8, rfl, s2, g0⟩
      have hi' : i < zs.length := (List.getElem?_eq_some_iff.mp hx).1
      have s12 := s1.trans s2
      obtain ⟨p1, rfl, hp1, sa, sn⟩ := (ok i x hx).mono s12.ts
      walk_at "rd"
      refine jfs (y := z) (b := 100) (by omega) (by omega) (fun K h => ⟨_, rfl, h⟩) fun m1 h1 => ?_
      refine jc (by decide +kernel) (by omega) fun m2 h2 => ?_
      refine jn fun y1 hy1 => ?_
      walk_at "rd"
      refine ⟨_, (ys i).1, 0, r - 1, rfl, by omega, sa, sml0, hsr, fun ha => ?_, fun ha => no i _ s12 hi' fun g => ha (by have := g.1; omega)⟩
      walk_at "rd"
      refine jfs (y := z) (b := 100) (by omega) (by omega) (fun K h => ⟨_, rfl, h⟩) fun m1 h1 => ?_
      refine jc (by decide +kernel) (by omega) fun m2 h2 => ?_
      refine jn fun y2 hy2 => ?_
      walk_at "rd"
      refine ⟨_, (ys i).2, lo, hi, rfl, by omega, sn, hlo, hhi, fun hb => ?_, fun hb => no i _ s12 hi' fun g => hb (by have := g.2; omega)⟩
      walk_at "rd"
      exact ⟨_, _, rfl, s2, fun j hj => if e : j = i then by subst e; exact ⟨by omega, by omega, by omega⟩ else g0 j (by omega)⟩
    · rintro σ H' ⟨v7, v8, rfl, s2, g0⟩
      walk_at "rd"
      exact k ⟨by omega, g0⟩ p H' (s1.trans s2) (s2 _ _ hp)
theorem ok_cellar {d1 d2 : Tok} (T : Txt mg cs) (TX : Tx K mg xs) (L : LaidD K mg "cellar" s_cellar [.none, .none, .none, .int 0 d1, .int 0 d2]) (C_check_number : CalX P w K mg base 2 "check_number" ["name", "number", "least", "most"] (spCheck xs.NoCellar)) (C_made_ways : CalX P w K mg base 3 "made_ways" ["rooms", "ways"] (spMW xs.NoCellar))
    (C_made_pairs : CalX P w K mg base 3 "made_pairs" ["name", "rooms", "pairs", "most_pairs", "least", "most"] (spMP xs.NoCellar)) : CalDX P w K mg base 4 "cellar" ["rooms", "first", "last", "ways", "things", "levers", "wheels", "bars", "water"] (spCellar xs.NoCellar) s_cellar [.none, .none, .none, .int 0 d1, .int 0 d2] := by
  obtain ⟨t1, e_MOST_ROOMS⟩ := T.e_MOST_ROOMS
  obtain ⟨t2, e_ALL_BARS⟩ := T.e_ALL_BARS
  obtain ⟨t3, e_TOP_HEIGHT⟩ := T.e_TOP_HEIGHT
  obtain ⟨t4, e_MOST_THINGS⟩ := T.e_MOST_THINGS
  obtain ⟨t5, e_MOST_LEVERS⟩ := T.e_MOST_LEVERS
  obtain ⟨t6, e_MOST_WHEELS⟩ := T.e_MOST_WHEELS
  obtain ⟨t7, e_LAST_KIND⟩ := T.e_LAST_KIND
  refine L.calX (k := 3) sc_cellar (fun vs H Q E h => ?_) (fun f cdv A outer s H vs Q E hr h => ?_)
  · obtain ⟨h, rfl, _⟩ := h
    rfl
  · obtain ⟨⟨r, f, l, b, wt, v1, v2, v3, v4, z1, z2, z3, z4, y1, y2, y3, y4⟩, rfl, o, k, ke⟩ := h
    have sr := o.sr
    have sr1 := o.sr1
    refine ⟨_, (pss_cons (ps_expr (pe_calX C_check_number pass_xe hr (by decide) rfl (pa_cons pe_str (pa_cons (pv 0) (pa_cons pe_int (pa_cons (pe_glob (v := .int 14) rfl e_MOST_ROOMS ⟨_, rfl⟩) pa_nil))))))
      (pss_cons (ps_expr (pe_calX C_check_number pass_xe hr (by decide) rfl (pa_cons pe_str (pa_cons (pv 1) (pa_cons pe_int (pa_cons (pe_op op_sub (pv 0) pe_int) pa_nil))))))
      (pss_cons (ps_expr (pe_calX C_check_number pass_xe hr (by decide) rfl (pa_cons pe_str (pa_cons (pv 2) (pa_cons pe_int (pa_cons (pe_op op_sub (pv 0) pe_int) pa_nil))))))
      (pss_cons (ps_expr (pe_calX C_check_number pass_xe hr (by decide) rfl (pa_cons pe_str (pa_cons (pv 7) (pa_cons pe_int (pa_cons (pe_glob (v := .int 255) rfl e_ALL_BARS ⟨_, rfl⟩) pa_nil))))))
      (pss_cons (ps_expr (pe_calX C_check_number pass_xe hr (by decide) rfl (pa_cons pe_str (pa_cons (pv 8) (pa_cons pe_int (pa_cons (pe_glob (v := .int 9) rfl e_TOP_HEIGHT ⟨_, rfl⟩) pa_nil))))))
      (pss_one (ps_ret (pe_tup (pa_c (pv 0) (pa_c (pv 1) (pa_c (pv 2) (pa_c (pe_calX C_made_ways pass_xe hr (by decide) rfl (pa_cons (pv 0) (pa_cons (pv 3) pa_nil))) (pa_c (pe_calX C_made_pairs pass_xe hr (by decide) rfl (pa_c pe_str (pa_c (pv 0) (pa_c (pv 4) (pa_c (pe_glob (v := .int 8) rfl e_MOST_THINGS ⟨_, rfl⟩) (pa_c pe_int (pa_c (pe_glob (v := .int 11) rfl e_LAST_KIND ⟨_, rfl⟩) pa_nil))))))) (pa_c (pe_calX C_made_pairs pass_xe hr (by decide) rfl (pa_c pe_str (pa_c (pv 0) (pa_c (pv 5) (pa_c (pe_glob (v := .int 4) rfl e_MOST_LEVERS ⟨_, rfl⟩) (pa_c pe_int (pa_c (pe_glob (v := .int 255) rfl e_ALL_BARS ⟨_, rfl⟩) pa_nil))))))) (pa_c (pe_calX C_made_pairs pass_xe hr (by decide) rfl (pa_c pe_str (pa_c (pv 0) (pa_c (pv 6) (pa_c (pe_glob (v := .int 4) rfl e_MOST_WHEELS ⟨_, rfl⟩) (pa_c pe_int (pa_c (pe_glob (v := .int 9) rfl e_TOP_HEIGHT ⟨_, rfl⟩) pa_nil))))))) (pa_c (pv 7) (pa_c (pv 8) pa_nil))))))))))))))))), ?_⟩
    unfold Hand.vs
    walk_at "rd"
    refine ⟨_, r, 1, 14, rfl, by decide +kernel, sr, sml1, sml14, fun g1 => ?_, fun n => ke (fun g => n g.r) _ (.refl _)⟩
    walk_at "rd"
    refine ⟨_, f, 0, r - 1, rfl, by decide +kernel, o.sf, sml0, sr1, fun g2 => ?_, fun n => ke (fun g => n g.f) _ (.refl _)⟩
    walk_at "rd"
    refine ⟨_, l, 0, r - 1, rfl, by decide +kernel, o.sl, sml0, sr1, fun g3 => ?_, fun n => ke (fun g => n g.l) _ (.refl _)⟩
    walk_at "rd"
    refine ⟨_, b, 0, 255, rfl, by decide +kernel, o.sb, sml0, sml255, fun g4 => ?_, fun n => ke (fun g => n g.b) _ (.refl _)⟩
    walk_at "rd"
    refine ⟨_, wt, 0, 9, rfl, by decide +kernel, o.sw, sml0, sml9, fun g5 => ?_, fun n => ke (fun g => n g.w) _ (.refl _)⟩
    walk_at "rd"
    refine ⟨r, v1, z1, y1, rfl, sr1, o.i1, o.w1, o.l1, fun g6 p1 H1 s1 h1 => ?_, fun n H1 s1 => ke (fun g => n g.g1) _ s1⟩
    have o1 := o.mono s1
    walk_at "rd"
    refine ⟨_, r, v2, 8, 0, 11, z2, y2, rfl, by decide +kernel, sr1, sml8, sml0, sml11, o1.i2, o1.w2, o.l2, fun g7 p2 H2 s2 h2 => ?_, fun n H2 s2 => ke (fun g => n g.g2) _ (s1.trans s2)⟩
    have s12 := s1.trans s2
    have o2 := o.mono s12
    walk_at "rd"
    refine ⟨_, r, v3, 4, 1, 255, z3, y3, rfl, by decide +kernel, sr1, sml4, sml1, sml255, o2.i3, o2.w3, o.l3, fun g8 p3 H3 s3 h3 => ?_, fun n H3 s3 => ke (fun g => n g.g3) _ (s12.trans s3)⟩
    have s13 := s12.trans s3
    have o3 := o.mono s13
    walk_at "rd"
    refine ⟨_, r, v4, 4, 0, 9, z4, y4, rfl, by decide +kernel, sr1, sml4, sml0, sml9, o3.i4, o3.w4, o.l4, fun g9 p4 H4 s4 h4 => ?_, fun n H4 s4 => ke (fun g => n g.g4) _ (s13.trans s4)⟩
    have s14 := s13.trans s4
    walk_at "rd"
    intro p hp
    have s5 := Same.upd (o := .tup [.int r, .int f, .int l, .ref p1, .ref p2, .ref p3, .ref p4, .int b, .int wt]) hp
    exact k ⟨g1, g2, g3, g4, g5, g6, g7, g8, g9⟩ p _ (s14.trans s5) ⟨p1, p2, p3, p4, upd_same, s5 _ _ (s4 _ _ (s3 _ _ (s2 _ _ h1))), s5 _ _ (s4 _ _ (s3 _ _ h2)), s5 _ _ (s4 _ _ h3), s5 _ _ h4⟩
end
theorem r_slA {K : PySem.W.Frag} {H : Hp} {Q : VK} {a : Addr} {xs : List V} {lo hi : Option Int} (h : H a = some (.tup xs)) (q : ∀ (r : Addr) (H' : Hp), Same H H' → H' r = some (.tup (cutV xs lo hi)) → Q (.ref r) H') : rSlTA K (.ref a) lo hi H Q :=
  ⟨a, xs, rfl, SqT.of h, fun e => q a H (Same.refl _) (by rw [e]; exact h), fun p hp => q p _ (Same.upd hp) upd_same⟩
def spCell (K : PySem.W.Frag) : Sp := fun vs H Q _ => ∃ (a : Addr) (ns : List Int) (i : Int), vs = [.ref a, .int i] ∧ SqL K H a (ns.map V.int) ∧ ns.length ≤ 63 ∧ 0 ≤ i ∧ Q (.int (ns.getD i.toNat 0)) H
def spNx (K : PySem.W.Frag) : Sp := fun vs H Q _ => ∃ (a q : Addr) (ns : List Int) (i L : Int) (H0 : Hp), vs = [.ref a, .ref q] ∧ H0 q = none ∧ Same H0 H ∧ SqL K H0 a (ns.map V.int) ∧ ns.length ≤ 63 ∧ H q = some (.lst [.int i, .int L]) ∧ 0 ≤ i ∧ i ≤ 100000 ∧ ∀ c, Q (.int c) (upd H q (.lst [.int (i + 1), .int L]))
def spPlan (K : PySem.W.Frag) (n : Nat) : Sp := fun vs H Q _ => ∃ (a q : Addr) (ns : List Int) (i L : Int) (r : Nat) (H0 : Hp), vs = [.ref a, .ref q, .int r] ∧ H0 q = none ∧ Same H0 H ∧ SqL K H0 a (ns.map V.int) ∧ ns.length ≤ 63 ∧ H q = some (.lst [.int i, .int L]) ∧ 0 ≤ i ∧ 0 ≤ L ∧ i + 2 * L ≤ 1000 ∧ r < n ∧
  ∀ (v : V) (t : Pl) (i' : Int) (H' : Hp), Same H0 H' → TSame H H' → H' q = some (.lst [.int i', .int (L - t.sz)]) → t.is H' v → t.wf → t.dp ≤ r → (t.sz : Int) ≤ L → i ≤ i' → i' ≤ i + 2 * t.sz + 1 → Q v H'
theorem one_at (y : Int) (h : 1 ≤ y ∧ y < 5) : ∃ w, w < 3 ∧ atI [V.str "walk", V.str "drop", V.str "spare", V.str "walk"] (y - 1) = some (.str (w1 w)) := by
  have hy : y = 1 ∨ y = 2 ∨ y = 3 ∨ y = 4 := by omega
  rcases hy with rfl | rfl | rfl | rfl
  · exact ⟨0, by omega, rfl⟩
  · exact ⟨1, by omega, rfl⟩
  · exact ⟨2, by omega, rfl⟩
  · exact ⟨0, by omega, rfl⟩
theorem two_at (y : Int) (h : 5 ≤ y ∧ y < 9) : ∃ w, w < 3 ∧ atI [V.str "lock", V.str "door", V.str "bar", V.str "lock"] (y - 5) = some (.str (w2 w)) := by
  have hy : y = 5 ∨ y = 6 ∨ y = 7 ∨ y = 8 := by omega
  rcases hy with rfl | rfl | rfl | rfl
  · exact ⟨0, by omega, rfl⟩
  · exact ⟨1, by omega, rfl⟩
  · exact ⟨2, by omega, rfl⟩
  · exact ⟨0, by omega, rfl⟩
theorem lk_eq {f : Str} {v : V} {l : List (Str × V)} : ((f, v) :: l).lookup f = some v := by simp [List.lookup_cons]
theorem lk_ne {f g : Str} {v : V} {l : List (Str × V)} (h : ¬ g = f) : ((f, v) :: l).lookup g = l.lookup g := by
  show (match g == f with | true => some v | false => l.lookup g) = l.lookup g
  rw [beq_eq_false_iff_ne.mpr h]
def sFs (r : Int) (lw lt ll : Addr) (k : Int) : List (Str × V) := [("rooms", .int r), ("ways", .ref lw), ("things", .ref lt), ("levers", .ref ll), ("kinds", .int k)]
section
variable {r r' k k' : Int} {lw lt ll : Addr}
theorem sf_rooms : (sFs r lw lt ll k).lookup ("rooms" : Str) = some (.int r) := lk_eq
theorem sf_ways : (sFs r lw lt ll k).lookup ("ways" : Str) = some (.ref lw) := by unfold sFs; rw [lk_ne (by decide +kernel), lk_eq]
theorem sf_things : (sFs r lw lt ll k).lookup ("things" : Str) = some (.ref lt) := by unfold sFs; rw [lk_ne (by decide +kernel), lk_ne (by decide +kernel), lk_eq]
theorem sf_levers : (sFs r lw lt ll k).lookup ("levers" : Str) = some (.ref ll) := by unfold sFs; rw [lk_ne (by decide +kernel), lk_ne (by decide +kernel), lk_ne (by decide +kernel), lk_eq]
theorem sf_kinds : (sFs r lw lt ll k).lookup ("kinds" : Str) = some (.int k) := by unfold sFs; rw [lk_ne (by decide +kernel), lk_ne (by decide +kernel), lk_ne (by decide +kernel), lk_ne (by decide +kernel), lk_eq]
theorem pfn_eq {f : Str} {v x : V} {l : List (Str × V)} : putF f v ((f, x) :: l) = (f, v) :: l := if_pos rfl
theorem pfn_ne {f g : Str} {v x : V} {l : List (Str × V)} (h : ¬ g = f) : putF f v ((g, x) :: l) = (g, x) :: putF f v l := if_neg h
theorem pfn_nil {f : Str} {v : V} : putF f v [] = [(f, v)] := rfl
theorem sf_setR : putF "rooms" (.int r') (sFs r lw lt ll k) = sFs r' lw lt ll k := pfn_eq
theorem sf_setK : putF "kinds" (.int k') (sFs r lw lt ll k) = sFs r lw lt ll k' := by
  unfold sFs
  rw [pfn_ne (by decide +kernel), pfn_ne (by decide +kernel), pfn_ne (by decide +kernel), pfn_ne (by decide +kernel), pfn_eq]
theorem sf_new : putF "kinds" (.int k) (putF "levers" (.ref ll) (putF "things" (.ref lt) (putF "ways" (.ref lw) (putF "rooms" (.int r) [])))) = sFs r lw lt ll k := by
  unfold sFs
  simp only [pfn_nil, pfn_ne (show ¬ (("rooms" : Str)) = "ways" by decide +kernel), pfn_ne (show ¬ (("rooms" : Str)) = "things" by decide +kernel), pfn_ne (show ¬ (("rooms" : Str)) = "levers" by decide +kernel), pfn_ne (show ¬ (("rooms" : Str)) = "kinds" by decide +kernel), pfn_ne (show ¬ (("ways" : Str)) = "things" by decide +kernel), pfn_ne (show ¬ (("ways" : Str)) = "levers" by decide +kernel), pfn_ne (show ¬ (("ways" : Str)) = "kinds" by decide +kernel), pfn_ne (show ¬ (("things" : Str)) = "levers" by decide +kernel), pfn_ne (show ¬ (("things" : Str)) = "kinds" by decide +kernel), pfn_ne (show ¬ (("levers" : Str)) = "kinds" by decide +kernel)]
end
structure SiteAt (cs : Cs) (H : Hp) (a dx lw lt ll : Addr) (s : Si) : Prop where
  o : H a = some (.ins cs.Site dx (sFs s.rooms lw lt ll s.kinds))
  w : LstOf WayAt H lw s.ways
  t : LstOf PairAt H lt s.things
  l : LstOf PairAt H ll s.levers
  wt : lw ≠ lt
  wl : lw ≠ ll
  tl : lt ≠ ll
structure Frm (H0 : Hp) (a lw lt ll : Addr) (H : Hp) : Prop where
  a : H0 a = none
  w : H0 lw = none
  t : H0 lt = none
  l : H0 ll = none
  s : Same H0 H
theorem TSame.oth {H : Hp} {a : Addr} {u o : HO} (h : H a = some u) (hu : ∀ xs, u ≠ .tup xs) : TSame H (upd H a o) := fun p xs e => by
  rw [upd_ne (ne_of e h (fun z => hu xs z.symm))]
  exact e
section
variable {cs : Cs} {H H' H0 : Hp} {a dx lw lt ll : Addr} {s : Si}
theorem Frm.new (F : Frm H0 a lw lt ll H) (s : Same H H') : Frm H0 a lw lt ll H' := ⟨F.a, F.w, F.t, F.l, F.s.trans s⟩
theorem Frm.ua (F : Frm H0 a lw lt ll H) {o : HO} : Frm H0 a lw lt ll (upd H a o) := ⟨F.a, F.w, F.t, F.l, F.s.put F.a⟩
theorem Frm.uw (F : Frm H0 a lw lt ll H) {o : HO} : Frm H0 a lw lt ll (upd H lw o) := ⟨F.a, F.w, F.t, F.l, F.s.put F.w⟩
theorem Frm.ut (F : Frm H0 a lw lt ll H) {o : HO} : Frm H0 a lw lt ll (upd H lt o) := ⟨F.a, F.w, F.t, F.l, F.s.put F.t⟩
theorem Frm.ul (F : Frm H0 a lw lt ll H) {o : HO} : Frm H0 a lw lt ll (upd H ll o) := ⟨F.a, F.w, F.t, F.l, F.s.put F.l⟩
theorem lst_mono {α : Type} {At : Hp → Addr → α → Prop} {q : Addr} {xs : List α} (m : ∀ p x, At H p x → At H' p x) (e : H' q = H q) (h : LstOf At H q xs) : LstOf At H' q xs := let ⟨ps, h1, h2⟩ := h; ⟨ps, by rw [e]; exact h1, h2.mono m⟩
theorem lst_same {α : Type} {At : Hp → Addr → α → Prop} {q : Addr} {xs : List α} (m : ∀ p x, At H p x → At H' p x) (e : Same H H') (h : LstOf At H q xs) : LstOf At H' q xs := let ⟨ps, h1, h2⟩ := h; ⟨ps, e _ _ h1, h2.mono m⟩
theorem lst_snoc {α : Type} {At : Hp → Addr → α → Prop} {H : Hp} {D x : Addr} {ps : List Addr} {xs : List α} {y : α} (mo : ∀ q z, At H q z → At (upd H D (.lst (ps.map V.ref ++ [.ref x]))) q z) (hr : Rows At H ps xs) (hx : At H x y) : LstOf At (upd H D (.lst (ps.map V.ref ++ [.ref x]))) D (xs ++ [y]) :=
  ⟨ps ++ [x], by rw [upd_same, List.map_append]; rfl, (hr.mono mo).snoc (mo _ _ hx)⟩
theorem SiteAt.same (S : SiteAt cs H a dx lw lt ll s) (e : Same H H') : SiteAt cs H' a dx lw lt ll s :=
  ⟨e _ _ S.o, lst_same (fun _ _ => WayAt.mono e.ts) e S.w, lst_same (fun _ _ => PairAt.mono e.ts) e S.t, lst_same (fun _ _ => PairAt.mono e.ts) e S.l, S.wt, S.wl, S.tl⟩
theorem SiteAt.nw (S : SiteAt cs H a dx lw lt ll s) : lw ≠ a := let ⟨_, h, _⟩ := S.w; ne_of h S.o (by intro z; cases z)
theorem SiteAt.nt (S : SiteAt cs H a dx lw lt ll s) : lt ≠ a := let ⟨_, h, _⟩ := S.t; ne_of h S.o (by intro z; cases z)
theorem SiteAt.nl (S : SiteAt cs H a dx lw lt ll s) : ll ≠ a := let ⟨_, h, _⟩ := S.l; ne_of h S.o (by intro z; cases z)
theorem SiteAt.ta (S : SiteAt cs H a dx lw lt ll s) {o : HO} : TSame H (upd H a o) := TSame.oth S.o (by intro xs z; cases z)
theorem SiteAt.set (S : SiteAt cs H a dx lw lt ll s) (r k : Int) : SiteAt cs (upd H a (.ins cs.Site dx (sFs r lw lt ll k))) a dx lw lt ll ⟨r, s.ways, s.things, s.levers, k⟩ :=
  ⟨upd_same, lst_mono (fun _ _ => WayAt.mono S.ta) (upd_ne S.nw) S.w, lst_mono (fun _ _ => PairAt.mono S.ta) (upd_ne S.nt) S.t, lst_mono (fun _ _ => PairAt.mono S.ta) (upd_ne S.nl) S.l, S.wt, S.wl, S.tl⟩
theorem SiteAt.addW (S : SiteAt cs H a dx lw lt ll s) {ps : List Addr} {p : Addr} {x : Way} (h1 : H lw = some (.lst (ps.map V.ref))) (h2 : Rows WayAt H ps s.ways) (hx : WayAt H p x) : SiteAt cs (upd H lw (.lst (ps.map V.ref ++ [.ref p]))) a dx lw lt ll (s.way x) :=
  have ts : TSame H (upd H lw (.lst (ps.map V.ref ++ [.ref p]))) := TSame.lst h1
  ⟨by rw [upd_ne S.nw.symm]; exact S.o, lst_snoc (fun _ _ => WayAt.mono ts) h2 hx, lst_mono (fun _ _ => PairAt.mono ts) (upd_ne S.wt.symm) S.t, lst_mono (fun _ _ => PairAt.mono ts) (upd_ne S.wl.symm) S.l, S.wt, S.wl, S.tl⟩
theorem SiteAt.addT (S : SiteAt cs H a dx lw lt ll s) {ps : List Addr} {p : Addr} {x : Int × Int} (h1 : H lt = some (.lst (ps.map V.ref))) (h2 : Rows PairAt H ps s.things) (hx : PairAt H p x) : SiteAt cs (upd H lt (.lst (ps.map V.ref ++ [.ref p]))) a dx lw lt ll (s.thing x) :=
  have ts : TSame H (upd H lt (.lst (ps.map V.ref ++ [.ref p]))) := TSame.lst h1
  ⟨by rw [upd_ne S.nt.symm]; exact S.o, lst_mono (fun _ _ => WayAt.mono ts) (upd_ne S.wt) S.w, lst_snoc (fun _ _ => PairAt.mono ts) h2 hx, lst_mono (fun _ _ => PairAt.mono ts) (upd_ne S.tl.symm) S.l, S.wt, S.wl, S.tl⟩
theorem SiteAt.addL (S : SiteAt cs H a dx lw lt ll s) {ps : List Addr} {p : Addr} {x : Int × Int} (h1 : H ll = some (.lst (ps.map V.ref))) (h2 : Rows PairAt H ps s.levers) (hx : PairAt H p x) : SiteAt cs (upd H ll (.lst (ps.map V.ref ++ [.ref p]))) a dx lw lt ll (s.lever x) :=
  have ts : TSame H (upd H ll (.lst (ps.map V.ref ++ [.ref p]))) := TSame.lst h1
  ⟨by rw [upd_ne S.nl.symm]; exact S.o, lst_mono (fun _ _ => WayAt.mono ts) (upd_ne S.wl) S.w, lst_mono (fun _ _ => PairAt.mono ts) (upd_ne S.tl) S.t, lst_snoc (fun _ _ => PairAt.mono ts) h2 hx, S.wt, S.wl, S.tl⟩
end

def spRoom (cs : Cs) : Sp := fun vs H Q _ => ∃ (a dx lw lt ll g : Addr) (h : Int) (gt : Gt) (b : Bool) (s : Si) (H0 : Hp), vs = [.ref a, .int h, .ref g, .bl b] ∧ H g = some (.tup gt.vs) ∧ SiteAt cs H a dx lw lt ll s ∧ Frm H0 a lw lt ll H ∧ s.ways.length ≤ 1000 ∧ ∀ H', Frm H0 a lw lt ll H' → TSame H H' → SiteAt cs H' a dx lw lt ll (s.room h gt b) → Q (.int s.rooms) H'
def spGate (cs : Cs) : Sp := fun vs H Q _ => ∃ (a dx lw lt ll : Addr) (w : Nat) (r : Int) (s : Si) (H0 : Hp), vs = [.ref a, .str (w2 w), .int r] ∧ w < 3 ∧ SiteAt cs H a dx lw lt ll s ∧ Frm H0 a lw lt ll H ∧ s.things.length ≤ 1000 ∧ s.levers.length ≤ 20 ∧ ∀ (g : Addr) (H' : Hp), Frm H0 a lw lt ll H' → TSame H H' → SiteAt cs H' a dx lw lt ll (s.gate w r) → H' g = some (.tup (s.gt w).vs) → Q (.ref g) H'
def spBuild (cs : Cs) (n : Nat) : Sp := fun vs H Q _ => ∃ (a dx lw lt ll : Addr) (v : V) (t : Pl) (h : Int) (s : Si) (H0 : Hp), vs = [.ref a, v, .int h] ∧ t.is H v ∧ t.wf ∧ t.dp < n ∧ SiteAt cs H a dx lw lt ll s ∧ Frm H0 a lw lt ll H ∧ s.Ok ∧ 0 ≤ h ∧ h < s.rooms ∧ s.ways.length + t.wy ≤ 20 ∧ s.things.length + t.th ≤ 20 ∧ s.levers.length + t.lv ≤ 20 ∧
  ∀ H', Frm H0 a lw lt ll H' → TSame H H' → SiteAt cs H' a dx lw lt ll (bld t s h).1 → Q (.int (bld t s h).2) H'
section
variable {P : Program} {w : World} {K : PySem.W.Frag} {mg : Str → Option Value} {base : Heap} {xs : Xs} {cs : Cs}
theorem cal_none {x : Str} {st : Stmt} {ps : List Str} {sp : Sp} (L : Laid K mg x st ps) (k : Nat) (h : ∀ vs H Q E, ¬ sp vs H Q E) : Cal P w K mg base k x ps sp := by
  obtain ⟨f, fd, F, m, b⟩ := L.ex
  exact ⟨f, fd, ⟨fun vs H Q E z => absurd z (h vs H Q E), fun _ _ _ _ _ _ _ _ _ _ _ _ _ z => absurd z (h _ _ _ _)⟩, m, F.kp, b⟩
theorem ok_room (T : Txt mg cs) (TC : Tcl K cs) (L : Laid K mg "new_room" s_new_room ["site", "here", "gate", "back"]) : Cal P w K mg base 1 "new_room" ["site", "here", "gate", "back"] (spRoom cs) := by
  refine L.cal (k := 0) sc_new_room (fun vs H Q E h => ?_) (fun f cdv A outer s H vs Q E hr h => ?_)
  · obtain ⟨a, dx, lw, lt, ll, g, h, gt, b, s, H0, rfl, _⟩ := h
    rfl
  · obtain ⟨a, dx, lw, lt, ll, g, h, gt, b, s, H0, rfl, hg, S, F, hl, k⟩ := h
    have big := line_big
    refine ⟨_, (pss_cons (ps_set (i := 4) sc_new_room.nd rfl (Or.inl rfl) (pe_fldK K (pv 0) rfl))
      (pss_cons (ps_fldaugK K (pv 0) pe_int in_add)
      (pss_cons (ps_expr (pe_bm PySem.F.plainAttrs_list PySem.F.slot_list_append PySem.F.type_list_append mt_append (pe_fldK K (pv 0) rfl) (pa_cons (pe_tup (pa_cons (pv 1) (pa_cons (pv 4) (pa_cons (pv 2) (pa_cons (pv 3) pa_nil))))) pa_nil)))
      (pss_one (ps_ret (pv 4)))))), ?_⟩
    walk_at "rd"
    refine r_fld S.o TC.cl_Site TC.no_Site_rooms sf_rooms ?_
    walk_at "rd"
    refine r_fldaug rfl S.o TC.cl_Site TC.no_Site_rooms sf_rooms (by show 5 < 1000; omega) ?_
    rw [sf_setR]
    have S1 := S.set (s.rooms + 1) s.kinds
    have F1 := F.ua (o := .ins cs.Site dx (sFs (s.rooms + 1) lw lt ll s.kinds))
    have t1 := S.ta (o := .ins cs.Site dx (sFs (s.rooms + 1) lw lt ll s.kinds))
    generalize upd H a (.ins cs.Site dx (sFs (s.rooms + 1) lw lt ll s.kinds)) = H1 at S1 F1 t1 ⊢
    obtain ⟨ps, w1, w2⟩ := S1.w
    have w2' : Rows WayAt H1 ps s.ways := w2
    have lp : ps.length ≤ 1000 := by have := w2'.1; omega
    walk_at "rd"
    refine r_fld S1.o TC.cl_Site TC.no_Site_ways sf_ways ?_
    walk_at "rd"
    intro p hp
    generalize hG : upd _ p _ = H2
    have s2 := sm_of hG hp
    have h2 := at_of hG
    have S2 := S1.same s2
    have w1' := s2 _ _ w1
    walk_at "rd"
    refine r_app w1' (by rw [List.length_map]; omega) ?_
    have S3 := S2.addW (ps := ps) (p := p) (x := ⟨h, s.rooms, gt, b⟩) w1' (w2'.mono fun _ _ => WayAt.mono s2.ts) ⟨g, h2, s2 _ _ (t1 _ _ hg)⟩
    have F3 := (F1.new s2).uw (o := .lst (ps.map V.ref ++ [.ref p]))
    walk_at "rd"
    exact k _ F3 (t1.trans (s2.ts.trans (TSame.lst w1'))) S3
theorem ok_ngate (T : Txt mg cs) (TC : Tcl K cs) (L : Laid K mg "new_gate" s_new_gate ["site", "word", "room"]) : Cal P w K mg base 1 "new_gate" ["site", "word", "room"] (spGate cs) := by
  refine L.cal (k := 0) sc_new_gate (fun vs H Q E h => ?_) (fun f cdv A outer s H vs Q E hr h => ?_)
  · obtain ⟨a, dx, lw, lt, ll, w, r, s, H0, rfl, _⟩ := h
    rfl
  · obtain ⟨a, dx, lw, lt, ll, w, r, s, H0, rfl, hw, S, F, hl, hv, k⟩ := h
    have big := line_big
    refine ⟨_, (pss_cons (ps_if (pt_cmpR op_eq (pv 1) pe_str (nomark _)) (pss_cons (ps_set (i := 3) sc_new_gate.nd rfl (Or.inl rfl) (pe_callB (lenK K) rfl T.n_len bt_len (pa_cons (pe_fldK K (pv 0) rfl) pa_nil)))
      (pss_cons (ps_expr (pe_bm PySem.F.plainAttrs_list PySem.F.slot_list_append PySem.F.type_list_append mt_append (pe_fldK K (pv 0) rfl) (pa_cons (pe_tup (pa_cons (pv 2) (pa_cons (pe_op op_shl pe_int (pv 3)) pa_nil))) pa_nil)))
      (pss_one (ps_ret (pe_tup (pa_cons pe_str (pa_cons (pv 3) pa_nil))))))) pss_nil)
      (pss_cons (ps_set (i := 4) sc_new_gate.nd rfl (Or.inl rfl) (pe_fldK K (pv 0) rfl))
      (pss_cons (ps_fldaugK K (pv 0) pe_int in_add)
      (pss_cons (ps_expr (pe_bm PySem.F.plainAttrs_list PySem.F.slot_list_append PySem.F.type_list_append mt_append (pe_fldK K (pv 0) rfl) (pa_cons (pe_tup (pa_cons (pv 2) (pa_cons (pv 4) pa_nil))) pa_nil)))
      (pss_one (ps_ret (pe_tup (pa_cons (pe_ifExp (pt_cmpR op_eq (pv 1) pe_str (nomark _)) pe_str pe_str) (pa_cons (pv 4) pa_nil))))))))), ?_⟩
    by_cases e2 : w = 2
    · subst e2
      obtain ⟨ps, l1, l2⟩ := S.l
      have lp : ps.length = s.levers.length := l2.1
      walk_at "rd"
      rw [decide_eq_true (show w2 2 = "bar" from rfl)]
      walk_at "rd"
      refine r_fld S.o TC.cl_Site TC.no_Site_levers sf_levers ?_
      walk_at "rd"
      refine r_fld S.o TC.cl_Site TC.no_Site_levers sf_levers ?_
      have eb : (((ps.map V.ref).length : Nat) : Int) = (s.levers.length : Int) := by rw [List.length_map, lp]
      rw [eb]
      walk_at "rd"
      try refine r_I (show CPow 1 (s.levers.length : Int) from ⟨by omega, by omega, by omega⟩) ?_
      walk_at "rd"
      intro p hp
      generalize hG : upd _ p _ = H2
      have s2 := sm_of hG hp
      have h2 := at_of hG
      have S2 := S.same s2
      have l1' := s2 _ _ l1
      walk_at "rd"
      refine r_app l1' (by rw [List.length_map]; omega) ?_
      have S3 := S2.addL (ps := ps) (p := p) (x := (r, 2 ^ s.levers.length)) l1' (l2.mono fun _ _ => PairAt.mono s2.ts) (by
        show H2 p = some (.tup [.int r, .int (2 ^ s.levers.length)])
        rw [h2, Int.one_mul, Int.toNat_natCast])
      have F3 := (F.new s2).ul (o := .lst (ps.map V.ref ++ [.ref p]))
      have t3 := s2.ts.trans (TSame.lst (o := .lst (ps.map V.ref ++ [.ref p])) l1')
      generalize upd H2 ll (.lst (ps.map V.ref ++ [.ref p])) = H3 at S3 F3 t3 ⊢
      walk_at "rd"
      intro q hq
      exact k q _ (F3.new (Same.upd hq)) (t3.trans (TSame.new hq)) (S3.same (Same.upd hq)) upd_same
    · have nb : ¬ w2 w = "bar" := by
        have : w = 0 ∨ w = 1 := by omega
        rcases this with rfl | rfl
        · exact s_lb
        · exact s_ob
      walk_at "rd"
      rw [decide_eq_false nb]
      walk_at "rd"
      refine r_fld S.o TC.cl_Site TC.no_Site_kinds sf_kinds ?_
      walk_at "rd"
      refine r_fldaug rfl S.o TC.cl_Site TC.no_Site_kinds sf_kinds (by show 5 < 1000; omega) ?_
      rw [sf_setK]
      have S1 : SiteAt cs _ a dx lw lt ll s.kind := S.set s.rooms (s.kinds + 1)
      have F1 := F.ua (o := .ins cs.Site dx (sFs s.rooms lw lt ll (s.kinds + 1)))
      have t1 := S.ta (o := .ins cs.Site dx (sFs s.rooms lw lt ll (s.kinds + 1)))
      generalize upd H a (.ins cs.Site dx (sFs s.rooms lw lt ll (s.kinds + 1))) = H1 at S1 F1 t1 ⊢
      obtain ⟨ps, l1, l2⟩ := S1.t
      have lp : ps.length = s.things.length := l2.1
      walk_at "rd"
      refine r_fld S1.o TC.cl_Site TC.no_Site_things sf_things ?_
      walk_at "rd"
      intro p hp
      generalize hG : upd _ p _ = H2
      have s2 := sm_of hG hp
      have h2 := at_of hG
      have S2 := S1.same s2
      have l1' := s2 _ _ l1
      walk_at "rd"
      refine r_app l1' (by rw [List.length_map]; omega) ?_
      have S3 := S2.addT (ps := ps) (p := p) (x := (r, s.kinds)) l1' (l2.mono fun _ _ => PairAt.mono s2.ts) h2
      have F3 := (F1.new s2).ut (o := .lst (ps.map V.ref ++ [.ref p]))
      have t3 := t1.trans (s2.ts.trans (TSame.lst (o := .lst (ps.map V.ref ++ [.ref p])) l1'))
      generalize upd H2 lt (.lst (ps.map V.ref ++ [.ref p])) = H3 at S3 F3 t3 ⊢
      have eg : s.gate w r = s.kind.thing (r, s.kinds) := if_neg e2
      have eh : s.gt w = if w = 0 then .need s.kinds else .door s.kinds := if_neg e2
      rw [eg, eh] at k
      by_cases e0 : w = 0
      · subst e0
        rw [if_pos rfl] at k
        walk_at "rd"
        rw [decide_eq_true (show w2 0 = "lock" from rfl)]
        walk_at "rd"
        intro q hq
        exact k q _ (F3.new (Same.upd hq)) (t3.trans (TSame.new hq)) (S3.same (Same.upd hq)) upd_same
      · have nl : ¬ w2 w = "lock" := by
          have : w = 1 := by omega
          subst this
          exact sy s_lo
        rw [if_neg e0] at k
        walk_at "rd"
        rw [decide_eq_false nl]
        walk_at "rd"
        intro q hq
        exact k q _ (F3.new (Same.upd hq)) (t3.trans (TSame.new hq)) (S3.same (Same.upd hq)) upd_same
theorem w2_new {w : Nat} (hw : w < 3) : ¬ w2 w = "end" ∧ ¬ w2 w = "spare" ∧ ¬ w2 w = "walk" ∧ ¬ w2 w = "drop" := by
  have : w = 0 ∨ w = 1 ∨ w = 2 := by omega
  rcases this with rfl | rfl | rfl
  · exact ⟨sy s_le, sy s_sl, sy s_wl, sy s_dl⟩
  · exact ⟨sy s_oe, sy s_so, sy s_wo, sy s_do⟩
  · exact ⟨sy s_be, sy s_sb, sy s_wb, sy s_db⟩
theorem build_step (n : Nat) (T : Txt mg cs) (TC : Tcl K cs) (L : Laid K mg "build" s_build ["site", "plan", "here"]) (C_new_room : Cal P w K mg base 1 "new_room" ["site", "here", "gate", "back"] (spRoom cs)) (C_new_gate : Cal P w K mg base 1 "new_gate" ["site", "word", "room"] (spGate cs)) (C_build : Cal P w K mg base (n + 1) "build" ["site", "plan", "here"] (spBuild cs n)) : Cal P w K mg base (n + 1 + 1) "build" ["site", "plan", "here"] (spBuild cs (n + 1)) := by
  refine L.cal (k := n + 1) sc_build (fun vs H Q E h => ?_) (fun f cdv A outer s H vs Q E hr h => ?_)
  · obtain ⟨a, dx, lw, lt, ll, v, t, h, s, H0, rfl, _⟩ := h
    rfl
  · obtain ⟨a, dx, lw, lt, ll, v, t, h, s, H0, rfl, it, tw, td, S, F, so, h0, h1, bw, bt, bl, k⟩ := h
    have big := line_big
    obtain ⟨t1, e_SPARE_KIND⟩ := T.e_SPARE_KIND
    refine ⟨_, (pss_cons (ps_set (i := 3) sc_build.nd rfl (Or.inl rfl) (pe_ix (ix_tupK K) (pv 1) pe_int (fun _ _ => rfl)))
      (pss_cons (ps_if (pt_cmpR op_eq (pv 3) pe_str (nomark _)) (pss_one (ps_ret (pv 2))) pss_nil)
      (pss_cons (ps_if (pt_cmpR op_eq (pv 3) pe_str (nomark _)) (pss_cons (ps_expr (pe_bm PySem.F.plainAttrs_list PySem.F.slot_list_append PySem.F.type_list_append mt_append (pe_fldK K (pv 0) rfl) (pa_cons (pe_tup (pa_cons (pv 2) (pa_cons (pe_glob (v := .int 11) rfl e_SPARE_KIND ⟨_, rfl⟩) pa_nil))) pa_nil)))
      (pss_one (ps_ret (pe_cal C_build hr (by omega) rfl (pa_cons (pv 0) (pa_cons (pe_ix (ix_tupK K) (pv 1) pe_int (fun _ _ => rfl)) (pa_cons (pv 2) pa_nil))))))) pss_nil)
      (pss_cons (ps_if (PW.pt (pw_or (pt_cmpR op_eq (pv 3) pe_str (nomark _)) (pw_or1 (pt_cmpR op_eq (pv 3) pe_str (nomark _))))) (pss_one (ps_ret (pe_cal C_build hr (by omega) rfl (pa_cons (pv 0) (pa_cons (pe_ix (ix_tupK K) (pv 1) pe_int (fun _ _ => rfl)) (pa_cons (pe_cal C_new_room hr (by omega) rfl (pa_cons (pv 0) (pa_cons (pv 2) (pa_cons (pe_tup (pa_cons pe_str pa_nil)) (pa_cons (pe_cmpR op_eq (pv 3) pe_str (nomark _)) pa_nil))))) pa_nil)))))) pss_nil)
      (pss_cons (ps_set (i := 4) sc_build.nd rfl (Or.inl rfl) (pe_cal C_build hr (by omega) rfl (pa_cons (pv 0) (pa_cons (pe_ix (ix_tupK K) (pv 1) pe_int (fun _ _ => rfl)) (pa_cons (pv 2) pa_nil)))))
      (pss_cons (ps_set (i := 5) sc_build.nd rfl (Or.inl rfl) (pe_cal C_new_gate hr (by omega) rfl (pa_cons (pv 0) (pa_cons (pv 3) (pa_cons (pv 4) pa_nil)))))
      (pss_cons (ps_if (pt_cmpR op_ne (pv 4) (pv 2) (nomark _)) (pss_one (ps_expr (pe_bm PySem.F.plainAttrs_list PySem.F.slot_list_append PySem.F.type_list_append mt_append (pe_fldK K (pv 0) rfl) (pa_cons (pe_tup (pa_cons (pv 4) (pa_cons (pv 2) (pa_cons (pe_tup (pa_cons pe_str pa_nil)) (pa_cons pe_bl pa_nil))))) pa_nil)))) pss_nil)
      (pss_one (ps_ret (pe_cal C_build hr (by omega) rfl (pa_cons (pv 0) (pa_cons (pe_ix (ix_tupK K) (pv 1) pe_int (fun _ _ => rfl)) (pa_cons (pe_cal C_new_room hr (by omega) rfl (pa_cons (pv 0) (pa_cons (pv 2) (pa_cons (pv 5) (pa_cons pe_bl pa_nil))))) pa_nil))))))))))))), ?_⟩
    cases t with
    | nd =>
      obtain ⟨p, rfl, hp⟩ := it
      walk_at "rd"
      walk_at "eq"
      walk_at "rd"
      exact k H F (TSame.refl _) S
    | one wd x =>
      obtain ⟨p, u, rfl, hp, iu⟩ := it
      have xw : wd < 3 ∧ x.wf := tw
      have xd : x.dp + 1 < n + 1 := td
      by_cases e2 : wd = 2
      · subst e2
        have eb : bld (.one 2 x) s h = bld x (s.thing (h, 11)) h := by show (if (2 : Nat) = 2 then _ else _) = _; rw [if_pos rfl]
        rw [eb] at k
        have xt : (Pl.one 2 x).th = 1 + x.th := rfl
        have xy : (Pl.one 2 x).wy = 0 + x.wy := rfl
        have xl : (Pl.one 2 x).lv = x.lv := rfl
        obtain ⟨ps, l1, l2⟩ := S.t
        have lp : ps.length = s.things.length := l2.1
        have hp' : H p = some (.tup [.str "spare", u]) := hp
        walk_at "rd"
        refine ifd (fun z => absurd z (sy s_se)) (fun _ => ?_)
        walk_at "rd"
        walk_at "eq"
        walk_at "rd"
        refine r_fld S.o TC.cl_Site TC.no_Site_things sf_things ?_
        walk_at "rd"
        intro q hq
        generalize hG : upd _ q _ = H2
        have s2 := sm_of hG hq
        have h2 := at_of hG
        have S2 := S.same s2
        have l1' := s2 _ _ l1
        walk_at "rd"
        refine r_app l1' (by rw [List.length_map]; omega) ?_
        have S3 := S2.addT (ps := ps) (p := q) (x := (h, 11)) l1' (l2.mono fun _ _ => PairAt.mono s2.ts) h2
        have F3 := (F.new s2).ut (o := .lst (ps.map V.ref ++ [.ref q]))
        have t3 := s2.ts.trans (TSame.lst (o := .lst (ps.map V.ref ++ [.ref q])) l1')
        generalize upd H2 lt (.lst (ps.map V.ref ++ [.ref q])) = H3 at S3 F3 t3 ⊢
        have hp3 := t3 _ _ hp'
        have sl : (s.thing (h, 11)).things.length = s.things.length + 1 := by show (s.things ++ [_]).length = _; simp
        walk_at "rd"
        exact ⟨a, dx, lw, lt, ll, u, x, h, _, H0, rfl, Pl.mono t3 iu, xw.2, by omega, S3, F3, so.spare h0 h1, h0, h1, by show s.ways.length + _ ≤ _; omega, by omega, by show s.levers.length + _ ≤ _; omega, fun H4 F4 t4 S4 => k H4 F4 (t3.trans t4) S4⟩
      · have eb : bld (.one wd x) s h = bld x (s.room h .plain (decide (wd = 0))) s.rooms := by show (if wd = 2 then _ else _) = _; rw [if_neg e2]
        rw [eb] at k
        have xt : (Pl.one wd x).th = 0 + x.th := by show (if wd = 2 then 1 else 0) + x.th = _; rw [if_neg e2]
        have xy : (Pl.one wd x).wy = 1 + x.wy := by show (if wd = 2 then 0 else 1) + x.wy = _; rw [if_neg e2]
        have xl : (Pl.one wd x).lv = x.lv := rfl
        have r1 := so.r
        have sl : (s.room h .plain (decide (wd = 0))).ways.length = s.ways.length + 1 := by show (s.ways ++ [_]).length = _; simp
        have fin : ∀ (b : Bool) (H3 : Hp) (E' : XK), b = decide (wd = 0) → TSame H H3 → Frm H0 a lw lt ll H3 → SiteAt cs H3 a dx lw lt ll (s.room h .plain b) → spBuild cs n [.ref a, u, .int s.rooms] H3 Q E' := by
          rintro b H3 E' rfl ts F3 S3
          exact ⟨a, dx, lw, lt, ll, u, x, s.rooms, _, H0, rfl, Pl.mono ts iu, xw.2, by omega, S3, F3, so.room h0 h1 trivial, by omega, by show s.rooms < s.rooms + 1; omega, by omega, by show s.things.length + _ ≤ _; omega, by show s.levers.length + _ ≤ _; omega, fun H4 F4 t4 S4 => k H4 F4 (ts.trans t4) S4⟩
        have hw : wd = 0 ∨ wd = 1 := by omega
        rcases hw with rfl | rfl
        · have hp' : H p = some (.tup [.str "walk", u]) := hp
          walk_at "rd"
          refine ifd (fun z => absurd z (sy s_we)) (fun _ => ?_)
          walk_at "rd"
          refine ifd (fun z => absurd z s_ws) (fun _ => ?_)
          walk_at "rd"
          walk_at "eq"
          walk_at "rd"
          intro g hg
          generalize hG : upd _ g _ = H2
          have s2 := sm_of hG hg
          have h2 := at_of hG
          walk_at "rd"
          rw [decide_eq_true (rfl : ("walk" : Str) = "walk")]
          refine ⟨a, dx, lw, lt, ll, g, h, .plain, true, s, H0, rfl, h2, S.same s2, F.new s2, by omega, fun H3 F3 t3 S3 => ?_⟩
          walk_at "rd"
          exact fin true H3 _ rfl (s2.ts.trans t3) F3 S3
        · have hp' : H p = some (.tup [.str "drop", u]) := hp
          walk_at "rd"
          refine ifd (fun z => absurd z (sy s_de)) (fun _ => ?_)
          walk_at "rd"
          refine ifd (fun z => absurd z s_ds) (fun _ => ?_)
          walk_at "rd"
          refine ifd (fun z => absurd z (sy s_wd)) (fun _ => ?_)
          walk_at "rd"
          walk_at "eq"
          walk_at "rd"
          intro g hg
          generalize hG : upd _ g _ = H2
          have s2 := sm_of hG hg
          have h2 := at_of hG
          walk_at "rd"
          rw [decide_eq_false (sy s_wd)]
          refine ⟨a, dx, lw, lt, ll, g, h, .plain, false, s, H0, rfl, h2, S.same s2, F.new s2, by omega, fun H3 F3 t3 S3 => ?_⟩
          walk_at "rd"
          exact fin false H3 _ rfl (s2.ts.trans t3) F3 S3
    | two wd x y =>
      obtain ⟨p, u1, u2, rfl, hp, iu1, iu2⟩ := it
      have xw : wd < 3 ∧ x.wf ∧ y.wf := tw
      have xd : max x.dp y.dp + 1 < n + 1 := td
      obtain ⟨n1, n2, n3, n4⟩ := w2_new xw.1
      have xt : (Pl.two wd x y).th = x.th + y.th + (if wd = 2 then 0 else 1) := rfl
      have xy : (Pl.two wd x y).wy = x.wy + y.wy + 1 + (if x.ends = true then 0 else 1) := rfl
      have xl : (Pl.two wd x y).lv = x.lv + y.lv + (if wd = 2 then 1 else 0) := rfl
      have B := bld_ok x s h so h0 h1
      have eb : bld (.two wd x y) s h = bld y ((((bld x s h).1.gate wd (bld x s h).2).bk (bld x s h).2 h).room h ((bld x s h).1.gt wd) true) (((bld x s h).1.gate wd (bld x s h).2).bk (bld x s h).2 h).rooms := rfl
      rw [eb] at k
      have fst : ∀ (R : VK) (E' : XK), (∀ H1, Frm H0 a lw lt ll H1 → TSame H H1 → SiteAt cs H1 a dx lw lt ll (bld x s h).1 → R (.int (bld x s h).2) H1) → spBuild cs n [.ref a, u1, .int h] H R E' := fun R E' q =>
        ⟨a, dx, lw, lt, ll, u1, x, h, s, H0, rfl, iu1, xw.2.1, by omega, S, F, so, h0, h1, by omega, by omega, by omega, q⟩
      generalize bld x s h = r at B k fst
      obtain ⟨r1, r2⟩ := r
      have B1 : r1.Ok := B.ok
      have B2 : 0 ≤ r2 ∧ r2 < r1.rooms := B.e
      have B3 : r1.rooms = s.rooms + x.rm := B.rm
      have B4 : r1.ways.length = s.ways.length + x.wy := B.wy
      have B5 : r1.things.length = s.things.length + x.th := B.th
      have B6 : r1.levers.length = s.levers.length + x.lv := B.lv
      have ee : (if r2 = h then 0 else 1) = (if x.ends = true then 0 else 1) := by
        cases hx : x.ends with
        | true => have : r2 = h := B.same hx; rw [if_pos this]; rfl
        | false => have : s.rooms ≤ r2 := B.other hx; rw [if_neg (by omega)]; rfl
      have go := B1.gate wd B2.1 B2.2
      have gr := r1.gate_rooms wd r2
      have ko := go.bk (e := r2) (h := h) ⟨h0, by omega⟩ ⟨B2.1, by omega⟩
      have kr := (r1.gate wd r2).bk_rooms r2 h
      have gb := Si.gt_ok B1 wd r2
      have kk := (r1.gate wd r2).bk_kinds r2 h
      have kl := (r1.gate wd r2).bk_levers r2 h
      have kt := (r1.gate wd r2).bk_things r2 h
      have kw := (r1.gate wd r2).bk_ways r2 h
      have gw := r1.gate_ways wd r2
      have gt := r1.gate_things wd r2
      have gl := r1.gate_levers wd r2
      have hr0 := ko.r
      have ro := ko.room (h := h) (g := r1.gt wd) (bk := true) h0 (by omega) (by rw [kk, kl]; exact gb)
      have ew : (((r1.gate wd r2).bk r2 h).room h (r1.gt wd) true).ways.length = ((r1.gate wd r2).bk r2 h).ways.length + 1 := by show (_ ++ [_]).length = _; simp
      rw [gw, ee] at kw
      have fin : ∀ (H6 : Hp) (E' : XK), TSame H H6 → Frm H0 a lw lt ll H6 → SiteAt cs H6 a dx lw lt ll (((r1.gate wd r2).bk r2 h).room h (r1.gt wd) true) → spBuild cs n [.ref a, u2, .int ((r1.gate wd r2).bk r2 h).rooms] H6 Q E' := by
        intro H6 E' ts F6 S6
        refine ⟨a, dx, lw, lt, ll, u2, y, _, _, H0, rfl, Pl.mono ts iu2, xw.2.2, by omega, S6, F6, ro, by omega, by show _ < _ + (1 : Int); omega, by omega, ?_, ?_, fun H4 F4 t4 S4 => k H4 F4 (ts.trans t4) S4⟩
        · show ((r1.gate wd r2).bk r2 h).things.length + _ ≤ _
          rw [kt]
          omega
        · show ((r1.gate wd r2).bk r2 h).levers.length + _ ≤ _
          rw [kl]
          omega
      walk_at "rd"
      refine ifd (fun z => absurd z n1) (fun _ => ?_)
      walk_at "rd"
      refine ifd (fun z => absurd z n2) (fun _ => ?_)
      walk_at "rd"
      refine ifd (fun z => absurd z n3) (fun _ => ?_)
      walk_at "rd"
      refine ifd (fun z => absurd z n4) (fun _ => ?_)
      walk_at "rd"
      refine fst _ _ fun H1 F1 t1 S1 => ?_
      walk_at "rd"
      refine ⟨a, dx, lw, lt, ll, wd, r2, r1, H0, rfl, xw.1, S1, F1, by omega, by omega, fun g H2 F2 t2 S2 hg => ?_⟩
      have t12 := t1.trans t2
      have hp2 := t12 _ _ hp
      walk_at "rd"
      refine ifn (fun ne => ?_) (fun e => ?_)
      · have ek : (r1.gate wd r2).bk r2 h = (r1.gate wd r2).way ⟨r2, h, .plain, false⟩ := if_neg ne
        obtain ⟨ps, w1, w2⟩ := S2.w
        have lp : ps.length ≤ 1000 := by have := w2.1; rw [gw] at this; omega
        walk_at "rd"
        refine r_fld S2.o TC.cl_Site TC.no_Site_ways sf_ways ?_
        walk_at "rd"
        intro p3 hp3
        generalize hG3 : upd _ p3 _ = H3
        have s3 := sm_of hG3 hp3
        have h3 := at_of hG3
        walk_at "rd"
        intro p4 hp4
        generalize hG4 : upd _ p4 _ = H4
        have s4 := sm_of hG4 hp4
        have h4 := at_of hG4
        have s34 := s3.trans s4
        have w1' := s34 _ _ w1
        walk_at "rd"
        refine r_app w1' (by rw [List.length_map]; omega) ?_
        have S5 := (S2.same s34).addW (ps := ps) (p := p4) (x := ⟨r2, h, .plain, false⟩) w1' (w2.mono fun _ _ => WayAt.mono s34.ts) ⟨p3, h4, s4 _ _ h3⟩
        rw [← ek] at S5
        have F5 := (F2.new s34).uw (o := .lst (ps.map V.ref ++ [.ref p4]))
        have t5 := t12.trans (s34.ts.trans (TSame.lst (o := .lst (ps.map V.ref ++ [.ref p4])) w1'))
        have hg5 := (s34.ts.trans (TSame.lst (o := .lst (ps.map V.ref ++ [.ref p4])) w1')) _ _ hg
        generalize upd H4 lw (.lst (ps.map V.ref ++ [.ref p4])) = H5 at S5 F5 t5 hg5 ⊢
        have hp5 := t5 _ _ hp
        walk_at "rd"
        refine ⟨a, dx, lw, lt, ll, g, h, r1.gt wd, true, _, H0, rfl, hg5, S5, F5, by omega, fun H6 F6 t6 S6 => ?_⟩
        walk_at "rd"
        exact fin H6 _ (t5.trans t6) F6 S6
      · have ek : (r1.gate wd r2).bk r2 h = r1.gate wd r2 := if_pos e
        rw [← ek] at S2
        walk_at "rd"
        refine ⟨a, dx, lw, lt, ll, g, h, r1.gt wd, true, _, H0, rfl, hg, S2, F2, by omega, fun H6 F6 t6 S6 => ?_⟩
        walk_at "rd"
        exact fin H6 _ (t12.trans t6) F6 S6
theorem ok_build (T : Txt mg cs) (TC : Tcl K cs) (L : Laid K mg "build" s_build ["site", "plan", "here"]) (C_new_room : Cal P w K mg base 1 "new_room" ["site", "here", "gate", "back"] (spRoom cs)) (C_new_gate : Cal P w K mg base 1 "new_gate" ["site", "word", "room"] (spGate cs)) : ∀ n, Cal P w K mg base (n + 1) "build" ["site", "plan", "here"] (spBuild cs n)
  | 0 => cal_none L 1 fun vs H Q E ⟨_, _, _, _, _, _, _, _, _, _, _, _, _, h, _⟩ => absurd h (by omega)
  | n + 1 => build_step n T TC L C_new_room C_new_gate (ok_build T TC L C_new_room C_new_gate n)
end

section
variable {P : Program} {w : World} {K : PySem.W.Frag} {mg : Str → Option Value} {base : Heap} {xs : Xs} {cs : Cs}

theorem ok_cell (T : Txt mg cs) (L : Laid K mg "_law_cell_at" s__law_cell_at ["_law_script", "_law_k"]) : Cal P w K mg base 1 "_law_cell_at" ["_law_script", "_law_k"] (spCell K) := by
  refine L.cal (k := 0) sc__law_cell_at (fun vs H Q E h => ?_) (fun f cdv A outer s H vs Q E hr h => ?_)
  · obtain ⟨a, ns, i, rfl, _⟩ := h
    rfl
  · obtain ⟨a, ns, i, rfl, hS, hl, h0, k⟩ := h
    refine ⟨_, (pss_cons (ps_if (pt_cmpR op_lt (pv 1) (pe_callB (lenK K) rfl T.n_len bt_len (pa_cons (pv 0) pa_nil)) (nomark _)) (pss_one (ps_ret (pe_ix (ix_listK K) (pv 0) (pv 1) (fun _ _ => rfl)))) pss_nil)
      (pss_one (ps_ret pe_int))), ?_⟩
    walk_at "rd"
    refine ifd (fun h => ?_) (fun h => ?_)
    · rw [List.length_map] at h
      obtain ⟨j, rfl⟩ : ∃ j : Nat, i = (j : Int) := ⟨i.toNat, by omega⟩
      walk_at "rd"
      refine r_ixL hS (atI_ints (by omega)) ?_
      rw [Int.toNat_natCast] at k
      exact k
    · rw [List.length_map] at h
      walk_at "rd"
      rw [show ns.getD i.toNat 0 = 0 by simp [List.getD, show ns.length ≤ i.toNat by omega]] at k
      exact k
theorem ok_nx (T : Txt mg cs) (L : Laid K mg "_law_next" s__law_next ["_law_script", "_law_state"]) (C__law_cell_at : Cal P w K mg base 1 "_law_cell_at" ["_law_script", "_law_k"] (spCell K)) : Cal P w K mg base 2 "_law_next" ["_law_script", "_law_state"] (spNx K) := by
  refine L.cal (k := 1) sc__law_next (fun vs H Q E h => ?_) (fun f cdv A outer s H vs Q E hr h => ?_)
  · obtain ⟨a, q, ns, i, L, H0, rfl, _⟩ := h
    rfl
  · obtain ⟨a, q, ns, i, L, H0, rfl, q0, s0, hS, hl, hq, i0, i1, k⟩ := h
    refine ⟨_, (pss_cons (ps_asg (pe_op op_add (pe_ix (ix_listK K) (pv 1) pe_int (fun _ _ => rfl)) pe_int) (pg_sub (pv 1) pe_int set_list))
      (pss_one (ps_ret (pe_op op_fdiv (pe_cal C__law_cell_at hr (by decide) rfl (pa_cons (pv 0) (pa_cons (pe_op op_mod (pe_ix (ix_listK K) (pv 1) pe_int (fun _ _ => rfl)) pe_int) pa_nil))) (pe_op op_add pe_int (pe_op op_fdiv (pe_ix (ix_listK K) (pv 1) pe_int (fun _ _ => rfl)) pe_int)))))), ?_⟩
    walk_at "rd"
    refine r_setL hq (show ixN 2 (0 : Int) = some 0 by decide) ?_
    simp only [List.set_cons_succ, List.set_cons_zero]
    have s1 := s0.put (o := .lst [.int (i + 1), .int L]) q0
    have h1 : (upd H q (.lst [.int (i + 1), .int L])) q = some (.lst [.int (i + 1), .int L]) := upd_same
    generalize hG : upd H q (.lst [.int (i + 1), .int L]) = H1 at s1 h1 k ⊢
    have m0 := mod_lo (i + 1) (n := 63) (by decide)
    walk_at "rd"
    refine ⟨a, ns, _, rfl, Same.seq s1 hS, hl, m0, ?_⟩
    walk_at "rd"
    exact k _
theorem plan_step (n : Nat) (T : Txt mg cs) (L : Laid K mg "_law_plan" s__law_plan ["_law_script", "_law_state", "_law_room"]) (C__law_next : Cal P w K mg base 2 "_law_next" ["_law_script", "_law_state"] (spNx K)) (C__law_plan : Cal P w K mg base (n + 2) "_law_plan" ["_law_script", "_law_state", "_law_room"] (spPlan K n)) : Cal P w K mg base (n + 1 + 2) "_law_plan" ["_law_script", "_law_state", "_law_room"] (spPlan K (n + 1)) := by
  refine L.cal (k := n + 2) sc__law_plan (fun vs H Q E h => ?_) (fun f cdv A outer s H vs Q E hr h => ?_)
  · obtain ⟨a, q, ns, i, L, r, H0, rfl, _⟩ := h
    rfl
  · obtain ⟨a, q, ns, i, L, r, H0, rfl, q0, s0, hS, hl, hq, i0, l0, il, rn, k⟩ := h
    have big := line_big
    refine ⟨_, (pss_cons (ps_set (i := 3) sc__law_plan.nd rfl (Or.inl rfl) (pe_cal C__law_next hr (by omega) rfl (pa_cons (pv 0) (pa_cons (pv 1) pa_nil))))
      (pss_cons (ps_set (i := 4) sc__law_plan.nd rfl (Or.inl rfl) (pe_op op_mod (pv 3) pe_int))
      (pss_cons (ps_if (PW.pt (pw_or (pt_cmpR op_eq (pv 2) pe_int (nomark _)) (pw_or (pt_cmpR op_eq (pv 4) pe_int (nomark _)) (pw_or1 (pt_cmpR op_lt (pe_ix (ix_listK K) (pv 1) pe_int (fun _ _ => rfl)) pe_int (nomark _)))))) (pss_one (ps_ret (pe_tup (pa_cons pe_str pa_nil)))) pss_nil)
      (pss_cons (ps_asg (pe_op op_sub (pe_ix (ix_listK K) (pv 1) pe_int (fun _ _ => rfl)) pe_int) (pg_sub (pv 1) pe_int set_list))
      (pss_cons (ps_if (pt_cmpR op_lt (pv 4) pe_int (nomark _)) (pss_one (ps_ret (pe_tup (pa_cons (pe_ix (ix_listK K) (pe_lst (pa_cons pe_str (pa_cons pe_str (pa_cons pe_str (pa_cons pe_str pa_nil))))) (pe_op op_sub (pv 4) pe_int) (fun _ _ => rfl)) (pa_cons (pe_cal C__law_plan hr (by omega) rfl (pa_cons (pv 0) (pa_cons (pv 1) (pa_cons (pe_op op_sub (pv 2) pe_int) pa_nil)))) pa_nil))))) pss_nil)
      (pss_cons (ps_set (i := 5) sc__law_plan.nd rfl (Or.inl rfl) (pe_ix (ix_listK K) (pe_lst (pa_cons pe_str (pa_cons pe_str (pa_cons pe_str (pa_cons pe_str pa_nil))))) (pe_op op_sub (pv 4) pe_int) (fun _ _ => rfl)))
      (pss_cons (ps_set (i := 6) sc__law_plan.nd rfl (Or.inl rfl) (pe_cal C__law_plan hr (by omega) rfl (pa_cons (pv 0) (pa_cons (pv 1) (pa_cons (pe_op op_sub (pv 2) pe_int) pa_nil)))))
      (pss_one (ps_ret (pe_tup (pa_cons (pv 5) (pa_cons (pv 6) (pa_cons (pe_cal C__law_plan hr (by omega) rfl (pa_cons (pv 0) (pa_cons (pv 1) (pa_cons (pe_op op_sub (pv 2) pe_int) pa_nil)))) pa_nil))))))))))))), ?_⟩
    walk_at "rd"
    refine ⟨a, q, ns, i, L, H0, rfl, q0, s0, hS, hl, hq, i0, by omega, fun c => ?_⟩
    have y0 := mod_lo c (n := 9) (by decide)
    have y1 := mod_hi c (n := 9) (by decide)
    have s1 := s0.put (o := .lst [.int (i + 1), .int L]) q0
    have h1 : (upd H q (.lst [.int (i + 1), .int L])) q = some (.lst [.int (i + 1), .int L]) := upd_same
    have t1 : TSame H (upd H q (.lst [.int (i + 1), .int L])) := TSame.lst hq
    generalize upd H q (.lst [.int (i + 1), .int L]) = H1 at s1 h1 t1 ⊢
    have last : ∀ p, H1 p = none → Q (.ref p) (upd H1 p (.tup [.str "end"])) := fun p hp => by
      refine k (.ref p) .nd (i + 1) _ (s1.trans (Same.upd hp)) (t1.trans (TSame.new hp)) ((Same.upd hp) _ _ (by rw [h1, show L - ((Pl.nd.sz : Nat) : Int) = L by show L - ((0 : Nat) : Int) = L; omega])) ⟨p, rfl, upd_same⟩ trivial (Nat.zero_le _) (by show ((0 : Nat) : Int) ≤ L; omega) (by omega) (by show i + 1 ≤ i + 2 * ((0 : Nat) : Int) + 1; omega)
    walk_at "rd"
    refine ifd (fun e0 => ?_) (fun e0 => ?_)
    · walk_at "rd"
      exact last
    walk_at "rd"
    refine ifd (fun e1 => ?_) (fun e1 => ?_)
    · walk_at "rd"
      exact last
    walk_at "rd"
    refine ifd (fun e2 => ?_) (fun e2 => ?_)
    · walk_at "rd"
      exact last
    walk_at "rd"
    refine r_setL h1 (show ixN 2 (1 : Int) = some 1 by decide) ?_
    simp only [List.set_cons_succ, List.set_cons_zero]
    have s2 := s1.put (o := .lst [.int (i + 1), .int (L - 1)]) q0
    have h2 : (upd H1 q (.lst [.int (i + 1), .int (L - 1)])) q = some (.lst [.int (i + 1), .int (L - 1)]) := upd_same
    have t2 := t1.trans (TSame.lst (o := .lst [.int (i + 1), .int (L - 1)]) h1)
    generalize upd H1 q (.lst [.int (i + 1), .int (L - 1)]) = H2 at s2 h2 t2 ⊢
    obtain ⟨r', rfl⟩ : ∃ r', r = r' + 1 := ⟨r - 1, by omega⟩
    have er : ((r' + 1 : Nat) : Int) - 1 = (r' : Int) := by omega
    walk_at "rd"
    refine ifd (fun e5 => ?_) (fun e5 => ?_)
    · obtain ⟨wd, w3, ew⟩ := one_at (c % 9) (by omega)
      walk_at "rd"
      intro p3 g3
      generalize hG3 : upd _ p3 _ = H3
      have s3 := sm_of hG3 g3
      have h3 := at_of hG3
      have hq3 := s3 _ _ h2
      walk_at "rd"
      rw [er]
      refine ⟨a, q, ns, i + 1, L - 1, r', H0, rfl, q0, s2.trans s3, hS, hl, hq3, by omega, by omega, by omega, by omega, fun v t i' H4 s4 t4 h4 it tw td tz ti ti' => ?_⟩
      walk_at "rd"
      intro p5 g5
      refine k (.ref p5) (.one wd t) i' _ (s4.trans (Same.upd g5)) (t2.trans (s3.ts.trans (t4.trans (TSame.new g5)))) ((Same.upd g5) _ _ (by rw [h4, show L - (((Pl.one wd t).sz : Nat) : Int) = L - 1 - t.sz by show L - ((t.sz + 1 : Nat) : Int) = _; omega])) ⟨p5, v, rfl, upd_same, Pl.mono (TSame.new g5) it⟩ ⟨w3, tw⟩ (by show t.dp + 1 ≤ r' + 1; omega) (by show ((t.sz + 1 : Nat) : Int) ≤ L; omega) (by omega) (by show i' ≤ i + 2 * ((t.sz + 1 : Nat) : Int) + 1; omega)
    · obtain ⟨wd, w3, ew⟩ := two_at (c % 9) (by omega)
      walk_at "rd"
      intro p3 g3
      generalize hG3 : upd _ p3 _ = H3
      have s3 := sm_of hG3 g3
      have h3 := at_of hG3
      have hq3 := s3 _ _ h2
      walk_at "rd"
      rw [er]
      refine ⟨a, q, ns, i + 1, L - 1, r', H0, rfl, q0, s2.trans s3, hS, hl, hq3, by omega, by omega, by omega, by omega, fun v t i' H4 s4 t4 h4 it tw td tz ti ti' => ?_⟩
      walk_at "rd"
      rw [er]
      refine ⟨a, q, ns, i', L - 1 - t.sz, r', H0, rfl, q0, s4, hS, hl, h4, by omega, by omega, by omega, by omega, fun v2 x i2 H5 s5 t5 h5 ix xw xd xz xi xi' => ?_⟩
      walk_at "rd"
      intro p6 g6
      refine k (.ref p6) (.two wd t x) i2 _ (s5.trans (Same.upd g6)) (t2.trans (s3.ts.trans (t4.trans (t5.trans (TSame.new g6))))) ((Same.upd g6) _ _ (by rw [h5, show L - (((Pl.two wd t x).sz : Nat) : Int) = L - 1 - t.sz - x.sz by show L - ((t.sz + x.sz + 1 : Nat) : Int) = _; omega])) ⟨p6, v, v2, rfl, upd_same, Pl.mono (t5.trans (TSame.new g6)) it, Pl.mono (TSame.new g6) ix⟩ ⟨w3, tw, xw⟩ (by show max t.dp x.dp + 1 ≤ r' + 1; omega) (by show ((t.sz + x.sz + 1 : Nat) : Int) ≤ L; omega) (by omega) (by show i2 ≤ i + 2 * ((t.sz + x.sz + 1 : Nat) : Int) + 1; omega)
theorem ok_plan (T : Txt mg cs) (L : Laid K mg "_law_plan" s__law_plan ["_law_script", "_law_state", "_law_room"]) (C__law_next : Cal P w K mg base 2 "_law_next" ["_law_script", "_law_state"] (spNx K)) : ∀ n, Cal P w K mg base (n + 2) "_law_plan" ["_law_script", "_law_state", "_law_room"] (spPlan K n)
  | 0 => cal_none L 2 fun vs H Q E ⟨_, _, _, _, _, _, _, _, _, _, _, _, _, _, _, _, h, _⟩ => absurd h (by omega)
  | n + 1 => plan_step n T L C__law_next (ok_plan T L C__law_next n)
end
def Lays (H : Hp) (us : List V) (ts : List Pl) : Prop := us.length = ts.length ∧ ∀ (i : Nat) (u : V), us[i]? = some u → ∃ k, ts[i]? = some k ∧ k.is H u
theorem Lays.mono {H H' : Hp} {us : List V} {ts : List Pl} (s : TSame H H') (h : Lays H us ts) : Lays H' us ts := ⟨h.1, fun i u e => let ⟨k, a, b⟩ := h.2 i u e; ⟨k, a, Pl.mono s b⟩⟩
theorem Lays.nil {H : Hp} : Lays H [] [] := ⟨rfl, fun i u e => by simp at e⟩
theorem Lays.app {H : Hp} {us vs : List V} {ts ks : List Pl} (h : Lays H us ts) (g : Lays H vs ks) : Lays H (us ++ vs) (ts ++ ks) := by
  refine ⟨by rw [List.length_append, List.length_append, h.1, g.1], fun i u e => ?_⟩
  by_cases hi : i < us.length
  · rw [List.getElem?_append_left hi] at e
    obtain ⟨k, a, b⟩ := h.2 i u e
    exact ⟨k, by rw [List.getElem?_append_left (by rw [← h.1]; exact hi)]; exact a, b⟩
  · rw [List.getElem?_append_right (by omega)] at e
    obtain ⟨k, a, b⟩ := g.2 _ u e
    exact ⟨k, by rw [List.getElem?_append_right (by rw [← h.1]; omega), ← h.1]; exact a, b⟩
theorem Lays.one {H : Hp} {u : V} {t : Pl} (h : t.is H u) : Lays H [u] [t] := ⟨rfl, fun i v e => by
  match i, e with
  | 0, e => cases e; exact ⟨t, rfl, h⟩⟩
theorem Lays.get {H : Hp} {us : List V} {ts : List Pl} (h : Lays H us ts) {i : Nat} (hi : i < ts.length) : ∃ u, us[i]? = some u ∧ ts[i].is H u := by
  have hu : i < us.length := by rw [h.1]; exact hi
  obtain ⟨k, a, b⟩ := h.2 i us[i] (by simp [hu])
  have : ts[i] = k := by simpa [hi] using a
  exact ⟨us[i], by simp [hu], by rw [this]; exact b⟩
def AllIn (t : Pl) (ts : List Pl) : Prop := ∀ k ∈ ts, k.wf ∧ k.dp ≤ t.dp
theorem kid_wf : ∀ {t k : Pl}, t.wf → k ∈ t.kids → k.wf
  | .one _ t, k, h, m => by obtain rfl := List.mem_singleton.mp m; exact h.2
  | .two _ a b, k, h, m => by
    rcases List.mem_cons.mp m with rfl | m
    · exact h.2.1
    · obtain rfl := List.mem_singleton.mp m; exact h.2.2
theorem AllIn.app {t x : Pl} {ts : List Pl} (h : AllIn t ts) (hx : x ∈ ts) : AllIn t (ts ++ x.kids) := fun k hk => by
  rcases List.mem_append.mp hk with hk | hk
  · exact h k hk
  · have a := h x hx
    have b := Pl.kid_dp hk
    exact ⟨kid_wf a.1 hk, by omega⟩
def spParts : Sp := fun vs H Q _ => ∃ (v : V) (t : Pl), vs = [v] ∧ t.is H v ∧ t.wf ∧ t.nc ≤ 1000 ∧ ∀ (p : Addr) (us : List V) (ts : List Pl) (H' : Hp), Same H H' → H' p = some (.lst us) → Lays H' us ts → AllIn t ts → Done t ts ts.length → ts.length ≤ t.nc → Q (.ref p) H'
def spEnds (n : Nat) : Sp := fun vs H Q _ => ∃ (v : V) (t : Pl), vs = [v] ∧ t.is H v ∧ t.wf ∧ t.dp < n ∧ Q (.bl t.ends) H
def spMost (C : Addr) : Sp := fun vs H Q E => ∃ (z : Str) (n m : Int), vs = [.str z, .int n, .int m] ∧ z.length ≤ 100 ∧ Sml n ∧ Sml m ∧ (n ≤ m → Q .non H) ∧ (¬ n ≤ m → E (.ref C) none H)
def spSize (C : Addr) : Sp := fun vs H Q E => ∃ (v : V) (t : Pl), vs = [v] ∧ t.is H v ∧ t.wf ∧ t.nc ≤ 1000 ∧ t.dp ≤ 18 ∧ (t.fits → ∀ H', Same H H' → Q .non H') ∧ (¬ t.fits → ∀ H', Same H H' → E (.ref C) none H')
theorem sml_in {n : Int} (h1 : -100000 ≤ n) (h2 : n ≤ 100000) : Sml n := .of (by
  have : n.natAbs ≤ 100000 := by omega
  exact Nat.lt_of_le_of_lt this (by decide +kernel))
theorem w1_ends {w : Nat} (hw : w < 3) : ¬ w1 w = "end" ∧ (decide (w1 w = "spare") = decide (w = 2)) := by
  have : w = 0 ∨ w = 1 ∨ w = 2 := by omega
  rcases this with rfl | rfl | rfl
  · exact ⟨sy s_we, by rw [decide_eq_false (show ¬ w1 0 = "spare" from s_ws)]; rfl⟩
  · exact ⟨sy s_de, by rw [decide_eq_false (show ¬ w1 1 = "spare" from s_ds)]; rfl⟩
  · exact ⟨sy s_se, by rw [decide_eq_true (show w1 2 = "spare" from rfl)]; rfl⟩
theorem in_two (t : Pl) (h : t.wf) : inV (.str t.word) [V.str "lock", V.str "door", V.str "bar"] = decide (is2 t = 1) := by
  cases t with
  | nd => decide +kernel
  | one w t =>
    have hw : w < 3 := h.1
    have : w = 0 ∨ w = 1 ∨ w = 2 := by omega
    show inV (.str (w1 w)) _ = false
    rcases this with rfl | rfl | rfl <;> decide +kernel
  | two w a b =>
    have hw : w < 3 := h.1
    have : w = 0 ∨ w = 1 ∨ w = 2 := by omega
    show inV (.str (w2 w)) _ = true
    rcases this with rfl | rfl | rfl <;> decide +kernel
section
variable {P : Program} {w : World} {K : PySem.W.Frag} {mg : Str → Option Value} {base : Heap} {xs : Xs} {cs : Cs}
theorem ends_step (n : Nat) (T : Txt mg cs) (L : Laid K mg "ends_here" s_ends_here ["plan"]) (C_ends_here : Cal P w K mg base n "ends_here" ["plan"] (spEnds n)) : Cal P w K mg base (n + 1) "ends_here" ["plan"] (spEnds (n + 1)) := by
  refine L.cal (k := n) sc_ends_here (fun vs H Q E h => ?_) (fun f cdv A outer s H vs Q E hr h => ?_)
  · obtain ⟨v, t, rfl, _⟩ := h
    rfl
  · obtain ⟨v, t, rfl, it, tw, td, k⟩ := h
    refine ⟨_, (pss_one (ps_ret (pe_or (pe_cmpR op_eq (pe_ix (ix_tupK K) (pv 0) pe_int (fun _ _ => rfl)) pe_str (nomark _)) (pe_one (pe_and (pe_cmpR op_eq (pe_ix (ix_tupK K) (pv 0) pe_int (fun _ _ => rfl)) pe_str (nomark _)) (pe_one (pe_cal C_ends_here hr (by omega) rfl (pa_cons (pe_ix (ix_tupK K) (pv 0) pe_int (fun _ _ => rfl)) pa_nil)))))))), ?_⟩
    cases t with
    | nd =>
      obtain ⟨p, rfl, hp⟩ := it
      walk_at "rd"
      walk_at "eq"
      exact k
    | one wd x =>
      obtain ⟨p, u, rfl, hp, iu⟩ := it
      have xw : wd < 3 ∧ x.wf := tw
      have xd : x.dp + 1 < n + 1 := td
      obtain ⟨n1, n2⟩ := w1_ends xw.1
      have ke : (Pl.one wd x).ends = (decide (wd = 2) && x.ends) := rfl
      rw [ke] at k
      walk_at "rd"
      refine ifd (fun z => absurd z n1) (fun _ => ?_)
      walk_at "rd"
      rw [n2]
      refine ifd (fun z => ?_) (fun z => ?_)
      · rw [decide_eq_true z, Bool.true_and] at k
        walk_at "rd"
        exact ⟨u, x, rfl, iu, xw.2, by omega, k⟩
      · rw [decide_eq_false z, Bool.false_and] at k
        exact k
    | two wd x y =>
      obtain ⟨p, u1, u2, rfl, hp, iu1, iu2⟩ := it
      have xw : wd < 3 ∧ x.wf ∧ y.wf := tw
      obtain ⟨n1, n2, n3, n4⟩ := w2_new xw.1
      walk_at "rd"
      refine ifd (fun z => absurd z n1) (fun _ => ?_)
      walk_at "rd"
      refine ifd (fun z => absurd z n2) (fun _ => ?_)
      exact k
theorem ok_ends (T : Txt mg cs) (L : Laid K mg "ends_here" s_ends_here ["plan"]) : ∀ n, Cal P w K mg base n "ends_here" ["plan"] (spEnds n)
  | 0 => cal_none L 0 fun vs H Q E ⟨_, _, _, _, _, h, _⟩ => absurd h (by omega)
  | n + 1 => ends_step n T L (ok_ends T L n)
theorem ok_parts (T : Txt mg cs) (L : Laid K mg "parts_of" s_parts_of ["plan"]) : Cal P w K mg base 1 "parts_of" ["plan"] spParts := by
  refine L.cal (k := 0) sc_parts_of (fun vs H Q E h => ?_) (fun f cdv A outer s H vs Q E hr h => ?_)
  · obtain ⟨v, t, rfl, _⟩ := h
    rfl
  · obtain ⟨v, t, rfl, it, tw, tn, k⟩ := h
    have big := line_big
    refine ⟨_, (pss_cons (ps_set (i := 1) sc_parts_of.nd rfl (Or.inl rfl) (pe_lst (pa_cons (pv 0) pa_nil)))
      (pss_cons (ps_set (i := 2) sc_parts_of.nd rfl (Or.inl rfl) pe_int)
      (pss_cons (ps_while PassesOwn.never (pt_cmpR op_lt (pv 2) (pe_callB (lenK K) rfl T.n_len bt_len (pa_cons (pv 1) pa_nil)) (nomark _)) (pss_cons (ps_expr (pe_bm PySem.F.plainAttrs_list PySem.F.slot_list_extend PySem.F.type_list_extend mt_extT (pv 1) (pa_cons (pe_slice (sl_tupAK K) (pe_ix (ix_listK K) (pv 1) (pv 2) (fun _ _ => rfl)) (po_some pe_int) po_none) pa_nil)))
      (pss_one (ps_aug (i := 2) sc_parts_of.nd rfl (Or.inl rfl) pe_int ip_add))))
      (pss_one (ps_ret (pv 1)))))), ?_⟩
    walk_at "rd"
    intro p hp
    generalize hG : upd _ p _ = H1
    have s1 := sm_of hG hp
    have h1 := at_of hG
    walk_at "rd"
    refine ⟨fun m σ H' => ∃ (us : List V) (ts : List Pl) (i : Nat), σ = [some v, some (.ref p), some (.int (i : Nat))] ∧ Same H H' ∧ H' p = some (.lst us) ∧ Lays H' us ts ∧ AllIn t ts ∧ Done t ts i ∧ i ≤ ts.length ∧ m = left ts i, ⟨_, [v], [t], 0, rfl, s1, h1, Lays.one (Pl.mono s1.ts it), fun k hk => by obtain rfl := List.mem_singleton.mp hk; exact ⟨tw, Nat.le_refl _⟩, Done.zero t, Nat.zero_le _, rfl⟩, ?_⟩
    rintro m σ H' ⟨us, ts, i, rfl, s2, h2, ly, al, dn, il, rfl⟩
    have ll := dn.len il
    have lu := ly.1
    walk_at "rd"
    refine ifd (fun lt => ?_) (fun ge => ?_)
    · have hi : i < ts.length := by omega
      obtain ⟨u, eu, iu⟩ := ly.get hi
      obtain ⟨q, vs, rfl, hq, lv, hv⟩ := Pl.opened iu
      have lk : ts[i].kids.length ≤ 2 := by cases ts[i] <;> simp [Pl.kids]
      have dl := dn.left il
      have dn' := dn.step (x := ts[i]) (by simp [hi])
      have il' : i + 1 ≤ (ts ++ ts[i].kids).length := by rw [List.length_append]; omega
      have dl' := dn'.left il'
      refine ⟨fun σ' H'' => ∃ (us : List V) (ts' : List Pl) (i' : Nat), σ' = [some v, some (.ref p), some (.int (i' : Nat))] ∧ Same H H'' ∧ H'' p = some (.lst us) ∧ Lays H'' us ts' ∧ AllIn t ts' ∧ Done t ts' i' ∧ i' ≤ ts'.length ∧ left ts' i' < left ts i, fun σ' H'' ⟨us, ts', i', a, b, c, d, e, f, g, h⟩ => ⟨_, h, us, ts', i', a, b, c, d, e, f, g, rfl⟩, ?_⟩
      walk_at "rd"
      refine r_slA hq fun r H3 s3 h3 => ?_
      rw [cutV_tail] at h3
      walk_at "rd"
      have h23 := s3 _ _ h2
      refine ⟨p, r, us, vs, rfl, rfl, h23, h3, by omega, ?_⟩
      have t4 := s3.ts.trans (TSame.lst (o := .lst (us ++ vs)) h23)
      walk_at "rd"
      refine ⟨us ++ vs, ts ++ ts[i].kids, i + 1, rfl, (s2.trans s3).put hp, upd_same, ?_, al.app (List.getElem_mem hi), dn', il', by omega⟩
      exact (ly.mono t4).app ⟨lv, fun j u e => let ⟨k, a, b⟩ := hv j u e; ⟨k, a, Pl.mono t4 b⟩⟩
    · have e : i = ts.length := by omega
      subst e
      walk_at "rd"
      exact k p us ts H' s2 h2 ly al dn ll
theorem ok_most (T : Txt mg cs) (TX : Tx K mg xs) (L : Laid K mg "check_most" s_check_most ["name", "number", "most"]) : CalX P w K mg base 1 "check_most" ["name", "number", "most"] (spMost xs.TooMany) := by
  refine L.calX (k := 0) sc_check_most (fun vs H Q E h => ?_) (fun f cdv A outer s H vs Q E hr h => ?_)
  · obtain ⟨z, n, m, rfl, _⟩ := h
    rfl
  · obtain ⟨z, n, m, rfl, hz, sn, sm, k, ke⟩ := h
    refine ⟨_, (pss_one (ps_if (pt_cmpR op_gt (pv 1) (pv 2) (nomark _)) (pss_one (ps_raise raises_xe rfl rfl TX.at_TooMany TX.ex_TooMany (pa_cons (pe_join (.cons (pe_fm (pv 1)) (.cons pe_str (.cons (pe_fm (pv 0)) (.cons pe_str (.cons (pe_fm (pv 2)) .nil)))))) pa_nil))) pss_nil)), ?_⟩
    walk_at "rd"
    refine ifd (fun g => ?_) (fun g => ?_)
    · walk_at "rd"
      refine r_raise ?_
      walk_at "rd"
      refine jfi sn (by omega) (fun K h => ⟨_, rfl, h⟩) fun m1 h1 => ?_
      refine jc (by decide +kernel) (by omega) fun m2 h2 => ?_
      refine jfs (y := z) (b := 100) (by omega) (by omega) (fun K h => ⟨_, rfl, h⟩) fun m3 h3 => ?_
      refine jc (by decide +kernel) (by omega) fun m4 h4 => ?_
      refine jfi sm (by omega) (fun K h => ⟨_, rfl, h⟩) fun m5 h5 => ?_
      refine jn fun y hy => ?_
      walk_at "rd"
      exact ke (by omega)
    · walk_at "rd"
      exact k (by omega)
theorem ok_size (T : Txt mg cs) (TK : Tk K mg) (TX : Tx K mg xs) (L : Laid K mg "check_size" s_check_size ["plan"]) (C_parts_of : Cal P w K mg base 1 "parts_of" ["plan"] spParts) (C_ends_here : Cal P w K mg base 19 "ends_here" ["plan"] (spEnds 19)) (C_check_most : CalX P w K mg base 1 "check_most" ["name", "number", "most"] (spMost xs.TooMany)) : CalX P w K mg base 20 "check_size" ["plan"] (spSize xs.TooMany) := by
  refine L.calX (k := 19) sc_check_size (fun vs H Q E h => ?_) (fun f cdv A outer s H vs Q E hr h => ?_)
  · obtain ⟨v, t, rfl, _⟩ := h
    rfl
  · obtain ⟨v, t, rfl, it, tw, tn, td, k, ke⟩ := h
    obtain ⟨c_TWO_PARTS, e_TWO_PARTS, x2, y2⟩ := TK.TWO_PARTS
    obtain ⟨t1, e_MOST_ROOMS⟩ := T.e_MOST_ROOMS
    obtain ⟨t2, e_MOST_WAYS⟩ := T.e_MOST_WAYS
    obtain ⟨t3, e_MOST_THINGS⟩ := T.e_MOST_THINGS
    obtain ⟨t4, e_MOST_LEVERS⟩ := T.e_MOST_LEVERS
    have big := line_big
    refine ⟨_, (pss_cons (ps_set (i := 1) sc_check_size.nd rfl (Or.inl rfl) (pe_cal C_parts_of hr (by decide) rfl (pa_cons (pv 0) pa_nil)))
      (pss_cons (ps_nox (ps_comp (i := 2) sc_check_size.nd rfl rfl (compOk (N := ["part"]) (own := 1) (caps := []) ["plan", "parts", "words", "sides", "new_rooms", "ways_back"] (defScope s_check_size) (by decide +kernel)) rfl (pi_listK K (pv 1)) (fun _ _ _ _ => (pg_name (i := 0) (show List.Nodup (["part"] : List Str) by decide +kernel) rfl (Or.inl rfl))) (fun _ _ _ _ => pf_nil) (fun _ _ _ _ => (pe_ix (ix_tupK K) (pv 0) pe_int (fun _ _ => rfl)))))
      (pss_cons (ps_nox (ps_comp (i := 3) sc_check_size.nd rfl rfl (compOk (N := ["part"]) (own := 1) (caps := []) ["plan", "parts", "words", "sides", "new_rooms", "ways_back"] (defScope s_check_size) (by decide +kernel)) rfl (pi_listK K (pv 1)) (fun _ _ _ _ => (pg_name (i := 0) (show List.Nodup (["part"] : List Str) by decide +kernel) rfl (Or.inl rfl))) (fun _ _ _ _ => (pf_one (pt_cmpR (op_in_seqK K) (pe_ix (ix_tupK K) (pv 0) pe_int (fun _ _ => rfl)) (pe_glob (v := .ref c_TWO_PARTS) rfl e_TWO_PARTS rfl) (by with_unfolding_all rfl)))) (fun _ _ _ _ => (pe_ix (ix_tupK K) (pv 0) pe_int (fun _ _ => rfl)))))
      (pss_cons (ps_set (i := 4) sc_check_size.nd rfl (Or.inl rfl) (pe_op op_add (pe_op op_add (pe_bm PySem.F.plainAttrs_list PySem.F.slot_list_count PySem.F.type_list_count (mt_cntS K) (pv 2) (pa_cons pe_str pa_nil)) (pe_bm PySem.F.plainAttrs_list PySem.F.slot_list_count PySem.F.type_list_count (mt_cntS K) (pv 2) (pa_cons pe_str pa_nil))) (pe_callB (lenK K) rfl T.n_len bt_len (pa_cons (pv 3) pa_nil))))
      (pss_cons (ps_set (i := 5) sc_check_size.nd rfl (Or.inl rfl) (pe_callB (lenK K) rfl T.n_len bt_len (pa_cons (pe_nox (pe_comp (compOk (N := ["side"]) (own := 1) (caps := []) ["plan", "parts", "words", "sides", "new_rooms", "ways_back"] (defScope s_check_size) (by decide +kernel)) rfl (pi_listK K (pv 3)) (fun _ _ _ _ => (pg_name (i := 0) (show List.Nodup (["side"] : List Str) by decide +kernel) rfl (Or.inl rfl))) (fun _ _ _ _ => (pf_one (pt_not (pt_val (pe_cal C_ends_here hr (by decide) rfl (pa_cons (pv 0) pa_nil)))))) (fun _ _ _ _ => (pv 0)))) pa_nil)))
      (pss_cons (ps_expr (pe_calX C_check_most pass_xe hr (by decide) rfl (pa_cons pe_str (pa_cons (pe_op op_add (pv 4) pe_int) (pa_cons (pe_glob (v := .int 14) rfl e_MOST_ROOMS ⟨_, rfl⟩) pa_nil)))))
      (pss_cons (ps_expr (pe_calX C_check_most pass_xe hr (by decide) rfl (pa_cons pe_str (pa_cons (pe_op op_add (pv 4) (pv 5)) (pa_cons (pe_glob (v := .int 20) rfl e_MOST_WAYS ⟨_, rfl⟩) pa_nil)))))
      (pss_cons (ps_expr (pe_calX C_check_most pass_xe hr (by decide) rfl (pa_cons pe_str (pa_cons (pe_op op_add (pe_op op_add (pe_bm PySem.F.plainAttrs_list PySem.F.slot_list_count PySem.F.type_list_count (mt_cntS K) (pv 2) (pa_cons pe_str pa_nil)) (pe_bm PySem.F.plainAttrs_list PySem.F.slot_list_count PySem.F.type_list_count (mt_cntS K) (pv 2) (pa_cons pe_str pa_nil))) (pe_bm PySem.F.plainAttrs_list PySem.F.slot_list_count PySem.F.type_list_count (mt_cntS K) (pv 2) (pa_cons pe_str pa_nil))) (pa_cons (pe_glob (v := .int 8) rfl e_MOST_THINGS ⟨_, rfl⟩) pa_nil)))))
      (pss_one (ps_expr (pe_calX C_check_most pass_xe hr (by decide) rfl (pa_cons pe_str (pa_cons (pe_bm PySem.F.plainAttrs_list PySem.F.slot_list_count PySem.F.type_list_count (mt_cntS K) (pv 2) (pa_cons pe_str pa_nil)) (pa_cons (pe_glob (v := .int 4) rfl e_MOST_LEVERS ⟨_, rfl⟩) pa_nil)))))))))))))), ?_⟩
    walk_at "rd"
    refine ⟨v, t, rfl, it, tw, tn, fun p us ts H1 s1 h1 ly al dn ll => ?_⟩
    have lu := ly.1
    walk_at "rd"
    intro D hD
    refine comp_lst us (fun i σ H' => ∃ v0, σ = [v0] ∧ Same H1 H' ∧ H' D = some (.lst (((ts.take i).map Pl.word).map V.str))) ⟨none, rfl, Same.upd hD, by rw [upd_same]; rfl⟩ ?_ ?_ ?_
    · rintro i σ H' ⟨_, rfl, s2, _⟩
      exact SqL.of (s2 _ _ h1)
    · rintro i x σ H' hx ⟨v0, rfl, s2, h2⟩
      obtain ⟨kk, ek, ik⟩ := ly.2 i x hx
      have hi : i < ts.length := (List.getElem?_eq_some_iff.mp ek).1
      have ek' : ts[i] = kk := by simpa [hi] using ek
      obtain ⟨q, vs, rfl, hq, lv, hv⟩ := Pl.opened (Pl.mono s2.ts ik)
      walk_at "rd"
      refine ⟨_, h2, by simp; omega, _, rfl, s2.put hD, ?_⟩
      rw [upd_same, List.take_succ_eq_append_getElem hi, List.map_append, List.map_append, ek']
      rfl
    · rintro σ H2 ⟨v0, rfl, s2, h2⟩
      rw [lu, List.take_length] at h2
      have h12 := s2 _ _ h1
      have ly2 := ly.mono s2.ts
      walk_at "rd"
      intro D2 hD2
      refine comp_lst us (fun i σ H' => ∃ v0 ys, σ = [v0] ∧ Same H2 H' ∧ H' D2 = some (.lst ys) ∧ Lays H' ys ((ts.take i).flatMap sd)) ⟨none, [], rfl, Same.upd hD2, by rw [upd_same], Lays.nil⟩ ?_ ?_ ?_
      · rintro i σ H' ⟨_, _, rfl, s3, _⟩
        exact SqL.of (s3 _ _ h12)
      · rintro i x σ H' hx ⟨v0, ys, rfl, s3, h3, l3⟩
        obtain ⟨kk, ek, ik⟩ := ly2.2 i x hx
        have hi : i < ts.length := (List.getElem?_eq_some_iff.mp ek).1
        have ek' : ts[i] = kk := by simpa [hi] using ek
        have kw := (al kk (by rw [← ek']; exact List.getElem_mem hi)).1
        have ik3 := Pl.mono s3.ts ik
        have hx2 := x2 H'
        have et : (ts.take (i + 1)).flatMap sd = (ts.take i).flatMap sd ++ sd kk := by rw [List.take_succ_eq_append_getElem hi, ek', sd_snoc]
        have ln : ys.length ≤ 1000 := by
          have a := l3.1
          have b := sd_le (ts.take i)
          rw [List.length_take] at b
          omega
        have i2 := in_two kk kw
        have out : is2 kk = 0 → sd kk = [] := by cases kk <;> intro z <;> first | rfl | cases z
        obtain ⟨q, vs, rfl, hq, lv, hv⟩ := Pl.opened ik3
        walk_at "rd"
        refine ⟨c_TWO_PARTS, _, rfl, .inr hx2, rfl, rfl, ?_⟩
        rw [if_neg (by decide), i2]
        cases kk with
        | two w a b =>
          obtain ⟨q', u1, u2, e, hq', iu1, iu2⟩ := ik3
          cases e
          rw [show decide (is2 (Pl.two w a b) = 1) = true from rfl]
          walk_at "rd"
          refine ⟨_, h3, by omega, _, _, rfl, s3.put hD2, upd_same, ?_⟩
          rw [et]
          have t4 := TSame.lst (o := .lst (ys ++ [u1])) h3
          exact (l3.mono t4).app (Lays.one (Pl.mono t4 iu1))
        | nd =>
          rw [show decide (is2 Pl.nd = 1) = false from rfl]
          walk_at "rd"
          refine ⟨_, ys, rfl, s3, h3, ?_⟩
          rw [et]
          simpa [sd] using l3
        | one w a =>
          rw [show decide (is2 (Pl.one w a) = 1) = false from rfl]
          walk_at "rd"
          refine ⟨_, ys, rfl, s3, h3, ?_⟩
          rw [et]
          simpa [sd] using l3
      · rintro σ H3 ⟨v0, ys, rfl, s3, h3, l3⟩
        rw [lu, List.take_length] at l3
        have h23 := s3 _ _ h2
        have ls := l3.1
        have sl := sd_le ts
        walk_at "rd"
        refine ⟨D, ts.map Pl.word, "walk", rfl, rfl, SqL.of h23, ?_⟩
        walk_at "rd"
        refine ⟨D, ts.map Pl.word, "drop", rfl, rfl, SqL.of h23, ?_⟩
        walk_at "rd"
        intro D4 hD4
        refine comp_lst ys (fun i σ H' => ∃ v0 zs, σ = [v0] ∧ Same H3 H' ∧ H' D4 = some (.lst zs) ∧ zs.length = (((ts.flatMap sd).take i).filter fun a => !a.ends).length) ⟨none, [], rfl, Same.upd hD4, by rw [upd_same], rfl⟩ ?_ ?_ ?_
        · rintro i σ H' ⟨_, _, rfl, s4, _⟩
          exact SqL.of (s4 _ _ h3)
        · rintro i x σ H' hx ⟨v0, zs, rfl, s4, h4, l4⟩
          obtain ⟨kk, ek, ik⟩ := l3.2 i x hx
          have hi : i < (ts.flatMap sd).length := (List.getElem?_eq_some_iff.mp ek).1
          have ek' : (ts.flatMap sd)[i] = kk := (List.getElem?_eq_some_iff.mp ek).2
          have km : kk ∈ ts.flatMap sd := by rw [← ek']; exact List.getElem_mem hi
          obtain ⟨b, hb, kb⟩ := List.mem_flatMap.mp km
          have kw : kk.wf ∧ kk.dp < 19 := by
            have a := al b hb
            have kd : kk ∈ b.kids := by
              cases b with
              | nd => cases kb
              | one w t => cases kb
              | two w x y => exact List.mem_cons.mpr (.inl (List.mem_singleton.mp kb))
            have := Pl.kid_dp kd
            exact ⟨kid_wf a.1 kd, by omega⟩
          have et : ((ts.flatMap sd).take (i + 1)).filter (fun a => !a.ends) = ((ts.flatMap sd).take i).filter (fun a => !a.ends) ++ (if kk.ends = true then [] else [kk]) := by
            rw [List.take_succ_eq_append_getElem hi, ek', List.filter_append]
            cases he : kk.ends <;> simp [List.filter, he]
          have lz : zs.length ≤ 1000 := by
            have a := List.length_filter_le (fun a : Pl => !a.ends) ((ts.flatMap sd).take i)
            rw [List.length_take] at a
            omega
          walk_at "rd"
          refine ⟨x, kk, rfl, Pl.mono s4.ts ik, kw.1, kw.2, ?_⟩
          cases he : kk.ends with
          | true =>
            rw [he, if_pos rfl, List.append_nil] at et
            walk_at "rd"
            refine ⟨_, zs, rfl, s4, h4, ?_⟩
            rw [et]
            exact l4
          | false =>
            rw [he, if_neg (by decide)] at et
            walk_at "rd"
            refine ⟨_, h4, by omega, _, _, rfl, s4.put hD4, upd_same, ?_⟩
            rw [et, List.length_append, List.length_append, l4]
            rfl
        · rintro σ H4 ⟨v0, zs, rfl, s4, h4, l4⟩
          rw [ls, List.take_length, sd_back] at l4
          have h24 := s4 _ _ h23
          have s14 := s1.trans (s2.trans (s3.trans s4))
          have cw := fun z => count_words z ts
          have f1 := dn.all (isw "walk")
          have f2 := dn.all (isw "drop")
          have f3 := dn.all is2
          have f4 := dn.all isb
          have f5 := dn.all (isw "spare")
          have f6 := dn.all (isw "lock")
          have f7 := dn.all (isw "door")
          have f8 := dn.all (isw "bar")
          have sl2 := sd_len ts
          have fi := fits_iff (a := (ts.map Pl.word).count ("walk" : Str)) (b := (ts.map Pl.word).count ("drop" : Str)) (d := ys.length) (e := zs.length) (f := (ts.map Pl.word).count ("spare" : Str)) (g := (ts.map Pl.word).count ("lock" : Str)) (h := (ts.map Pl.word).count ("door" : Str)) (i := (ts.map Pl.word).count ("bar" : Str)) (Pl.cts tw) (by rw [cw "walk"]; exact f1) (by rw [cw "drop"]; exact f2) (show ys.length = _ by omega) (show zs.length = _ by omega) (by rw [cw "spare"]; exact f5) (by rw [cw "lock"]; exact f6) (by rw [cw "door"]; exact f7) (by rw [cw "bar"]; exact f8)
          have cl := fun z => List.count_le_length (a := z) (l := ts.map Pl.word)
          rw [List.length_map] at cl
          have c1 := cl "walk"
          have c2 := cl "drop"
          have c3 := cl "spare"
          have c4 := cl "lock"
          have c5 := cl "door"
          have c6 := cl "bar"
          have zl : zs.length ≤ 1000 := by
            have := List.length_filter_le (fun a : Pl => !a.ends) (ts.flatMap sd)
            have := sd_back ts
            omega
          walk_at "rd"
          refine ⟨"rooms", _, 14, rfl, by decide +kernel, sml_in (by omega) (by omega), sml_in (by omega) (by omega), fun g1 => ?_, fun g1 => ke (fun z => g1 (by have := fi.mp z; omega)) H4 s14⟩
          walk_at "rd"
          refine ⟨"ways", _, 20, rfl, by decide +kernel, sml_in (by omega) (by omega), sml_in (by omega) (by omega), fun g2 => ?_, fun g2 => ke (fun z => g2 (by have := fi.mp z; omega)) H4 s14⟩
          walk_at "rd"
          refine ⟨D, ts.map Pl.word, "spare", rfl, rfl, SqL.of h24, ?_⟩
          walk_at "rd"
          refine ⟨D, ts.map Pl.word, "lock", rfl, rfl, SqL.of h24, ?_⟩
          walk_at "rd"
          refine ⟨D, ts.map Pl.word, "door", rfl, rfl, SqL.of h24, ?_⟩
          walk_at "rd"
          refine ⟨"things", _, 8, rfl, by decide +kernel, sml_in (by omega) (by omega), sml_in (by omega) (by omega), fun g3 => ?_, fun g3 => ke (fun z => g3 (by have := fi.mp z; omega)) H4 s14⟩
          walk_at "rd"
          refine ⟨D, ts.map Pl.word, "bar", rfl, rfl, SqL.of h24, ?_⟩
          walk_at "rd"
          refine ⟨"levers", _, 4, rfl, by decide +kernel, sml_in (by omega) (by omega), sml_in (by omega) (by omega), fun g4 => ?_, fun g4 => ke (fun z => g4 (by have := fi.mp z; omega)) H4 s14⟩
          walk_at "rd"
          exact k (fi.mpr (by omega)) H4 s14
end

def Kp (p : Addr) (H H' : Hp) : Prop := ∀ b o, H b = some o → b ≠ p → H' b = some o
theorem Kp.refl (p : Addr) (H : Hp) : Kp p H H := fun _ _ h _ => h
theorem Kp.new {p a : Addr} {H H' : Hp} {o : HO} (k : Kp p H H') (h : H' a = none) : Kp p H (upd H' a o) := fun b u hb hp => by
  rw [upd_ne (ne_of_none (k b u hb hp) h)]
  exact k b u hb hp
theorem Kp.up {p : Addr} {H H' : Hp} {o : HO} (k : Kp p H H') : Kp p H (upd H' p o) := fun b u hb hp => by
  rw [upd_ne hp]
  exact k b u hb hp
theorem un_upd {p b : Addr} {H : Hp} {o : HO} (h : upd H p o b = none) : H b = none ∧ b ≠ p := by
  unfold upd at h
  by_cases e : b = p
  · rw [if_pos e] at h; cases h
  · rw [if_neg e] at h; exact ⟨h, e⟩
def spSite (cs : Cs) : Sp := fun vs H Q _ => ∃ p dx, vs = [.ref p] ∧ H p = some (.ins cs.Site dx []) ∧ ∀ (lw lt ll : Addr) (H' : Hp), Kp p H H' → H lw = none → H lt = none → H ll = none → SiteAt cs H' p dx lw lt ll Si.new → Q .non H'
def spBuilt (C : Addr) : Sp := fun vs H Q E => ∃ (v : V) (t : Pl), vs = [v] ∧ t.is H v ∧ t.wf ∧ t.nc ≤ 1000 ∧ t.dp ≤ 18 ∧ (t.fits → ∀ (c : Addr) (H' : Hp), Same H H' → ClAt H' c (clOf t) → Q (.ref c) H') ∧ (¬ t.fits → ∀ H', Same H H' → E (.ref C) none H')
def wyW (x : Way) : Wy := ⟨x.a, x.b, x.g.word, x.g.ns, x.back⟩
theorem gt_ns {g : Gt} (h : g.ok) : ∀ n ∈ g.ns, Sml n := fun n hn => by
  cases g with
  | plain => cases hn
  | door k => obtain rfl := List.mem_singleton.mp hn; have : 0 ≤ n ∧ n < 12 := h; exact sml_in (by omega) (by omega)
  | need k => obtain rfl := List.mem_singleton.mp hn; have : 0 ≤ n ∧ n < 12 := h; exact sml_in (by omega) (by omega)
  | bar k => obtain rfl := List.mem_singleton.mp hn; have : 0 ≤ n ∧ n < 8 := h; exact sml_in (by omega) (by omega)
  | float k => obtain rfl := List.mem_singleton.mp hn; have : 0 ≤ n ∧ n < 10 := h; exact sml_in (by omega) (by omega)
  | wade a k =>
    have z : (0 ≤ a ∧ a < 10) ∧ 0 ≤ k ∧ k < 12 := h
    rcases List.mem_cons.mp hn with rfl | hn
    · exact sml_in (by omega) (by omega)
    · obtain rfl := List.mem_singleton.mp hn
      exact sml_in (by omega) (by omega)
theorem gt_word (g : Gt) : (reprText g.word).length ≤ 2000 := by
  cases g with
  | plain => show (reprText "plain").length ≤ 2000; decide +kernel
  | door k => show (reprText "door").length ≤ 2000; decide +kernel
  | need k => show (reprText "need").length ≤ 2000; decide +kernel
  | bar k => show (reprText "bar").length ≤ 2000; decide +kernel
  | wade a k => show (reprText "wade").length ≤ 2000; decide +kernel
  | float k => show (reprText "float").length ≤ 2000; decide +kernel
theorem way_is {H : Hp} {p : Addr} {x : Way} {r : Int} (h : WayAt H p x) (o : WOk r x) (hr : r ≤ 14) : WayIs H (.ref p) (wyW x) := by
  obtain ⟨g, h1, h2⟩ := h
  obtain ⟨a, b, c, d⟩ := o
  rw [Gt.vs_eq] at h2
  exact ⟨p, g, rfl, h1, h2, by have := x.g.ns_len; show x.g.ns.length ≤ 10; omega, sml_in (by show (-100000 : Int) ≤ x.a; omega) (by show x.a ≤ 100000; omega), sml_in (by show (-100000 : Int) ≤ x.b; omega) (by show x.b ≤ 100000; omega), gt_word _, gt_ns d⟩
theorem rows_at {α : Type} {At : Hp → Addr → α → Prop} {H : Hp} {ps : List Addr} {ys : List α} (h : Rows At H ps ys) {i : Nat} {x : V} (e : (ps.map V.ref)[i]? = some x) (d : α) : ∃ p, x = .ref p ∧ At H p (ys.getD i d) ∧ ys.getD i d ∈ ys := by
  have hi : i < ps.length := by have := (List.getElem?_eq_some_iff.mp e).1; simpa using this
  have hj : i < ys.length := by rw [← h.1]; exact hi
  have eg : ys.getD i d = ys[i] := by simp [List.getD, hj]
  refine ⟨ps[i], by simpa [hi] using e.symm, ?_, ?_⟩
  · rw [eg]
    exact h.2 i _ _ (by simp [hi]) (by simp [hj])
  · rw [eg]
    exact List.getElem_mem hj
theorem get_mem {α : Type} {ys : List α} {i : Nat} (d : α) (hi : i < ys.length) : ys.getD i d ∈ ys := by
  rw [show ys.getD i d = ys[i] by simp [List.getD, hi]]
  exact List.getElem_mem hi
theorem bd_cellar_6 (d1 d2 : Tok) (us : List Value) (hl : (us ++ ([.none, .int 0 d1, .int 0 d2] : List Value)).length = psC.length) : BnD "cellar" s_cellar (dsC d1 d2) ⟨us, []⟩ (psC.zip (us ++ ([.none, .int 0 d1, .int 0 d2] : List Value))) := by
  have hl2 : us.length = 6 := by simpa using hl
  match us, hl2 with
  | [_, _, _, _, _, _], _ => exact fun _ _ _ _ _ _ _ => ⟨_, rfl, rfl⟩
theorem dv_cellar_6 (d1 d2 : Tok) : Vals [.non, .int 0, .int 0] [.none, .int 0 d1, .int 0 d2] := .cons rfl (.cons ⟨_, rfl⟩ (.cons ⟨_, rfl⟩ .nil))
section
variable {P : Program} {w : World} {K : PySem.W.Frag} {mg : Str → Option Value} {base : Heap} {xs : Xs} {cs : Cs}
theorem mk_site (T : Txt mg cs) (TC : Tcl K cs) (L : LaidI K mg "Site" cs.Site "Site.__init__" s_Site_init ["self"]) : Makes P w K mg base 1 "Site" cs.Site ["self"] (spSite cs) := by
  refine L.makes (k := 0) sc_Site_init (fun vs H Q E h => ?_) (fun f cdv A outer s H vs Q E hr h => ?_)
  · obtain ⟨p, dx, rfl, _⟩ := h
    rfl
  · obtain ⟨p, dx, rfl, hp, k⟩ := h
    refine ⟨_, (pss_cons (ps_fldK K (pv 0) pe_int rfl)
      (pss_cons (ps_fldK K (pv 0) (pe_lst pa_nil) rfl)
      (pss_cons (ps_fldK K (pv 0) (pe_lst pa_nil) rfl)
      (pss_cons (ps_fldK K (pv 0) (pe_lst pa_nil) rfl)
      (pss_one (ps_fldK K (pv 0) pe_int rfl)))))), ?_⟩
    walk_at "rd"
    refine r_setf hp TC.cl_Site TC.no_Site_rooms (by decide) ?_
    have k1 := (Kp.refl p H).up (o := .ins cs.Site dx (putF "rooms" (.int 1) []))
    have h1 : (upd H p (.ins cs.Site dx (putF "rooms" (.int 1) []))) p = _ := upd_same
    have f1 : ∀ b, (upd H p (.ins cs.Site dx (putF "rooms" (.int 1) []))) b = none → H b = none := fun b hb => (un_upd hb).1
    generalize upd H p (.ins cs.Site dx (putF "rooms" (.int 1) [])) = H1 at k1 h1 f1 ⊢
    walk_at "rd"
    intro lw hw
    have k2 := k1.new (o := .lst []) hw
    have w2 : (upd H1 lw (.lst [])) lw = some (.lst []) := upd_same
    have h2 := up_keep (o := .lst []) h1 hw
    have f2 : ∀ b, (upd H1 lw (.lst [])) b = none → H b = none := fun b hb => f1 b (un_upd hb).1
    generalize upd H1 lw (.lst []) = H2 at k2 h2 w2 f2 ⊢
    walk_at "rd"
    refine r_setf h2 TC.cl_Site TC.no_Site_ways (by show 1 < 1000; decide) ?_
    have k3 := k2.up (o := .ins cs.Site dx (putF "ways" (.ref lw) (putF "rooms" (.int 1) [])))
    have h3 : (upd H2 p (.ins cs.Site dx (putF "ways" (.ref lw) (putF "rooms" (.int 1) [])))) p = _ := upd_same
    have nw : lw ≠ p := ne_of w2 h2 (by intro z; cases z)
    have w3 := up_oth (o := .ins cs.Site dx (putF "ways" (.ref lw) (putF "rooms" (.int 1) []))) w2 nw
    have f3 : ∀ b, (upd H2 p (.ins cs.Site dx (putF "ways" (.ref lw) (putF "rooms" (.int 1) [])))) b = none → H b = none := fun b hb => f2 b (un_upd hb).1
    generalize upd H2 p (.ins cs.Site dx (putF "ways" (.ref lw) (putF "rooms" (.int 1) []))) = H3 at k3 h3 w3 f3 ⊢
    walk_at "rd"
    intro lt ht
    have k4 := k3.new (o := .lst []) ht
    have t4 : (upd H3 lt (.lst [])) lt = some (.lst []) := upd_same
    have h4 := up_keep (o := .lst []) h3 ht
    have w4 := up_keep (o := .lst []) w3 ht
    have nwt : lw ≠ lt := ne_of_none w3 ht
    have f4 : ∀ b, (upd H3 lt (.lst [])) b = none → H b = none := fun b hb => f3 b (un_upd hb).1
    generalize upd H3 lt (.lst []) = H4 at k4 h4 w4 t4 f4 ⊢
    walk_at "rd"
    refine r_setf h4 TC.cl_Site TC.no_Site_things (by show 2 < 1000; decide) ?_
    generalize hF : putF "things" (.ref lt) (putF "ways" (.ref lw) (putF "rooms" (.int 1) [])) = F5
    have k5 := k4.up (o := .ins cs.Site dx F5)
    have h5 : (upd H4 p (.ins cs.Site dx F5)) p = _ := upd_same
    have nt : lt ≠ p := ne_of t4 h4 (by intro z; cases z)
    have w5 := up_oth (o := .ins cs.Site dx F5) w4 nw
    have t5 := up_oth (o := .ins cs.Site dx F5) t4 nt
    have f5 : ∀ b, (upd H4 p (.ins cs.Site dx F5)) b = none → H b = none := fun b hb => f4 b (un_upd hb).1
    generalize upd H4 p (.ins cs.Site dx F5) = H5 at k5 h5 w5 t5 f5 ⊢
    walk_at "rd"
    intro ll hl
    have k6 := k5.new (o := .lst []) hl
    have l6 : (upd H5 ll (.lst [])) ll = some (.lst []) := upd_same
    have h6 := up_keep (o := .lst []) h5 hl
    have w6 := up_keep (o := .lst []) w5 hl
    have t6 := up_keep (o := .lst []) t5 hl
    have nwl : lw ≠ ll := ne_of_none w5 hl
    have ntl : lt ≠ ll := ne_of_none t5 hl
    have fl := f5 ll hl
    generalize upd H5 ll (.lst []) = H6 at k6 h6 w6 t6 l6 ⊢
    walk_at "rd"
    refine r_setf h6 TC.cl_Site TC.no_Site_levers (by rw [← hF]; show 3 < 1000; decide) ?_
    generalize hF6 : putF "levers" (.ref ll) F5 = F6
    have k7 := k6.up (o := .ins cs.Site dx F6)
    have h7 : (upd H6 p (.ins cs.Site dx F6)) p = _ := upd_same
    have nl : ll ≠ p := ne_of l6 h6 (by intro z; cases z)
    have w7 := up_oth (o := .ins cs.Site dx F6) w6 nw
    have t7 := up_oth (o := .ins cs.Site dx F6) t6 nt
    have l7 := up_oth (o := .ins cs.Site dx F6) l6 nl
    generalize upd H6 p (.ins cs.Site dx F6) = H7 at k7 h7 w7 t7 l7 ⊢
    walk_at "rd"
    refine r_setf h7 TC.cl_Site TC.no_Site_kinds (by rw [← hF6, ← hF]; show 4 < 1000; decide) ?_
    rw [← hF6, ← hF, sf_new]
    exact k lw lt ll _ k7.up (f1 lw hw) (f3 lt ht) fl ⟨upd_same, ⟨[], up_oth w7 nw, Rows.nil⟩, ⟨[], up_oth t7 nt, Rows.nil⟩, ⟨[], up_oth l7 nl, Rows.nil⟩, nwt, nwl, ntl⟩
theorem ok_built {d1 d2 : Tok} (T : Txt mg cs) (TC : Tcl K cs) (L : Laid K mg "built" s_built ["plan"]) (C_check_size : CalX P w K mg base 20 "check_size" ["plan"] (spSize xs.TooMany)) (C_Site : Makes P w K mg base 1 "Site" cs.Site ["self"] (spSite cs)) (C_build : Cal P w K mg base 20 "build" ["site", "plan", "here"] (spBuild cs 19)) (C_cellar : CalDX P w K mg base 4 "cellar" psC (spCellar xs.NoCellar) s_cellar (dsC d1 d2)) : CalX P w K mg base 21 "built" ["plan"] (spBuilt xs.TooMany) := by
  refine L.calX (k := 20) sc_built (fun vs H Q E h => ?_) (fun f cdv A outer s H vs Q E hr h => ?_)
  · obtain ⟨v, t, rfl, _⟩ := h
    rfl
  · obtain ⟨v, t, rfl, it, tw, tn, td, k, ke⟩ := h
    obtain ⟨t1, e_FIRST_ROOM⟩ := T.e_FIRST_ROOM
    refine ⟨_, (pss_cons (ps_expr (pe_calX C_check_size pass_xe hr (by decide) rfl (pa_cons (pv 0) pa_nil)))
      (pss_cons (ps_set (i := 1) sc_built.nd rfl (Or.inl rfl) (pe_mak0 C_Site hr (by decide) rfl))
      (pss_cons (ps_set (i := 2) sc_built.nd rfl (Or.inl rfl) (pe_cal C_build hr (by decide) rfl (pa_cons (pv 1) (pa_cons (pv 0) (pa_cons (pe_glob (v := .int 0) rfl e_FIRST_ROOM ⟨_, rfl⟩) pa_nil)))))
      (pss_one (ps_ret (pe_calDX C_cellar pass_xe (bd_cellar_6 d1 d2) (dv_cellar_6 d1 d2) hr (by decide) rfl (pa_c (pe_fldK K (pv 1) rfl) (pa_c (pe_glob (v := .int 0) rfl e_FIRST_ROOM ⟨_, rfl⟩) (pa_c (pv 2) (pa_c (pe_fldK K (pv 1) rfl) (pa_c (pe_fldK K (pv 1) rfl) (pa_c (pe_fldK K (pv 1) rfl) pa_nil)))))))))))), ?_⟩
    walk_at "rd"
    refine ⟨v, t, rfl, it, tw, tn, td, fun fits H1 s1 => ?_, ke⟩
    have G := site_good fits
    have f2 := fits.wy
    have f3 := fits.th
    have f4 := fits.lv
    walk_at "rd"
    intro x dx hx hdx hne
    refine ⟨x, dx, rfl, upd_same, fun lw lt ll H2 k2 g1 g2 g3 S2 => ⟨rfl, ?_⟩⟩
    have F2 : Frm H1 x lw lt ll H2 := ⟨hx, (un_upd (un_upd g1).1).1, (un_upd (un_upd g2).1).1, (un_upd (un_upd g3).1).1, fun b o hb => k2 b o (by
      rw [upd_ne (ne_of_none hb hx), upd_ne (ne_of_none hb hdx)]
      exact hb) (ne_of_none hb hx)⟩
    walk_at "rd"
    refine ⟨x, dx, lw, lt, ll, v, t, 0, Si.new, H1, rfl, Pl.mono (s1.trans F2.s).ts it, tw, by omega, S2, F2, Si.Ok.new, by decide, by decide, by show 0 + t.wy ≤ 20; omega, by show 0 + t.th ≤ 20; omega, by show 0 + t.lv ≤ 20; omega, fun H3 F3 t3 S3' => ?_⟩
    have S3 : SiteAt cs H3 x dx lw lt ll (site t) := S3'
    show _
    have el : (bld t Si.new 0).2 = last t := rfl
    rw [el]
    clear S3'
    obtain ⟨ws, w1, w2⟩ := S3.w
    obtain ⟨us, u1, u2⟩ := S3.t
    obtain ⟨ls, l1, l2⟩ := S3.l
    have lw' := w2.1
    have lt' := u2.1
    have ll' := l2.1
    have gl := G.wl
    have gt := G.tl
    have gv := G.ll
    have gr := G.r
    have ge := G.e
    walk_at "rd"
    refine r_fld S3.o TC.cl_Site TC.no_Site_rooms sf_rooms ?_
    walk_at "rd"
    refine r_fld S3.o TC.cl_Site TC.no_Site_ways sf_ways ?_
    walk_at "rd"
    refine r_fld S3.o TC.cl_Site TC.no_Site_things sf_things ?_
    walk_at "rd"
    refine r_fld S3.o TC.cl_Site TC.no_Site_levers sf_levers ?_
    walk_at "rd"
    refine ⟨⟨(site t).rooms, 0, last t, 0, 0, .ref lw, .ref lt, .ref ll, .non, ws.map V.ref, us.map V.ref, ls.map V.ref, [], fun i => wyW ((site t).ways.getD i ⟨0, 0, .plain, false⟩), fun i => (site t).things.getD i (0, 0), fun i => (site t).levers.getD i (0, 0), fun _ => (0, 0)⟩, rfl, ?_, fun _ p H4 s4 hm => ?_, fun ng => absurd ?_ ng⟩
    · refine ⟨sml_in (by show (-100000 : Int) ≤ (site t).rooms; omega) (by show (site t).rooms ≤ 100000; omega), sml_in (by show (-100000 : Int) ≤ (site t).rooms - 1; omega) (by show (site t).rooms - 1 ≤ 100000; omega), sml0, sml_in (by show (-100000 : Int) ≤ last t; omega) (by show last t ≤ 100000; omega), sml0, sml0, .inr (.inl ⟨lw, rfl, w1⟩), .inr (.inl ⟨lt, rfl, u1⟩), .inr (.inl ⟨ll, rfl, l1⟩), .inl ⟨rfl, rfl⟩, fun i x e => ?_, fun i x e => ?_, fun i x e => ?_, fun i x e => by simp at e, by rw [List.length_map]; omega, by rw [List.length_map]; omega, by rw [List.length_map]; omega, Nat.zero_le _⟩
      · obtain ⟨p, rfl, ha, hm⟩ := rows_at w2 e ⟨0, 0, .plain, false⟩
        exact way_is ha (G.w _ hm) gr.2
      · obtain ⟨p, rfl, ha, hm⟩ := rows_at u2 e (0, 0)
        have z1 := (G.t _ hm).1
        have z2 := (G.t _ hm).2
        exact ⟨p, rfl, ha, sml_in (n := ((site t).things.getD i (0, 0)).1) (by omega) (by omega), sml_in (n := ((site t).things.getD i (0, 0)).2) (by omega) (by omega)⟩
      · obtain ⟨p, rfl, ha, hm⟩ := rows_at l2 e (0, 0)
        have z1 := (G.l _ hm).1
        have z2 := (G.l _ hm).2
        exact ⟨p, rfl, ha, sml_in (n := ((site t).levers.getD i (0, 0)).1) (by omega) (by omega), sml_in (n := ((site t).levers.getD i (0, 0)).2) (by omega) (by omega)⟩
    · obtain ⟨p1, p2, p3, p4, m0, m1, m2, m3, m4⟩ := hm
      refine k fits p H4 (s1.trans (F3.s.trans s4)) ⟨p1, p2, p3, p4, m0, ⟨ws, m1, w2.mono fun _ _ => WayAt.mono s4.ts⟩, ⟨us, m2, u2.mono fun _ _ => PairAt.mono s4.ts⟩, ⟨ls, m3, l2.mono fun _ _ => PairAt.mono s4.ts⟩, ⟨[], m4, Rows.nil⟩⟩
    · refine ⟨gr, ⟨by show (0 : Int) ≤ 0; omega, by show (0 : Int) ≤ (site t).rooms - 1; omega⟩, ⟨ge.1, by show last t ≤ (site t).rooms - 1; omega⟩, (show (0 : Int) ≤ 0 ∧ (0 : Int) ≤ 255 by decide), (show (0 : Int) ≤ 0 ∧ (0 : Int) ≤ 9 by decide), ⟨by rw [List.length_map]; omega, fun i hi => ?_⟩, ⟨by show (((us.map V.ref).length : Nat) : Int) ≤ 8; rw [List.length_map]; omega, fun i hi => ?_⟩, ⟨by show (((ls.map V.ref).length : Nat) : Int) ≤ 4; rw [List.length_map]; omega, fun i hi => ?_⟩, ⟨show ((([] : List V).length : Nat) : Int) ≤ 4 by decide, fun i hi => absurd hi (by simp)⟩⟩
      · rw [List.length_map] at hi
        obtain ⟨a, b, c, d⟩ := G.w _ (get_mem ⟨0, 0, .plain, false⟩ (show i < (site t).ways.length by omega))
        exact ⟨a, b, c, gateOk_ok d⟩
      · rw [List.length_map] at hi
        exact G.t _ (get_mem (0, 0) (show i < (site t).things.length by omega))
      · rw [List.length_map] at hi
        exact G.l _ (get_mem (0, 0) (show i < (site t).levers.length by omega))
end


theorem r_tryS {i : Nat} {sp : Sp} {dvs : List V} {t : TA} {th : TH} {D : Ends} {σ : St} {H : Hp} (q : t σ H fun vs H1 => sp (vs ++ dvs) H1 (fun v H2 => D.nx (σ.set i (some v)) H2) (fun cls _ H' => th cls D σ H')) : tTryH (xSet i (xCall sp dvs t)) th D σ H := q
theorem r_inT {K : PySem.W.Frag} {H : Hp} {Q : VK} {p : Addr} {x : V} {ys : List V} {neg b : Bool} (h : H p = some (.tup ys)) (fx : flatV x = true) (fs : ys.all flatV = true) (e : (if neg then !inV x ys else inV x ys) = b) (q : Q (.bl b) H) : rIn K neg x (.ref p) H Q := ⟨p, ys, rfl, .inr (SqT.of h), fx, fs, by rw [e]; exact q⟩
theorem none_of {H H' : Hp} {a : Addr} (s : Same H H') (h : H' a = none) : H a = none := by
  cases e : H a with
  | none => rfl
  | some o => rw [s _ _ e] at h; cases h
inductive Alk (H : Hp) : Nat → V → V → Prop
  | tup {n : Nat} {p q : Addr} {us vs : List V} : H p = some (.tup us) → H q = some (.tup vs) → us.length = vs.length → vs.length ≤ 100 → (∀ (i : Nat) (x y : V), us[i]? = some x → vs[i]? = some y → Alk H n x y) → Alk H (n + 1) (.ref p) (.ref q)
  | str {n : Nat} (z : Str) : Alk H (n + 1) (.str z) (.str z)
  | int {n : Nat} (z : Int) : Alk H (n + 1) (.int z) (.int z)
  | bl {n : Nat} (z : Bool) : Alk H (n + 1) (.bl z) (.bl z)

theorem alk_tup {α : Type} {At : Hp → Addr → α → Prop} {H : Hp} {n : Nat} {a b : Addr} {xs : List α} (m : ∀ p q x, At H p x → At H q x → Alk H n (.ref p) (.ref q)) (h1 : TupOf At H a xs) (h2 : TupOf At H b xs) (l : xs.length ≤ 100) : Alk H (n + 1) (.ref a) (.ref b) := by
  obtain ⟨ps, e1, r1⟩ := h1
  obtain ⟨qs, e2, r2⟩ := h2
  have l1 := r1.1
  have l2 := r2.1
  refine .tup e1 e2 (by rw [List.length_map, List.length_map]; omega) (by rw [List.length_map]; omega) fun i x y hx hy => ?_
  have hi : i < ps.length := by have := (List.getElem?_eq_some_iff.mp hx).1; simpa using this
  have hj : i < qs.length := by omega
  have hk : i < xs.length := by omega
  obtain rfl : x = .ref ps[i] := by simpa [hi] using hx.symm
  obtain rfl : y = .ref qs[i] := by simpa [hj] using hy.symm
  exact m _ _ _ (r1.2 i ps[i] xs[i] (by simp [hi]) (by simp [hk])) (r2.2 i qs[i] xs[i] (by simp [hj]) (by simp [hk]))
theorem alk_flat {H : Hp} {n : Nat} {p q : Addr} {vs : List V} (h1 : H p = some (.tup vs)) (h2 : H q = some (.tup vs)) (l : vs.length ≤ 100) (f : ∀ x ∈ vs, Alk H n x x) : Alk H (n + 1) (.ref p) (.ref q) :=
  .tup h1 h2 rfl l fun i x y hx hy => by
    rw [hx] at hy
    cases hy
    exact f x (List.mem_of_getElem? hx)
theorem alk_pair {H : Hp} {n : Nat} {p q : Addr} {x : Int × Int} (h1 : PairAt H p x) (h2 : PairAt H q x) : Alk H (n + 2) (.ref p) (.ref q) :=
  alk_flat h1 h2 (by simp) fun y hy => by
    rcases List.mem_cons.mp hy with rfl | hy
    · exact .int _
    · obtain rfl := List.mem_singleton.mp hy
      exact .int _
theorem alk_way {H : Hp} {p q : Addr} {x : Way} (h1 : WayAt H p x) (h2 : WayAt H q x) : Alk H 3 (.ref p) (.ref q) := by
  obtain ⟨g, a1, a2⟩ := h1
  obtain ⟨g', b1, b2⟩ := h2
  have gg : Alk H 2 (.ref g) (.ref g') := by
    refine alk_flat a2 b2 ?_ fun y hy => ?_
    · have := x.g.ns_len
      rw [Gt.vs_eq]
      simp
      omega
    · rw [Gt.vs_eq] at hy
      rcases List.mem_cons.mp hy with rfl | hy
      · exact .str _
      · obtain ⟨z, _, rfl⟩ := List.mem_map.mp hy
        exact .int _
  refine .tup a1 b1 rfl (by simp) fun i u v hu hv => ?_
  match i, hu, hv with
  | 0, hu, hv => cases hu; cases hv; exact .int _
  | 1, hu, hv => cases hu; cases hv; exact .int _
  | 2, hu, hv => cases hu; cases hv; exact gg
  | 3, hu, hv => cases hu; cases hv; exact .bl _
theorem alk_cl {H : Hp} {c d : Addr} {C : Cl} (h1 : ClAt H c C) (h2 : ClAt H d C) (l1 : C.ways.length ≤ 100) (l2 : C.things.length ≤ 100) (l3 : C.levers.length ≤ 100) (l4 : C.wheels.length ≤ 100) : Alk H 5 (.ref c) (.ref d) := by
  obtain ⟨w1, t1, e1, v1, a0, a1, a2, a3, a4⟩ := h1.ex
  obtain ⟨w2, t2, e2, v2, b0, b1, b2, b3, b4⟩ := h2.ex
  refine .tup a0 b0 rfl (by simp) fun i u v hu hv => ?_
  match i, hu, hv with
  | 0, hu, hv => cases hu; cases hv; exact .int _
  | 1, hu, hv => cases hu; cases hv; exact .int _
  | 2, hu, hv => cases hu; cases hv; exact .int _
  | 3, hu, hv => cases hu; cases hv; exact alk_tup (fun _ _ _ => alk_way) a1 b1 l1
  | 4, hu, hv => cases hu; cases hv; exact alk_tup (fun _ _ _ => alk_pair) a2 b2 l2
  | 5, hu, hv => cases hu; cases hv; exact alk_tup (fun _ _ _ => alk_pair) a3 b3 l3
  | 6, hu, hv => cases hu; cases hv; exact alk_tup (fun _ _ _ => alk_pair) a4 b4 l4
  | 7, hu, hv => cases hu; cases hv; exact .int _
  | 8, hu, hv => cases hu; cases hv; exact .int _
structure Ap (m lw lt ll pl en : Addr) : Prop where
  mw : m ≠ lw
  mt : m ≠ lt
  ml : m ≠ ll
  mp : m ≠ pl
  me : m ≠ en
  wt : lw ≠ lt
  wl : lw ≠ ll
  wp : lw ≠ pl
  we : lw ≠ en
  tl : lt ≠ ll
  tp : lt ≠ pl
  te : lt ≠ en
  lp : ll ≠ pl
  le : ll ≠ en
  pe : pl ≠ en
structure Fr (H0 : Hp) (m lw lt ll pl en : Addr) (H : Hp) : Prop where
  m : H0 m = none
  w : H0 lw = none
  t : H0 lt = none
  l : H0 ll = none
  p : H0 pl = none
  e : H0 en = none
  s : Same H0 H
structure LS (H : Hp) (m lw lt ll pl en : Addr) (r : Int) (W : List Way) (T L : List (Int × Int)) (ps : List V) (es : List Int) : Prop where
  m : H m = some (.lst [.int r, .ref lw, .ref lt, .ref ll, .int 0])
  w : LstOf WayAt H lw W
  t : LstOf PairAt H lt T
  l : LstOf PairAt H ll L
  p : H pl = some (.lst ps)
  e : H en = some (.lst (es.map V.int))
section
variable {H H' H0 : Hp} {m lw lt ll pl en : Addr} {r : Int} {W : List Way} {T L : List (Int × Int)} {ps : List V} {es : List Int}
theorem Fr.new (F : Fr H0 m lw lt ll pl en H) (s : Same H H') : Fr H0 m lw lt ll pl en H' := ⟨F.m, F.w, F.t, F.l, F.p, F.e, F.s.trans s⟩
theorem Fr.put (F : Fr H0 m lw lt ll pl en H) {a : Addr} {o : HO} (h : H0 a = none) : Fr H0 m lw lt ll pl en (upd H a o) := ⟨F.m, F.w, F.t, F.l, F.p, F.e, F.s.put h⟩
theorem LS.same (S : LS H m lw lt ll pl en r W T L ps es) (e : Same H H') : LS H' m lw lt ll pl en r W T L ps es :=
  ⟨e _ _ S.m, lst_same (fun _ _ => WayAt.mono e.ts) e S.w, lst_same (fun _ _ => PairAt.mono e.ts) e S.t, lst_same (fun _ _ => PairAt.mono e.ts) e S.l, e _ _ S.p, e _ _ S.e⟩
theorem LS.um (A : Ap m lw lt ll pl en) (S : LS H m lw lt ll pl en r W T L ps es) (r2 : Int) : LS (upd H m (.lst [.int r2, .ref lw, .ref lt, .ref ll, .int 0])) m lw lt ll pl en r2 W T L ps es :=
  have ts : TSame H (upd H m (.lst [.int r2, .ref lw, .ref lt, .ref ll, .int 0])) := TSame.lst S.m
  ⟨upd_same, lst_mono (fun _ _ => WayAt.mono ts) (upd_ne (A.mw.symm)) S.w, lst_mono (fun _ _ => PairAt.mono ts) (upd_ne (A.mt.symm)) S.t, lst_mono (fun _ _ => PairAt.mono ts) (upd_ne (A.ml.symm)) S.l, by rw [upd_ne (A.mp.symm)]; exact S.p, by rw [upd_ne (A.me.symm)]; exact S.e⟩
theorem LS.uw (A : Ap m lw lt ll pl en) (S : LS H m lw lt ll pl en r W T L ps es) {qs : List Addr} {p : Addr} {x : Way} (h1 : H lw = some (.lst (qs.map V.ref))) (h2 : Rows WayAt H qs W) (hx : WayAt H p x) : LS (upd H lw (.lst (qs.map V.ref ++ [.ref p]))) m lw lt ll pl en r (W ++ [x]) T L ps es :=
  have ts : TSame H (upd H lw (.lst (qs.map V.ref ++ [.ref p]))) := TSame.lst h1
  ⟨by rw [upd_ne (A.mw)]; exact S.m, lst_snoc (fun _ _ => WayAt.mono ts) h2 hx, lst_mono (fun _ _ => PairAt.mono ts) (upd_ne (A.wt.symm)) S.t, lst_mono (fun _ _ => PairAt.mono ts) (upd_ne (A.wl.symm)) S.l, by rw [upd_ne (A.wp.symm)]; exact S.p, by rw [upd_ne (A.we.symm)]; exact S.e⟩
theorem LS.ut (A : Ap m lw lt ll pl en) (S : LS H m lw lt ll pl en r W T L ps es) {qs : List Addr} {p : Addr} {x : Int × Int} (h1 : H lt = some (.lst (qs.map V.ref))) (h2 : Rows PairAt H qs T) (hx : PairAt H p x) : LS (upd H lt (.lst (qs.map V.ref ++ [.ref p]))) m lw lt ll pl en r W (T ++ [x]) L ps es :=
  have ts : TSame H (upd H lt (.lst (qs.map V.ref ++ [.ref p]))) := TSame.lst h1
  ⟨by rw [upd_ne (A.mt)]; exact S.m, lst_mono (fun _ _ => WayAt.mono ts) (upd_ne (A.wt)) S.w, lst_snoc (fun _ _ => PairAt.mono ts) h2 hx, lst_mono (fun _ _ => PairAt.mono ts) (upd_ne (A.tl.symm)) S.l, by rw [upd_ne (A.tp.symm)]; exact S.p, by rw [upd_ne (A.te.symm)]; exact S.e⟩
theorem LS.ul (A : Ap m lw lt ll pl en) (S : LS H m lw lt ll pl en r W T L ps es) {qs : List Addr} {p : Addr} {x : Int × Int} (h1 : H ll = some (.lst (qs.map V.ref))) (h2 : Rows PairAt H qs L) (hx : PairAt H p x) : LS (upd H ll (.lst (qs.map V.ref ++ [.ref p]))) m lw lt ll pl en r W T (L ++ [x]) ps es :=
  have ts : TSame H (upd H ll (.lst (qs.map V.ref ++ [.ref p]))) := TSame.lst h1
  ⟨by rw [upd_ne (A.ml)]; exact S.m, lst_mono (fun _ _ => WayAt.mono ts) (upd_ne (A.wl)) S.w, lst_mono (fun _ _ => PairAt.mono ts) (upd_ne (A.tl)) S.t, lst_snoc (fun _ _ => PairAt.mono ts) h2 hx, by rw [upd_ne (A.lp.symm)]; exact S.p, by rw [upd_ne (A.le.symm)]; exact S.e⟩
theorem LS.up (A : Ap m lw lt ll pl en) (S : LS H m lw lt ll pl en r W T L ps es) (ps2 : List V) : LS (upd H pl (.lst ps2)) m lw lt ll pl en r W T L ps2 es :=
  have ts : TSame H (upd H pl (.lst ps2)) := TSame.lst S.p
  ⟨by rw [upd_ne (A.mp)]; exact S.m, lst_mono (fun _ _ => WayAt.mono ts) (upd_ne (A.wp)) S.w, lst_mono (fun _ _ => PairAt.mono ts) (upd_ne (A.tp)) S.t, lst_mono (fun _ _ => PairAt.mono ts) (upd_ne (A.lp)) S.l, upd_same, by rw [upd_ne (A.pe.symm)]; exact S.e⟩
theorem LS.ue (A : Ap m lw lt ll pl en) (S : LS H m lw lt ll pl en r W T L ps es) (es2 : List Int) : LS (upd H en (.lst (es2.map V.int))) m lw lt ll pl en r W T L ps es2 :=
  have ts : TSame H (upd H en (.lst (es2.map V.int))) := TSame.lst S.e
  ⟨by rw [upd_ne (A.me)]; exact S.m, lst_mono (fun _ _ => WayAt.mono ts) (upd_ne (A.we)) S.w, lst_mono (fun _ _ => PairAt.mono ts) (upd_ne (A.te)) S.t, lst_mono (fun _ _ => PairAt.mono ts) (upd_ne (A.le)) S.l, by rw [upd_ne (A.pe)]; exact S.p, upd_same⟩
end

theorem hu1_of {A : Around} {k : Nat} (hr : Room k A) : A.units + 1 < cLine := by have := hr.un; omega
def gw (w : Nat) : Str := if w = 2 then "bar" else if w = 0 then "need" else "door"
def gtn (w : Nat) (n : Int) : Gt := if w = 2 then .bar n else if w = 0 then .need n else .door n
theorem gtn_vs (w : Nat) (n : Int) : (gtn w n).vs = [.str (gw w), .int n] := by
  unfold gtn gw
  repeat' split
  all_goals rfl
theorem dget {w : Nat} (hw : w < 3) : valV (d3 "lock" "need" "door" "door" "bar" "bar") (.inr (w2 w)) = some (.str (gw w)) := by
  have : w = 0 ∨ w = 1 ∨ w = 2 := by omega
  rcases this with rfl | rfl | rfl
  · exact (show valV (d3 "lock" "need" "door" "door" "bar" "bar") (.inr "lock") = some (.str "need") by rfl)
  · exact (show valV (d3 "lock" "need" "door" "door" "bar" "bar") (.inr "door") = some (.str "door") by rfl)
  · exact (show valV (d3 "lock" "need" "door" "door" "bar" "bar") (.inr "bar") = some (.str "bar") by rfl)
def bkL (e h : Int) : List Way := if e = h then [] else [⟨e, h, .plain, false⟩]
theorem go_ways (r : Int) (W : List Way) (T L : List (Int × Int)) (w : Nat) (e h : Int) : ((s0 r W T L).go w e h).ways = W ++ bkL e h ++ [⟨h, r, gtn w (if w = 2 then (L.length : Int) else (nk T : Int)), true⟩] := by
  show ((((s0 r W T L).gate w e).bk e h).ways ++ [⟨h, (((s0 r W T L).gate w e).bk e h).rooms, (s0 r W T L).gt w, true⟩]) = _
  rw [Si.bk_rooms, Si.gate_rooms]
  have e1 : (((s0 r W T L).gate w e).bk e h).ways = W ++ bkL e h := by
    unfold Si.bk bkL
    split
    · rw [Si.gate_ways, List.append_nil]; rfl
    · show ((s0 r W T L).gate w e).ways ++ [_] = _
      rw [Si.gate_ways]; rfl
  have e2 : (s0 r W T L).gt w = gtn w (if w = 2 then (L.length : Int) else (nk T : Int)) := by
    unfold Si.gt gtn
    by_cases z : w = 2
    · rw [if_pos z, if_pos z, if_pos z]; rfl
    · rw [if_neg z, if_neg z, if_neg z]; rfl
  rw [e1, e2]
  rfl
theorem go_levers (r : Int) (W : List Way) (T L : List (Int × Int)) (w : Nat) (e h : Int) : ((s0 r W T L).go w e h).levers = if w = 2 then L ++ [(e, 2 ^ L.length)] else L := by
  show (((s0 r W T L).gate w e).bk e h).levers = _
  rw [Si.bk_levers]
  unfold Si.gate
  split <;> rfl
theorem msk_at {n : Nat} (h : n ≤ 16) : ∃ k : Int, atI ([V.int 1, V.int 2, V.int 4, V.int 8, V.int 16, V.int 32, V.int 64, V.int 128] ++ (List.replicate 9 [V.int 0]).flatten) (n : Int) = some (.int k) ∧ (n ≤ 7 → k = 2 ^ n) := by
  have : n = 0 ∨ n = 1 ∨ n = 2 ∨ n = 3 ∨ n = 4 ∨ n = 5 ∨ n = 6 ∨ n = 7 ∨ n = 8 ∨ n = 9 ∨ n = 10 ∨ n = 11 ∨ n = 12 ∨ n = 13 ∨ n = 14 ∨ n = 15 ∨ n = 16 := by omega
  rcases this with rfl | rfl | rfl | rfl | rfl | rfl | rfl | rfl | rfl | rfl | rfl | rfl | rfl | rfl | rfl | rfl | rfl
  · exact ⟨1, rfl, fun _ => rfl⟩
  · exact ⟨2, rfl, fun _ => rfl⟩
  · exact ⟨4, rfl, fun _ => rfl⟩
  · exact ⟨8, rfl, fun _ => rfl⟩
  · exact ⟨16, rfl, fun _ => rfl⟩
  · exact ⟨32, rfl, fun _ => rfl⟩
  · exact ⟨64, rfl, fun _ => rfl⟩
  · exact ⟨128, rfl, fun _ => rfl⟩
  all_goals exact ⟨0, rfl, fun z => absurd z (by omega)⟩
abbrev NB : List Str := ["_law_made", "_law_pile", "_law_part", "_law_here", "_law_end", "_law_first_part", "_law_number", "_law_gate"]
def spBey : Sp := fun vs H Q _ => ∃ (m lw lt ll pl en : Addr) (v : V) (h e : Int) (w : Nat) (r : Int) (W : List Way) (T L : List (Int × Int)) (ps : List V) (es : List Int) (H0 : Hp), vs = [.ref m, .ref pl, v, .int h, .int e, .str (w2 w)] ∧ w < 3 ∧ Ap m lw lt ll pl en ∧ LS H m lw lt ll pl en r W T L ps es ∧ Fr H0 m lw lt ll pl en H ∧ W.length ≤ 1000 ∧ T.length ≤ 1000 ∧ L.length ≤ 16 ∧ ps.length ≤ 1000 ∧
  ∀ (q : Addr) (L' : List (Int × Int)) (H' : Hp), Fr H0 m lw lt ll pl en H' → TSame H H' → LS H' m lw lt ll pl en (r + 1) ((s0 r W T L).go w e h).ways ((s0 r W T L).go w e h).things L' (ps ++ [.ref q]) es → L'.length = ((s0 r W T L).go w e h).levers.length → (L.length ≤ 7 → L' = ((s0 r W T L).go w e h).levers) → H' q = some (.tup [.str "plan", v, .int r, .non]) → Q .non H'
set_option hygiene false in
local macro_rules | `(tactic| walk_at "beyend") => `(tactic| (
  walk_at "rd"
  refine r_d3 (w := w2 wd) (z := gw wd) (fun H' R hR => ⟨_, rfl, hR⟩) (dget hw) fun p4 H4 g4 s4 => ?_
  walk_at "rd"
  intro p5 g5
  generalize hG5 : upd _ p5 _ = H5
  have s5 := sm_of hG5 g5
  have h5 := at_of hG5
  have s45 := s4.trans s5
  have S5 := S3.same s45
  have F5 := F3.new s45
  have t5 := t3.trans s45.ts
  obtain ⟨qs5, w15, w25⟩ := S5.w
  have lq5 := w25.1
  have hm5 := S5.m
  try simp only [List.set_cons_succ, List.set_cons_zero]
  walk_at "rd"
  intro p6 g6
  generalize hG6 : upd _ p6 _ = H6
  have s6 := sm_of hG6 g6
  have h6 := at_of hG6
  have w16 := s6 _ _ w15
  walk_at "rd"
  refine r_app w16 (by rw [List.length_map]; omega) ?_
  have S7 := (S5.same s6).uw A (qs := qs5) (p := p6) (x := ⟨h, r, gtn wd n, true⟩) w16 (w25.mono fun _ _ => WayAt.mono s6.ts) ⟨p5, h6, by rw [gtn_vs]; exact s6 _ _ h5⟩
  have F7 := (F5.new s6).put (a := lw) (o := .lst (qs5.map V.ref ++ [.ref p6])) F.w
  have t7 := t5.trans (s6.ts.trans (TSame.lst (o := .lst (qs5.map V.ref ++ [.ref p6])) w16))
  generalize upd H6 lw (.lst (qs5.map V.ref ++ [.ref p6])) = H7 at S7 F7 t7 ⊢
  have hm7 := S7.m
  walk_at "rd"
  refine r_setL hm7 (show ixN 5 (0 : Int) = some 0 by decide) ?_
  simp only [List.set_cons_succ, List.set_cons_zero]
  have S8 := S7.um A (r + 1)
  have F8 := F7.put (a := m) (o := .lst [.int (r + 1), .ref lw, .ref lt, .ref ll, .int 0]) F.m
  have t8 := t7.trans (TSame.lst (o := .lst [.int (r + 1), .ref lw, .ref lt, .ref ll, .int 0]) hm7)
  generalize upd H7 m (.lst [.int (r + 1), .ref lw, .ref lt, .ref ll, .int 0]) = H8 at S8 F8 t8 ⊢
  have hm8 := S8.m
  have hp8 := S8.p
  walk_at "rd"
  intro p9 g9
  generalize hG9 : upd _ p9 _ = H9
  have s9 := sm_of hG9 g9
  have h9 := at_of hG9
  rw [Int.add_sub_cancel] at h9
  have hp9 := s9 _ _ hp8
  walk_at "rd"
  refine r_app hp9 (by omega) ?_
  have SA := (S8.same s9).up A (ps ++ [.ref p9])
  have FA := (F8.new s9).put (a := pl) (o := .lst (ps ++ [.ref p9])) F.p
  have tA := t8.trans (s9.ts.trans (TSame.lst (o := .lst (ps ++ [.ref p9])) hp9))
  exact k p9 _ _ FA tA SA (TSame.lst hp9 _ _ h9)))
section
variable {P : Program} {w : World} {K : PySem.W.Frag} {mg : Str → Option Value} {base : Heap} {xs : Xs} {cs : Cs}
theorem bey_tail {f : Addr} {cdv : Value} {A : Around} {outer : List Env} {s : Shared} {Hs : Hp} {E : XK} (T : Txt mg cs) (hr : Room 0 (A.deeper (PyProof.Rows.envOfC "_law_beyond" (defScope s__law_beyond) s.heap.objs.size f cdv))) :
    ∃ t, PSs (cxOf CX0 P w K mg base NB "_law_beyond" (defScope s__law_beyond) f cdv A outer s Hs E).nox ((defBody s__law_beyond).drop 1) t ∧ ∀ (nx bk ct : St → Hp → Prop) (rt : VK) (m lw lt ll pl en : Addr) (v : V) (h e : Int) (wd : Nat) (n r : Int) (W : List Way) (Tg L : List (Int × Int)) (ps : List V) (es : List Int) (H0 H : Hp), wd < 3 → Ap m lw lt ll pl en → LS H m lw lt ll pl en r W Tg L ps es → Fr H0 m lw lt ll pl en H → W.length ≤ 1000 → ps.length ≤ 1000 →
      (∀ (q : Addr) (H' : Hp) (σ' : St), Fr H0 m lw lt ll pl en H' → TSame H H' → LS H' m lw lt ll pl en (r + 1) (W ++ bkL e h ++ [⟨h, r, gtn wd n, true⟩]) Tg L (ps ++ [.ref q]) es → H' q = some (.tup [.str "plan", v, .int r, .non]) → nx σ' H') →
      t ⟨nx, rt, bk, ct⟩ [some (.ref m), some (.ref pl), some v, some (.int h), some (.int e), some (.str (w2 wd)), some (.int n), none] H := by
  refine ⟨_, (pss_cons (ps_if (pt_cmpR op_ne (pv 4) (pv 3) (nomark _)) (pss_one (ps_expr (pe_bm PySem.F.plainAttrs_list PySem.F.slot_list_append PySem.F.type_list_append mt_append (pe_ix (ix_listK K) (pv 0) pe_int (fun _ _ => rfl)) (pa_cons (pe_tup (pa_cons (pv 4) (pa_cons (pv 3) (pa_cons (pe_tup (pa_cons pe_str pa_nil)) (pa_cons pe_bl pa_nil))))) pa_nil)))) pss_nil)
      (pss_cons (ps_set (i := 7) sc__law_beyond.nd rfl (Or.inl rfl) (pe_tup (pa_cons (pe_dget (hu1_of hr) (pe_disp (pps_cons pe_str pe_str (pps_cons pe_str pe_str (pps_cons pe_str pe_str pps_nil))) rfl rfl (by intro z; cases z) (by decide)) (pv 5) (fun _ _ => rfl)) (pa_cons (pv 6) pa_nil))))
      (pss_cons (ps_expr (pe_bm PySem.F.plainAttrs_list PySem.F.slot_list_append PySem.F.type_list_append mt_append (pe_ix (ix_listK K) (pv 0) pe_int (fun _ _ => rfl)) (pa_cons (pe_tup (pa_cons (pv 3) (pa_cons (pe_ix (ix_listK K) (pv 0) pe_int (fun _ _ => rfl)) (pa_cons (pv 7) (pa_cons pe_bl pa_nil))))) pa_nil)))
      (pss_cons (ps_asg (pe_op op_add (pe_ix (ix_listK K) (pv 0) pe_int (fun _ _ => rfl)) pe_int) (pg_sub (pv 0) pe_int set_list))
      (pss_one (ps_expr (pe_bm PySem.F.plainAttrs_list PySem.F.slot_list_append PySem.F.type_list_append mt_append (pv 1) (pa_cons (pe_tup (pa_cons pe_str (pa_cons (pv 2) (pa_cons (pe_op op_sub (pe_ix (ix_listK K) (pv 0) pe_int (fun _ _ => rfl)) pe_int) (pa_cons pe_non pa_nil))))) pa_nil)))))))), ?_⟩
  intro nx bk ct rt m lw lt ll pl en v h e wd n r W Tg L ps es H0 H hw A S F lW lP k
  have big := line_big
  walk_at "rd"
  refine ifn (fun ne => ?_) (fun eq => ?_)
  · have eb : bkL e h = [⟨e, h, .plain, false⟩] := if_neg ne
    rw [eb] at k
    obtain ⟨qs, w1, w2'⟩ := S.w
    have lq := w2'.1
    have hm := S.m
    walk_at "rd"
    intro p1 g1
    generalize hG1 : upd _ p1 _ = H1
    have s1 := sm_of hG1 g1
    have h1 := at_of hG1
    walk_at "rd"
    intro p2 g2
    generalize hG2 : upd _ p2 _ = H2
    have s2 := sm_of hG2 g2
    have h2 := at_of hG2
    have s12 := s1.trans s2
    have w1' := s12 _ _ w1
    walk_at "rd"
    refine r_app w1' (by rw [List.length_map]; omega) ?_
    have S3 := (S.same s12).uw A (qs := qs) (p := p2) (x := ⟨e, h, .plain, false⟩) w1' (w2'.mono fun _ _ => WayAt.mono s12.ts) ⟨p1, h2, s2 _ _ h1⟩
    have F3 := (F.new s12).put (a := lw) (o := .lst (qs.map V.ref ++ [.ref p2])) F.w
    have t3 := s12.ts.trans (TSame.lst (o := .lst (qs.map V.ref ++ [.ref p2])) w1')
    generalize upd H2 lw (.lst (qs.map V.ref ++ [.ref p2])) = H3 at S3 F3 t3 ⊢
    have lW3 : (W ++ [(⟨e, h, .plain, false⟩ : Way)]).length ≤ 1001 := by simp; omega
    generalize W ++ [(⟨e, h, .plain, false⟩ : Way)] = W3 at S3 k lW3
    walk_at "beyend"
  · have eb : bkL e h = [] := if_pos eq
    rw [eb, List.append_nil] at k
    have S3 := S
    have F3 := F
    have t3 := TSame.refl H
    have lW3 : W.length ≤ 1001 := by omega
    walk_at "beyend"
end

theorem nk_take {Tg : List (Int × Int)} {i : Nat} (hi : i < Tg.length) : nk (Tg.take (i + 1)) = nk (Tg.take i) + (if Tg[i].2 = 11 then 0 else 1) := by
  rw [List.take_succ_eq_append_getElem hi]
  by_cases z : Tg[i].2 = 11
  · rw [if_pos z, show Tg[i] = (Tg[i].1, 11) by rw [← z], nk_11]
    rfl
  · rw [if_neg z]
    exact nk_k _ _ z
section
variable {P : Program} {w : World} {K : PySem.W.Frag} {mg : Str → Option Value} {base : Heap} {xs : Xs} {cs : Cs}
theorem ok_bey (T : Txt mg cs) (L : Laid K mg "_law_beyond" s__law_beyond ["_law_made", "_law_pile", "_law_part", "_law_here", "_law_end", "_law_first_part"]) : Cal P w K mg base 1 "_law_beyond" ["_law_made", "_law_pile", "_law_part", "_law_here", "_law_end", "_law_first_part"] spBey := by
  refine L.cal (k := 0) sc__law_beyond (fun vs H Q E h => ?_) (fun f cdv A outer s H vs Q E hr h => ?_)
  · obtain ⟨m, lw, lt, ll, pl, en, v, h, e, w, r, W, T, L, ps, es, H0, rfl, _⟩ := h
    rfl
  · obtain ⟨m, lw, lt, ll, pl, en, v, h, e, wd, r, W, Tg, Lv, ps, es, H0, rfl, hw, Apt, S, F, lW, lT, lL, lP, k⟩ := h
    have big := line_big
    obtain ⟨tb, hb, rb⟩ := bey_tail (P := P) (w := w) (K := K) (base := base) (outer := outer) (Hs := H) (E := E) T hr
    refine ⟨_, (pss_cons (ps_if (pt_cmpR op_eq (pv 5) pe_str (nomark _)) (pss_cons (ps_set (i := 6) sc__law_beyond.nd rfl (Or.inl rfl) (pe_callB (lenK K) rfl T.n_len bt_len (pa_cons (pe_ix (ix_listK K) (pv 0) pe_int (fun _ _ => rfl)) pa_nil)))
      (pss_one (ps_expr (pe_bm PySem.F.plainAttrs_list PySem.F.slot_list_append PySem.F.type_list_append mt_append (pe_ix (ix_listK K) (pv 0) pe_int (fun _ _ => rfl)) (pa_cons (pe_tup (pa_cons (pv 4) (pa_cons (pe_ix (ix_listK K) (pe_op op_cat (pe_lst (pa_c pe_int (pa_c pe_int (pa_c pe_int (pa_c pe_int (pa_c pe_int (pa_c pe_int (pa_c pe_int (pa_c pe_int pa_nil))))))))) (pe_op op_rep (pe_lst (pa_cons pe_int pa_nil)) pe_int)) (pv 6) (fun _ _ => rfl)) pa_nil))) pa_nil))))) (pss_cons (ps_set (i := 6) sc__law_beyond.nd rfl (Or.inl rfl) (pe_callB (lenK K) rfl T.n_len bt_len (pa_cons (pe_comp (compOk (N := ["_law_thing"]) (own := 1) (caps := []) ["_law_made", "_law_pile", "_law_part", "_law_here", "_law_end", "_law_first_part", "_law_number", "_law_gate"] (defScope s__law_beyond) (by decide +kernel)) rfl (pi_listK K (pe_ix (ix_listK K) (pv 0) pe_int (fun _ _ => rfl))) (fun _ _ _ _ => (pg_name (i := 0) (show List.Nodup (["_law_thing"] : List Str) by decide +kernel) rfl (Or.inl rfl))) (fun _ _ _ _ => (pf_one (pt_cmpR op_ne (pe_ix (ix_tupK K) (pv 0) pe_int (fun _ _ => rfl)) pe_int (nomark _)))) (fun _ _ _ _ => (pv 0))) pa_nil)))
      (pss_one (ps_expr (pe_bm PySem.F.plainAttrs_list PySem.F.slot_list_append PySem.F.type_list_append mt_append (pe_ix (ix_listK K) (pv 0) pe_int (fun _ _ => rfl)) (pa_cons (pe_tup (pa_cons (pv 4) (pa_cons (pv 6) pa_nil))) pa_nil))))))
      hb), ?_⟩
    rw [show L2.start NB [V.ref m, V.ref pl, v, V.int h, V.int e, V.str (w2 wd)] = [some (.ref m), some (.ref pl), some v, some (.int h), some (.int e), some (.str (w2 wd)), none, none] from rfl]
    have hm := S.m
    rw [go_ways, go_things, go_levers] at k
    by_cases e2 : wd = 2
    · subst e2
      rw [if_pos rfl, if_pos rfl, if_pos rfl] at k
      obtain ⟨qs, l1, l2⟩ := S.l
      have lq : qs.length = Lv.length := l2.1
      have eb : (((qs.map V.ref).length : Nat) : Int) = (Lv.length : Int) := by rw [List.length_map, lq]
      obtain ⟨mk, em, emk⟩ := msk_at lL
      walk_at "rd"
      rw [decide_eq_true (show w2 2 = "bar" from rfl)]
      walk_at "rd"
      rw [eb]
      simp only [List.set_cons_succ, List.set_cons_zero]
      walk_at "rd"
      intro p1 g1
      generalize hG1 : upd _ p1 _ = H1
      have s1 := sm_of hG1 g1
      have h1 := at_of hG1
      walk_at "rd"
      intro p2 g2
      generalize hG2 : upd _ p2 _ = H2
      have s2 := sm_of hG2 g2
      have h2 := at_of hG2
      walk_at "rd"
      refine ⟨p2, 9, _, rfl, rfl, h2, by omega, by omega, by show 1 * 9 ≤ sizeLine; omega, fun p3 g3 => ?_⟩
      generalize hG3 : upd _ p3 _ = H3
      have s3 := sm_of hG3 g3
      have h3 := at_of hG3
      refine ⟨p1, p3, _, _, rfl, rfl, s3 _ _ (s2 _ _ h1), h3, by show 17 ≤ sizeLine; omega, fun p4 g4 => ?_⟩
      generalize hG4 : upd _ p4 _ = H4
      have s4 := sm_of hG4 g4
      have h4 := at_of hG4
      have h4' : H4 p4 = some (.lst ([V.int 1, V.int 2, V.int 4, V.int 8, V.int 16, V.int 32, V.int 64, V.int 128] ++ (List.replicate 9 [V.int 0]).flatten)) := h4
      walk_at "rd"
      try refine r_ixL (SqL.of h4') em ?_
      walk_at "rd"
      intro p5 g5
      generalize hG5 : upd _ p5 _ = H5
      have s5 := sm_of hG5 g5
      have h5 := at_of hG5
      have s15 := s1.trans (s2.trans (s3.trans (s4.trans s5)))
      have l1' := s15 _ _ l1
      walk_at "rd"
      refine r_app l1' (by rw [List.length_map]; omega) ?_
      have S6 := (S.same s15).ul Apt (qs := qs) (p := p5) (x := (e, mk)) l1' (l2.mono fun _ _ => PairAt.mono s15.ts) h5
      have F6 := (F.new s15).put (a := ll) (o := .lst (qs.map V.ref ++ [.ref p5])) F.l
      have t6 := s15.ts.trans (TSame.lst (o := .lst (qs.map V.ref ++ [.ref p5])) l1')
      generalize upd H5 ll (.lst (qs.map V.ref ++ [.ref p5])) = H6 at S6 F6 t6 ⊢
      refine rb _ _ _ _ m lw lt ll pl en v h e 2 Lv.length r W Tg _ ps es H0 H6 (by omega) Apt S6 F6 lW lP fun q H7 σ' F7 t7 S7 hq => ?_
      exact k q _ H7 F7 (t6.trans t7) S7 (by simp) (fun z => by rw [emk z]) hq
    · have nb : ¬ w2 wd = "bar" := by
        have : wd = 0 ∨ wd = 1 := by omega
        rcases this with rfl | rfl
        · exact s_lb
        · exact s_ob
      rw [if_neg e2, if_neg e2, if_neg e2] at k
      obtain ⟨qs, l1, l2⟩ := S.t
      have lq : qs.length = Tg.length := l2.1
      walk_at "rd"
      rw [decide_eq_false nb]
      walk_at "rd"
      intro D hD
      refine comp_lst (qs.map V.ref) (fun i σ H' => ∃ v0 zs, σ = [v0] ∧ Same H H' ∧ H' D = some (.lst zs) ∧ zs.length = nk (Tg.take i)) ⟨none, [], rfl, Same.upd hD, by rw [upd_same], rfl⟩ ?_ ?_ ?_
      · rintro i σ H' ⟨_, _, rfl, s1, _⟩
        exact SqL.of (s1 _ _ l1)
      · rintro i x σ H' hx ⟨v0, zs, rfl, s1, h1, lz⟩
        have hi : i < qs.length := by have := (List.getElem?_eq_some_iff.mp hx).1; simpa using this
        have hi2 : i < Tg.length := by omega
        obtain rfl : x = .ref qs[i] := by simpa [hi] using hx.symm
        have pa : H' qs[i] = some (.tup [.int Tg[i].1, .int Tg[i].2]) := s1 _ _ (l2.2 i qs[i] Tg[i] (by simp [hi]) (by simp [hi2]))
        have nt := nk_take hi2
        have zl : zs.length ≤ 1000 := by
          have := nk_le (Tg.take i)
          rw [List.length_take] at this
          omega
        walk_at "rd"
        refine ifn (fun ne => ?_) (fun eq => ?_)
        · rw [if_neg ne] at nt
          walk_at "rd"
          exact ⟨_, h1, by omega, _, _, rfl, s1.put hD, upd_same, by rw [nt, List.length_append, lz]; rfl⟩
        · rw [if_pos eq] at nt
          exact ⟨_, zs, rfl, s1, h1, by rw [nt]; exact lz⟩
      · rintro σ H1 ⟨v0, zs, rfl, s1, h1, lz⟩
        rw [List.length_map, lq, List.take_length] at lz
        have eb : ((zs.length : Nat) : Int) = (nk Tg : Int) := by rw [lz]
        have hm1 := s1 _ _ hm
        have l1' := s1 _ _ l1
        walk_at "rd"
        rw [eb]
        simp only [List.set_cons_succ, List.set_cons_zero]
        walk_at "rd"
        intro p5 g5
        generalize hG5 : upd _ p5 _ = H5
        have s5 := sm_of hG5 g5
        have h5 := at_of hG5
        have s15 := s1.trans s5
        have l1'' := s15 _ _ l1
        walk_at "rd"
        refine r_app l1'' (by rw [List.length_map]; omega) ?_
        have S6 := (S.same s15).ut Apt (qs := qs) (p := p5) (x := (e, (nk Tg : Int))) l1'' (l2.mono fun _ _ => PairAt.mono s15.ts) h5
        have F6 := (F.new s15).put (a := lt) (o := .lst (qs.map V.ref ++ [.ref p5])) F.t
        have t6 := s15.ts.trans (TSame.lst (o := .lst (qs.map V.ref ++ [.ref p5])) l1'')
        generalize upd H5 lt (.lst (qs.map V.ref ++ [.ref p5])) = H6 at S6 F6 t6 ⊢
        refine rb _ _ _ _ m lw lt ll pl en v h e wd (nk Tg) r W _ Lv ps es H0 H6 hw Apt S6 F6 lW lP fun q H7 σ' F7 t7 S7 hq => ?_
        exact k q _ H7 F7 (t6.trans t7) S7 rfl (fun _ => rfl) hq
end

def PiAt (H : Hp) (v : V) : Pi → Prop
  | .pl t h => ∃ q u, v = .ref q ∧ H q = some (.tup [.str "plan", u, .int h, .non]) ∧ t.is H u
  | .bey w t h => ∃ q u, v = .ref q ∧ H q = some (.tup [.str "beyond", u, .int h, .str (w2 w)]) ∧ t.is H u
theorem PiAt.mono {H H' : Hp} (s : TSame H H') {v : V} : ∀ {x : Pi}, PiAt H v x → PiAt H' v x
  | .pl _ _, ⟨q, u, e, h, i⟩ => ⟨q, u, e, s _ _ h, Pl.mono s i⟩
  | .bey _ _ _, ⟨q, u, e, h, i⟩ => ⟨q, u, e, s _ _ h, Pl.mono s i⟩
def OnP (H : Hp) (ps : List V) (its : List Pi) : Prop := ps.length = its.length ∧ ∀ (i : Nat) (v : V) (x : Pi), ps[i]? = some v → its[i]? = some x → PiAt H v x
theorem OnP.mono {H H' : Hp} {ps : List V} {its : List Pi} (s : TSame H H') (h : OnP H ps its) : OnP H' ps its := ⟨h.1, fun i v x a b => PiAt.mono s (h.2 i v x a b)⟩
theorem OnP.snoc {H : Hp} {ps : List V} {its : List Pi} {v : V} {x : Pi} (h : OnP H ps its) (hx : PiAt H v x) : OnP H (ps ++ [v]) (its ++ [x]) := by
  refine ⟨by simp [h.1], fun i u y h1 h2 => ?_⟩
  by_cases hi : i < ps.length
  · rw [List.getElem?_append_left hi] at h1
    rw [List.getElem?_append_left (by rw [← h.1]; exact hi)] at h2
    exact h.2 i u y h1 h2
  · have e : i = ps.length := by
      have := (List.getElem?_eq_some_iff.mp h1).1
      simp at this
      omega
    subst e
    rw [List.getElem?_append_right (Nat.le_refl _)] at h1
    rw [List.getElem?_append_right (by rw [h.1]; exact Nat.le_refl _), ← h.1] at h2
    simp at h1 h2
    rw [← h1, ← h2]
    exact hx
theorem OnP.last {H : Hp} {ps : List V} {its : List Pi} (h : OnP H ps its) (h0 : 0 < ps.length) : ∃ ps' v its' x, ps = ps' ++ [v] ∧ its = its' ++ [x] ∧ OnP H ps' its' ∧ PiAt H v x := by
  have hp : ps ≠ [] := fun z => by rw [z] at h0; exact absurd h0 (by decide)
  have hi : its ≠ [] := fun z => by have := h.1; rw [z] at this; simp at this; rw [this] at h0; exact absurd h0 (by decide)
  have e1 := List.dropLast_concat_getLast hp
  have e2 := List.dropLast_concat_getLast hi
  refine ⟨ps.dropLast, ps.getLast hp, its.dropLast, its.getLast hi, e1.symm, e2.symm, ⟨by rw [List.length_dropLast, List.length_dropLast, h.1], fun i v x h1 h2 => ?_⟩, ?_⟩
  · have a1 := (List.getElem?_eq_some_iff.mp h1).1
    have a2 := (List.getElem?_eq_some_iff.mp h2).1
    refine h.2 i v x ?_ ?_
    · rw [← e1, List.getElem?_append_left a1]; exact h1
    · rw [← e2, List.getElem?_append_left a2]; exact h2
  · refine h.2 (ps.length - 1) _ _ ?_ ?_
    · rw [List.getLast_eq_getElem]; simp [h0]
    · rw [List.getLast_eq_getElem, h.1]
      have : 0 < its.length := by rw [← h.1]; exact h0
      simp [this]
structure Iv (t : Pl) (v : V) (H0 : Hp) (m lw lt ll pl en : Addr) (its : List Pi) (σ : St) (H : Hp) (s : Si) (r : Int) (W : List Way) (T L : List (Int × Int)) (ps : List V) (es : List Int) : Prop where
  σ : ∃ v4 v5 v6 v7 v8, σ = [some v, some (.ref m), some (.ref pl), some (.ref en), v4, v5, v6, v7, v8]
  S : LS H m lw lt ll pl en r W T L ps es
  F : Fr H0 m lw lt ll pl en H
  on : OnP H ps its
  wf : ∀ x ∈ its, x.wf
  run : run its.reverse s es = (site t, [last t])
  bes : Bes t.fits s r W T L
  kt : s.kinds ≤ s.things.length
  ok : okE its.reverse es.length
  mu : es.length + muP its ≤ 3 * t.sz + 1
def spLaid : Sp := fun vs H Q _ => ∃ (v : V) (t : Pl), vs = [v] ∧ t.is H v ∧ t.wf ∧ t.sz ≤ 15 ∧ ∀ (m lw lt ll : Addr) (W : List Way) (T L : List (Int × Int)) (H' : Hp), Same H H' → H' m = some (.lst [.int (site t).rooms, .ref lw, .ref lt, .ref ll, .int (last t)]) → LstOf WayAt H' lw W → LstOf PairAt H' lt T → LstOf PairAt H' ll L → W.length = t.wy → T.length = t.th → L.length = t.lv → (t.fits → W = (site t).ways ∧ T = (site t).things ∧ L = (site t).levers) → Q (.ref m) H'
theorem Iv.bounds {t : Pl} {v : V} {H0 : Hp} {m lw lt ll pl en : Addr} {its : List Pi} {σ : St} {H : Hp} {s : Si} {r : Int} {W : List Way} {T L : List (Int × Int)} {ps : List V} {es : List Int} (I : Iv t v H0 m lw lt ll pl en its σ H s r W T L ps es) (hz : t.sz ≤ 15) :
    Le s (site t) ∧ W.length ≤ 30 ∧ T.length ≤ 15 ∧ L.length ≤ 15 ∧ ps.length ≤ 46 ∧ es.length ≤ 46 ∧ (site t).ways.length = t.wy ∧ (site t).things.length = t.th ∧ (site t).levers.length = t.lv := by
  have l := run_le its.reverse s es
  rw [I.run] at l
  have l' : Le s (site t) := l
  have B := site_bd t
  have b1 : (site t).ways.length = 0 + t.wy := B.wy
  have b2 : (site t).things.length = 0 + t.th := B.th
  have b3 : (site t).levers.length = 0 + t.lv := B.lv
  have c1 := t.wy_le
  have c2 := t.th_le
  have c3 := t.lv_le
  have d1 := I.bes.w
  have d2 := I.bes.t
  have d3 := I.bes.l
  have e1 := l'.w
  have e2 := l'.t
  have e3 := l'.l
  have f1 := I.mu
  have f2 := mu_len its
  have f3 := I.on.1
  exact ⟨l', by omega, by omega, by omega, by omega, by omega, by omega, by omega, by omega⟩
theorem s_pb : ¬ ("plan" : Str) = "beyond" := by decide +kernel
theorem in_wd {wd : Nat} (hw : wd < 3) : (if false then !inV (V.str (w2 wd)) [V.str "walk", V.str "drop"] else inV (V.str (w2 wd)) [V.str "walk", V.str "drop"]) = false := by
  have : wd = 0 ∨ wd = 1 ∨ wd = 2 := by omega
  rcases this with rfl | rfl | rfl <;> decide +kernel
set_option hygiene false in
local macro_rules | `(tactic| walk_at "turnend") => `(tactic| (
  walk_at "rd"
  intro p2 g2
  generalize hG2 : upd _ p2 _ = H2
  have s2 := sm_of hG2 g2
  have h2 := at_of hG2
  have hqe2 := s2 _ _ hqe'
  have hm2 := s2 _ _ hm
  have l12 := s2 _ _ l1
  refine r_inT (b := true) h2 rfl rfl (by decide +kernel) ?_
  walk_at "rd"
  intro p3 g3
  generalize hG3 : upd _ p3 _ = H3
  have s3 := sm_of hG3 g3
  have h3 := at_of hG3
  have hqe3 := s3 _ _ hqe2
  walk_at "rd"
  rw [eb]
  intro p4 g4
  generalize hG4 : upd _ p4 _ = H4
  have s4 := sm_of hG4 g4
  have h4 := at_of hG4
  have s24 := s2.trans (s3.trans s4)
  have l1' := s24 _ _ l1
  walk_at "rd"
  refine r_app l1' (by rw [List.length_map]; omega) ?_
  have S5 := (S1.same s24).uw Apt (qs := qs) (p := p4) (x := ⟨h, r, .plain, _⟩) l1' (l2.mono fun _ _ => WayAt.mono s24.ts) ⟨p3, h4, s4 _ _ h3⟩
  have F5 := (F1.new s24).put (a := lw) (o := .lst (qs.map V.ref ++ [.ref p4])) I.F.w
  have t5 := s24.ts.trans (TSame.lst (o := .lst (qs.map V.ref ++ [.ref p4])) l1')
  generalize upd H4 lw (.lst (qs.map V.ref ++ [.ref p4])) = H5 at S5 F5 t5 ⊢
  have hm5 := S5.m
  walk_at "rd"
  refine r_setL hm5 (show ixN 5 (0 : Int) = some 0 by decide) ?_
  simp only [List.set_cons_succ, List.set_cons_zero]
  have S6 := S5.um Apt (r + 1)
  have F6 := F5.put (a := m) (o := .lst [.int (r + 1), .ref lw, .ref lt, .ref ll, .int 0]) I.F.m
  have t6 := t5.trans (TSame.lst (o := .lst [.int (r + 1), .ref lw, .ref lt, .ref ll, .int 0]) hm5)
  generalize upd H5 m (.lst [.int (r + 1), .ref lw, .ref lt, .ref ll, .int 0]) = H6 at S6 F6 t6 ⊢
  have hqe6 := t6 _ _ hqe'
  have hm6 := S6.m
  have hp6 := S6.p
  walk_at "rd"
  intro p7 g7
  generalize hG7 : upd _ p7 _ = H7
  have s7 := sm_of hG7 g7
  have h7 := at_of hG7
  rw [Int.add_sub_cancel] at h7
  have hp7 := s7 _ _ hp6
  walk_at "rd"
  refine r_app hp7 (by omega) ?_
  have S8 := (S6.same s7).up Apt (ps' ++ [.ref p7])
  have F8 := (F6.new s7).put (a := pl) (o := .lst (ps' ++ [.ref p7])) I.F.p
  have t8 := t6.trans (s7.ts.trans (TSame.lst (o := .lst (ps' ++ [.ref p7])) hp7))
  have h8 := (TSame.lst (o := .lst (ps' ++ [.ref p7])) hp7) _ _ h7
  walk_at "rd"
  refine ⟨its' ++ [.pl y r], sI.room h .plain _, r + 1, _, Tg, Lv, _, es, ⟨⟨_, _, _, _, _, rfl⟩, S8, F8, (on1.mono t8).snoc (x := .pl y r) ⟨p7, u2, rfl, h8, Pl.mono t8 iy⟩, wfs (.pl y r) yw.2, ?_, I.bes.room h _, kt, ?_, ?_⟩, ?_⟩
  · rw [List.reverse_append, hr0]
    exact hrun
  · rw [List.reverse_append]
    exact hok'
  · rw [muP_app, mp]
    omega
  · rw [muP_app, muP_app, mp]
    omega))
section
variable {P : Program} {w : World} {K : PySem.W.Frag} {mg : Str → Option Value} {base : Heap} {xs : Xs} {cs : Cs}
theorem ok_laid (T : Txt mg cs) (L : Laid K mg "_law_laid" s__law_laid ["_law_plan_here"]) (C__law_beyond : Cal P w K mg base 1 "_law_beyond" ["_law_made", "_law_pile", "_law_part", "_law_here", "_law_end", "_law_first_part"] spBey) : Cal P w K mg base 2 "_law_laid" ["_law_plan_here"] spLaid := by
  refine L.cal (k := 1) sc__law_laid (fun vs H Q E h => ?_) (fun f cdv A outer s H vs Q E hr h => ?_)
  · obtain ⟨v, t, rfl, _⟩ := h
    rfl
  · obtain ⟨v, t, rfl, it, tw, tz, k⟩ := h
    have big := line_big
    refine ⟨_, (pss_cons (ps_set (i := 1) sc__law_laid.nd rfl (Or.inl rfl) (pe_lst (pa_cons pe_int (pa_cons (pe_lst pa_nil) (pa_cons (pe_lst pa_nil) (pa_cons (pe_lst pa_nil) (pa_cons pe_int pa_nil)))))))
      (pss_cons (ps_set (i := 2) sc__law_laid.nd rfl (Or.inl rfl) (pe_lst (pa_cons (pe_tup (pa_cons pe_str (pa_cons (pv 0) (pa_cons pe_int (pa_cons pe_non pa_nil))))) pa_nil)))
      (pss_cons (ps_set (i := 3) sc__law_laid.nd rfl (Or.inl rfl) (pe_lst pa_nil))
      (pss_cons (ps_while PassesOwn.never (pt_cmpR op_gt (pe_callB (lenK K) rfl T.n_len bt_len (pa_cons (pv 2) pa_nil)) pe_int (nomark _)) (pss_cons (ps_asg (pe_bm0 PySem.F.plainAttrs_list PySem.F.slot_list_pop PySem.F.type_list_pop mt_pop (pv 2)) (pg_tupK (n := 4) K rfl (pgs_cons (pg_name (i := 4) sc__law_laid.nd rfl (Or.inl rfl)) (pgs_cons (pg_name (i := 5) sc__law_laid.nd rfl (Or.inl rfl)) (pgs_cons (pg_name (i := 6) sc__law_laid.nd rfl (Or.inl rfl)) (pgs_cons (pg_name (i := 7) sc__law_laid.nd rfl (Or.inl rfl)) pgs_nil))))))
      (pss_one (ps_if (pt_cmpR op_eq (pv 4) pe_str (nomark _)) (pss_cons (ps_set (i := 8) sc__law_laid.nd rfl (Or.inl rfl) (pe_bm0 PySem.F.plainAttrs_list PySem.F.slot_list_pop PySem.F.type_list_pop mt_pop (pv 3)))
      (pss_one (ps_expr (pe_cal C__law_beyond hr (by decide) rfl (pa_c (pv 1) (pa_c (pv 2) (pa_c (pv 5) (pa_c (pv 6) (pa_c (pv 8) (pa_c (pv 7) pa_nil)))))))))) (pss_one (ps_if (pt_cmpR op_eq (pe_ix (ix_tupK K) (pv 5) pe_int (fun _ _ => rfl)) pe_str (nomark _)) (pss_one (ps_expr (pe_bm PySem.F.plainAttrs_list PySem.F.slot_list_append PySem.F.type_list_append mt_append (pv 3) (pa_cons (pv 6) pa_nil)))) (pss_one (ps_if (pt_cmpR op_eq (pe_ix (ix_tupK K) (pv 5) pe_int (fun _ _ => rfl)) pe_str (nomark _)) (pss_cons (ps_expr (pe_bm PySem.F.plainAttrs_list PySem.F.slot_list_append PySem.F.type_list_append mt_append (pe_ix (ix_listK K) (pv 1) pe_int (fun _ _ => rfl)) (pa_cons (pe_tup (pa_cons (pv 6) (pa_cons pe_int pa_nil))) pa_nil)))
      (pss_one (ps_expr (pe_bm PySem.F.plainAttrs_list PySem.F.slot_list_append PySem.F.type_list_append mt_append (pv 2) (pa_cons (pe_tup (pa_cons pe_str (pa_cons (pe_ix (ix_tupK K) (pv 5) pe_int (fun _ _ => rfl)) (pa_cons (pv 6) (pa_cons pe_non pa_nil))))) pa_nil))))) (pss_one (ps_if (pt_cmpR (op_in_seqK K) (pe_ix (ix_tupK K) (pv 5) pe_int (fun _ _ => rfl)) (pe_tup (pa_cons pe_str (pa_cons pe_str pa_nil))) (by with_unfolding_all rfl)) (pss_cons (ps_expr (pe_bm PySem.F.plainAttrs_list PySem.F.slot_list_append PySem.F.type_list_append mt_append (pe_ix (ix_listK K) (pv 1) pe_int (fun _ _ => rfl)) (pa_cons (pe_tup (pa_cons (pv 6) (pa_cons (pe_ix (ix_listK K) (pv 1) pe_int (fun _ _ => rfl)) (pa_cons (pe_tup (pa_cons pe_str pa_nil)) (pa_cons (pe_cmpR op_eq (pe_ix (ix_tupK K) (pv 5) pe_int (fun _ _ => rfl)) pe_str (nomark _)) pa_nil))))) pa_nil)))
      (pss_cons (ps_asg (pe_op op_add (pe_ix (ix_listK K) (pv 1) pe_int (fun _ _ => rfl)) pe_int) (pg_sub (pv 1) pe_int set_list))
      (pss_one (ps_expr (pe_bm PySem.F.plainAttrs_list PySem.F.slot_list_append PySem.F.type_list_append mt_append (pv 2) (pa_cons (pe_tup (pa_cons pe_str (pa_cons (pe_ix (ix_tupK K) (pv 5) pe_int (fun _ _ => rfl)) (pa_cons (pe_op op_sub (pe_ix (ix_listK K) (pv 1) pe_int (fun _ _ => rfl)) pe_int) (pa_cons pe_non pa_nil))))) pa_nil)))))) (pss_cons (ps_expr (pe_bm PySem.F.plainAttrs_list PySem.F.slot_list_append PySem.F.type_list_append mt_append (pv 2) (pa_cons (pe_tup (pa_cons pe_str (pa_cons (pe_ix (ix_tupK K) (pv 5) pe_int (fun _ _ => rfl)) (pa_cons (pv 6) (pa_cons (pe_ix (ix_tupK K) (pv 5) pe_int (fun _ _ => rfl)) pa_nil))))) pa_nil)))
      (pss_one (ps_expr (pe_bm PySem.F.plainAttrs_list PySem.F.slot_list_append PySem.F.type_list_append mt_append (pv 2) (pa_cons (pe_tup (pa_cons pe_str (pa_cons (pe_ix (ix_tupK K) (pv 5) pe_int (fun _ _ => rfl)) (pa_cons (pv 6) (pa_cons pe_non pa_nil))))) pa_nil)))))))))))))))
      (pss_cons (ps_asg (pe_bm0 PySem.F.plainAttrs_list PySem.F.slot_list_pop PySem.F.type_list_pop mt_pop (pv 3)) (pg_sub (pv 1) pe_int set_list))
      (pss_one (ps_ret (pv 1)))))))), ?_⟩
    rw [show L2.start ["_law_plan_here", "_law_made", "_law_pile", "_law_ends", "_law_first_part", "_law_part", "_law_here", "_law_gate", "_law_end"] [v] = [some v, none, none, none, none, none, none, none, none] from rfl]
    walk_at "rd"
    intro lw g1
    generalize hG1 : upd _ lw _ = H1
    have s1 := sm_of hG1 g1
    have h1 := at_of hG1
    walk_at "rd"
    intro lt g2
    generalize hG2 : upd _ lt _ = H2
    have s2 := sm_of hG2 g2
    have h2 := at_of hG2
    walk_at "rd"
    intro ll g3
    generalize hG3 : upd _ ll _ = H3
    have s3 := sm_of hG3 g3
    have h3 := at_of hG3
    walk_at "rd"
    intro m g4
    generalize hG4 : upd _ m _ = H4
    have s4 := sm_of hG4 g4
    have h4 := at_of hG4
    try simp only [List.set_cons_succ, List.set_cons_zero]
    walk_at "rd"
    intro q0 g5
    generalize hG5 : upd _ q0 _ = H5
    have s5 := sm_of hG5 g5
    have h5 := at_of hG5
    walk_at "rd"
    intro pl g6
    generalize hG6 : upd _ pl _ = H6
    have s6 := sm_of hG6 g6
    have h6 := at_of hG6
    try simp only [List.set_cons_succ, List.set_cons_zero]
    walk_at "rd"
    intro en g7
    generalize hG7 : upd _ en _ = H7
    have s7 := sm_of hG7 g7
    have h7 := at_of hG7
    try simp only [List.set_cons_succ, List.set_cons_zero]
    have s67 := s6.trans s7
    have s57 := s5.trans s67
    have s47 := s4.trans s57
    have s37 := s3.trans s47
    have s27 := s2.trans s37
    have s17 := s1.trans s27
    have s12 := s1.trans s2
    have s13 := s12.trans s3
    have s14 := s13.trans s4
    have s15 := s14.trans s5
    have s16 := s15.trans s6
    have Apt : Ap m lw lt ll pl en := ⟨(ne_of_none (s3 _ _ (s2 _ _ h1)) g4).symm, (ne_of_none (s3 _ _ h2) g4).symm, (ne_of_none h3 g4).symm, ne_of_none (s5 _ _ h4) g6, ne_of_none (s6 _ _ (s5 _ _ h4)) g7, ne_of_none h1 g2, ne_of_none (s2 _ _ h1) g3, ne_of_none ((s2.trans (s3.trans (s4.trans s5))) _ _ h1) g6, ne_of_none ((s2.trans (s3.trans (s4.trans (s5.trans s6)))) _ _ h1) g7, ne_of_none h2 g3, ne_of_none ((s3.trans (s4.trans s5)) _ _ h2) g6, ne_of_none ((s3.trans (s4.trans (s5.trans s6))) _ _ h2) g7, ne_of_none ((s4.trans s5) _ _ h3) g6, ne_of_none ((s4.trans (s5.trans s6)) _ _ h3) g7, ne_of_none h6 g7⟩
    have F7 : Fr H m lw lt ll pl en H7 := ⟨none_of s13 g4, g1, none_of s1 g2, none_of s12 g3, none_of s15 g6, none_of s16 g7, s17⟩
    have S7 : LS H7 m lw lt ll pl en 1 [] [] [] [.ref q0] [] := ⟨s57 _ _ h4, ⟨[], s27 _ _ h1, Rows.nil⟩, ⟨[], s37 _ _ h2, Rows.nil⟩, ⟨[], s47 _ _ h3, Rows.nil⟩, s7 _ _ h6, h7⟩
    refine ⟨fun μ σ H' => ∃ its s r W T L ps es, Iv t v H m lw lt ll pl en its σ H' s r W T L ps es ∧ μ = muP its, ⟨_, [.pl t 0], .new, 1, [], [], [], [.ref q0], [], ⟨⟨none, none, none, none, none, rfl⟩, S7, F7, ⟨rfl, fun i u x a b => ?_⟩, fun x hx => by obtain rfl := List.mem_singleton.mp hx; exact tw, rfl, Bes.new _, by decide, trivial, ?_⟩, rfl⟩, ?_⟩
    · match i, a, b with
      | 0, a, b =>
        cases a
        cases b
        exact ⟨q0, v, rfl, s67 _ _ h5, Pl.mono s17.ts it⟩
    · show 0 + muP [.pl t 0] ≤ 3 * t.sz + 1
      simp [muP, Pi.mu]
    rintro μ σ H' ⟨its, sI, r, W, Tg, Lv, ps, es, I, rfl⟩
    obtain ⟨le, bW, bT, bL, bP, bE, z1, z2, z3⟩ := I.bounds tz
    obtain ⟨v4, v5, v6, v7, v8, rfl⟩ := I.σ
    have hp := I.S.p
    walk_at "rd"
    refine ifd (fun pos => ?_) (fun non => ?_)
    · refine ⟨fun σ' H'' => ∃ its' s' r' W' T' L' ps' es', Iv t v H m lw lt ll pl en its' σ' H'' s' r' W' T' L' ps' es' ∧ muP its' < muP its, fun σ' H'' ⟨its', s', r', W', T', L', ps', es', i, lt'⟩ => ⟨_, lt', its', s', r', W', T', L', ps', es', i, rfl⟩, ?_⟩
      obtain ⟨ps', pv, its', x, rfl, rfl, on', px⟩ := I.on.last (by omega)
      have hrun : run (x :: its'.reverse) sI es = (site t, [last t]) := by simpa using I.run
      have hok : okE (x :: its'.reverse) es.length := by simpa using I.ok
      have hmu := I.mu
      rw [muP_app] at hmu
      have wfx : x.wf := I.wf x (by simp)
      have wf' : ∀ y ∈ its', y.wf := fun y hy => I.wf y (by simp [hy])
      have hr0 := I.bes.r
      have kt := I.kt
      have S1 := I.S.up Apt ps'
      have F1 := I.F.put (a := pl) (o := .lst ps') I.F.p
      have t1 : TSame H' (upd H' pl (.lst ps')) := TSame.lst hp
      have lp' : ps'.length ≤ 46 := by rw [List.length_append] at bP; omega
      walk_at "rd"
      refine ⟨pl, _, pv, rfl, rfl, hp, by simp, ?_⟩
      rw [List.dropLast_concat]
      generalize upd H' pl (.lst ps') = H1 at S1 F1 t1 ⊢
      have on1 := on'.mono t1
      have px1 := PiAt.mono t1 px
      have lle := le.l
      have lte := le.t
      have wfs : ∀ y : Pi, y.wf → ∀ z ∈ its' ++ [y], z.wf := fun y hy z hz => by
        rcases List.mem_append.mp hz with hz | hz
        · exact wf' z hz
        · obtain rfl := List.mem_singleton.mp hz
          exact hy
      cases x with
      | bey wd b h =>
        obtain ⟨q, u, rfl, hq, ib⟩ := px1
        obtain ⟨n1, hok'⟩ := hok
        have hne : es ≠ [] := fun z => by rw [z] at n1; exact absurd n1 (by decide)
        obtain ⟨es', e, rfl⟩ : ∃ es' e, es = es' ++ [e] := ⟨_, _, (List.dropLast_concat_getLast hne).symm⟩
        rw [run_bey'] at hrun
        have ed : (List.map V.int (es' ++ [e])).dropLast = es'.map V.int := by simp
        have mb : (Pi.bey wd b h).mu = 3 * b.sz + 2 := rfl
        have mp : (Pi.pl b r).mu = 3 * b.sz + 1 := rfl
        have el : (es' ++ [e]).length = es'.length + 1 := by simp
        have he1 := S1.e
        walk_at "rd"
        walk_at "eq"
        walk_at "rd"
        refine ⟨en, _, .int e, rfl, rfl, he1, by simp, ?_⟩
        rw [ed]
        have S2 := S1.ue Apt es'
        have F2 := F1.put (a := en) (o := .lst (es'.map V.int)) I.F.e
        have t2 : TSame H1 (upd H1 en (.lst (es'.map V.int))) := TSame.lst he1
        generalize upd H1 en (.lst (es'.map V.int)) = H2 at S2 F2 t2 ⊢
        try simp only [List.set_cons_succ, List.set_cons_zero]
        walk_at "rd"
        refine ⟨m, lw, lt, ll, pl, en, u, h, e, wd, r, W, Tg, Lv, ps', es', H, rfl, wfx.1, Apt, S2, F2, by omega, by omega, by omega, by omega, fun q3 L' H3 F3 t3 S3 hL hL' hq3 => ?_⟩
        have bl := I.bes.l
        walk_at "rd"
        refine ⟨its' ++ [.pl b r], sI.go wd e h, r + 1, _, _, L', _, es', ⟨⟨_, _, _, _, _, rfl⟩, S3, F3, (on1.mono (t2.trans t3)).snoc (x := .pl b r) ⟨q3, u, rfl, hq3, Pl.mono (t2.trans t3) ib⟩, wfs (.pl b r) wfx.2, ?_, I.bes.go hL (fun ft => hL' (by have := ft.lv; omega)) (fun ft => by have := ft.th; omega), ?_, ?_, ?_⟩, ?_⟩
        · rw [List.reverse_append, hr0]
          exact hrun
        · rw [go_k, go_t]
          split <;> omega
        · rw [List.reverse_append]
          show okE its'.reverse (es'.length + 1)
          rw [← el]
          exact hok'
        · rw [muP_app]
          omega
        · rw [muP_app, muP_app]
          omega
      | pl b h =>
        obtain ⟨q, u, rfl, hq, ib⟩ := px1
        have hok' : okE its'.reverse (es.length + 1) := hok
        have mb : (Pi.pl b h).mu = 3 * b.sz + 1 := rfl
        cases b with
        | nd =>
          obtain ⟨qe, rfl, hqe⟩ := ib
          rw [run_nd] at hrun
          have he1 := S1.e
          have em : es.map V.int ++ [.int h] = (es ++ [h]).map V.int := by simp
          have el : (es ++ [h]).length = es.length + 1 := by simp
          walk_at "rd"
          refine ifd (fun z => absurd z s_pb) (fun _ => ?_)
          walk_at "rd"
          walk_at "eq"
          walk_at "rd"
          refine r_app he1 (by rw [List.length_map]; omega) ?_
          rw [em]
          have S2 := S1.ue Apt (es ++ [h])
          have F2 := F1.put (a := en) (o := .lst ((es ++ [h]).map V.int)) I.F.e
          have t2 : TSame H1 (upd H1 en (.lst ((es ++ [h]).map V.int))) := TSame.lst he1
          walk_at "rd"
          refine ⟨its', sI, r, W, Tg, Lv, ps', es ++ [h], ⟨⟨_, _, _, _, _, rfl⟩, S2, F2, on1.mono t2, wf', hrun, I.bes, kt, by rw [el]; exact hok', by omega⟩, ?_⟩
          rw [muP_app]
          omega
        | one wd y =>
          obtain ⟨qe, u2, rfl, hqe, iy⟩ := ib
          have yw : wd < 3 ∧ y.wf := wfx
          have mz : (Pl.one wd y).sz = y.sz + 1 := rfl
          have mp : ∀ z, (Pi.pl y z).mu = 3 * y.sz + 1 := fun _ => rfl
          by_cases e2 : wd = 2
          · subst e2
            rw [run_spare] at hrun
            have hqe' : H1 qe = some (.tup [.str "spare", u2]) := hqe
            have hm := S1.m
            obtain ⟨qs, l1, l2⟩ := S1.t
            have lq := l2.1
            walk_at "rd"
            refine ifd (fun z => absurd z s_pb) (fun _ => ?_)
            walk_at "rd"
            refine ifd (fun z => absurd z (sy s_se)) (fun _ => ?_)
            walk_at "rd"
            walk_at "eq"
            walk_at "rd"
            intro p2 g2
            generalize hG2 : upd _ p2 _ = H2
            have s2 := sm_of hG2 g2
            have h2 := at_of hG2
            have l1' := s2 _ _ l1
            walk_at "rd"
            refine r_app l1' (by rw [List.length_map]; omega) ?_
            have S3 := (S1.same s2).ut Apt (qs := qs) (p := p2) (x := (h, 11)) l1' (l2.mono fun _ _ => PairAt.mono s2.ts) h2
            have F3 := (F1.new s2).put (a := lt) (o := .lst (qs.map V.ref ++ [.ref p2])) I.F.t
            have t3 := s2.ts.trans (TSame.lst (o := .lst (qs.map V.ref ++ [.ref p2])) l1')
            generalize upd H2 lt (.lst (qs.map V.ref ++ [.ref p2])) = H3 at S3 F3 t3 ⊢
            have hqe3 := t3 _ _ hqe'
            have hp3 := S3.p
            walk_at "rd"
            intro p4 g4
            generalize hG4 : upd _ p4 _ = H4
            have s4 := sm_of hG4 g4
            have h4 := at_of hG4
            have hp4 := s4 _ _ hp3
            walk_at "rd"
            refine r_app hp4 (by omega) ?_
            have S5 := (S3.same s4).up Apt (ps' ++ [.ref p4])
            have F5 := (F3.new s4).put (a := pl) (o := .lst (ps' ++ [.ref p4])) I.F.p
            have t4 := s4.ts.trans (TSame.lst (o := .lst (ps' ++ [.ref p4])) hp4)
            have t5 := t3.trans t4
            have h5 := (TSame.lst (o := .lst (ps' ++ [.ref p4])) hp4) _ _ h4
            walk_at "rd"
            refine ⟨its' ++ [.pl y h], sI.thing (h, 11), r, W, Tg ++ [(h, 11)], Lv, _, es, ⟨⟨_, _, _, _, _, rfl⟩, S5, F5, (on1.mono t5).snoc (x := .pl y h) ⟨p4, u2, rfl, h5, Pl.mono t5 iy⟩, wfs (.pl y h) yw.2, ?_, I.bes.spare h, ?_, ?_, ?_⟩, ?_⟩
            · rw [List.reverse_append]
              exact hrun
            · show sI.kinds ≤ (((sI.things ++ [_]).length : Nat) : Int)
              simp
              omega
            · rw [List.reverse_append]
              exact hok'
            · rw [muP_app, mp]
              omega
            · rw [muP_app, muP_app, mp]
              omega
          · rw [run_one e2] at hrun
            have hm := S1.m
            obtain ⟨qs, l1, l2⟩ := S1.w
            have lq := l2.1
            have hw : wd = 0 ∨ wd = 1 := by omega
            rcases hw with rfl | rfl
            · have hqe' : H1 qe = some (.tup [.str "walk", u2]) := hqe
              have eb : decide (("walk" : Str) = "walk") = decide ((0 : Nat) = 0) := by rw [decide_eq_true rfl, decide_eq_true rfl]
              have a1 : ¬ ("walk" : Str) = "end" := sy s_we
              have a2 : ¬ ("walk" : Str) = "spare" := s_ws
              walk_at "rd"
              refine ifd (fun z => absurd z s_pb) (fun _ => ?_)
              walk_at "rd"
              refine ifd (fun z => absurd z a1) (fun _ => ?_)
              walk_at "rd"
              refine ifd (fun z => absurd z a2) (fun _ => ?_)
              walk_at "turnend"
            · have hqe' : H1 qe = some (.tup [.str "drop", u2]) := hqe
              have eb : decide (("drop" : Str) = "walk") = decide ((1 : Nat) = 0) := by rw [decide_eq_false (sy s_wd), decide_eq_false (by omega)]
              have a1 : ¬ ("drop" : Str) = "end" := sy s_de
              have a2 : ¬ ("drop" : Str) = "spare" := s_ds
              walk_at "rd"
              refine ifd (fun z => absurd z s_pb) (fun _ => ?_)
              walk_at "rd"
              refine ifd (fun z => absurd z a1) (fun _ => ?_)
              walk_at "rd"
              refine ifd (fun z => absurd z a2) (fun _ => ?_)
              walk_at "turnend"
        | two wd y z =>
          obtain ⟨qe, u1, u2, rfl, hqe, iy, iz⟩ := ib
          have yw : wd < 3 ∧ y.wf ∧ z.wf := wfx
          have mz : (Pl.two wd y z).sz = y.sz + z.sz + 1 := rfl
          have mp : ∀ a, (Pi.pl y a).mu = 3 * y.sz + 1 := fun _ => rfl
          have mq : ∀ a, (Pi.bey wd z a).mu = 3 * z.sz + 2 := fun _ => rfl
          rw [run_two] at hrun
          obtain ⟨n1, n2, n3, n4⟩ := w2_new yw.1
          have hp1 := S1.p
          walk_at "rd"
          refine ifd (fun z => absurd z s_pb) (fun _ => ?_)
          walk_at "rd"
          refine ifd (fun z => absurd z n1) (fun _ => ?_)
          walk_at "rd"
          refine ifd (fun z => absurd z n2) (fun _ => ?_)
          walk_at "rd"
          intro p2 g2
          generalize hG2 : upd _ p2 _ = H2
          have s2 := sm_of hG2 g2
          have h2 := at_of hG2
          have hqe2 := s2 _ _ hqe
          refine r_inT (b := false) h2 rfl rfl (in_wd yw.1) ?_
          have hp2 := s2 _ _ hp1
          walk_at "rd"
          intro p3 g3
          generalize hG3 : upd _ p3 _ = H3
          have s3 := sm_of hG3 g3
          have h3 := at_of hG3
          have hp3 := s3 _ _ hp2
          walk_at "rd"
          refine r_app hp3 (by omega) ?_
          have s23 := s2.trans s3
          have S4 := (S1.same s23).up Apt (ps' ++ [.ref p3])
          have F4 := (F1.new s23).put (a := pl) (o := .lst (ps' ++ [.ref p3])) I.F.p
          have t4 := s23.ts.trans (TSame.lst (o := .lst (ps' ++ [.ref p3])) hp3)
          have h4 := (TSame.lst (o := .lst (ps' ++ [.ref p3])) hp3) _ _ h3
          generalize upd H3 pl (.lst (ps' ++ [.ref p3])) = H4 at S4 F4 t4 h4 ⊢
          have hqe4 := t4 _ _ hqe
          have hp4 := S4.p
          walk_at "rd"
          intro p5 g5
          generalize hG5 : upd _ p5 _ = H5
          have s5 := sm_of hG5 g5
          have h5 := at_of hG5
          have hp5 := s5 _ _ hp4
          walk_at "rd"
          refine r_app hp5 (by rw [List.length_append]; show ps'.length + 1 < sizeLine; omega) ?_
          have S6 := (S4.same s5).up Apt (ps' ++ [.ref p3] ++ [.ref p5])
          have F6 := (F4.new s5).put (a := pl) (o := .lst (ps' ++ [.ref p3] ++ [.ref p5])) I.F.p
          have t56 := s5.ts.trans (TSame.lst (o := .lst (ps' ++ [.ref p3] ++ [.ref p5])) hp5)
          have t6 := t4.trans t56
          have h6 := (TSame.lst (o := .lst (ps' ++ [.ref p3] ++ [.ref p5])) hp5) _ _ h5
          walk_at "rd"
          refine ⟨its' ++ [.bey wd z h] ++ [.pl y h], sI, r, W, Tg, Lv, _, es, ⟨⟨_, _, _, _, _, rfl⟩, S6, F6, ((on1.mono t6).snoc (v := .ref p3) (x := .bey wd z h) ⟨p3, u2, rfl, t56 _ _ h4, Pl.mono t6 iz⟩).snoc (x := .pl y h) ⟨p5, u1, rfl, h6, Pl.mono t6 iy⟩, fun a ha => ?_, ?_, I.bes, kt, ?_, ?_⟩, ?_⟩
          · rcases List.mem_append.mp ha with ha | ha
            · exact wfs (.bey wd z h) ⟨yw.1, yw.2.2⟩ a ha
            · obtain rfl := List.mem_singleton.mp ha
              exact yw.2.1
          · rw [List.reverse_append, List.reverse_append]
            exact hrun
          · rw [List.reverse_append, List.reverse_append]
            exact ⟨by omega, hok'⟩
          · rw [muP_app, muP_app, mp, mq]
            omega
          · rw [muP_app, muP_app, muP_app, mp, mq]
            omega
    · have z0 : ps.length = 0 := by omega
      have zi : its = [] := List.length_eq_zero_iff.mp (by rw [← I.on.1]; exact z0)
      subst zi
      have hrun : (sI, es) = (site t, [last t]) := I.run
      have e1 : sI = site t := congrArg Prod.fst hrun
      have e2 : es = [last t] := congrArg Prod.snd hrun
      subst e1 e2
      have b := I.bes
      have he := I.S.e
      walk_at "rd"
      refine ⟨en, _, .int (last t), rfl, rfl, he, rfl, ?_⟩
      have S2 := I.S.ue Apt []
      have F2 := I.F.put (a := en) (o := .lst (([] : List Int).map V.int)) I.F.e
      have eh : (upd H' en (.lst (List.map V.int [last t]).dropLast)) = upd H' en (.lst (([] : List Int).map V.int)) := rfl
      rw [eh]
      generalize upd H' en (.lst (([] : List Int).map V.int)) = H2 at S2 F2 ⊢
      have hm := S2.m
      walk_at "rd"
      refine r_setL hm (show ixN 5 (4 : Int) = some 4 by decide) ?_
      simp only [List.set_cons_succ, List.set_cons_zero]
      have ts : TSame H2 (upd H2 m (.lst [.int r, .ref lw, .ref lt, .ref ll, .int (last t)])) := TSame.lst hm
      walk_at "rd"
      exact k m lw lt ll W Tg Lv _ (F2.put (a := m) F2.m).s (by rw [upd_same, b.r]) (lst_mono (fun _ _ => WayAt.mono ts) (upd_ne Apt.mw.symm) S2.w) (lst_mono (fun _ _ => PairAt.mono ts) (upd_ne Apt.mt.symm) S2.t) (lst_mono (fun _ _ => PairAt.mono ts) (upd_ne Apt.ml.symm) S2.l) (by rw [b.w]; exact z1) (by rw [b.t]; exact z2) (by rw [b.l]; exact z3) fun ft => ⟨b.ew ft, b.et ft, b.el ft⟩
end

theorem r_isi_tb {H : Hp} {Q : VK} {p : Addr} {us : List V} (h : H p = some (.tup us)) (q : Q (.bl false) H) : rIsiS [.ref p, .ty "bool"] H Q := r_isi (tyS_tup h) (by decide +kernel) (by decide +kernel) q
theorem r_isi_ti {H : Hp} {Q : VK} {p : Addr} {us : List V} (h : H p = some (.tup us)) (q : Q (.bl false) H) : rIsiS [.ref p, .ty "int"] H Q := r_isi (tyS_tup h) (by decide +kernel) (by decide +kernel) q
theorem r_isi_ts {H : Hp} {Q : VK} {p : Addr} {us : List V} (h : H p = some (.tup us)) (q : Q (.bl false) H) : rIsiS [.ref p, .ty "str"] H Q := r_isi (tyS_tup h) (by decide +kernel) (by decide +kernel) q
def spAl (n : Nat) : Sp := fun vs H Q _ => ∃ x y : V, vs = [x, y] ∧ Alk H n x y ∧ Q (.bl true) H
theorem alk_deq {K : PySem.W.Frag} {H : Hp} {n : Nat} {x y : V} (a : Alk H n x y) : Deq K H n x y true := by
  induction a with
  | @tup n p q us vs hp hq hl hh hk ih =>
    by_cases e : p = q
    · subst e
      exact .same p
    · have d := Deq.tup (K := K) (e := fun _ => true) e (SqT.of hp) (SqT.of hq) fun j h1 h2 => ih j (us.getD j .non) (vs.getD j .non) (by simp [List.getD, h1]) (by simp [List.getD, h2])
      rw [show ((List.range (min us.length vs.length)).all (fun _ => true) && us.length == vs.length) = true by simp [hl]] at d
      exact d
  | @str n z =>
    have d := Deq.flat (K := K) (H := H) (n := n + 1) (x := .str z) (y := .str z) rfl rfl
    rw [show eqV (.str z) (.str z) = true by simp [eqV]] at d
    exact d
  | @int n z =>
    have d := Deq.flat (K := K) (H := H) (n := n + 1) (x := .int z) (y := .int z) rfl rfl
    rw [show eqV (.int z) (.int z) = true by simp [eqV]] at d
    exact d
  | @bl n z =>
    have d := Deq.flat (K := K) (H := H) (n := n + 1) (x := .bl z) (y := .bl z) rfl rfl
    rw [show eqV (.bl z) (.bl z) = true by cases z <;> rfl] at d
    exact d
theorem eq_al {K : PySem.W.Frag} {H : Hp} {Q : VK} {p q : Addr} (a : Alk H 5 (.ref p) (.ref q)) (k : Q (.bl true) H) : rEqD K 4 (.ref p) (.ref q) H Q := by
  cases a with
  | @tup _ _ _ us vs hp hq hl hh hk =>
    refine .inl ⟨p, q, us, vs, fun _ => true, rfl, rfl, SqT.of hp, SqT.of hq, fun j h1 h2 => alk_deq (hk j (us.getD j .non) (vs.getD j .non) (by simp [List.getD, h1]) (by simp [List.getD, h2])), ?_⟩
    rw [show ((List.range (min us.length vs.length)).all (fun _ => true) && us.length == vs.length) = true by simp [hl]]
    exact k
def handS (s : Si) (e : Int) (v1 v2 v3 v4 : V) (ws us ls : List Addr) : Hand := ⟨s.rooms, 0, e, 0, 0, v1, v2, v3, v4, ws.map V.ref, us.map V.ref, ls.map V.ref, [], fun i => wyW (s.ways.getD i ⟨0, 0, .plain, false⟩), fun i => s.things.getD i (0, 0), fun i => s.levers.getD i (0, 0), fun _ => (0, 0)⟩
theorem handS_ok {H : Hp} {s : Si} {e : Int} {v1 v2 v3 v4 : V} {ws us ls : List Addr} (G : Good s e) (i1 : RowIn H v1 (ws.map V.ref)) (i2 : RowIn H v2 (us.map V.ref)) (i3 : RowIn H v3 (ls.map V.ref)) (i4 : RowIn H v4 []) (w2 : Rows WayAt H ws s.ways) (u2 : Rows PairAt H us s.things) (l2 : Rows PairAt H ls s.levers) : HandOk H (handS s e v1 v2 v3 v4 ws us ls) := by
  have lw' := w2.1
  have lt' := u2.1
  have ll' := l2.1
  have gl := G.wl
  have gt := G.tl
  have gv := G.ll
  have gr := G.r
  have ge := G.e
  refine ⟨sml_in (by show (-100000 : Int) ≤ s.rooms; omega) (by show s.rooms ≤ 100000; omega), sml_in (by show (-100000 : Int) ≤ s.rooms - 1; omega) (by show s.rooms - 1 ≤ 100000; omega), sml0, sml_in (by show (-100000 : Int) ≤ e; omega) (by show e ≤ 100000; omega), sml0, sml0, i1, i2, i3, i4, fun i x z => ?_, fun i x z => ?_, fun i x z => ?_, fun i x z => by simp [handS] at z, by show (ws.map V.ref).length ≤ 1000; rw [List.length_map]; omega, by show (us.map V.ref).length ≤ 1000; rw [List.length_map]; omega, by show (ls.map V.ref).length ≤ 1000; rw [List.length_map]; omega, Nat.zero_le _⟩
  · obtain ⟨p, rfl, ha, hm⟩ := rows_at w2 z ⟨0, 0, .plain, false⟩
    exact way_is ha (G.w _ hm) gr.2
  · obtain ⟨p, rfl, ha, hm⟩ := rows_at u2 z (0, 0)
    have z1 := (G.t _ hm).1
    have z2 := (G.t _ hm).2
    exact ⟨p, rfl, ha, sml_in (n := (s.things.getD i (0, 0)).1) (by omega) (by omega), sml_in (n := (s.things.getD i (0, 0)).2) (by omega) (by omega)⟩
  · obtain ⟨p, rfl, ha, hm⟩ := rows_at l2 z (0, 0)
    have z1 := (G.l _ hm).1
    have z2 := (G.l _ hm).2
    exact ⟨p, rfl, ha, sml_in (n := (s.levers.getD i (0, 0)).1) (by omega) (by omega), sml_in (n := (s.levers.getD i (0, 0)).2) (by omega) (by omega)⟩
theorem handS_good {s : Si} {e : Int} {v1 v2 v3 v4 : V} {ws us ls : List Addr} (G : Good s e) (lw' : ws.length = s.ways.length) (lt' : us.length = s.things.length) (ll' : ls.length = s.levers.length) : (handS s e v1 v2 v3 v4 ws us ls).good := by
  have gl := G.wl
  have gt := G.tl
  have gv := G.ll
  have gr := G.r
  have ge := G.e
  refine ⟨gr, ⟨by show (0 : Int) ≤ 0; omega, by show (0 : Int) ≤ s.rooms - 1; omega⟩, ⟨ge.1, by show e ≤ s.rooms - 1; omega⟩, (show (0 : Int) ≤ 0 ∧ (0 : Int) ≤ 255 by decide), (show (0 : Int) ≤ 0 ∧ (0 : Int) ≤ 9 by decide), ⟨by show (ws.map V.ref).length ≤ 20; rw [List.length_map]; omega, fun i hi => ?_⟩, ⟨by show (((us.map V.ref).length : Nat) : Int) ≤ 8; rw [List.length_map]; omega, fun i hi => ?_⟩, ⟨by show (((ls.map V.ref).length : Nat) : Int) ≤ 4; rw [List.length_map]; omega, fun i hi => ?_⟩, ⟨show ((([] : List V).length : Nat) : Int) ≤ 4 by decide, fun i hi => absurd hi (by simp [handS])⟩⟩
  · have hi : i < (ws.map V.ref).length := hi
    rw [List.length_map] at hi
    obtain ⟨a, b, c, d⟩ := G.w _ (get_mem ⟨0, 0, .plain, false⟩ (show i < s.ways.length by omega))
    exact ⟨a, b, c, gateOk_ok d⟩
  · have hi : i < (us.map V.ref).length := hi
    rw [List.length_map] at hi
    exact G.t _ (get_mem (0, 0) (show i < s.things.length by omega))
  · have hi : i < (ls.map V.ref).length := hi
    rw [List.length_map] at hi
    exact G.l _ (get_mem (0, 0) (show i < s.levers.length by omega))
def spLaw (K : PySem.W.Frag) : Sp := fun vs H Q _ => ∃ (a : Addr) (ns : List Int), vs = [.ref a] ∧ SqL K H a (ns.map V.int) ∧ ns.length ≤ 63 ∧ ∀ H', Q (.bl true) H'
abbrev NL : List Str := ["_law_script", "_law_most", "_law_plan_here", "_law_rooms", "_law_ways", "_law_things", "_law_levers", "_law_last", "_law_told", "_law_refused", "_law_due", "_law_again"]
section
variable {P : Program} {w : World} {K : PySem.W.Frag} {mg : Str → Option Value} {base : Heap} {xs : Xs} {cs : Cs}
theorem al_step (n : Nat) (T : Txt mg cs) (L : Laid K mg "_law_alike" s__law_alike ["_law_told", "_law_due"]) (C__law_alike : Cal P w K mg base n "_law_alike" ["_law_told", "_law_due"] (spAl n)) : Cal P w K mg base (n + 1) "_law_alike" ["_law_told", "_law_due"] (spAl (n + 1)) := by
  refine L.cal (k := n) sc__law_alike (fun vs H Q E h => ?_) (fun f cdv A outer s H vs Q E hr h => ?_)
  · obtain ⟨x, y, rfl, _⟩ := h
    rfl
  · obtain ⟨x, y, rfl, a, k⟩ := h
    have big := line_big
    refine ⟨_, (pss_cons (ps_if (pt_val (pe_callB call_isiS rfl T.n_isinstance bt_isinstance (pa_cons (pv 1) (pa_cons (pe_bltn (v := .ty "bool") rfl T.n_bool bt_bool rfl) pa_nil)))) (pss_one (ps_ret (pe_and (pe_callB call_isiS rfl T.n_isinstance bt_isinstance (pa_cons (pv 0) (pa_cons (pe_bltn (v := .ty "bool") rfl T.n_bool bt_bool rfl) pa_nil))) (pe_one (pe_cmpR op_eq (pv 0) (pv 1) (nomark _)))))) pss_nil)
      (pss_cons (ps_if (pt_val (pe_callB call_isiS rfl T.n_isinstance bt_isinstance (pa_cons (pv 1) (pa_cons (pe_bltn (v := .ty "int") rfl T.n_int bt_int rfl) pa_nil)))) (pss_one (ps_ret (pe_and (pe_callB call_isiS rfl T.n_isinstance bt_isinstance (pa_cons (pv 0) (pa_cons (pe_bltn (v := .ty "int") rfl T.n_int bt_int rfl) pa_nil))) (pe_and (pe_not (pe_callB call_isiS rfl T.n_isinstance bt_isinstance (pa_cons (pv 0) (pa_cons (pe_bltn (v := .ty "bool") rfl T.n_bool bt_bool rfl) pa_nil)))) (pe_one (pe_cmpR op_eq (pv 0) (pv 1) (nomark _))))))) pss_nil)
      (pss_cons (ps_if (pt_val (pe_callB call_isiS rfl T.n_isinstance bt_isinstance (pa_cons (pv 1) (pa_cons (pe_bltn (v := .ty "str") rfl T.n_str bt_str rfl) pa_nil)))) (pss_one (ps_ret (pe_and (pe_callB call_isiS rfl T.n_isinstance bt_isinstance (pa_cons (pv 0) (pa_cons (pe_bltn (v := .ty "str") rfl T.n_str bt_str rfl) pa_nil))) (pe_one (pe_cmpR op_eq (pv 0) (pv 1) (nomark _)))))) pss_nil)
      (pss_cons (ps_if (PW.pt (pw_or (pt_not (pt_val (pe_callB call_isiS rfl T.n_isinstance bt_isinstance (pa_cons (pv 0) (pa_cons (pe_bltn (v := .ty "tuple") rfl T.n_tuple bt_tuple rfl) pa_nil))))) (pw_or1 (pt_cmpR op_ne (pe_callB (lenK K) rfl T.n_len bt_len (pa_cons (pv 0) pa_nil)) (pe_callB (lenK K) rfl T.n_len bt_len (pa_cons (pv 1) pa_nil)) (nomark _))))) (pss_one (ps_ret pe_bl)) pss_nil)
      (pss_cons (ps_for PassesOwn.never rfl (pi_range1 rfl T.n_range (pa_cons (pe_callB (lenK K) rfl T.n_len bt_len (pa_cons (pv 1) pa_nil)) pa_nil)) (pg_name (i := 2) sc__law_alike.nd rfl (Or.inl rfl)) (pss_one (ps_if (pt_not (pt_val (pe_cal C__law_alike hr (by omega) rfl (pa_cons (pe_ix (ix_tupK K) (pv 0) (pv 2) (fun _ _ => rfl)) (pa_cons (pe_ix (ix_tupK K) (pv 1) (pv 2) (fun _ _ => rfl)) pa_nil))))) (pss_one (ps_ret pe_bl)) pss_nil)))
      (pss_one (ps_ret pe_bl))))))), ?_⟩
    cases a with
    | tup hp hq hl hh hk =>
      rename_i p q us vs
      walk_at "rd"
      refine r_isi_tb hq ?_
      walk_at "rd"
      refine r_isi_ti hq ?_
      walk_at "rd"
      refine r_isi_ts hq ?_
      walk_at "rd"
      rw [hl, decide_eq_true rfl]
      walk_at "rd"
      try refine r_rg (by omega) ?_
      refine for_rng (fun i σ H' => ∃ v2, σ = [some (.ref p), some (.ref q), v2] ∧ H' = H) ⟨none, rfl, rfl⟩ ?_ ?_
      · rintro i σ H' hi ⟨v2, rfl, rfl⟩
        have hi' : i < vs.length := by simpa using hi
        have hiu : i < us.length := by omega
        walk_at "rd"
        try refine r_ixT (SqT.of hp) (show atI us (0 + (i : Nat)) = some us[i] by rw [Int.zero_add]; exact atI_nat (by simp [hiu])) ?_
        walk_at "rd"
        try refine r_ixT (SqT.of hq) (show atI vs (0 + (i : Nat)) = some vs[i] by rw [Int.zero_add]; exact atI_nat (by simp [hi'])) ?_
        walk_at "rd"
        refine ⟨us[i], vs[i], rfl, hk i _ _ (by simp [hiu]) (by simp [hi']), ?_⟩
        walk_at "rd"
        exact ⟨_, rfl, rfl⟩
      · rintro σ H' ⟨v2, rfl, rfl⟩
        walk_at "rd"
        exact k
    | str z =>
      walk_at "rd"
      rw [decide_eq_true rfl]
      exact k
    | int z =>
      walk_at "rd"
      rw [decide_eq_true rfl]
      exact k
    | bl z =>
      walk_at "rd"
      rw [decide_eq_true rfl]
      exact k
theorem ok_al (T : Txt mg cs) (L : Laid K mg "_law_alike" s__law_alike ["_law_told", "_law_due"]) : ∀ n, Cal P w K mg base n "_law_alike" ["_law_told", "_law_due"] (spAl n)
  | 0 => cal_none L 0 fun vs H Q E ⟨_, _, _, h, _⟩ => by cases h
  | n + 1 => al_step n T L (ok_al T L n)
theorem law_b {f : Addr} {cdv : Value} {A : Around} {outer : List Env} {s : Shared} {H0 : Hp} {E : XK} {d1 d2 : Tok} (T : Txt mg cs) (TX : Tx K mg xs) (C__law_laid : Cal P w K mg base 2 "_law_laid" ["_law_plan_here"] spLaid) (C_built : CalX P w K mg base 21 "built" ["plan"] (spBuilt xs.TooMany)) (C__law_alike : Cal P w K mg base 5 "_law_alike" ["_law_told", "_law_due"] (spAl 5)) (C_cellar : CalDX P w K mg base 4 "cellar" psC (spCellar xs.NoCellar) s_cellar (dsC d1 d2))
    (hr : Room 23 (A.deeper (PyProof.Rows.envOfC "law" (defScope s_law) s.heap.objs.size f cdv))) :
    ∃ t, PSs (cxOf CX0 P w K mg base NL "law" (defScope s_law) f cdv A outer s H0 E).nox ((defBody s_law).drop 3) t ∧ ∀ (nx bk ct : St → Hp → Prop) (rt : VK) (u0 u1 : Option V) (v : V) (x : Pl) (H : Hp), x.is H v → x.wf → x.dp ≤ 18 → x.sz ≤ 15 → (∀ H', rt (.bl true) H') →
      t ⟨nx, rt, bk, ct⟩ [u0, u1, some v, none, none, none, none, none, none, none, none, none] H := by
  have hu5 : (A.deeper (PyProof.Rows.envOfC "law" (defScope s_law) s.heap.objs.size f cdv)).units + 4 + 1 < cLine := by have := hr.un; omega
  refine ⟨_, (pss_cons (ps_asg (pe_cal C__law_laid hr (by decide) rfl (pa_cons (pv 2) pa_nil)) (pg_lstK (n := 5) K rfl (pgs_cons (pg_name (i := 3) sc_law.nd rfl (Or.inl rfl)) (pgs_cons (pg_name (i := 4) sc_law.nd rfl (Or.inl rfl)) (pgs_cons (pg_name (i := 5) sc_law.nd rfl (Or.inl rfl)) (pgs_cons (pg_name (i := 6) sc_law.nd rfl (Or.inl rfl)) (pgs_cons (pg_name (i := 7) sc_law.nd rfl (Or.inl rfl)) pgs_nil)))))))
      (pss_cons (ps_set (i := 8) sc_law.nd rfl (Or.inl rfl) pe_non)
      (pss_cons (ps_set (i := 9) sc_law.nd rfl (Or.inl rfl) pe_bl)
      (pss_cons (ps_tryH rfl rfl rfl (pssx_one (psx_set (i := 8) sc_law.nd rfl (Or.inl rfl) (pex_calX C_built rfl hr (by decide) rfl (pa_cons (pv 2) pa_nil))))
      (ph_one K rfl rfl TX.at_TooMany (fun _ => (pss_one (ps_set (i := 9) sc_law.nd rfl (Or.inl rfl) pe_bl)))))
      (pss_cons (ps_if (PW.pt (pw_or (pt_cmpR op_gt (pv 3) pe_int (nomark _)) (pw_or (pt_cmpR op_gt (pe_callB (lenK K) rfl T.n_len bt_len (pa_cons (pv 4) pa_nil)) pe_int (nomark _)) (pw_or (pt_cmpR op_gt (pe_callB (lenK K) rfl T.n_len bt_len (pa_cons (pv 5) pa_nil)) pe_int (nomark _)) (pw_or1 (pt_cmpR op_gt (pe_callB (lenK K) rfl T.n_len bt_len (pa_cons (pv 6) pa_nil)) pe_int (nomark _))))))) (pss_one (ps_ret (pv 9))) pss_nil)
      (pss_cons (ps_set (i := 10) sc_law.nd rfl (Or.inl rfl) (pe_tup (pa_c (pv 3) (pa_c pe_int (pa_c (pv 7) (pa_c (pe_callTy (tupOfK K) rfl T.n_tuple bt_tuple (pa_cons (pv 4) pa_nil)) (pa_c (pe_callTy (tupOfK K) rfl T.n_tuple bt_tuple (pa_cons (pv 5) pa_nil)) (pa_c (pe_callTy (tupOfK K) rfl T.n_tuple bt_tuple (pa_cons (pv 6) pa_nil)) (pa_c (pe_tup pa_nil) (pa_c pe_int (pa_c pe_int pa_nil)))))))))))
      (pss_cons (ps_if (PW.pt (pw_or (pt_val (pv 9)) (pw_or1 (pt_not (pt_val (pe_cal C__law_alike hr (by decide) rfl (pa_cons (pv 8) (pa_cons (pv 10) pa_nil)))))))) (pss_one (ps_ret pe_bl)) pss_nil)
      (pss_cons (ps_set (i := 11) sc_law.nd rfl (Or.inl rfl) (pe_calDX C_cellar pass_no (bd_cellar_9 d1 d2) (dv_cellar_9 d1 d2) hr (by decide) rfl (pa_c (pv 3) (pa_c pe_int (pa_c (pv 7) (pa_c (pe_callTy (lstOfK K) rfl T.n_list bt_list (pa_cons (pv 4) pa_nil)) (pa_c (pe_callTy (lstOfK K) rfl T.n_list bt_list (pa_cons (pv 5) pa_nil)) (pa_c (pe_callTy (lstOfK K) rfl T.n_list bt_list (pa_cons (pv 6) pa_nil)) (pa_c (pe_lst pa_nil) (pa_c pe_int (pa_c pe_int pa_nil)))))))))))
      (pss_one (ps_ret (pe_and (pe_cmpR (op_eqD K 4 hu5) (pv 11) (pv 8) (nomark _)) (pe_one (pe_cmpR (op_eqD K 4 hu5) (pe_calX C_built pass_no hr (by decide) rfl (pa_cons (pv 2) pa_nil)) (pv 8) (nomark _)))))))))))))), ?_⟩
  intro nx bk ct rt u0 u1 v x H it tw td ts k
  have big := line_big
  have nc := x.nc_sz
  have B := site_bd x
  have Br : (site x).rooms = 1 + (x.rm : Nat) := B.rm
  walk_at "rd"
  refine ⟨v, x, rfl, it, tw, ts, fun m lw lt ll W Tg Lv H1 s1 hm hW hT hL eW eT eL ef => ?_⟩
  walk_at "rd"
  refine r_tryS ?_
  walk_at "rd"
  have it1 := Pl.mono s1.ts it
  obtain ⟨ws, w1, w2⟩ := hW
  obtain ⟨us, u1', u2⟩ := hT
  obtain ⟨ls, l1, l2⟩ := hL
  have lw' := w2.1
  have lt' := u2.1
  have ll' := l2.1
  refine ⟨v, x, rfl, it1, tw, by omega, td, fun ft c H2 s2 hc => ?_, fun nf H2 s2 => ?_⟩
  · have f1 := ft.rm
    have f2 := ft.wy
    have f3 := ft.th
    have f4 := ft.lv
    have G := site_good ft
    obtain ⟨e1, e2, e3⟩ := ef ft
    rw [e1] at w2
    rw [e2] at u2
    rw [e3] at l2
    have w12 := s2 _ _ w1
    have u12 := s2 _ _ u1'
    have l12 := s2 _ _ l1
    walk_at "rd"
    refine ifd (fun z => absurd z (by omega)) (fun _ => ?_)
    walk_at "rd"
    refine ifd (fun z => absurd z (by rw [List.length_map]; omega)) (fun _ => ?_)
    walk_at "rd"
    refine ifd (fun z => absurd z (by rw [List.length_map]; omega)) (fun _ => ?_)
    walk_at "rd"
    refine ifd (fun z => absurd z (by rw [List.length_map]; omega)) (fun _ => ?_)
    walk_at "rd"
    refine r_tol (SqL.of w12) fun p3 g3 => ?_
    generalize hG3 : upd _ p3 _ = H3
    have s3 := sm_of hG3 g3
    have h3 := at_of hG3
    have u13 := s3 _ _ u12
    walk_at "rd"
    refine r_tol (SqL.of u13) fun p4 g4 => ?_
    generalize hG4 : upd _ p4 _ = H4
    have s4 := sm_of hG4 g4
    have h4 := at_of hG4
    have l14 := s4 _ _ (s3 _ _ l12)
    walk_at "rd"
    refine r_tol (SqL.of l14) fun p5 g5 => ?_
    generalize hG5 : upd _ p5 _ = H5
    have s5 := sm_of hG5 g5
    have h5 := at_of hG5
    walk_at "rd"
    intro p6 g6
    generalize hG6 : upd _ p6 _ = H6
    have s6 := sm_of hG6 g6
    have h6 := at_of hG6
    walk_at "rd"
    intro p7 g7
    generalize hG7 : upd _ p7 _ = H7
    have s7 := sm_of hG7 g7
    have h7 := at_of hG7
    have s67 := s6.trans s7
    have s57 := s5.trans s67
    have s47 := s4.trans s57
    have s37 := s3.trans s47
    have s27 := s2.trans s37
    have due : ClAt H7 p7 (clOf x) := ⟨p3, p4, p5, p6, h7, ⟨ws, s47 _ _ h3, w2.mono fun _ _ => WayAt.mono s27.ts⟩, ⟨us, s57 _ _ h4, u2.mono fun _ _ => PairAt.mono s27.ts⟩, ⟨ls, s67 _ _ h5, l2.mono fun _ _ => PairAt.mono s27.ts⟩, ⟨[], s7 _ _ h6, Rows.nil⟩⟩
    have told := hc.mono s37.ts
    have b1 : (clOf x).ways.length ≤ 100 := by have := G.wl; show (site x).ways.length ≤ 100; omega
    have b2 : (clOf x).things.length ≤ 100 := by have := G.tl; show (site x).things.length ≤ 100; omega
    have b3 : (clOf x).levers.length ≤ 100 := by have := G.ll; show (site x).levers.length ≤ 100; omega
    have b4 : (clOf x).wheels.length ≤ 100 := by show 0 ≤ 100; omega
    try simp only [List.set_cons_succ, List.set_cons_zero]
    walk_at "rd"
    refine ⟨.ref c, .ref p7, rfl, alk_cl told due b1 b2 b3 b4, ?_⟩
    have w17 := s37 _ _ w12
    have u17 := s37 _ _ u12
    have l17 := s37 _ _ l12
    walk_at "rd"
    refine r_lof (.inl (SqL.of w17)) fun q3 k3 => ?_
    generalize hK3 : upd _ q3 _ = J3
    have j3 := sm_of hK3 k3
    have i3 := at_of hK3
    have u18 := j3 _ _ u17
    walk_at "rd"
    refine r_lof (.inl (SqL.of u18)) fun q4 k4 => ?_
    generalize hK4 : upd _ q4 _ = J4
    have j4 := sm_of hK4 k4
    have i4 := at_of hK4
    have l19 := j4 _ _ (j3 _ _ l17)
    walk_at "rd"
    refine r_lof (.inl (SqL.of l19)) fun q5 k5 => ?_
    generalize hK5 : upd _ q5 _ = J5
    have j5 := sm_of hK5 k5
    have i5 := at_of hK5
    walk_at "rd"
    intro q6 k6
    generalize hK6 : upd _ q6 _ = J6
    have j6 := sm_of hK6 k6
    have i6 := at_of hK6
    have j56 := j5.trans j6
    have j46 := j4.trans j56
    have j36 := j3.trans j46
    have s2J := s27.trans j36
    walk_at "rd"
    refine ⟨handS (site x) (last x) (.ref q3) (.ref q4) (.ref q5) (.ref q6) ws us ls, rfl, handS_ok G (.inr (.inl ⟨q3, rfl, j46 _ _ i3⟩)) (.inr (.inl ⟨q4, rfl, j56 _ _ i4⟩)) (.inr (.inl ⟨q5, rfl, j6 _ _ i5⟩)) (.inr (.inl ⟨q6, rfl, i6⟩)) (w2.mono fun _ _ => WayAt.mono s2J.ts) (u2.mono fun _ _ => PairAt.mono s2J.ts) (l2.mono fun _ _ => PairAt.mono s2J.ts), fun _ p8 H8 s8 hm8 => ?_, fun ng => absurd (handS_good G w2.1 u2.1 l2.1) ng⟩
    obtain ⟨o1, o2, o3, o4, m0, m1, m2, m3, m4⟩ := hm8
    have s28 := s2J.trans s8
    have again : ClAt H8 p8 (clOf x) := ⟨o1, o2, o3, o4, m0, ⟨ws, m1, w2.mono fun _ _ => WayAt.mono s28.ts⟩, ⟨us, m2, u2.mono fun _ _ => PairAt.mono s28.ts⟩, ⟨ls, m3, l2.mono fun _ _ => PairAt.mono s28.ts⟩, ⟨[], m4, Rows.nil⟩⟩
    have told8 := told.mono (j36.trans s8).ts
    walk_at "rd"
    refine eq_al (alk_cl again told8 b1 b2 b3 b4) ?_
    walk_at "rd"
    refine ⟨v, x, rfl, Pl.mono s28.ts it1, tw, by omega, td, fun _ c9 H9 s9 hc9 => ?_, fun nf => absurd ft nf⟩
    walk_at "rd"
    refine eq_al (alk_cl hc9 (told8.mono s9.ts) b1 b2 b3 b4) ?_
    exact k _
  · have nf' : x.rm > 13 ∨ x.wy > 20 ∨ x.th > 8 ∨ x.lv > 4 := by
      by_cases a : x.rm > 13
      · exact .inl a
      by_cases b : x.wy > 20
      · exact .inr (.inl b)
      by_cases c : x.th > 8
      · exact .inr (.inr (.inl c))
      by_cases d : x.lv > 4
      · exact .inr (.inr (.inr d))
      exact absurd ⟨by omega, by omega, by omega, by omega⟩ nf
    have w12 := s2 _ _ w1
    have u12 := s2 _ _ u1'
    have l12 := s2 _ _ l1
    refine ⟨TX.mo_TooMany_0, ?_⟩
    walk_at "rd"
    refine ifd (fun z1 => ?_) (fun z1 => ?_)
    · walk_at "rd"
      exact k _
    walk_at "rd"
    rw [List.length_map]
    refine ifd (fun z2 => ?_) (fun z2 => ?_)
    · walk_at "rd"
      exact k _
    walk_at "rd"
    rw [List.length_map]
    refine ifd (fun z3 => ?_) (fun z3 => ?_)
    · walk_at "rd"
      exact k _
    walk_at "rd"
    rw [List.length_map]
    refine ifd (fun z4 => ?_) (fun z4 => absurd nf' (by omega))
    walk_at "rd"
    exact k _
theorem ok_law {f : Addr} {fd : FuncData} (F : Fun K "law" "law" s_law f fd) (T : Txt mg cs) (TK : Tk K mg) (TX : Tx K mg xs) (TC : Tcl K cs) (L_within : Laid K mg "within" s_within ["number", "least", "most"]) (L_is_gate : Laid K mg "is_gate" s_is_gate ["thing"]) (L_tops_of : Laid K mg "tops_of" s_tops_of ["word"]) (L_cellar : ∃ d1 d2, LaidD K mg "cellar" s_cellar [.none, .none, .none, .int 0 d1, .int 0 d2]) (L_check_number : Laid K mg "check_number" s_check_number ["name", "number", "least", "most"]) (L_made_ways : Laid K mg "made_ways" s_made_ways ["rooms", "ways"]) (L_made_pairs : Laid K mg "made_pairs" s_made_pairs ["name", "rooms", "pairs", "most_pairs", "least", "most"]) (L_made_rows : Laid K mg "made_rows" s_made_rows ["name", "rows", "most"]) (L_built : Laid K mg "built" s_built ["plan"]) (L_build : Laid K mg "build" s_build ["site", "plan", "here"]) (L_new_gate : Laid K mg "new_gate" s_new_gate ["site", "word", "room"]) (L_new_room : Laid K mg "new_room" s_new_room ["site", "here", "gate", "back"]) (L_check_size : Laid K mg "check_size" s_check_size ["plan"]) (L_check_most : Laid K mg "check_most" s_check_most ["name", "number", "most"]) (L_parts_of : Laid K mg "parts_of" s_parts_of ["plan"]) (L_ends_here : Laid K mg "ends_here" s_ends_here ["plan"]) (L__law_cell_at : Laid K mg "_law_cell_at" s__law_cell_at ["_law_script", "_law_k"]) (L__law_next : Laid K mg "_law_next" s__law_next ["_law_script", "_law_state"]) (L__law_plan : Laid K mg "_law_plan" s__law_plan ["_law_script", "_law_state", "_law_room"]) (L__law_laid : Laid K mg "_law_laid" s__law_laid ["_law_plan_here"]) (L__law_beyond : Laid K mg "_law_beyond" s__law_beyond ["_law_made", "_law_pile", "_law_part", "_law_here", "_law_end", "_law_first_part"]) (L__law_alike : Laid K mg "_law_alike" s__law_alike ["_law_told", "_law_due"]) (LI_Site : LaidI K mg "Site" cs.Site "Site.__init__" s_Site_init ["self"]) : FnOk P w K mg base CX0 24 f fd ["_law_script"] (spLaw K) := by
  obtain ⟨d1, d2, L_cellar⟩ := L_cellar
  have C_within := ok_within (P := P) (w := w) (base := base) T L_within
  have C_tops_of := ok_tops_of (P := P) (w := w) (base := base) T L_tops_of
  have C_is_gate := ok_is_gate (P := P) (w := w) (base := base) T L_is_gate C_tops_of C_within
  have C_check_number := ok_check (P := P) (w := w) (base := base) T TX L_check_number C_within
  have C_made_rows := ok_rows (P := P) (w := w) (base := base) T TX L_made_rows
  have C_made_ways := ok_mw (P := P) (w := w) (base := base) T TX L_made_ways C_check_number C_made_rows C_is_gate
  have C_made_pairs := ok_mp (P := P) (w := w) (base := base) T TX L_made_pairs C_check_number C_made_rows
  have C_cellar := ok_cellar (P := P) (w := w) (base := base) T TX L_cellar C_check_number C_made_ways C_made_pairs
  have C_new_room := ok_room (P := P) (w := w) (base := base) T TC L_new_room
  have C_new_gate := ok_ngate (P := P) (w := w) (base := base) T TC L_new_gate
  have C_build := ok_build (P := P) (w := w) (base := base) T TC L_build C_new_room C_new_gate 19
  have C_ends_here := ok_ends (P := P) (w := w) (base := base) T L_ends_here 19
  have C_parts_of := ok_parts (P := P) (w := w) (base := base) T L_parts_of
  have C_check_most := ok_most (P := P) (w := w) (base := base) T TX L_check_most
  have C_check_size := ok_size (P := P) (w := w) (base := base) T TK TX L_check_size C_parts_of C_ends_here C_check_most
  have C_Site := mk_site (P := P) (w := w) (base := base) T TC LI_Site
  have C_built := ok_built (P := P) (w := w) (base := base) T TC L_built C_check_size C_Site C_build C_cellar
  have C__law_cell_at := ok_cell (P := P) (w := w) (base := base) T L__law_cell_at
  have C__law_next := ok_nx (P := P) (w := w) (base := base) T L__law_next C__law_cell_at
  have C__law_plan := ok_plan (P := P) (w := w) (base := base) T L__law_plan C__law_next 16
  have C__law_beyond := ok_bey (P := P) (w := w) (base := base) T L__law_beyond
  have C__law_laid := ok_laid (P := P) (w := w) (base := base) T L__law_laid C__law_beyond
  have C__law_alike := ok_al (P := P) (w := w) (base := base) T L__law_alike 5
  refine F.ok (k := 23) sc_law (fun vs H Q E h => ?_) (fun cdv A outer s H vs Q E hr h => ?_)
  · obtain ⟨a, ns, rfl, _⟩ := h
    rfl
  · obtain ⟨a, ns, rfl, hS, hl, k⟩ := h
    have big := line_big
    obtain ⟨tb, hb, rb⟩ := law_b (P := P) (w := w) (base := base) (outer := outer) (H0 := H) (E := E) T TX C__law_laid C_built C__law_alike C_cellar hr
    refine ⟨_, (pss_cons (ps_set (i := 1) sc_law.nd rfl (Or.inl rfl) (pe_op op_add pe_int (pe_op op_mod (pe_cal C__law_cell_at hr (by decide) rfl (pa_cons (pv 0) (pa_cons pe_int pa_nil))) pe_int)))
      (pss_cons (ps_if (pt_cmpR op_eq (pe_op op_mod (pe_op op_fdiv (pe_cal C__law_cell_at hr (by decide) rfl (pa_cons (pv 0) (pa_cons pe_int pa_nil))) pe_int) pe_int) pe_int (nomark _)) (pss_one (ps_set (i := 1) sc_law.nd rfl (Or.inl rfl) pe_int)) pss_nil)
      (pss_cons (ps_set (i := 2) sc_law.nd rfl (Or.inl rfl) (pe_cal C__law_plan hr (by decide) rfl (pa_cons (pv 0) (pa_cons (pe_lst (pa_cons pe_int (pa_cons (pv 1) pa_nil))) (pa_cons (pe_op op_add pe_int (pe_op op_mul pe_int (pe_callTy int1 rfl T.n_int bt_int (pa_cons (pe_cmpR op_eq (pv 1) pe_int (nomark _)) pa_nil)))) pa_nil)))))
      hb))), ?_⟩
    rw [show L2.start NL [V.ref a] = [some (V.ref a), none, none, none, none, none, none, none, none, none, none, none] from rfl]
    walk_at "rd"
    refine ⟨a, ns, 0, rfl, hS, hl, by omega, ?_⟩
    generalize hc : ns.getD (0 : Int).toNat 0 = c
    have m0 := mod_lo c (n := 9) (by decide)
    have m1 := mod_hi c (n := 9) (by decide)
    walk_at "rd"
    refine ⟨a, ns, 0, rfl, hS, hl, by omega, ?_⟩
    rw [hc]
    walk_at "rd"
    refine ifd (fun e => ?_) (fun e => ?_)
    · walk_at "rd"
      intro q hq
      generalize hG1 : upd _ q _ = H1
      have s1 := sm_of hG1 hq
      have h1 := at_of hG1
      try simp only [List.set_cons_succ, List.set_cons_zero]
      walk_at "rd"
      refine ⟨a, q, ns, 0, 15, 15, H, by rfl, hq, s1, hS, hl, h1, by omega, by omega, by omega, by omega, fun v x i' H3 s3 t3 h3 it tw td tz ti ti' => ?_⟩
      walk_at "rd"
      exact rb _ _ _ _ _ _ v x H3 it tw (by omega) (by omega) k
    · walk_at "rd"
      intro q hq
      generalize hG1 : upd _ q _ = H1
      have s1 := sm_of hG1 hq
      have h1 := at_of hG1
      try simp only [List.set_cons_succ, List.set_cons_zero]
      walk_at "rd"
      rw [decide_eq_false (show ¬ 4 + c % 9 = 15 by omega)]
      refine ⟨a, q, ns, 0, 4 + c % 9, 8, H, by rfl, hq, s1, hS, hl, h1, by omega, by omega, by omega, by omega, fun v x i' H3 s3 t3 h3 it tw td tz ti ti' => ?_⟩
      walk_at "rd"
      exact rb _ _ _ _ _ _ v x H3 it tw (by omega) (by omega) k
end

theorem all_mk {l : PySem.W.OpenLaw} {w : World} {K : PySem.W.Frag} {h : Heap} {mg : Str → Option Value} {fa : Addr} (X : K.In h) (G : h.Ns mainGlobals mg) (hfa : mg "law" = some (.ref fa))
    {X_TooMany : Addr}
    {X_NoCellar : Addr}
    {f0 : Addr} {od0 an0 : Option Addr} {sl0 : Array (Option Value)} {oc0 kV0 dc0 pm0 cd0 ct0 : Value}
    {f1 : Addr} {od1 an1 : Option Addr} {sl1 : Array (Option Value)} {oc1 kV1 dc1 pm1 cd1 ct1 : Value}
    {f2 : Addr} {od2 an2 : Option Addr} {sl2 : Array (Option Value)} {oc2 kV2 dc2 pm2 cd2 ct2 : Value}
    {f3 : Addr} {od3 an3 : Option Addr} {sl3 : Array (Option Value)} {oc3 kV3 dc3 pm3 cd3 ct3 : Value}
    {f4 : Addr} {od4 an4 : Option Addr} {sl4 : Array (Option Value)} {oc4 kV4 dc4 pm4 cd4 ct4 : Value}
    {f5 : Addr} {od5 an5 : Option Addr} {sl5 : Array (Option Value)} {oc5 kV5 dc5 pm5 cd5 ct5 : Value}
    {f6 : Addr} {od6 an6 : Option Addr} {sl6 : Array (Option Value)} {oc6 kV6 dc6 pm6 cd6 ct6 : Value}
    {f7 : Addr} {od7 an7 : Option Addr} {sl7 : Array (Option Value)} {oc7 kV7 dc7 pm7 cd7 ct7 : Value}
    {f8 : Addr} {od8 an8 : Option Addr} {sl8 : Array (Option Value)} {oc8 kV8 dc8 pm8 cd8 ct8 : Value}
    {f9 : Addr} {od9 an9 : Option Addr} {sl9 : Array (Option Value)} {oc9 kV9 dc9 pm9 cd9 ct9 : Value}
    {f10 : Addr} {od10 an10 : Option Addr} {sl10 : Array (Option Value)} {oc10 kV10 dc10 pm10 cd10 ct10 : Value}
    {f11 : Addr} {od11 an11 : Option Addr} {sl11 : Array (Option Value)} {oc11 kV11 dc11 pm11 cd11 ct11 : Value}
    {f12 : Addr} {od12 an12 : Option Addr} {sl12 : Array (Option Value)} {oc12 kV12 dc12 pm12 cd12 ct12 : Value}
    {f13 : Addr} {od13 an13 : Option Addr} {sl13 : Array (Option Value)} {oc13 kV13 dc13 pm13 cd13 ct13 : Value}
    {f14 : Addr} {od14 an14 : Option Addr} {sl14 : Array (Option Value)} {oc14 kV14 dc14 pm14 cd14 ct14 : Value}
    {f15 : Addr} {od15 an15 : Option Addr} {sl15 : Array (Option Value)} {oc15 kV15 dc15 pm15 cd15 ct15 : Value}
    {f16 : Addr} {od16 an16 : Option Addr} {sl16 : Array (Option Value)} {oc16 kV16 dc16 pm16 cd16 ct16 : Value}
    {f17 : Addr} {od17 an17 : Option Addr} {sl17 : Array (Option Value)} {oc17 kV17 dc17 pm17 cd17 ct17 : Value}
    {f18 : Addr} {od18 an18 : Option Addr} {sl18 : Array (Option Value)} {oc18 kV18 dc18 pm18 cd18 ct18 : Value}
    {f19 : Addr} {od19 an19 : Option Addr} {sl19 : Array (Option Value)} {oc19 kV19 dc19 pm19 cd19 ct19 : Value}
    {f20 : Addr} {od20 an20 : Option Addr} {sl20 : Array (Option Value)} {oc20 kV20 dc20 pm20 cd20 ct20 : Value}
    {f21 : Addr} {od21 an21 : Option Addr} {sl21 : Array (Option Value)} {oc21 kV21 dc21 pm21 cd21 ct21 : Value}
    {f22 : Addr} {od22 an22 : Option Addr} {sl22 : Array (Option Value)} {oc22 kV22 dc22 pm22 cd22 ct22 : Value}
    {f23 : Addr} {od23 an23 : Option Addr} {sl23 : Array (Option Value)} {oc23 kV23 dc23 pm23 cd23 ct23 : Value}
    {T_cellar : Addr} {oT_cellar : Value} {odT_cellar : Option Addr} {nT_cellar : Nat} {slT_cellar : Array (Option Value)} {d1 d2 : Tok}
    {t_ALL_BARS : Tok}
    {t_FIRST_ROOM : Tok}
    {t_LAST_BAR : Tok}
    {t_LAST_KIND : Tok}
    {t_MOST_LEVERS : Tok}
    {t_MOST_ROOMS : Tok}
    {t_MOST_THINGS : Tok}
    {t_MOST_WAYS : Tok}
    {t_MOST_WHEELS : Tok}
    {t_SPARE_KIND : Tok}
    {t_TOP_HEIGHT : Tok}
    {U_TWO_PARTS : Addr} {nU_TWO_PARTS : Nat} {sU_TWO_PARTS : Array (Option Value)} {u0_TWO_PARTS u1_TWO_PARTS u2_TWO_PARTS : Tok}
    {C_Site : Addr}
    (aC_Site : PySem.W.nsIn K mainGlobals "Site" = some (some (.ref C_Site)))
    (a0 : PySem.W.nsIn K mainGlobals "within" = some (some (.ref f0)))
    (l0 : K.lookup f0 = some ⟨oc0, od0, .func (PySem.W.fnOf "within" "within" (defArgs s_within) (defBody s_within) (defScope s_within) .none kV0 dc0 pm0 an0 cd0 ct0), sl0⟩)
    (c0 : PySem.W.codeIn K cd0 "within" = true)
    (k0 : PySem.W.keepIn K (.ref f0) = true)
    (a1 : PySem.W.nsIn K mainGlobals "is_gate" = some (some (.ref f1)))
    (l1 : K.lookup f1 = some ⟨oc1, od1, .func (PySem.W.fnOf "is_gate" "is_gate" (defArgs s_is_gate) (defBody s_is_gate) (defScope s_is_gate) .none kV1 dc1 pm1 an1 cd1 ct1), sl1⟩)
    (c1 : PySem.W.codeIn K cd1 "is_gate" = true)
    (k1 : PySem.W.keepIn K (.ref f1) = true)
    (a2 : PySem.W.nsIn K mainGlobals "tops_of" = some (some (.ref f2)))
    (l2 : K.lookup f2 = some ⟨oc2, od2, .func (PySem.W.fnOf "tops_of" "tops_of" (defArgs s_tops_of) (defBody s_tops_of) (defScope s_tops_of) .none kV2 dc2 pm2 an2 cd2 ct2), sl2⟩)
    (c2 : PySem.W.codeIn K cd2 "tops_of" = true)
    (k2 : PySem.W.keepIn K (.ref f2) = true)
    (a3 : PySem.W.nsIn K mainGlobals "cellar" = some (some (.ref f3)))
    (l3 : K.lookup f3 = some ⟨oc3, od3, .func (PySem.W.fnOf "cellar" "cellar" (defArgs s_cellar) (defBody s_cellar) (defScope s_cellar) (.ref T_cellar) kV3 dc3 pm3 an3 cd3 ct3), sl3⟩)
    (d3_ : K.lookup T_cellar = some ⟨oT_cellar, odT_cellar, .seq (List.toArray [.none, .none, .none, .int 0 d1, .int 0 d2]) nT_cellar, slT_cellar⟩)
    (c3 : PySem.W.codeIn K cd3 "cellar" = true)
    (k3 : PySem.W.keepIn K (.ref f3) = true)
    (a4 : PySem.W.nsIn K mainGlobals "check_number" = some (some (.ref f4)))
    (l4 : K.lookup f4 = some ⟨oc4, od4, .func (PySem.W.fnOf "check_number" "check_number" (defArgs s_check_number) (defBody s_check_number) (defScope s_check_number) .none kV4 dc4 pm4 an4 cd4 ct4), sl4⟩)
    (c4 : PySem.W.codeIn K cd4 "check_number" = true)
    (k4 : PySem.W.keepIn K (.ref f4) = true)
    (a5 : PySem.W.nsIn K mainGlobals "made_ways" = some (some (.ref f5)))
    (l5 : K.lookup f5 = some ⟨oc5, od5, .func (PySem.W.fnOf "made_ways" "made_ways" (defArgs s_made_ways) (defBody s_made_ways) (defScope s_made_ways) .none kV5 dc5 pm5 an5 cd5 ct5), sl5⟩)
    (c5 : PySem.W.codeIn K cd5 "made_ways" = true)
    (k5 : PySem.W.keepIn K (.ref f5) = true)
    (a6 : PySem.W.nsIn K mainGlobals "made_pairs" = some (some (.ref f6)))
    (l6 : K.lookup f6 = some ⟨oc6, od6, .func (PySem.W.fnOf "made_pairs" "made_pairs" (defArgs s_made_pairs) (defBody s_made_pairs) (defScope s_made_pairs) .none kV6 dc6 pm6 an6 cd6 ct6), sl6⟩)
    (c6 : PySem.W.codeIn K cd6 "made_pairs" = true)
    (k6 : PySem.W.keepIn K (.ref f6) = true)
    (a7 : PySem.W.nsIn K mainGlobals "made_rows" = some (some (.ref f7)))
    (l7 : K.lookup f7 = some ⟨oc7, od7, .func (PySem.W.fnOf "made_rows" "made_rows" (defArgs s_made_rows) (defBody s_made_rows) (defScope s_made_rows) .none kV7 dc7 pm7 an7 cd7 ct7), sl7⟩)
    (c7 : PySem.W.codeIn K cd7 "made_rows" = true)
    (k7 : PySem.W.keepIn K (.ref f7) = true)
    (a8 : PySem.W.nsIn K mainGlobals "built" = some (some (.ref f8)))
    (l8 : K.lookup f8 = some ⟨oc8, od8, .func (PySem.W.fnOf "built" "built" (defArgs s_built) (defBody s_built) (defScope s_built) .none kV8 dc8 pm8 an8 cd8 ct8), sl8⟩)
    (c8 : PySem.W.codeIn K cd8 "built" = true)
    (k8 : PySem.W.keepIn K (.ref f8) = true)
    (a9 : PySem.W.nsIn K mainGlobals "build" = some (some (.ref f9)))
    (l9 : K.lookup f9 = some ⟨oc9, od9, .func (PySem.W.fnOf "build" "build" (defArgs s_build) (defBody s_build) (defScope s_build) .none kV9 dc9 pm9 an9 cd9 ct9), sl9⟩)
    (c9 : PySem.W.codeIn K cd9 "build" = true)
    (k9 : PySem.W.keepIn K (.ref f9) = true)
    (a10 : PySem.W.nsIn K mainGlobals "new_gate" = some (some (.ref f10)))
    (l10 : K.lookup f10 = some ⟨oc10, od10, .func (PySem.W.fnOf "new_gate" "new_gate" (defArgs s_new_gate) (defBody s_new_gate) (defScope s_new_gate) .none kV10 dc10 pm10 an10 cd10 ct10), sl10⟩)
    (c10 : PySem.W.codeIn K cd10 "new_gate" = true)
    (k10 : PySem.W.keepIn K (.ref f10) = true)
    (a11 : PySem.W.nsIn K mainGlobals "new_room" = some (some (.ref f11)))
    (l11 : K.lookup f11 = some ⟨oc11, od11, .func (PySem.W.fnOf "new_room" "new_room" (defArgs s_new_room) (defBody s_new_room) (defScope s_new_room) .none kV11 dc11 pm11 an11 cd11 ct11), sl11⟩)
    (c11 : PySem.W.codeIn K cd11 "new_room" = true)
    (k11 : PySem.W.keepIn K (.ref f11) = true)
    (a12 : PySem.W.nsIn K mainGlobals "check_size" = some (some (.ref f12)))
    (l12 : K.lookup f12 = some ⟨oc12, od12, .func (PySem.W.fnOf "check_size" "check_size" (defArgs s_check_size) (defBody s_check_size) (defScope s_check_size) .none kV12 dc12 pm12 an12 cd12 ct12), sl12⟩)
    (c12 : PySem.W.codeIn K cd12 "check_size" = true)
    (k12 : PySem.W.keepIn K (.ref f12) = true)
    (a13 : PySem.W.nsIn K mainGlobals "check_most" = some (some (.ref f13)))
    (l13 : K.lookup f13 = some ⟨oc13, od13, .func (PySem.W.fnOf "check_most" "check_most" (defArgs s_check_most) (defBody s_check_most) (defScope s_check_most) .none kV13 dc13 pm13 an13 cd13 ct13), sl13⟩)
    (c13 : PySem.W.codeIn K cd13 "check_most" = true)
    (k13 : PySem.W.keepIn K (.ref f13) = true)
    (a14 : PySem.W.nsIn K mainGlobals "parts_of" = some (some (.ref f14)))
    (l14 : K.lookup f14 = some ⟨oc14, od14, .func (PySem.W.fnOf "parts_of" "parts_of" (defArgs s_parts_of) (defBody s_parts_of) (defScope s_parts_of) .none kV14 dc14 pm14 an14 cd14 ct14), sl14⟩)
    (c14 : PySem.W.codeIn K cd14 "parts_of" = true)
    (k14 : PySem.W.keepIn K (.ref f14) = true)
    (a15 : PySem.W.nsIn K mainGlobals "ends_here" = some (some (.ref f15)))
    (l15 : K.lookup f15 = some ⟨oc15, od15, .func (PySem.W.fnOf "ends_here" "ends_here" (defArgs s_ends_here) (defBody s_ends_here) (defScope s_ends_here) .none kV15 dc15 pm15 an15 cd15 ct15), sl15⟩)
    (c15 : PySem.W.codeIn K cd15 "ends_here" = true)
    (k15 : PySem.W.keepIn K (.ref f15) = true)
    (a16 : PySem.W.nsIn K mainGlobals "_law_cell_at" = some (some (.ref f16)))
    (l16 : K.lookup f16 = some ⟨oc16, od16, .func (PySem.W.fnOf "_law_cell_at" "_law_cell_at" (defArgs s__law_cell_at) (defBody s__law_cell_at) (defScope s__law_cell_at) .none kV16 dc16 pm16 an16 cd16 ct16), sl16⟩)
    (c16 : PySem.W.codeIn K cd16 "_law_cell_at" = true)
    (k16 : PySem.W.keepIn K (.ref f16) = true)
    (a17 : PySem.W.nsIn K mainGlobals "_law_next" = some (some (.ref f17)))
    (l17 : K.lookup f17 = some ⟨oc17, od17, .func (PySem.W.fnOf "_law_next" "_law_next" (defArgs s__law_next) (defBody s__law_next) (defScope s__law_next) .none kV17 dc17 pm17 an17 cd17 ct17), sl17⟩)
    (c17 : PySem.W.codeIn K cd17 "_law_next" = true)
    (k17 : PySem.W.keepIn K (.ref f17) = true)
    (a18 : PySem.W.nsIn K mainGlobals "_law_plan" = some (some (.ref f18)))
    (l18 : K.lookup f18 = some ⟨oc18, od18, .func (PySem.W.fnOf "_law_plan" "_law_plan" (defArgs s__law_plan) (defBody s__law_plan) (defScope s__law_plan) .none kV18 dc18 pm18 an18 cd18 ct18), sl18⟩)
    (c18 : PySem.W.codeIn K cd18 "_law_plan" = true)
    (k18 : PySem.W.keepIn K (.ref f18) = true)
    (a19 : PySem.W.nsIn K mainGlobals "_law_laid" = some (some (.ref f19)))
    (l19 : K.lookup f19 = some ⟨oc19, od19, .func (PySem.W.fnOf "_law_laid" "_law_laid" (defArgs s__law_laid) (defBody s__law_laid) (defScope s__law_laid) .none kV19 dc19 pm19 an19 cd19 ct19), sl19⟩)
    (c19 : PySem.W.codeIn K cd19 "_law_laid" = true)
    (k19 : PySem.W.keepIn K (.ref f19) = true)
    (a20 : PySem.W.nsIn K mainGlobals "_law_beyond" = some (some (.ref f20)))
    (l20 : K.lookup f20 = some ⟨oc20, od20, .func (PySem.W.fnOf "_law_beyond" "_law_beyond" (defArgs s__law_beyond) (defBody s__law_beyond) (defScope s__law_beyond) .none kV20 dc20 pm20 an20 cd20 ct20), sl20⟩)
    (c20 : PySem.W.codeIn K cd20 "_law_beyond" = true)
    (k20 : PySem.W.keepIn K (.ref f20) = true)
    (a21 : PySem.W.nsIn K mainGlobals "_law_alike" = some (some (.ref f21)))
    (l21 : K.lookup f21 = some ⟨oc21, od21, .func (PySem.W.fnOf "_law_alike" "_law_alike" (defArgs s__law_alike) (defBody s__law_alike) (defScope s__law_alike) .none kV21 dc21 pm21 an21 cd21 ct21), sl21⟩)
    (c21 : PySem.W.codeIn K cd21 "_law_alike" = true)
    (k21 : PySem.W.keepIn K (.ref f21) = true)
    (a22 : PySem.W.nsIn K mainGlobals "law" = some (some (.ref f22)))
    (l22 : K.lookup f22 = some ⟨oc22, od22, .func (PySem.W.fnOf "law" "law" (defArgs s_law) (defBody s_law) (defScope s_law) .none kV22 dc22 pm22 an22 cd22 ct22), sl22⟩)
    (c22 : PySem.W.codeIn K cd22 "law" = true)
    (k22 : PySem.W.keepIn K (.ref f22) = true)
    (a23 : PySem.W.findIn K (.ref C_Site) "__init__" = some (some (.ref f23)))
    (i23 : PySem.W.isFn K (.ref f23) = true)
    (l23 : K.lookup f23 = some ⟨oc23, od23, .func (PySem.W.fnOf "__init__" "Site.__init__" (defArgs s_Site_init) (defBody s_Site_init) (defScope s_Site_init) .none kV23 dc23 pm23 an23 cd23 ct23), sl23⟩)
    (c23 : PySem.W.codeIn K cd23 "Site.__init__" = true)
    (k23 : PySem.W.keepIn K (.ref f23) = true)
    (pg_Site : PySem.W.plainGet K C_Site Str.empty = true)
    (hd_Site : PySem.W.hasDictIn K C_Site = true)
    (po_Site : PySem.W.plainOver K C_Site = true)
    (sa_Site : PySem.W.findIn K (.ref C_Site) "__setattr__" = some (some (.builtin "object.__setattr__")))
    (mk_Site : PySem.W.makesIn K C_Site = true)
    (kc_Site : PySem.W.keepIn K (.ref C_Site) = true)
    (no_Site_kinds : PySem.W.findIn K (.ref C_Site) "kinds" = some none)
    (no_Site_levers : PySem.W.findIn K (.ref C_Site) "levers" = some none)
    (no_Site_rooms : PySem.W.findIn K (.ref C_Site) "rooms" = some none)
    (no_Site_things : PySem.W.findIn K (.ref C_Site) "things" = some none)
    (no_Site_ways : PySem.W.findIn K (.ref C_Site) "ways" = some none)
    (ax_NoCellar : PySem.W.nsIn K mainGlobals "NoCellar" = some (some (.ref X_NoCellar)))
    (ax_TooMany : PySem.W.nsIn K mainGlobals "TooMany" = some (some (.ref X_TooMany)))
    (xex_NoCellar : PySem.W.excIn K X_NoCellar [.type "ValueError", .type "Exception", .type "BaseException", .type "object"] "ValueError.__new__" = true)
    (xmo_NoCellar_0 : PySem.W.exmOne K (.ref X_NoCellar) (.ref X_TooMany) = some false)
    (xex_TooMany : PySem.W.excIn K X_TooMany [.type "ValueError", .type "Exception", .type "BaseException", .type "object"] "ValueError.__new__" = true)
    (xmo_TooMany_0 : PySem.W.exmOne K (.ref X_TooMany) (.ref X_TooMany) = some true)
    (z_all : PySem.W.nsIn K mainGlobals "all" = some none)
    (z_bool : PySem.W.nsIn K mainGlobals "bool" = some none)
    (z_int : PySem.W.nsIn K mainGlobals "int" = some none)
    (z_isinstance : PySem.W.nsIn K mainGlobals "isinstance" = some none)
    (z_len : PySem.W.nsIn K mainGlobals "len" = some none)
    (z_list : PySem.W.nsIn K mainGlobals "list" = some none)
    (z_range : PySem.W.nsIn K mainGlobals "range" = some none)
    (z_str : PySem.W.nsIn K mainGlobals "str" = some none)
    (z_tuple : PySem.W.nsIn K mainGlobals "tuple" = some none)
    (z_zip : PySem.W.nsIn K mainGlobals "zip" = some none)
    (ay_TWO_PARTS : PySem.W.nsIn K mainGlobals "TWO_PARTS" = some (some (.ref U_TWO_PARTS)))
    (ky_TWO_PARTS : K.lookup U_TWO_PARTS = some ⟨.type "tuple", none, .seq (List.toArray [.str "lock" u0_TWO_PARTS, .str "door" u1_TWO_PARTS, .str "bar" u2_TWO_PARTS]) nU_TWO_PARTS, sU_TWO_PARTS⟩)
    (y_ALL_BARS : PySem.W.nsIn K mainGlobals "ALL_BARS" = some (some (.int 255 t_ALL_BARS)))
    (y_FIRST_ROOM : PySem.W.nsIn K mainGlobals "FIRST_ROOM" = some (some (.int 0 t_FIRST_ROOM)))
    (y_LAST_BAR : PySem.W.nsIn K mainGlobals "LAST_BAR" = some (some (.int 7 t_LAST_BAR)))
    (y_LAST_KIND : PySem.W.nsIn K mainGlobals "LAST_KIND" = some (some (.int 11 t_LAST_KIND)))
    (y_MOST_LEVERS : PySem.W.nsIn K mainGlobals "MOST_LEVERS" = some (some (.int 4 t_MOST_LEVERS)))
    (y_MOST_ROOMS : PySem.W.nsIn K mainGlobals "MOST_ROOMS" = some (some (.int 14 t_MOST_ROOMS)))
    (y_MOST_THINGS : PySem.W.nsIn K mainGlobals "MOST_THINGS" = some (some (.int 8 t_MOST_THINGS)))
    (y_MOST_WAYS : PySem.W.nsIn K mainGlobals "MOST_WAYS" = some (some (.int 20 t_MOST_WAYS)))
    (y_MOST_WHEELS : PySem.W.nsIn K mainGlobals "MOST_WHEELS" = some (some (.int 4 t_MOST_WHEELS)))
    (y_SPARE_KIND : PySem.W.nsIn K mainGlobals "SPARE_KIND" = some (some (.int 11 t_SPARE_KIND)))
    (y_TOP_HEIGHT : PySem.W.nsIn K mainGlobals "TOP_HEIGHT" = some (some (.int 9 t_TOP_HEIGHT))) :
    ∃ fd : FuncData, (∀ (s : Shared) (v : Value), BindsTo s fd ⟨[v], []⟩ [("_law_script", v)]) ∧ ∀ base : Heap, K.In base → base.Ns mainGlobals mg → FnOk l.prog w K mg base CX0 24 fa fd ["_law_script"] (spLaw K) := by
  have e := hfa.symm.trans (PySem.W.mg_of X G a22)
  cases e
  let cs : Cs := ⟨C_Site⟩
  have T : Txt mg cs := ⟨PySem.W.mg_none_of X G z_all, PySem.W.mg_none_of X G z_bool, PySem.W.mg_none_of X G z_int, PySem.W.mg_none_of X G z_isinstance, PySem.W.mg_none_of X G z_len, PySem.W.mg_none_of X G z_list, PySem.W.mg_none_of X G z_range, PySem.W.mg_none_of X G z_str, PySem.W.mg_none_of X G z_tuple, PySem.W.mg_none_of X G z_zip, ⟨_, PySem.W.mg_of X G y_ALL_BARS⟩, ⟨_, PySem.W.mg_of X G y_FIRST_ROOM⟩, ⟨_, PySem.W.mg_of X G y_LAST_BAR⟩, ⟨_, PySem.W.mg_of X G y_LAST_KIND⟩, ⟨_, PySem.W.mg_of X G y_MOST_LEVERS⟩, ⟨_, PySem.W.mg_of X G y_MOST_ROOMS⟩, ⟨_, PySem.W.mg_of X G y_MOST_THINGS⟩, ⟨_, PySem.W.mg_of X G y_MOST_WAYS⟩, ⟨_, PySem.W.mg_of X G y_MOST_WHEELS⟩, ⟨_, PySem.W.mg_of X G y_SPARE_KIND⟩, ⟨_, PySem.W.mg_of X G y_TOP_HEIGHT⟩, PySem.W.mg_of X G aC_Site⟩
  have TK : Tk K mg := ⟨⟨U_TWO_PARTS, PySem.W.mg_of X G ay_TWO_PARTS, fun _ => .inr ⟨_, _, _, ky_TWO_PARTS, rfl, rfl, (show 3 ≤ sizeLine by decide), .cons ⟨_, rfl⟩ (.cons ⟨_, rfl⟩ (.cons ⟨_, rfl⟩ (.nil)))⟩, _, ky_TWO_PARTS, rfl, rfl⟩⟩
  let xs : Xs := ⟨X_NoCellar, X_TooMany⟩
  have TX : Tx K mg xs := ⟨PySem.W.mg_of X G ax_NoCellar, PySem.W.mg_of X G ax_TooMany, ⟨_, _, _, PySem.F.excBase_ValueError, xex_NoCellar, rfl⟩, xmo_NoCellar_0, ⟨_, _, _, PySem.F.excBase_ValueError, xex_TooMany, rfl⟩, xmo_TooMany_0⟩
  have TC : Tcl K cs := ⟨⟨pg_Site, hd_Site, po_Site, sa_Site⟩, no_Site_kinds, no_Site_levers, no_Site_rooms, no_Site_things, no_Site_ways⟩
  have L_within : Laid K mg "within" s_within ["number", "least", "most"] := laid_mk X G a0 l0 c0 k0 fun _ _ _ _ _ _ us hl => match us, hl with | [_, _, _], _ => rfl
  have L_is_gate : Laid K mg "is_gate" s_is_gate ["thing"] := laid_mk X G a1 l1 c1 k1 fun _ _ _ _ _ _ us hl => match us, hl with | [_], _ => rfl
  have L_tops_of : Laid K mg "tops_of" s_tops_of ["word"] := laid_mk X G a2 l2 c2 k2 fun _ _ _ _ _ _ us hl => match us, hl with | [_], _ => rfl
  have L_cellar : ∃ d1 d2, LaidD K mg "cellar" s_cellar [.none, .none, .none, .int 0 d1, .int 0 d2] := ⟨_, _, laidD_mk X G a3 l3 c3 k3 d3_ rfl⟩
  have L_check_number : Laid K mg "check_number" s_check_number ["name", "number", "least", "most"] := laid_mk X G a4 l4 c4 k4 fun _ _ _ _ _ _ us hl => match us, hl with | [_, _, _, _], _ => rfl
  have L_made_ways : Laid K mg "made_ways" s_made_ways ["rooms", "ways"] := laid_mk X G a5 l5 c5 k5 fun _ _ _ _ _ _ us hl => match us, hl with | [_, _], _ => rfl
  have L_made_pairs : Laid K mg "made_pairs" s_made_pairs ["name", "rooms", "pairs", "most_pairs", "least", "most"] := laid_mk X G a6 l6 c6 k6 fun _ _ _ _ _ _ us hl => match us, hl with | [_, _, _, _, _, _], _ => rfl
  have L_made_rows : Laid K mg "made_rows" s_made_rows ["name", "rows", "most"] := laid_mk X G a7 l7 c7 k7 fun _ _ _ _ _ _ us hl => match us, hl with | [_, _, _], _ => rfl
  have L_built : Laid K mg "built" s_built ["plan"] := laid_mk X G a8 l8 c8 k8 fun _ _ _ _ _ _ us hl => match us, hl with | [_], _ => rfl
  have L_build : Laid K mg "build" s_build ["site", "plan", "here"] := laid_mk X G a9 l9 c9 k9 fun _ _ _ _ _ _ us hl => match us, hl with | [_, _, _], _ => rfl
  have L_new_gate : Laid K mg "new_gate" s_new_gate ["site", "word", "room"] := laid_mk X G a10 l10 c10 k10 fun _ _ _ _ _ _ us hl => match us, hl with | [_, _, _], _ => rfl
  have L_new_room : Laid K mg "new_room" s_new_room ["site", "here", "gate", "back"] := laid_mk X G a11 l11 c11 k11 fun _ _ _ _ _ _ us hl => match us, hl with | [_, _, _, _], _ => rfl
  have L_check_size : Laid K mg "check_size" s_check_size ["plan"] := laid_mk X G a12 l12 c12 k12 fun _ _ _ _ _ _ us hl => match us, hl with | [_], _ => rfl
  have L_check_most : Laid K mg "check_most" s_check_most ["name", "number", "most"] := laid_mk X G a13 l13 c13 k13 fun _ _ _ _ _ _ us hl => match us, hl with | [_, _, _], _ => rfl
  have L_parts_of : Laid K mg "parts_of" s_parts_of ["plan"] := laid_mk X G a14 l14 c14 k14 fun _ _ _ _ _ _ us hl => match us, hl with | [_], _ => rfl
  have L_ends_here : Laid K mg "ends_here" s_ends_here ["plan"] := laid_mk X G a15 l15 c15 k15 fun _ _ _ _ _ _ us hl => match us, hl with | [_], _ => rfl
  have L__law_cell_at : Laid K mg "_law_cell_at" s__law_cell_at ["_law_script", "_law_k"] := laid_mk X G a16 l16 c16 k16 fun _ _ _ _ _ _ us hl => match us, hl with | [_, _], _ => rfl
  have L__law_next : Laid K mg "_law_next" s__law_next ["_law_script", "_law_state"] := laid_mk X G a17 l17 c17 k17 fun _ _ _ _ _ _ us hl => match us, hl with | [_, _], _ => rfl
  have L__law_plan : Laid K mg "_law_plan" s__law_plan ["_law_script", "_law_state", "_law_room"] := laid_mk X G a18 l18 c18 k18 fun _ _ _ _ _ _ us hl => match us, hl with | [_, _, _], _ => rfl
  have L__law_laid : Laid K mg "_law_laid" s__law_laid ["_law_plan_here"] := laid_mk X G a19 l19 c19 k19 fun _ _ _ _ _ _ us hl => match us, hl with | [_], _ => rfl
  have L__law_beyond : Laid K mg "_law_beyond" s__law_beyond ["_law_made", "_law_pile", "_law_part", "_law_here", "_law_end", "_law_first_part"] := laid_mk X G a20 l20 c20 k20 fun _ _ _ _ _ _ us hl => match us, hl with | [_, _, _, _, _, _], _ => rfl
  have L__law_alike : Laid K mg "_law_alike" s__law_alike ["_law_told", "_law_due"] := laid_mk X G a21 l21 c21 k21 fun _ _ _ _ _ _ us hl => match us, hl with | [_, _], _ => rfl
  have F_Site_init : Fun K "__init__" "Site.__init__" s_Site_init f23 _ := fun_mk l23 c23 k23
  have B_Site_init := F_Site_init.binds (ps := ["self"]) fun _ _ _ _ _ _ us hl => match us, hl with | [_], _ => rfl
  have LI_Site : LaidI K mg "Site" cs.Site "Site.__init__" s_Site_init ["self"] := ⟨⟨_, _, F_Site_init, ⟨mk_Site, a23, i23, kc_Site⟩, B_Site_init⟩, T.c_Site⟩
  exact ⟨PySem.W.fnOf "law" "law" (defArgs s_law) (defBody s_law) (defScope s_law) .none kV22 dc22 pm22 an22 cd22 ct22, fun s v => .of_eq rfl, fun base _ _ => ok_law (fun_mk l22 c22 k22) T TK TX TC L_within L_is_gate L_tops_of L_cellar L_check_number L_made_ways L_made_pairs L_made_rows L_built L_build L_new_gate L_new_room L_check_size L_check_most L_parts_of L_ends_here L__law_cell_at L__law_next L__law_plan L__law_laid L__law_beyond L__law_alike LI_Site⟩
theorem walk {l : PySem.W.OpenLaw} {q : Program} {loose : List Str} {XP : (Str → Option Value) → Heap → Prop} {YP : World → Heap → Prop} {d : DefRec} {K : Params → PySem.W.Frag} (hn : l.most = some 63) (hdf : d.params.defaults = [])
    (hY : ∀ (w : World) (h : Heap), YP w h → (K w.params).In h)
    (F : ∀ (w : World) (mg : Str → Option Value) (fa : Addr) (h : Heap), (K w.params).In h → h.Ns mainGlobals mg → mg d.name = some (.ref fa) →
      ∃ fd : FuncData, (∀ (s : Shared) (u : Value), BindsTo s fd ⟨[u], []⟩ [("_law_script", u)]) ∧ ∀ base : Heap, (K w.params).In base → base.Ns mainGlobals mg → FnOk l.prog w (K w.params) mg base CX0 24 fa fd ["_law_script"] (spLaw (K w.params))) :
    PySem.W.WalkO q loose XP YP l.row.toRowW d [] (fun f vs => PySem.call f vs) :=
  L2.walk_of (n := 63) (k := 24) (x := "_law_script") (CX := fun _ => CX0) (sp := fun w => spLaw (K w.params)) hn (by decide) hdf ⟨rfl, by decide, by decide, rfl⟩ hY F (fun _ _ a ns hl _ hS => ⟨a, ns, rfl, hS, hl, fun _ => rfl⟩) fun _ _ _ _ _ z => z
end Mine
open PySem PySem.W PyProof.Rows
set_option maxRecDepth 100000 in
set_option maxHeartbeats 0 in
theorem PySem.Challenge.cw_delve_k65_cellars_built_holds : PySem.Challenge.rw_delve_k65_cellars_built.Holds := by
  w_on; o_law; k_head; (case hw => w_witness2)
  k_fill
  refine Mine.walk (l := PySem.Challenge.rw_delve_k65_cellars_built) rfl rfl (fun w h Y => PySem.W.kIn_of Y) ?F
  case F =>
    intro w mg fa h KX G hmg
    refine' Mine.all_mk KX G hmg ?aC_Site ?a0 ?l0 ?c0 ?k0 ?a1 ?l1 ?c1 ?k1 ?a2 ?l2 ?c2 ?k2 ?a3 ?l3 ?d3_ ?c3 ?k3 ?a4 ?l4 ?c4 ?k4 ?a5 ?l5 ?c5 ?k5 ?a6 ?l6 ?c6 ?k6 ?a7 ?l7 ?c7 ?k7 ?a8 ?l8 ?c8 ?k8 ?a9 ?l9 ?c9 ?k9 ?a10 ?l10 ?c10 ?k10 ?a11 ?l11 ?c11 ?k11 ?a12 ?l12 ?c12 ?k12 ?a13 ?l13 ?c13 ?k13 ?a14 ?l14 ?c14 ?k14 ?a15 ?l15 ?c15 ?k15 ?a16 ?l16 ?c16 ?k16 ?a17 ?l17 ?c17 ?k17 ?a18 ?l18 ?c18 ?k18 ?a19 ?l19 ?c19 ?k19 ?a20 ?l20 ?c20 ?k20 ?a21 ?l21 ?c21 ?k21 ?a22 ?l22 ?c22 ?k22 ?a23 ?i23 ?l23 ?c23 ?k23 ?pg_Site ?hd_Site ?po_Site ?sa_Site ?mk_Site ?kc_Site ?no_Site_kinds ?no_Site_levers ?no_Site_rooms ?no_Site_things ?no_Site_ways ?ax_NoCellar ?ax_TooMany ?xex_NoCellar ?xmo_NoCellar_0 ?xex_TooMany ?xmo_TooMany_0 ?z_all ?z_bool ?z_int ?z_isinstance ?z_len ?z_list ?z_range ?z_str ?z_tuple ?z_zip ?ay_TWO_PARTS ?ky_TWO_PARTS ?y_ALL_BARS ?y_FIRST_ROOM ?y_LAST_BAR ?y_LAST_KIND ?y_MOST_LEVERS ?y_MOST_ROOMS ?y_MOST_THINGS ?y_MOST_WAYS ?y_MOST_WHEELS ?y_SPARE_KIND ?y_TOP_HEIGHT
    (case aC_Site => k_is)
    (case a0 => k_is)
    (case l0 => k_is)
    (case c0 => k_is)
    (case k0 => k_is)
    (case a1 => k_is)
    (case l1 => k_is)
    (case c1 => k_is)
    (case k1 => k_is)
    (case a2 => k_is)
    (case l2 => k_is)
    (case c2 => k_is)
    (case k2 => k_is)
    (case a3 => k_is)
    (case l3 => k_is)
    (case d3_ => k_is)
    (case c3 => k_is)
    (case k3 => k_is)
    (case a4 => k_is)
    (case l4 => k_is)
    (case c4 => k_is)
    (case k4 => k_is)
    (case a5 => k_is)
    (case l5 => k_is)
    (case c5 => k_is)
    (case k5 => k_is)
    (case a6 => k_is)
    (case l6 => k_is)
    (case c6 => k_is)
    (case k6 => k_is)
    (case a7 => k_is)
    (case l7 => k_is)
    (case c7 => k_is)
    (case k7 => k_is)
    (case a8 => k_is)
    (case l8 => k_is)
    (case c8 => k_is)
    (case k8 => k_is)
    (case a9 => k_is)
    (case l9 => k_is)
    (case c9 => k_is)
    (case k9 => k_is)
    (case a10 => k_is)
    (case l10 => k_is)
    (case c10 => k_is)
    (case k10 => k_is)
    (case a11 => k_is)
    (case l11 => k_is)
    (case c11 => k_is)
    (case k11 => k_is)
    (case a12 => k_is)
    (case l12 => k_is)
    (case c12 => k_is)
    (case k12 => k_is)
    (case a13 => k_is)
    (case l13 => k_is)
    (case c13 => k_is)
    (case k13 => k_is)
    (case a14 => k_is)
    (case l14 => k_is)
    (case c14 => k_is)
    (case k14 => k_is)
    (case a15 => k_is)
    (case l15 => k_is)
    (case c15 => k_is)
    (case k15 => k_is)
    (case a16 => k_is)
    (case l16 => k_is)
    (case c16 => k_is)
    (case k16 => k_is)
    (case a17 => k_is)
    (case l17 => k_is)
    (case c17 => k_is)
    (case k17 => k_is)
    (case a18 => k_is)
    (case l18 => k_is)
    (case c18 => k_is)
    (case k18 => k_is)
    (case a19 => k_is)
    (case l19 => k_is)
    (case c19 => k_is)
    (case k19 => k_is)
    (case a20 => k_is)
    (case l20 => k_is)
    (case c20 => k_is)
    (case k20 => k_is)
    (case a21 => k_is)
    (case l21 => k_is)
    (case c21 => k_is)
    (case k21 => k_is)
    (case a22 => k_is)
    (case l22 => k_is)
    (case c22 => k_is)
    (case k22 => k_is)
    (case a23 => k_is)
    (case i23 => k_is)
    (case l23 => k_is)
    (case c23 => k_is)
    (case k23 => k_is)
    (case pg_Site => k_is)
    (case hd_Site => k_is)
    (case po_Site => k_is)
    (case sa_Site => k_is)
    (case mk_Site => k_is)
    (case kc_Site => k_is)
    (case no_Site_kinds => k_is)
    (case no_Site_levers => k_is)
    (case no_Site_rooms => k_is)
    (case no_Site_things => k_is)
    (case no_Site_ways => k_is)
    (case ax_NoCellar => k_is)
    (case ax_TooMany => k_is)
    (case xex_NoCellar => k_exc)
    (case xmo_NoCellar_0 => kts_exm)
    (case xex_TooMany => k_exc)
    (case xmo_TooMany_0 => kts_exm)
    (case z_all => k_is)
    (case z_bool => k_is)
    (case z_int => k_is)
    (case z_isinstance => k_is)
    (case z_len => k_is)
    (case z_list => k_is)
    (case z_range => k_is)
    (case z_str => k_is)
    (case z_tuple => k_is)
    (case z_zip => k_is)
    (case ay_TWO_PARTS => k_is)
    (case ky_TWO_PARTS => k_is)
    (case y_ALL_BARS => k_is)
    (case y_FIRST_ROOM => k_is)
    (case y_LAST_BAR => k_is)
    (case y_LAST_KIND => k_is)
    (case y_MOST_LEVERS => k_is)
    (case y_MOST_ROOMS => k_is)
    (case y_MOST_THINGS => k_is)
    (case y_MOST_WAYS => k_is)
    (case y_MOST_WHEELS => k_is)
    (case y_SPARE_KIND => k_is)
    (case y_TOP_HEIGHT => k_is)

