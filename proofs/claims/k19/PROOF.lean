import PyProof.Rows.All
import Wide.All
import OpenK.AllK
import Wide.FinOn
import Lean
import PyProof.EqAt
import PyProof.EqKinds
import PyProof.TupleCall
import PyProof.NeData
import PyProof.DictRoadsH
import Wide.Seal
import PyProof.CompMap
import PyProof.DictIter
import PyProof.DictWalks
import PyProof.P3In
import OpenK.KOwn
import KE.KTryMore
import PyProof.RulesAs
import PyProof.ExcArgs
import PyProof.NsDelKeeps
import KE.KIsAll
import OpenK.KDescr
import PyProof.CompUse
import PyProof.ZipIter
import PyProof.TupleIter
import KE.KRevSl
import PyProof.Rows.SortWalk
import PyProof.MeetsSeq
import KE.KDictSum
import PyProof.ListRange
import KE.KSortKey
import PyProof.Rows.SortStr
import PyProof.Rows.CallKwBuiltin
import KE.KTab
import PyProof.ConsumeWalk
import PyProof.Comp
import PyProof.ForAny
import PyProof.Rows.StrJoin2
import PyProof.CallStr
import PySem.Challenge.RW_askring_k19_yards_begin
def PySem.W.Fast.tw10449341105771099277 : Nat := 0
def PySem.W.Fast.tw10581548905548318147 : Nat := 0
def PySem.W.Fast.tw10726788788610319427 : Nat := 0
def PySem.W.Fast.tw10797795259627129012 : Nat := 0
def PySem.W.Fast.tw10804973873066833290 : Nat := 0
def PySem.W.Fast.tw12547683151687463580 : Nat := 0
def PySem.W.Fast.tw12954802276644292822 : Nat := 0
def PySem.W.Fast.tw13282929657151399503 : Nat := 0
def PySem.W.Fast.tw13386071140807762648 : Nat := 0
def PySem.W.Fast.tw14081792996277819435 : Nat := 0
def PySem.W.Fast.tw14448495581274848944 : Nat := 0
def PySem.W.Fast.tw14501483691769403204 : Nat := 0
def PySem.W.Fast.tw15083505446827584179 : Nat := 0
def PySem.W.Fast.tw15273195817623697533 : Nat := 0
def PySem.W.Fast.tw15530453757366836906 : Nat := 0
def PySem.W.Fast.tw15971232102690754017 : Nat := 0
def PySem.W.Fast.tw16411657559271847496 : Nat := 0
def PySem.W.Fast.tw1667044291176666589 : Nat := 0
def PySem.W.Fast.tw16803920472588900290 : Nat := 0
def PySem.W.Fast.tw17313283114437414382 : Nat := 0
def PySem.W.Fast.tw18245144346558362212 : Nat := 0
def PySem.W.Fast.tw18362824112002098495 : Nat := 0
def PySem.W.Fast.tw18427611761073729601 : Nat := 0
def PySem.W.Fast.tw2246614158895876917 : Nat := 0
def PySem.W.Fast.tw2471705593816597823 : Nat := 0
def PySem.W.Fast.tw2487639732572488970 : Nat := 0
def PySem.W.Fast.tw2632509507833307914 : Nat := 0
def PySem.W.Fast.tw2870583213646608781 : Nat := 0
def PySem.W.Fast.tw4333281178288255024 : Nat := 0
def PySem.W.Fast.tw4612441486040000136 : Nat := 0
def PySem.W.Fast.tw536559076823861137 : Nat := 0
def PySem.W.Fast.tw5476658992854327118 : Nat := 0
def PySem.W.Fast.tw5834269362386253453 : Nat := 0
def PySem.W.Fast.tw5918640318926381356 : Nat := 0
def PySem.W.Fast.tw6109071485108026682 : Nat := 0
def PySem.W.Fast.tw6139193530991905313 : Nat := 0
def PySem.W.Fast.tw6490136242930762298 : Nat := 0
def PySem.W.Fast.tw666201206973755224 : Nat := 0
def PySem.W.Fast.tw7250941634315294891 : Nat := 0
def PySem.W.Fast.tw7490149515166939998 : Nat := 0
def PySem.W.Fast.tw7900529315809553686 : Nat := 0
def PySem.W.Fast.tw8184639460849081161 : Nat := 0
def PySem.W.Fast.tw9695134465819689706 : Nat := 0
def PySem.W.Fast.tw9733752523478585363 : Nat := 0
def PySem.W.Fast.tw9844788840155828818 : Nat := 0
set_option Elab.async false
set_option linter.all false
set_option maxRecDepth 100000
namespace L2
open PySem PySem.Spec PyProof.Rows

abbrev Key:=Sum Int Str
def keyIs:Key->Value->Bool
 | .inl k,v=>Value.isInt k v
 | .inr x,v=>Value.isStrOf x v
def keyH (w:World):Key->Int
 | .inl k=>hashInt k
 | .inr x=>hashStr w x
theorem keyIs_shape:∀ {k:Key} {v:Value},keyIs k v=true->(∃ i t,k=Sum.inl i/\v=Value.int i t)\/(∃ x t,k=Sum.inr x/\v=Value.str x t)
 | .inl i,v,h=>by
   obtain ⟨t,e⟩:=Value.isInt_shape (k:=i) (v:=v) h
   exact .inl ⟨i,t,rfl,e⟩
 | .inr x,v,h=>by
   obtain ⟨t,e⟩:=Value.isStrOf_shape (x:=x) (v:=v) h
   exact .inr ⟨x,t,rfl,e⟩
theorem keyIs_int (i:Int) (t:Tok):keyIs (.inl i) (.int i t)=true:=by simp [keyIs,Value.isInt]
theorem keyIs_str (x:Str) (t:Tok):keyIs (.inr x) (.str x t)=true:=by simp [keyIs,Value.isStrOf]
theorem key_ll (a b:Int):decide ((Sum.inl a:Key)=Sum.inl b)=(a == b):=by
 by_cases e:a=b
 · subst e;simp
 · have h:¬ (Sum.inl a:Key)=Sum.inl b:=λq=>e (Sum.inl.inj q)
   rw [decide_eq_false h]
   exact (beq_eq_false_iff_ne.mpr e).symm
theorem key_rr (a b:Str):decide ((Sum.inr a:Key)=Sum.inr b)=decide (a=b):=by
 by_cases e:a=b
 · subst e;simp
 · have h:¬ (Sum.inr a:Key)=Sum.inr b:=λq=>e (Sum.inr.inj q)
   rw [decide_eq_false h,decide_eq_false e]
theorem key_lr (a:Int) (b:Str):decide ((Sum.inl a:Key)=Sum.inr b)=false:=decide_eq_false (λq=>nomatch q)
theorem key_rl (a:Str) (b:Int):decide ((Sum.inr a:Key)=Sum.inl b)=false:=decide_eq_false (λq=>nomatch q)

def mixKind (prog:Program) (w:World):PySem.KeyKind prog w Key where
 is:=keyIs
 hash:=keyH w
 inj:=λv a b ha hb=>by
   rcases keyIs_shape ha with ⟨i,t,rfl,rfl⟩ | ⟨x,t,rfl,rfl⟩
   · rcases keyIs_shape hb with ⟨j,u,rfl,e⟩ | ⟨y,u,rfl,e⟩
     · injection e with e1 _;rw [e1]
     · exact nomatch e
   · rcases keyIs_shape hb with ⟨j,u,rfl,e⟩ | ⟨y,u,rfl,e⟩
     · exact nomatch e
     · injection e with e1 _;rw [e1]
 byValue:=λk v h=>by
   rcases keyIs_shape h with ⟨i,t,rfl,rfl⟩ | ⟨x,t,rfl,rfl⟩<;>rfl
 pyHash:=λhv h=>by
   rcases keyIs_shape hv with ⟨i,t,rfl,rfl⟩ | ⟨x,t,rfl,rfl⟩
   · exact wpAny_pyHash_int h
   · exact wpAny_pyHash_str h
 eqBool:=λhu hv h=>by
   rcases keyIs_shape hu with ⟨i,t,rfl,rfl⟩ | ⟨x,t,rfl,rfl⟩
   · rcases keyIs_shape hv with ⟨j,u,rfl,rfl⟩ | ⟨y,u,rfl,rfl⟩
     · rw [key_ll] at h;exact wpAny_eqBool_int h
     · rw [key_lr] at h;exact SeqAt.EqAt.int_str i t y u _ _ _ _ h
   · rcases keyIs_shape hv with ⟨j,u,rfl,rfl⟩ | ⟨y,u,rfl,rfl⟩
     · rw [key_rl] at h;exact SeqAt.EqAt.str_int x t j u _ _ _ _ h
     · rw [key_rr] at h;exact wpAny_eqBool_str h
 «strs»:=λk x t v h=>by
   rcases keyIs_shape h with ⟨i,u,rfl,e⟩ | ⟨y,u,rfl,e⟩
   · exact nomatch e
   · injection e with e1 _
     subst e1
     cases v<;>rfl

theorem mixKind_int (prog:Program) (w:World) (i:Int) (t:Tok):(mixKind prog w).is (.inl i) (.int i t)=true:=keyIs_int i t
theorem mixKind_str (prog:Program) (w:World) (x:Str) (t:Tok):(mixKind prog w).is (.inr x) (.str x t)=true:=keyIs_str x t
end L2

namespace L2
open PySem PySem.Spec PyProof.Rows

inductive V where
 | non | bl (b:Bool) | int (i:Int) | str (x:Str) | byt (b:Array UInt8) | flt (b:UInt64) | ref (a:Addr) | ty (n:String)
 deriving DecidableEq

def RelV:V->Value->Prop
 | .non,u=>u=Value.none
 | .bl b,u=>u=Value.bool b
 | .int i,u=>∃ t,u=Value.int i t
 | .str x,u=>∃ t,u=Value.str x t
 | .byt b,u=>∃ t,u=Value.bytes b t
 | .flt b,u=>∃ t,u=Value.float b t
 | .ref a,u=>u=Value.ref a
 | .ty n,u=>u=Value.type n

abbrev Vals:List V->List Value->Prop:=Paired RelV
theorem Vals.length {xs:List V} {us:List Value} (r:Vals xs us):xs.length=us.length:=Paired.length r
theorem Vals.get:∀ {xs:List V} {us:List Value} {i:Nat} {x:V},Vals xs us->xs[i]?=some x->∃ u,us[i]?=some u/\RelV x u
 | _,_,_,_,.nil,e=>by simp at e
 | _,_,0,_,.cons r _,e=>by simp at e;subst e;exact ⟨_,rfl,r⟩
 | _,_,i+1,x,.cons _ t,e=>by
   obtain ⟨u,h1,h2⟩:=Vals.get (i:=i) (x:=x) t (by simpa using e)
   exact ⟨u,by simpa using h1,h2⟩
theorem Vals.set {x:V} {u:Value} (r:RelV x u):∀ {xs:List V} {us:List Value} (i:Nat),Vals xs us->Vals (xs.set i x) (us.set i u)
 | _,_,_,.nil=>.nil
 | _,_,0,.cons _ t=>.cons r t
 | _,_,i+1,.cons q t=>.cons q (Vals.set r i t)
theorem Vals.append:∀ {xs ys:List V} {us ws:List Value},Vals xs us->Vals ys ws->Vals (xs++ys) (us++ws)
 | _,_,_,_,.nil,s=>s
 | _,_,_,_,.cons r t,s=>.cons r (Vals.append t s)
theorem Vals.take:∀ {xs:List V} {us:List Value} (n:Nat),Vals xs us->Vals (xs.take n) (us.take n)
 | _,_,0,_=>.nil
 | _,_,_+1,.nil=>.nil
 | _,_,n+1,.cons r t=>.cons r (Vals.take n t)
theorem Vals.drop:∀ {xs:List V} {us:List Value} (n:Nat),Vals xs us->Vals (xs.drop n) (us.drop n)
 | _,_,0,r=>r
 | _,_,_+1,.nil=>.nil
 | _,_,n+1,.cons _ t=>Vals.drop n t
theorem Vals.none_of:∀ {xs:List V} {us:List Value} {i:Nat},Vals xs us->xs[i]?=none->us[i]?=none:=λ{xs us i} r e=>by
 have h1:=r.length
 have h2:xs.length <= i:=List.getElem?_eq_none_iff.mp e
 exact List.getElem?_eq_none_iff.mpr (by omega)

def RelO:Option V->Option Value->Prop
 | some v,some u=>RelV v u
 | none,none=>True
 | _,_=>False
def KV {κ:Type}:List (κ × V)->List (κ × Value)->Prop:=Paired λ(p:κ × V) (q:κ × Value)=>p.1=q.1/\RelV p.2 q.2

def kV:Key->V
 | .inl i=>.int i
 | .inr x=>.str x

inductive HO where
 /-- a list -/
 | lst (xs:List V)
 /-- a tuple (never changes) -/
 | tup (xs:List V)
 /-- a dict whose keys are ints and texts;one whose keys are tuples of ints and texts (the empty one is both) -/
 | dK (kvs:List (Key × V)) | dT (kvs:List (List Key × V))
 /-- a set of ints: its members,its size -/
 | set (S:Int->Bool) (n:Nat)
 /-- an instance of the class at C,its dict at dx,its attributes -/
 | ins (C dx:Addr) (fs:List (Str × V))
 /-- the dict of the instance at x -/
 | own (x:Addr)
 /-- the dict of an exception -/
 | xd (fs:List (Str × V))
 /-- a bound method,f of x -/
 | met (f x:Addr)
 /-- a range object lo,lo+1,.. below hi -/
 | rng (lo hi:Int)
 /-- a thing that is known to the object (the script;a dict while a loop walks it): read,never written while it is so -/
 | frz (o:Obj) (u:HO)
 /-- a code object's table -/
 | tbl (ps:Array Value)
 /-- any other thing,by what is true of its one object (a def of one's own: SetO a S n:=HO.ext λh=>..) -/
 | ext (φ:Heap->Prop)

abbrev Hp:=Addr->Option HO
def upd (H:Hp) (a:Addr) (o:HO):Hp:=λb=>if b=a then some o else H b
theorem upd_same {H:Hp} {a:Addr} {o:HO}:upd H a o a=some o:=by unfold upd;rw [if_pos rfl]
theorem upd_ne {H:Hp} {a b:Addr} {o:HO} (h:b≠a):upd H a o b=H b:=by unfold upd;rw [if_neg h]
theorem upd_upd {H:Hp} {a:Addr} {o u:HO}:upd (upd H a o) a u=upd H a u:=by
 funext b;unfold upd;split<;>rfl
theorem ne_of {H:Hp} {a b:Addr} {o u:HO} (h:H a=some o) (h':H b=some u) (d:o≠u):a≠b:=by
 intro e;subst e;rw [h] at h';exact d (Option.some.inj h')
theorem ne_of_none {H:Hp} {a b:Addr} {o:HO} (h:H a=some o) (h':H b=none):a≠b:=by
 intro e;subst e;rw [h] at h';cases h'

section
variable (P:Program) (w:World)
def ObjOk (H:Hp) (h:Heap) (a:Addr):HO->Prop
 | .lst xs=>xs.length <= sizeLine/\∃ (its:List Value) (n:Nat),Vals xs its/\h.get? a=some { cls:=.type "list",data:=.seq its.toArray n }
 | .tup xs=>xs.length <= sizeLine/\∃ its:List Value,Vals xs its/\IsTup h a its.toArray
 | .dK kvs=>kvs.length <= sizeLine/\(a == sysModules)=false/\∃ vs,KV kvs vs/\h.DictOf (mixKind P w) a vs
 | .dT kvs=>kvs.length <= sizeLine/\(a == sysModules)=false/\∃ xs:List (List Key × Addr × Value),
     Paired (λ(p:List Key × V) (q:List Key × Addr × Value)=>p.1=q.1/\H q.2.1=some (.tup (p.1.map kV))/\RelV p.2 q.2.2) kvs xs /\
     ∃ o es ep,h.get? a=some o/\o.ExactDict/\o.data=.dict es ep/\es.toList=xs.map (entryOfKey (tupleKind (mixKind P w)))/\(xs.map (·.1)).Nodup
 | .set S n=>h.SetOf (intKind P w) a S n
 | .ins C dx fs=>H dx=some (.own a)/\fs.length <= 1000/\dx≠a/\h.get? a=some (PySem.W.instObj C dx) /\
     ∃ mA,h.Ns1 dx mA/\(∀ f,RelO (fs.lookup f) (mA f))/\PySem.Within mA (fs.map (·.1))
 | .own _=>∃ o,h.get? a=some o
 | .xd fs=>∃ mA,h.Ns1 a mA/\∀ f,RelO (fs.lookup f) (mA f)
 | .rng lo hi=>∃ t u v,h.get? a=some { cls:=.type "range",data:=.fields #[.int lo t,.int hi u,.int 1 v] }
 | .frz o u=>h.get? a=some o/\ObjOk H h a u
 | .tbl ps=>h.get? a=some { cls:=.none,data:=.fields ps }
 | .met f x=>h.get? a=some (PySem.W.methodObj (.ref f) (.ref x))
 | .ext φ=>φ h/\(∃ o,h.get? a=some o)/\∀ h1 h2:Heap,φ h1->(∀ o,h1.get? a=some o->h2.get? a=some o)->φ h2
def HOk (H:Hp) (h:Heap):Prop:=∀ a o,H a=some o->ObjOk P w H h a o
end

section
variable {P:Program} {w:World} {H H':Hp} {h h':Heap} {a:Addr} {o:HO}
theorem ObjOk.lt (x:ObjOk P w H h a o):a < h.objs.size:=by
 cases o with
 | lst xs=>obtain ⟨_,_,_,_,e⟩:=x;exact Heap.lt_size e
 | tup xs=>obtain ⟨_,_,_,p⟩:=x;exact p.lt
 | dK kvs=>obtain ⟨_,_,_,_,o,_,_,e,_⟩:=x;exact Heap.lt_size e
 | dT kvs=>obtain ⟨_,_,_,_,o,_,_,e,_⟩:=x;exact Heap.lt_size e
 | set S n=>obtain ⟨o,_,_,_,e,_⟩:=x;exact Heap.lt_size e
 | ins C dx fs=>obtain ⟨_,_,_,e,_⟩:=x;exact Heap.lt_size e
 | own y=>obtain ⟨_,e⟩:=x;exact Heap.lt_size e
 | xd fs=>obtain ⟨_,⟨_,_,_,e,_⟩,_⟩:=x;exact Heap.lt_size e
 | rng lo hi=>obtain ⟨_,_,_,e⟩:=x;exact Heap.lt_size e
 | frz ob u=>obtain ⟨e,_⟩:=x;exact Heap.lt_size e
 | tbl ps=>exact Heap.lt_size (show h.get? a=some _ from x)
 | met f y=>exact Heap.lt_size (show h.get? a=some _ from x)
 | ext φ=>obtain ⟨_,⟨_,e⟩,_⟩:=x;exact Heap.lt_size e
theorem Paired.mapP {α β:Type} {F G:α->β->Prop}:∀ {l₁:List α} {l₂:List β},Paired F l₁ l₂->(∀ a b,F a b->G a b)->Paired G l₁ l₂
 | _,_,.nil,_=>.nil
 | _,_,.cons r t,f=>.cons (f _ _ r) (Paired.mapP t f)
theorem ObjOk.stay (x:ObjOk P w H h a o) (k:∀ b u,(b=a\/H b=some (.own a))->h.get? b=some u->h'.get? b=some u)
   (ho:∀ b,H b=some (.own a)->H' b=some (.own a)) (ht:∀ b xs,H b=some (.tup xs)->H' b=some (.tup xs)):ObjOk P w H' h' a o:=by
 induction o with
 | lst xs=>obtain ⟨z,its,n,r,e⟩:=x;exact ⟨z,its,n,r,k _ _ (.inl rfl) e⟩
 | tup xs=>obtain ⟨z,its,r,ob,e,c⟩:=x;exact ⟨z,its,r,ob,k _ _ (.inl rfl) e,c⟩
 | dK kvs=>obtain ⟨z,y,vs,r,ob,es,ep,e,c⟩:=x;exact ⟨z,y,vs,r,ob,es,ep,k _ _ (.inl rfl) e,c⟩
 | dT kvs =>
   obtain ⟨z,y,xs,r,ob,es,ep,e,c⟩:=x
   exact ⟨z,y,xs,Paired.mapP r λp q z=>⟨z.1,ht _ _ z.2.1,z.2.2⟩,ob,es,ep,k _ _ (.inl rfl) e,c⟩
 | set S n=>obtain ⟨ob,es,ep,t,e,c⟩:=x;exact ⟨ob,es,ep,t,k _ _ (.inl rfl) e,c⟩
 | ins C dx fs =>
   obtain ⟨d,z,ne,e,mA,⟨od,es,ep,e2,c⟩,r⟩:=x
   exact ⟨ho _ d,z,ne,k _ _ (.inl rfl) e,mA,⟨od,es,ep,k _ _ (.inr d) e2,c⟩,r⟩
 | own y=>obtain ⟨ob,e⟩:=x;exact ⟨ob,k _ _ (.inl rfl) e⟩
 | xd fs=>obtain ⟨mA,⟨od,es,ep,e,c⟩,r⟩:=x;exact ⟨mA,⟨od,es,ep,k _ _ (.inl rfl) e,c⟩,r⟩
 | rng lo hi=>obtain ⟨t,u,v,e⟩:=x;exact ⟨t,u,v,k _ _ (.inl rfl) e⟩
 | frz ob u ih=>obtain ⟨e,q⟩:=x;exact ⟨k _ _ (.inl rfl) e,ih q⟩
 | tbl ps =>
   have e:h.get? a=some { cls:=.none,data:=.fields ps }:=x
   show h'.get? a=some { cls:=.none,data:=.fields ps }
   exact k a _ (.inl rfl) e
 | met f y =>
   have e:h.get? a=some (PySem.W.methodObj (.ref f) (.ref y)):=x
   show h'.get? a=some (PySem.W.methodObj (.ref f) (.ref y))
   exact k a _ (.inl rfl) e
 | ext φ=>obtain ⟨p,⟨o,e⟩,st⟩:=x;exact ⟨st _ _ p λo q=>k _ _ (.inl rfl) q,⟨o,k _ _ (.inl rfl) e⟩,st⟩
theorem HOk.lt (x:HOk P w H h) (e:H a=some o):a < h.objs.size:=(x a o e).lt
theorem HOk.fresh (x:HOk P w H h) (e:h.objs.size <= a):H a=none:=by
 cases q:H a with
 | none=>rfl
 | some u=>exact absurd (Nat.lt_of_lt_of_le (x.lt q) e) (Nat.lt_irrefl _)
theorem HOk.kept (x:HOk P w H h) (k:∀ b u,h.get? b=some u->h'.get? b=some u):HOk P w H h':=λa o e =>
 (x a o e).stay (λb u _ q=>k b u q) (λ_ q=>q) λ_ _ q=>q
theorem HOk.laid (x:HOk P w H h) (k:∀ b u,h.get? b=some u->h'.get? b=some u) (hp:h.objs.size <= a) (new:ObjOk P w (upd H a o) h' a o):HOk P w (upd H a o) h':=λb u e=>by
 have hn:=x.fresh hp
 by_cases hb:b=a
 · subst hb;rw [upd_same] at e;cases e;exact new
 · rw [upd_ne hb] at e
   exact (x b u e).stay (λc v _ q=>k c v q) (λc q=>by rw [upd_ne (ne_of_none q hn)];exact q) λc xs q=>by rw [upd_ne (ne_of_none q hn)];exact q
end

def Rd (H:Hp) (a:Addr) (u:HO):Prop:=H a=some u\/∃ o,H a=some (.frz o u)
theorem Rd.of {H:Hp} {a:Addr} {u:HO} (h:H a=some u):Rd H a u:=.inl h
theorem Rd.ok {P:Program} {w:World} {H:Hp} {h:Heap} {a:Addr} {u:HO} (r:Rd H a u) (x:HOk P w H h):ObjOk P w H h a u:=by
 rcases r with r | ⟨o,r⟩
 · exact x a u r
 · obtain ⟨_,q⟩:=x a _ r
   exact q
def Mut:Option HO->Prop
 | some (.lst _)=>True
 | some (.dK _)=>True
 | some (.dT _)=>True
 | some (.set _ _)=>True
 | some (.ins _ _ _)=>True
 | some (.ext _)=>True
 | _=>False
section
variable {P:Program} {w:World} {H:Hp} {h h':Heap} {x e:Addr} {o':HO}
theorem HOk.write (ok:HOk P w H h) (mu:Mut (H x)) (he:e=x\/H e=some (.own x)) (k:∀ b u,b≠e->h.get? b=some u->h'.get? b=some u) (heo:∃ u,h'.get? e=some u)
   (new:ObjOk P w (upd H x o') h' x o'):HOk P w (upd H x o') h':=λb u q=>by
 have nown:∀ c y,H c=some (.own y)->c≠x:=λc y r z=>by subst z;rw [r] at mu;exact mu
 have ntup:∀ c xs,H c=some (.tup xs)->c≠x:=λc xs r z=>by subst z;rw [r] at mu;exact mu
 by_cases hb:b=x
 · subst hb;rw [upd_same] at q;cases q;exact new
 · rw [upd_ne hb] at q
   by_cases hbe:b=e
   · have q':H b=some (.own x):=by
       rcases he with z | z
       · exact absurd (hbe.trans z) hb
       · rw [hbe];exact z
     rw [q] at q';cases q'
     obtain ⟨v,hv⟩:=heo
     exact ⟨v,by rw [hbe];exact hv⟩
   · refine (ok b u q).stay (λc v hc r=>k c v ?_ r) (λc r=>by rw [upd_ne (nown c b r)];exact r) λc xs r=>by rw [upd_ne (ntup c xs r)];exact r
     rcases hc with rfl | hc
     · exact hbe
     · rintro rfl
       rcases he with z | z
       · exact nown c b hc z
       · rw [hc] at z;cases z;exact hb rfl
end

structure Un (fs ex:List Addr) (H H':Hp) (h h':Heap):Prop where
 keep:∀ b o,h.get? b=some o->H b=none->b ∉ fs->b ∉ ex->h'.get? b=some o
 slot:∀ b o,h.get? b=some o->H b=none->b∈fs->b ∉ ex->∃ sl,h'.get? b=some { o with slots:=sl }
 free:∀ b o,h.get? b=some o->H b=none->b ∉ ex->H' b=none
 there:∀ b o,h.get? b=some o->b ∉ ex->∃ o',h'.get? b=some o'
 tups:∀ b xs,H b=some (.tup xs)->H' b=some (.tup xs)
 frzs:∀ b o u,H b=some (.frz o u)->H' b=some (.frz o u)
 tbls:∀ b ps,H b=some (.tbl ps)->∃ more,H' b=some (.tbl (ps++more))
section
variable {fs fs' ex ex':List Addr} {H H1 H2:Hp} {h h1 h2 h':Heap} {a x e:Addr} {o:HO}
theorem Un.any (u:Un fs ex H H1 h h1) {b:Addr} {ob:Obj} (q:h.get? b=some ob) (n:H b=none) (hx:b ∉ ex):∃ sl,h1.get? b=some { ob with slots:=sl }:=by
 by_cases hb:b∈fs
 · exact u.slot b ob q n hb hx
 · exact ⟨ob.slots,u.keep b ob q n hb hx⟩
theorem Un.trans (a:Un fs ex H H1 h h1) (b:Un fs ex H1 H2 h1 h2):Un fs ex H H2 h h2 where
 keep:=λc ob q n hc hx=>b.keep c ob (a.keep c ob q n hc hx) (a.free c ob q n hx) hc hx
 slot:=λc ob q n hc hx=>by
   obtain ⟨sl,e1⟩:=a.slot c ob q n hc hx
   obtain ⟨sl',e2⟩:=b.slot c _ e1 (a.free c ob q n hx) hc hx
   exact ⟨sl',e2⟩
 free:=λc ob q n hx=>by
   obtain ⟨o',e1⟩:=a.there c ob q hx
   exact b.free c o' e1 (a.free c ob q n hx) hx
 there:=λc ob q hx=>by
   obtain ⟨o',e1⟩:=a.there c ob q hx
   exact b.there c o' e1 hx
 tups:=λc xs q=>b.tups c xs (a.tups c xs q)
 frzs:=λc ob xs q=>b.frzs c ob xs (a.frzs c ob xs q)
 tbls:=λc ps q=>by
   obtain ⟨m1,e1⟩:=a.tbls c ps q
   obtain ⟨m2,e2⟩:=b.tbls c _ e1
   exact ⟨m1++m2,by rw [e2,Array.append_assoc]⟩
theorem Un.kept (k:∀ b u,h.get? b=some u->h'.get? b=some u):Un fs ex H H h h' :=
 ⟨λb ob q _ _ _=>k b ob q,λb ob q _ _ _=>⟨ob.slots,k b ob q⟩,λ_ _ _ n _=>n,λb ob q _=>⟨ob,k b ob q⟩,λ_ _ q=>q,λ_ _ _ q=>q,λ_ ps q=>⟨#[],by rw [q];simp⟩⟩
theorem Un.refl:Un fs ex H H h h:=Un.kept λ_ _ q=>q
theorem Un.laid (k:∀ b u,h.get? b=some u->h'.get? b=some u) (hp:h.objs.size <= a) (hn:H a=none):Un fs ex H (upd H a o) h h' where
 keep:=λb u q _ _ _=>k b u q
 slot:=λb u q _ _ _=>⟨u.slots,k b u q⟩
 free:=λb u q n _=>by rw [upd_ne (Nat.ne_of_lt (Nat.lt_of_lt_of_le (Heap.lt_size q) hp))];exact n
 there:=λb u q _=>⟨u,k b u q⟩
 tups:=λb xs q=>by rw [upd_ne (ne_of_none q hn)];exact q
 frzs:=λb u xs q=>by rw [upd_ne (ne_of_none q hn)];exact q
 tbls:=λb ps q=>⟨#[],by rw [upd_ne (ne_of_none q hn),q];simp⟩
theorem Un.write (mu:Mut (H x)) (he:e=x\/H e=some (.own x)) (k:∀ b u,b≠e->h.get? b=some u->h'.get? b=some u) (heo:∃ u,h'.get? e=some u):Un fs ex H (upd H x o) h h':=by
 have hx:∀ b,H b=none->b≠x:=λb n z=>by subst z;rw [n] at mu;exact mu
 have hb:∀ b,H b=none->b≠e:=λb n z=>by
   subst z
   rcases he with r | r
   · exact hx b n r
   · rw [n] at r;cases r
 have hm:∀ b u,H b=some u->¬ Mut (some u)->b≠x:=λb u q nm z=>by subst z;rw [q] at mu;exact nm mu
 refine ⟨λb u q n _ _=>k b u (hb b n) q,λb u q n _ _=>⟨u.slots,k b u (hb b n) q⟩,λb u q n _=>by rw [upd_ne (hx b n)];exact n,λb u q _=>?_,
   λb xs q=>by rw [upd_ne (hm b _ q λz=>z)];exact q,λb u xs q=>by rw [upd_ne (hm b _ q λz=>z)];exact q,λb ps q=>⟨#[],by rw [upd_ne (hm b _ q λz=>z),q];simp⟩⟩
 by_cases hbe:b=e
 · subst hbe;exact heo
 · exact ⟨u,k b u hbe q⟩
theorem Un.mono (u:Un fs ex H H1 h h1) (hs:∀ b∈fs,b∈fs') (hx:∀ b∈ex,b∈ex'):Un fs' ex' H H1 h h1 :=
 ⟨λb ob q n hb he=>u.keep b ob q n (λz=>hb (hs b z)) λz=>he (hx b z),λ_ _ q n _ he=>u.any q n λz=>he (hx _ z),λb ob q n he=>u.free b ob q n λz=>he (hx b z),λb ob q he=>u.there b ob q λz=>he (hx b z),u.tups,u.frzs,u.tbls⟩
end

def trk (h:Heap) (H:Hp):List Addr:=(List.range h.objs.size).filter λa=>(H a).isSome
def hidT (h:Heap) (H:Hp):Heap:=PySem.W.hideAll h (trk h H)
theorem hidT_size (h:Heap) (H:Hp):(hidT h H).objs.size=h.objs.size:=PySem.W.hideAll_size _ _
theorem hidT_get {h:Heap} {H:Hp} {b:Addr} {o:Obj} (e:h.get? b=some o) (n:H b=none):(hidT h H).get? b=some o :=
 PySem.W.hideAll_get _ e λhm=>by
   have q:(H b).isSome=true:=(List.mem_filter.mp hm).2
   rw [n] at q;simp at q
theorem of_hidT {h:Heap} {H:Hp} {b:Addr} {o:Obj} (e:(hidT h H).get? b=some o):h.get? b=some o/\H b=none:=by
 have e':h.get? b=some o:=PySem.W.of_hideAll (trk h H) e
 refine ⟨e',?_⟩
 cases q:H b with
 | none=>rfl
 | some x =>
   have hm:b∈trk h H:=List.mem_filter.mpr ⟨List.mem_range.mpr (Heap.lt_size e'),by simp [q]⟩
   have z:(hidT h H).get? b=none:=PySem.W.hideAll_none (trk h H) hm
   rw [z] at e;cases e

def allNews (g h:Heap) (L:Addr):List (Addr × Obj):=(List.range h.objs.size).filterMap λa=>if a=L\/(g.get? a).isSome=true then none else (h.get? a).map λo=>(a,o)
def rest (g h:Heap) (L d:Addr):List (Addr × Obj):=(allNews g h L).filter λp=>decide (p.1≠d)
end L2

namespace L2
open PySem PySem.Spec PyProof.Rows

structure Mod (K:PySem.W.Frag) (mg:Str->Option Value) (base:Heap):Prop where
 kin:K.In base
 glob:base.Ns mainGlobals mg
 blt:∃ mb,base.Ns builtinsNs mb/\∀ x:Str,x≠"__name__"->mb x=bootBuiltins x
 nolimit:base.NoLimit

structure Cx where
 prog:Program
 w:World
 K:PySem.W.Frag
 mg:Str->Option Value
 base:Heap
 A:Around
 N:List Str
 s₀:Shared
 H₀:Hp
 env:Env
 outer:List Env
 stack:List Env
 ex:List Addr
 fn:Str->Bool
 calm:Bool
 pn:List (Addr × Obj)
 xe:Value->Shared->Prop
def frs (l:List Env):List Addr:=l.filterMap (·.frame)
abbrev Cx.fs (X:Cx):List Addr:=frs X.outer

def Vis (sc:Scope) (x:Str):Prop:=sc.names.lookup x=some .local\/sc.names.lookup x=some .cell\/sc.names.lookup x=some .free
def Loc (sc:Scope) (x:Str):Prop:=sc.names.lookup x=some .local\/sc.names.lookup x=some .cell
def Look (env:Env) (h:Heap) (m:Str->Option Value) (x:Str) (u:Value):Prop :=
 (env.kindOf x=some .local/\m x=some u)\/((env.kindOf x=some .cell\/env.kindOf x=some .free)/\∃ c,env.cells.lookup x=some c/\h.IsCell c (some u))

structure Cx.Ok (X:Cx):Prop where
 mod:Mod X.K X.mg X.base
 kind:X.env.scope.kind=.function
 glob:X.env.globals=mainGlobals
 blt:X.env.builtins=builtinsNs
 above:X.s₀.heap.objs.size <= X.env.locals
 inj:∀ x y c,X.env.cells.lookup x=some c->X.env.cells.lookup y=some c->x=y
 has:∀ x,(X.env.kindOf x=some .cell\/X.env.kindOf x=some .free)->∃ c,X.env.cells.lookup x=some c
 cab:∀ x c,X.fn x=true->X.env.cells.lookup x=some c->X.s₀.heap.objs.size <= c
 hd:X.calm=true->X.A.handled=none
 frames:X.A.frames=some X.stack
 stk:X.stack=X.outer\/(X.stack=X.env :: X.outer/\X.env.frame=some X.env.locals)
 exf:∀ b∈X.ex,b≠X.env.locals/\∀ x c,X.env.cells.lookup x=some c->c≠b
 bs:∀ b o,X.base.get? b=some o->X.s₀.heap.get? b=some o/\X.H₀ b=none
 bsz:X.base.objs.size <= X.s₀.heap.objs.size
 noex:∀ b o,X.base.get? b=some o->b ∉ X.ex
 exfs:∀ b∈X.ex,b ∉ X.fs
 funs:X.s₀.heap.FunFrames X.base X.outer
 frf:∀ b∈X.fs,X.H₀ b=none

structure Inv (X:Cx) (pins:List (Addr × Obj)) (σ:List (Option V)) (H:Hp) (s:Shared):Prop where
 ok:X.Ok
 os:s.os=X.s₀.os
 bare:AllBare s.gens
 base:Un X.fs X.ex X.H₀ H X.s₀.heap s.heap
 loc:∃ m,s.heap.Ns X.env.locals m/\∀ (i:Nat) (x:Str) (v:V),X.N[i]?=some x->σ[i]?=some (some v)->Vis X.env.scope x->∃ u,RelV v u/\Look X.env s.heap m x u
 cell:∀ x c,X.env.cells.lookup x=some c->∃ v,s.heap.IsCell c v
 free:H X.env.locals=none
 freeC:∀ x c,X.env.cells.lookup x=some c->H c=none
 pin:∀ p∈X.pn++pins,s.heap.get? p.1=some p.2/\H p.1=none/\p.1≠X.env.locals/\p.1 ∉ X.fs/\∀ v,p.2.data≠.cell v
 hok:HOk X.prog X.w H s.heap
 len:σ.length=X.N.length

section
variable {X:Cx} {pins:List (Addr × Obj)} {σ:List (Option V)} {H H':Hp} {s:Shared} {h':Heap}

theorem Cx.Ok.nofr (ok:X.Ok) {b:Addr} {o:Obj} (e:X.base.get? b=some o):b ∉ X.fs:=λhb=>by
 have:=(ok.funs.mem hb).1
 rw [e] at this;cases this
theorem Inv.bs (I:Inv X pins σ H s):∀ b o,X.base.get? b=some o->s.heap.get? b=some o/\H b=none:=λb o e =>
 ⟨I.base.keep b o (I.ok.bs b o e).1 (I.ok.bs b o e).2 (I.ok.nofr e) (I.ok.noex b o e),I.base.free b o (I.ok.bs b o e).1 (I.ok.bs b o e).2 (I.ok.noex b o e)⟩
theorem Inv.bk (I:Inv X pins σ H s):∀ b o,X.base.get? b=some o->s.heap.get? b=some o:=λb o e=>(I.bs b o e).1
theorem Inv.mod (I:Inv X pins σ H s):Mod X.K X.mg X.base:=I.ok.mod
theorem Inv.kIn (I:Inv X pins σ H s):X.K.In s.heap:=I.ok.mod.kin.keeps I.bk
theorem Inv.nolimit (I:Inv X pins σ H s):s.heap.NoLimit:=I.ok.mod.nolimit.keeps I.bk
theorem Inv.fr (I:Inv X pins σ H s):∃ m,Fr X.base X.env.locals s.heap m :=
 let ⟨m,hn,_⟩:=I.loc
 ⟨m,hn,I.bk,Nat.le_trans I.ok.bsz I.ok.above⟩
theorem Inv.lt (I:Inv X pins σ H s):X.env.locals < s.heap.objs.size:=let ⟨_,hn,_⟩:=I.loc;hn.lt
theorem Inv.sz (I:Inv X pins σ H s):X.s₀.heap.objs.size <= s.heap.objs.size:=Nat.le_trans I.ok.above (Nat.le_of_lt I.lt)
theorem Inv.nofs (I:Inv X pins σ H s) {a:Addr} (h:s.heap.objs.size <= a):a ∉ X.fs:=λhb=>by
 obtain ⟨_,o,ho,_⟩:=I.ok.funs.mem hb
 exact absurd (Nat.lt_of_lt_of_le (Heap.lt_size ho) (Nat.le_trans I.sz h)) (Nat.lt_irrefl _)
theorem Inv.cne (I:Inv X pins σ H s):∀ x c,X.env.cells.lookup x=some c->c≠X.env.locals:=λx c e z=>by
 obtain ⟨v,o,ho,hd⟩:=I.cell x c e
 obtain ⟨m,⟨o',es,ep,ho',hd',_⟩,_⟩:=I.loc
 rw [z,ho'] at ho;cases ho;rw [hd'] at hd;cases hd
theorem Inv.funs (I:Inv X pins σ H s):s.heap.FunFrames X.base X.outer:=by
 have all:∀ (l:List Env),(∀ b∈frs l,b∈X.fs)->X.s₀.heap.FunFrames X.base l->s.heap.FunFrames X.base l:=by
   intro l
   induction l with
   | nil=>intro _ _;trivial
   | cons env r ih =>
     intro hs hl
     obtain ⟨hk,⟨L,o,hf,hn,ho,hd⟩,hr⟩:=hl
     have hL:L∈X.fs:=hs L (by unfold frs;rw [List.filterMap_cons,hf];exact List.mem_cons_self)
     obtain ⟨sl,e⟩:=I.base.slot L o ho (I.ok.frf L hL) hL λz=>I.ok.exfs L z hL
     exact ⟨hk,⟨L,_,hf,hn,e,hd⟩,ih (λb hb=>hs b (by unfold frs;rw [List.filterMap_cons,hf];exact List.mem_cons_of_mem _ hb)) hr⟩
 exact all X.outer (λ_ hb=>hb) I.ok.funs

theorem Inv.stack (I:Inv X pins σ H s):s.heap.FunFrames X.base X.stack:=by
 rcases I.ok.stk with e | ⟨e,hf⟩
 · rw [e];exact I.funs
 · rw [e]
   obtain ⟨m,hn,_⟩:=I.loc
   refine .cons (by rw [I.ok.kind];decide) hf hn ?_ I.funs
   exact Heap.get?_none_of_le (Nat.le_trans I.ok.bsz I.ok.above)
theorem Inv.stkSub (I:Inv X pins σ H s):∀ b∈frs X.stack,b∈X.env.locals :: X.fs:=λb hb=>by
 rcases I.ok.stk with e | ⟨e,hf⟩
 · rw [e] at hb;exact List.mem_cons_of_mem _ hb
 · rw [e] at hb
   unfold frs at hb
   rw [List.filterMap_cons,hf] at hb
   exact hb
theorem Inv.stkFree (I:Inv X pins σ H s):∀ b∈frs X.stack,H b=none:=λb hb=>by
 rcases List.mem_cons.mp (I.stkSub b hb) with e | hb
 · rw [e];exact I.free
 · obtain ⟨_,o,ho,_⟩:=I.ok.funs.mem hb
   exact I.base.free b o ho (I.ok.frf b hb) λz=>I.ok.exfs b z hb

theorem Inv.step {g':Array GenState} {t':Nat} {d':Drawn} {ch:List Addr} (I:Inv X pins σ H s)
   (hch:∀ b∈ch,(b∈X.ex\/X.s₀.heap.objs.size <= b)/\b≠X.env.locals/\(∀ x c,X.env.cells.lookup x=some c->c≠b)/\∀ p∈X.pn++pins,p.1≠b)
   (keep:∀ b o,b≠X.env.locals->b ∉ X.fs->b ∉ ch->s.heap.get? b=some o->H b=none->h'.get? b=some o)
   (slot:∀ b o,b≠X.env.locals->b∈X.fs->b ∉ ch->s.heap.get? b=some o->H b=none->∃ sl,h'.get? b=some { o with slots:=sl }) (free:∀ b o,b ∉ ch->s.heap.get? b=some o->H b=none->H' b=none)
   (there:∀ b o,b ∉ ch->s.heap.get? b=some o->∃ o',h'.get? b=some o')
   (tups:∀ b xs,H b=some (.tup xs)->H' b=some (.tup xs)) (frzs:∀ b o u,H b=some (.frz o u)->H' b=some (.frz o u)) (tbls:∀ b ps,H b=some (.tbl ps)->∃ more,H' b=some (.tbl (ps++more)))
   (ns:∀ m,s.heap.Ns X.env.locals m->h'.Ns X.env.locals m) (hok:HOk X.prog X.w H' h') (hg:AllBare g') :
   Inv X pins σ H' { s with heap:=h',gens:=g',drawn:=d',toks:=t' }:=by
 have neL:∀ b o,X.s₀.heap.get? b=some o->b≠X.env.locals:=λb o e=>Nat.ne_of_lt (Nat.lt_of_lt_of_le (Heap.lt_size e) I.ok.above)
 have neC:∀ b o,X.s₀.heap.get? b=some o->b ∉ X.ex->b ∉ ch:=λb o e hx hb=>by
   rcases (hch b hb).1 with z | z
   · exact hx z
   · exact absurd (Nat.lt_of_lt_of_le (Heap.lt_size e) z) (Nat.lt_irrefl _)
 have cellK:∀ x c,X.env.cells.lookup x=some c->∀ v,s.heap.IsCell c v->h'.IsCell c v:=λx c e v ⟨o,ho,hd⟩=>by
   have nch:c ∉ ch:=λz=>(hch c z).2.2.1 x c e rfl
   by_cases hc:c∈X.fs
   · obtain ⟨sl,q⟩:=slot c o (I.cne x c e) hc nch ho (I.freeC x c e)
     exact ⟨_,q,hd⟩
   · exact ⟨o,keep c o (I.cne x c e) hc nch ho (I.freeC x c e),hd⟩
 refine ⟨I.ok,I.os,hg,⟨λb o e n hb hx=>?_,λb o e n hb hx=>?_,λb o e n hx=>?_,λb o e hx=>?_,λb xs e=>tups b xs (I.base.tups b xs e),λb o xs e=>frzs b o xs (I.base.frzs b o xs e),λb ps e=>?_⟩,?_,λx c e=>?_,?_,λx c e=>?_,λp hp=>?_,hok,I.len⟩
 · exact keep b o (neL b o e) hb (neC b o e hx) (I.base.keep b o e n hb hx) (I.base.free b o e n hx)
 · obtain ⟨sl,e1⟩:=I.base.slot b o e n hb hx
   obtain ⟨sl',e2⟩:=slot b _ (neL b o e) hb (neC b o e hx) e1 (I.base.free b o e n hx)
   exact ⟨sl',e2⟩
 · obtain ⟨o',e1⟩:=I.base.there b o e hx
   exact free b o' (neC b o e hx) e1 (I.base.free b o e n hx)
 · obtain ⟨o',e1⟩:=I.base.there b o e hx
   exact there b o' (neC b o e hx) e1
 · obtain ⟨m1,e1⟩:=I.base.tbls b ps e
   obtain ⟨m2,e2⟩:=tbls b _ e1
   exact ⟨m1++m2,by rw [e2,Array.append_assoc]⟩
 · obtain ⟨m,hn,hl⟩:=I.loc
   refine ⟨m,ns m hn,λi x v e1 e2 e3=>?_⟩
   obtain ⟨u,r,l⟩:=hl i x v e1 e2 e3
   refine ⟨u,r,?_⟩
   rcases l with l | ⟨k,c,e,z⟩
   · exact .inl l
   · exact .inr ⟨k,c,e,cellK x c e _ z⟩
 · obtain ⟨v,z⟩:=I.cell x c e
   exact ⟨v,cellK x c e v z⟩
 · obtain ⟨m,⟨o,_,_,ho,_⟩,_⟩:=I.loc
   exact free _ o (λz=>(hch _ z).2.1 rfl) ho I.free
 · obtain ⟨v,o,ho,hd⟩:=I.cell x c e
   exact free c o (λz=>(hch c z).2.2.1 x c e rfl) ho (I.freeC x c e)
 · obtain ⟨e,n,ne,nf,d⟩:=I.pin p hp
   have nch:p.1 ∉ ch:=λz=>(hch p.1 z).2.2.2 p hp rfl
   exact ⟨keep p.1 p.2 ne nf nch e n,free p.1 p.2 nch e n,ne,nf,d⟩
theorem Inv.un {t':Nat} (I:Inv X pins σ H s) (u:Un X.fs [] H H' s.heap h') (hok:HOk X.prog X.w H' h'):Inv X pins σ H' { s with heap:=h',toks:=t' }:=by
 obtain ⟨m,⟨o,es,ep,ho,r⟩,_⟩:=id I.loc
 obtain ⟨sl,hL⟩:=u.any ho I.free (by simp)
 exact I.step (g':=s.gens) (d':=s.drawn) (ch:=[]) (λ_ z=>nomatch z) (λb o _ hb _ e n=>u.keep b o e n hb (by simp)) (λb o _ hb _ e n=>u.slot b o e n hb (by simp)) (λb o _ e n=>u.free b o e n (by simp)) (λb o _ e=>u.there b o e (by simp)) u.tups u.frzs u.tbls (λm' hm=>by
   obtain ⟨o',es',ep',ho',r'⟩:=hm
   rw [ho] at ho';cases ho'
   exact ⟨_,es',ep',hL,r'⟩) hok I.bare
theorem Inv.call {g':Array GenState} {t':Nat} {d':Drawn} {ch:List Addr} (I:Inv X pins σ H s) (u:Un (frs X.stack) ch H H' s.heap h') (hok:HOk X.prog X.w H' h') (hg:AllBare g')
   (hch:∀ b∈ch,(b∈X.ex\/X.s₀.heap.objs.size <= b)/\b≠X.env.locals/\(∀ x c,X.env.cells.lookup x=some c->c≠b)/\∀ p∈X.pn++pins,p.1≠b) :
   Inv X pins σ H' { s with heap:=h',gens:=g',drawn:=d',toks:=t' }:=by
 obtain ⟨m,⟨o,es,ep,ho,r⟩,_⟩:=id I.loc
 obtain ⟨sl,hL⟩:=u.any ho I.free λz=>(hch _ z).2.1 rfl
 exact I.step (ch:=ch) hch (λb o hL hb hc e n=>u.keep b o e n (λz=>(List.mem_cons.mp (I.stkSub b z)).elim hL hb) hc) (λb o _ _ hc e n=>u.any e n hc) (λb o hc e n=>u.free b o e n hc) (λb o hc e=>u.there b o e hc) u.tups u.frzs u.tbls (λm' hm=>by
   obtain ⟨o',es',ep',ho',r'⟩:=hm
   rw [ho] at ho';cases ho'
   exact ⟨_,es',ep',hL,r'⟩) hok hg
theorem Inv.turned {t':Nat} {it:Addr} (I:Inv X pins σ H s) (k:∀ b o,b≠it->s.heap.get? b=some o->h'.get? b=some o) (hn:H it=none) (hL:it≠X.env.locals)
   (h1:it∈X.ex\/X.s₀.heap.objs.size <= it) (h2:∀ x c,X.env.cells.lookup x=some c->c≠it) (h3:∀ p∈X.pn++pins,p.1≠it):Inv X pins σ H { s with heap:=h',toks:=t' }:=by
 have nit:∀ b u,H b=some u->b≠it:=λb u e z=>by rw [z,hn] at e;cases e
 refine I.step (g':=s.gens) (d':=s.drawn) (ch:=[it]) (λb hb=>?_) (λb o _ _ hc e _=>k b o (λz=>hc (by simp [z])) e) (λb o _ _ hc e _=>⟨o.slots,k b o (λz=>hc (by simp [z])) e⟩) (λ_ _ _ _ n=>n)
   (λb o hc e=>⟨o,k b o (λz=>hc (by simp [z])) e⟩) (λ_ _ e=>e) (λ_ _ _ e=>e) (λb ps e=>⟨#[],by rw [e];simp⟩) (λm hm=>?_) (λb u e=>?_) I.bare
 · have e:b=it:=by simpa using hb
   subst e
   exact ⟨h1,hL,h2,h3⟩
 · obtain ⟨o,es,ep,ho,r⟩:=hm
   exact ⟨o,es,ep,k _ o (Ne.symm hL) ho,r⟩
 · refine (I.hok b u e).stay (λc v hc q=>k c v ?_ q) (λ_ q=>q) λ_ _ q=>q
   rcases hc with z | z
   · rw [z];exact nit b u e
   · exact nit c _ z
theorem Inv.tok (I:Inv X pins σ H s) (t:Nat):Inv X pins σ H { s with toks:=t }:=I.un (h':=s.heap) (t':=t) Un.refl I.hok
theorem Inv.kept {t':Nat} (I:Inv X pins σ H s) (k:∀ b u,s.heap.get? b=some u->h'.get? b=some u):Inv X pins σ H { s with heap:=h',toks:=t' }:=I.un (Un.kept k) (I.hok.kept k)
theorem Inv.laid {a:Addr} {o:HO} {t':Nat} (I:Inv X pins σ H s) (k:∀ b u,s.heap.get? b=some u->h'.get? b=some u) (hp:s.heap.objs.size <= a) (new:ObjOk X.prog X.w (upd H a o) h' a o) :
   Inv X pins σ (upd H a o) { s with heap:=h',toks:=t' }:=I.un (Un.laid k hp (I.hok.fresh hp)) (I.hok.laid k hp new)
theorem Inv.write {x e:Addr} {o:HO} {t':Nat} (I:Inv X pins σ H s) (mu:Mut (H x)) (he:e=x\/H e=some (.own x)) (k:∀ b u,b≠e->s.heap.get? b=some u->h'.get? b=some u) (heo:∃ u,h'.get? e=some u)
   (new:ObjOk X.prog X.w (upd H x o) h' x o):Inv X pins σ (upd H x o) { s with heap:=h',toks:=t' }:=I.un (Un.write mu he k heo) (I.hok.write mu he k heo new)
theorem Inv.pins_of {pins':List (Addr × Obj)} (I:Inv X pins σ H s) (h:∀ p∈pins',s.heap.get? p.1=some p.2/\H p.1=none/\p.1≠X.env.locals/\p.1 ∉ X.fs/\∀ v,p.2.data≠.cell v):Inv X pins' σ H s :=
 ⟨I.ok,I.os,I.bare,I.base,I.loc,I.cell,I.free,I.freeC,λp hp=>(List.mem_append.mp hp).elim (λz=>I.pin p (List.mem_append_left _ z)) (h p),I.hok,I.len⟩

theorem nodup_ix {N:List Str} (hN:N.Nodup) {i j:Nat} {x:Str} (a:N[i]?=some x) (b:N[j]?=some x):i=j:=by
 obtain ⟨h1,e1⟩:=List.getElem?_eq_some_iff.mp a
 obtain ⟨h2,e2⟩:=List.getElem?_eq_some_iff.mp b
 exact (List.getElem_inj hN).mp (e1.trans e2.symm)

theorem store_ok2 {M:Model} {A:Around} {E:Value->Shared->Prop} {i:Nat} {x:Str} {v:V} {u:Value} {Q:Unit->Shared->Prop} (I:Inv X pins σ H s) (hN:X.N.Nodup) (hi:X.N[i]?=some x) (hx:Loc X.env.scope x) (r:RelV v u)
   (h:∀ s',Inv X pins (σ.set i (some v)) H s'->(∃ a,Heap.SameBut a s.heap s'.heap/\(a=X.env.locals\/X.env.cells.lookup x=some a))->Q () s') (hf:X.fn x=true\/X.env.scope.names.lookup x=some .local:=by first | exact .inl rfl | exact .inr rfl | assumption):wpAny M A (storeName X.env x u) Q E s:=by
 obtain ⟨m,hn,hl⟩:=id I.loc
 have hcls:(X.env.scope.kind == .class || (X.env.scope.kind == .module && X.env.locals != X.env.globals))=false:=by rw [I.ok.kind];rfl
 have hiσ:i < σ.length:=by rw [I.len];exact (List.getElem?_eq_some_iff.mp hi).1
 have cne:=I.cne
 have tracked:∀ {a:Addr} {h':Heap},(∃ o,s.heap.get? a=some o/\H a=none)->Heap.SameBut a s.heap h'->HOk X.prog X.w H h':=λ{a h'} ha hs b ob e=>by
   obtain ⟨_,_,hfree⟩:=ha
   refine (I.hok b ob e).stay (λc w' hc q=>(hs.2 c ?_).trans q) (λ_ q=>q) λ_ _ q=>q
   rintro rfl
   rcases hc with rfl | hc
   · rw [hfree] at e;cases e
   · rw [hfree] at hc;cases hc
 rcases hx with hk | hk
 · refine wpAny_storeName_local hk hn (λh' hn' hs=>?_) hcls
   obtain ⟨oL,_,_,hoL,_⟩:=id hn
   refine h _ ⟨I.ok,I.os,I.bare,⟨λb o e n hb hx=>?_,λb o e n hb hx=>?_,I.base.free,λb o e hx=>?_,I.base.tups,I.base.frzs,I.base.tbls⟩,⟨_,hn',λj y v' e1 e2 e3=>?_⟩,λy c e=>?_,I.free,I.freeC,λp hp=>?_,tracked ⟨oL,hoL,I.free⟩ hs,by simpa using I.len⟩ ⟨_,hs,.inl rfl⟩
   · exact (hs.2 b (Nat.ne_of_lt (Nat.lt_of_lt_of_le (Heap.lt_size e) I.ok.above))).trans (I.base.keep b o e n hb hx)
   · obtain ⟨sl,e1⟩:=I.base.slot b o e n hb hx
     exact ⟨sl,(hs.2 b (Nat.ne_of_lt (Nat.lt_of_lt_of_le (Heap.lt_size e) I.ok.above))).trans e1⟩
   · obtain ⟨o',e1⟩:=I.base.there b o e hx
     exact ⟨o',(hs.2 b (Nat.ne_of_lt (Nat.lt_of_lt_of_le (Heap.lt_size e) I.ok.above))).trans e1⟩
   · by_cases hj:j=i
     · subst hj
       rw [hi] at e1;cases e1
       rw [List.getElem?_set_self hiσ] at e2
       cases e2
       exact ⟨u,r,.inl ⟨hk,by simp⟩⟩
     · rw [List.getElem?_set_ne (Ne.symm hj)] at e2
       obtain ⟨u',r',q⟩:=hl j y v' e1 e2 e3
       refine ⟨u',r',?_⟩
       rcases q with ⟨k,e⟩ | ⟨k,c,e,z⟩
       · refine .inl ⟨k,?_⟩
         have:y≠x:=λe=>hj (nodup_ix hN e1 (e ▸ hi))
         simp [this,e]
       · exact .inr ⟨k,c,e,z.sameBut hs (cne y c e)⟩
   · obtain ⟨w',z⟩:=I.cell y c e
     exact ⟨w',z.sameBut hs (cne y c e)⟩
   · obtain ⟨e,n,ne,nf,d⟩:=I.pin p hp
     exact ⟨(hs.2 p.1 ne).trans e,n,ne,nf,d⟩
 · have hfn:X.fn x=true:=by
     rcases hf with z | z
     · exact z
     · rw [z] at hk;cases hk
   obtain ⟨c,hc⟩:=I.ok.has x (.inl hk)
   obtain ⟨w',z⟩:=I.cell x c hc
   refine wpAny_storeName_cell I.ok.kind hk hc z (λh' hc' hs=>?_)
   obtain ⟨oc,hoc,hocd⟩:=id z
   refine h { s with heap:=h' } ⟨I.ok,I.os,I.bare,⟨λb o e n hb hx=>?_,λb o e n hb hx=>?_,I.base.free,λb o e hx=>?_,I.base.tups,I.base.frzs,I.base.tbls⟩,⟨m,hn.sameBut hs (Ne.symm (cne x c hc)),λj y v' e1 e2 e3=>?_⟩,λy c' e=>?_,I.free,I.freeC,λp hp=>?_,tracked ⟨oc,hoc,I.freeC x c hc⟩ hs,by simpa using I.len⟩ ⟨c,hs,.inr hc⟩
   · exact (hs.2 b (Nat.ne_of_lt (Nat.lt_of_lt_of_le (Heap.lt_size e) (I.ok.cab x c hfn hc)))).trans (I.base.keep b o e n hb hx)
   · obtain ⟨sl,e1⟩:=I.base.slot b o e n hb hx
     exact ⟨sl,(hs.2 b (Nat.ne_of_lt (Nat.lt_of_lt_of_le (Heap.lt_size e) (I.ok.cab x c hfn hc)))).trans e1⟩
   · obtain ⟨o',e1⟩:=I.base.there b o e hx
     exact ⟨o',(hs.2 b (Nat.ne_of_lt (Nat.lt_of_lt_of_le (Heap.lt_size e) (I.ok.cab x c hfn hc)))).trans e1⟩
   · by_cases hj:j=i
     · subst hj
       rw [hi] at e1;cases e1
       rw [List.getElem?_set_self hiσ] at e2
       cases e2
       exact ⟨u,r,.inr ⟨.inl hk,c,hc,hc'⟩⟩
     · rw [List.getElem?_set_ne (Ne.symm hj)] at e2
       obtain ⟨u',r',q⟩:=hl j y v' e1 e2 e3
       refine ⟨u',r',?_⟩
       rcases q with q | ⟨k,c',e,z'⟩
       · exact .inl q
       · refine .inr ⟨k,c',e,z'.sameBut hs ?_⟩
         rintro rfl
         exact hj (nodup_ix hN e1 (I.ok.inj _ _ _ e hc ▸ hi))
   · by_cases hcc:c'=c
     · subst hcc;exact ⟨_,hc'⟩
     · obtain ⟨w2,z2⟩:=I.cell y c' e
       exact ⟨w2,z2.sameBut hs hcc⟩
   · obtain ⟨e,n,ne,nf,d⟩:=I.pin p hp
     refine ⟨(hs.2 p.1 ?_).trans e,n,ne,nf,d⟩
     intro q
     rw [q,hoc] at e
     have q':oc=p.2:=Option.some.inj e
     exact d w' (by rw [← q'];exact hocd)
theorem store_ok {M:Model} {A:Around} {E:Value->Shared->Prop} {i:Nat} {x:Str} {v:V} {u:Value} {Q:Unit->Shared->Prop} (I:Inv X pins σ H s) (hN:X.N.Nodup) (hi:X.N[i]?=some x) (hx:Loc X.env.scope x) (r:RelV v u)
   (h:∀ s',Inv X pins (σ.set i (some v)) H s'->Q () s') (hf:X.fn x=true\/X.env.scope.names.lookup x=some .local:=by first | exact .inl rfl | exact .inr rfl | assumption):wpAny M A (storeName X.env x u) Q E s :=
 store_ok2 I hN hi hx r (λs' I' _=>h s' I') hf
theorem Inv.call' {s':Shared} {ch:List Addr} (I:Inv X pins σ H s) (ho:s'.os=s.os) (u:Un (frs X.stack) ch H H' s.heap s'.heap) (hok:HOk X.prog X.w H' s'.heap) (hg:AllBare s'.gens)
   (hch:∀ b∈ch,(b∈X.ex\/X.s₀.heap.objs.size <= b)/\b≠X.env.locals/\(∀ x c,X.env.cells.lookup x=some c->c≠b)/\∀ p∈X.pn++pins,p.1≠b):Inv X pins σ H' s':=by
 obtain ⟨h',g',d',t',o'⟩:=s'
 have e:o'=s.os:=ho
 subst e
 exact I.call (g':=g') (t':=t') (d':=d') u hok hg hch
end

abbrev XK:=Value->Option Addr->Hp->Prop
abbrev St:=List (Option V)
abbrev VK:=V->Hp->Prop
abbrev TE:=St->Hp->VK->Prop
abbrev TT:=St->Hp->(Bool->Hp->Prop)->Prop
abbrev TA:=St->Hp->(List V->Hp->Prop)->Prop
structure Ends where
 nx:St->Hp->Prop
 rt:VK
 bk:St->Hp->Prop:=λ_ _=>False
 ct:St->Hp->Prop:=λ_ _=>False
abbrev TS:=Ends->St->Hp->Prop

def EP (X:Cx) (pins:List (Addr × Obj)) (σ:St) (Q:VK) (u:Value) (s':Shared):Prop:=∃ v H',Inv X pins σ H' s'/\RelV v u/\Q v H'
def TP (X:Cx) (pins:List (Addr × Obj)) (σ:St) (Q:Bool->Hp->Prop) (b:Bool) (s':Shared):Prop:=∃ H',Inv X pins σ H' s'/\Q b H'
def AP (X:Cx) (pins:List (Addr × Obj)) (σ:St) (Q:List V->Hp->Prop) (us:List Value) (s':Shared):Prop:=∃ vs H',Inv X pins σ H' s'/\Vals vs us/\Q vs H'
def SP (X:Cx) (pins:List (Addr × Obj)) (D:Ends) (f:Flow) (s':Shared):Prop :=
 match f with
 | .next=>∃ σ' H',Inv X pins σ' H' s'/\D.nx σ' H'
 | .brk=>∃ σ' H',Inv X pins σ' H' s'/\D.bk σ' H'
 | .cont=>∃ σ' H',Inv X pins σ' H' s'/\D.ct σ' H'
 | .ret u=>∃ v σ' H',Inv X pins σ' H' s'/\RelV v u/\D.rt v H'

def PE (X:Cx) (e:Expr) (t:TE):Prop :=
 ∀ (pins:List (Addr × Obj)) (s:Shared) (σ:St) (H:Hp) (Q:VK),Inv X pins σ H s->t σ H Q->wpAny (model X.prog X.w) X.A (eval e X.env) (EP X pins σ Q) X.xe s
def PT (X:Cx) (e:Expr) (t:TT):Prop :=
 ∀ (pins:List (Addr × Obj)) (s:Shared) (σ:St) (H:Hp) (Q:Bool->Hp->Prop),Inv X pins σ H s->t σ H Q->wpAny (model X.prog X.w) X.A (isTrue e X.env (eval e X.env)) (TP X pins σ Q) X.xe s
def PW (X:Cx) (e:Expr) (t:TT):Prop :=
 ∀ (whole:Sem Value) (pins:List (Addr × Obj)) (s:Shared) (σ:St) (H:Hp) (Q:Bool->Hp->Prop),Inv X pins σ H s->t σ H Q->wpAny (model X.prog X.w) X.A (isTrue e X.env whole) (TP X pins σ Q) X.xe s
theorem PW.pt {X:Cx} {e:Expr} {t:TT} (h:PW X e t):PT X e t:=h _
def PA (X:Cx) (es:List Expr) (t:TA):Prop :=
 ∀ (pos:Pos) (pins:List (Addr × Obj)) (s:Shared) (σ:St) (H:Hp) (Q:List V->Hp->Prop),Inv X pins σ H s->t σ H Q->wpAny (model X.prog X.w) X.A (spliced (backTo pos (starEach es X.env))) (AP X pins σ Q) X.xe s
def PS (X:Cx) (st:Stmt) (t:TS):Prop :=
 ∀ (pins:List (Addr × Obj)) (s:Shared) (σ:St) (H:Hp) (D:Ends),Inv X pins σ H s->t D σ H->wpAny (model X.prog X.w) X.A (exec st X.env) (SP X pins D) X.xe s
def PSs (X:Cx) (st:List Stmt) (t:TS):Prop :=
 ∀ (pins:List (Addr × Obj)) (s:Shared) (σ:St) (H:Hp) (D:Ends),Inv X pins σ H s->t D σ H->wpAny (model X.prog X.w) X.A (execs st X.env) (SP X pins D) X.xe s
theorem thn {α:Type} {t:Sem α} {Q Q':α->Shared->Prop} {M:Model} {A:Around} {E:Value->Shared->Prop} {s:Shared} (h:wpAny M A t Q E s) (hQ:∀ a s,Q a s->Q' a s):wpAny M A t Q' E s:=wpAny_mono h hQ λ_ _ x=>x
end L2

namespace L2
open PySem PySem.Spec PyProof.Rows
section
variable {X:Cx}

def tVar (i:Nat):TE:=λσ H Q=>∃ v,σ[i]?=some (some v)/\Q v H
def tC (v:V):TE:=λ_ H Q=>Q v H
theorem pe_var {i:Nat} {x:Str} {pos:Pos} (hN:X.N[i]?=some x) (hv:Vis X.env.scope x) (hd:(x == ("__debug__":Str))=false:=by decide) (hcd:(x == ("__classdict__":Str))=false:=by decide):PE X (.Name x pos) (tVar i):=by
 intro pins s σ H Q I h
 obtain ⟨v,e,h⟩:=h
 obtain ⟨m,hn,hl⟩:=I.loc
 obtain ⟨u,r,l⟩:=hl i x v hN e hv
 have fin:EP X pins σ Q u s:=⟨v,H,I,r,h⟩
 rcases l with ⟨hk,hm⟩ | ⟨hk,c,hc,hcell⟩
 · exact wpAny_Name (wpAny_loadName_local I.ok.kind hk hn hm fin) hd
 · rcases hk with hk | hk
   · exact wpAny_Name (wpAny_loadName_cell I.ok.kind hk hc hcell fin) hd
   · exact wpAny_Name (wpAny_loadName_free I.ok.kind hk hc hcell fin hcd) hd
theorem pe_int {i j pos}:PE X (.Constant (.int i) j pos) (tC (.int i)):=λ_ _ _ H _ I h=>wpAny_Constant_int ⟨.int i,H,I.tok _,⟨_,rfl⟩,h⟩
theorem pe_bl {b j pos}:PE X (.Constant (.bool b) j pos) (tC (.bl b)):=λ_ _ _ H _ I h=>Constant_bool ⟨.bl b,H,I,rfl,h⟩
theorem pe_non {j pos}:PE X (.Constant .none j pos) (tC .non):=λ_ _ _ H _ I h=>Constant_none ⟨.non,H,I,rfl,h⟩
theorem pe_str {x j pos}:PE X (.Constant (.str x) j pos) (tC (.str x)):=λ_ _ _ H _ I h=>Calls.Constant_str ⟨.str x,H,I.tok _,⟨_,rfl⟩,h⟩

def Gl (X:Cx) (x:Str):Prop:=X.env.kindOf x=some .globalImplicit
theorem ld_glob {E:Value->Shared->Prop} {pins:List (Addr × Obj)} {s:Shared} {σ:St} {H:Hp} {x:Str} {u:Value} {pos:Pos} {Q:Value->Shared->Prop} (I:Inv X pins σ H s) (hg:Gl X x) (hm:X.mg x=some u) (h:Q u s)
   (hd:(x == ("__debug__":Str))=false:=by decide):wpAny (model X.prog X.w) X.A (eval (.Name x pos) X.env) Q E s :=
 Calls.Name_function_global I.ok.kind hg (Calls.loadGlobal_global (by rw [I.ok.glob];exact I.mod.glob.keeps I.bk) hm h) hd
theorem ld_blt {E:Value->Shared->Prop} {pins:List (Addr × Obj)} {s:Shared} {σ:St} {H:Hp} {x:Str} {u:Value} {pos:Pos} {Q:Value->Shared->Prop} (I:Inv X pins σ H s) (hg:Gl X x) (hm:X.mg x=none) (hv:bootBuiltins x=some u) (h:Q u s)
   (hn:x≠"__name__":=by decide) (hd:(x == ("__debug__":Str))=false:=by decide):wpAny (model X.prog X.w) X.A (eval (.Name x pos) X.env) Q E s:=by
 obtain ⟨mb,h1,h2⟩:=I.mod.blt
 exact Calls.Name_function_global I.ok.kind hg (Calls.loadGlobal_builtin (by rw [I.ok.glob];exact I.mod.glob.keeps I.bk) hm (by rw [I.ok.blt];exact h1.keeps I.bk) ((h2 x hn).trans hv) h) hd
theorem pe_glob {x:Str} {v:V} {u:Value} {pos:Pos} (hg:Gl X x) (hm:X.mg x=some u) (r:RelV v u) (hd:(x == ("__debug__":Str))=false:=by decide):PE X (.Name x pos) (tC v) :=
 λ_ _ _ H _ I h=>ld_glob I hg hm ⟨v,H,I,r,h⟩ hd
theorem pe_bltn {x:Str} {v:V} {u:Value} {pos:Pos} (hg:Gl X x) (hm:X.mg x=none) (hv:bootBuiltins x=some u) (r:RelV v u) (hn:x≠"__name__":=by decide) (hd:(x == ("__debug__":Str))=false:=by decide):PE X (.Name x pos) (tC v) :=
 λ_ _ _ H _ I h=>ld_blt I hg hm hv ⟨v,H,I,r,h⟩ hn hd

def t2I (ta tb:TE) (k:Int->Int->Hp->Prop):St->Hp->Prop:=λσ H=>ta σ H λx H1=>tb σ H1 λy H2=>∃ i j,x=.int i/\y=.int j/\k i j H2
def tAdd (ta tb:TE):TE:=λσ H Q=>t2I ta tb (λi j H2=>Q (.int (i+j)) H2) σ H
def tSub (ta tb:TE):TE:=λσ H Q=>t2I ta tb (λi j H2=>Q (.int (i - j)) H2) σ H
def tMul (ta tb:TE):TE:=λσ H Q=>t2I ta tb (λi j H2=>(-(2 ^ 64) < i/\i < 2 ^ 64)/\Q (.int (i * j)) H2) σ H
variable {a b:Expr} {ta tb:TE} {pos:Pos}
def PC (X:Cx) (op:CmpOp) (a b:Expr) (t:TE):Prop :=
 ∀ (pins:List (Addr × Obj)) (s:Shared) (σ:St) (H:Hp) (Q:VK),Inv X pins σ H s->t σ H Q ->
   wpAny (model X.prog X.w) X.A (eval a X.env) (λv s₁=>wpAny (model X.prog X.w) X.A (eval b X.env) (λu s₂=>wpAny (model X.prog X.w) X.A (compareOp op v u) (EP X pins σ Q) X.xe s₂) X.xe s₁) X.xe s
theorem nobehind (b:Expr) {op:CmpOp} (h:op≠.In) (h2:op≠.NotIn):behindInMarks op b=false:=by
 have e1:(op == CmpOp.In)=false:=by cases op<;>first | rfl | exact absurd rfl h
 have e2:(op == CmpOp.NotIn)=false:=by cases op<;>first | rfl | exact absurd rfl h2
 cases b<;>simp [behindInMarks,e1,e2]
def tCmp (p:Int->Int->Bool) (ta tb:TE):TE:=λσ H Q=>t2I ta tb (λi j H2=>Q (.bl (p i j)) H2) σ H
abbrev tLt:TE->TE->TE:=tCmp λi j=>decide (i < j)
abbrev tLe:TE->TE->TE:=tCmp λi j=>decide (i <= j)
abbrev tGt:TE->TE->TE:=tCmp λi j=>decide (j < i)
abbrev tGe:TE->TE->TE:=tCmp λi j=>decide (j <= i)
abbrev tEqI:TE->TE->TE:=tCmp λi j=>decide (i=j)
abbrev tNeI:TE->TE->TE:=tCmp λi j=>!decide (i=j)
def tIsN (ta:TE):TE:=λσ H Q=>ta σ H λx H1=>Q (.bl (decide (x=.non))) H1
def tNotN (ta:TE):TE:=λσ H Q=>ta σ H λx H1=>Q (.bl (!decide (x=.non))) H1
def tB (t:TE):TT:=λσ H Q=>t σ H λx H1=>∃ c,x=.bl c/\Q c H1
theorem pt_cmp {op:CmpOp} {t:TE} (h:PC X op a b t) (h1:behindInMarks op b=false:=by first | exact nobehind _ (by decide) (by decide) | rfl):PT X (.Compare a [op] [b] pos) (tB t):=by
 intro pins s σ H Q I hw
 refine wpAny_isTrue_Compare1 (thn (h pins s σ H _ I hw) λv s1 h1=>thn h1 λu s2 h2=>thn h2 λc s3 ⟨x,H1,I1,r1,q1⟩=>?_) h1
 obtain ⟨d,rfl,q⟩:=q1
 cases r1
 exact wpAny_truthy_bool ⟨H1,I1,q⟩
theorem pt_val {e:Expr} {t:TE} (h:PE X e t) (he:∀ whole,isTrue e X.env whole=(do let v ← whole;standAt e.pos;holding [v] (truthy v)):=by intro _;rfl):PT X e (tB t):=by
 intro pins s σ H Q I hw
 refine isTrue_plain (thn (h pins s σ H _ I hw) λv s1 ⟨x,H1,I1,r1,q1⟩=>?_) (he _)
 obtain ⟨d,rfl,q⟩:=q1
 cases r1
 exact wpAny_truthy_bool ⟨H1,I1,q⟩

variable {tA tB':TT} {rest:List Expr}
def tAnd (t u:TT):TT:=λσ H Q=>t σ H λc H1=>if c=true then u σ H1 Q else Q false H1
def tOr (t u:TT):TT:=λσ H Q=>t σ H λc H1=>if c=true then Q true H1 else u σ H1 Q
def tNot (t:TT):TT:=λσ H Q=>t σ H λc H1=>Q (!c) H1
theorem pw_and1 (ha:PT X a tA):PW X (.BoolOp .And [a] pos) tA:=by
 intro wh pins s σ H Q I h
 refine isTrue_and (thn (ha pins s σ H Q I h) λc s1 e=>?_)
 cases c with
 | true=>exact isTrue_and_nil e
 | false=>exact e
theorem pw_or1 (ha:PT X a tA):PW X (.BoolOp .Or [a] pos) tA:=by
 intro wh pins s σ H Q I h
 refine isTrue_or (thn (ha pins s σ H Q I h) λc s1 e=>?_)
 cases c with
 | false=>exact isTrue_or_nil e
 | true=>exact e
theorem pw_and (ha:PT X a tA) (hb:PW X (.BoolOp .And (b :: rest) pos) tB'):PW X (.BoolOp .And (a :: b :: rest) pos) (tAnd tA tB'):=by
 intro wh pins s σ H Q I h
 refine isTrue_and (thn (ha pins s σ H _ I h) λc s1 ⟨H1,I1,q1⟩=>?_)
 cases c with
 | true=>exact hb wh pins s1 σ H1 Q I1 q1
 | false=>exact ⟨H1,I1,q1⟩
theorem pw_or (ha:PT X a tA) (hb:PW X (.BoolOp .Or (b :: rest) pos) tB'):PW X (.BoolOp .Or (a :: b :: rest) pos) (tOr tA tB'):=by
 intro wh pins s σ H Q I h
 refine isTrue_or (thn (ha pins s σ H _ I h) λc s1 ⟨H1,I1,q1⟩=>?_)
 cases c with
 | true=>exact ⟨H1,I1,q1⟩
 | false=>exact hb wh pins s1 σ H1 Q I1 q1
theorem pt_not (ha:PT X a tA):PT X (.UnaryOp .Not a pos) (tNot tA):=by
 intro pins s σ H Q I h
 exact isTrue_not (ha pins s σ H (λc H1=>Q (!c) H1) I h)
def tAndV (ta tb:TE):TE:=λσ H Q=>ta σ H λx H1=>∃ c,x=.bl c/\if c=true then tb σ H1 Q else Q (.bl false) H1
def tOrV (ta tb:TE):TE:=λσ H Q=>ta σ H λx H1=>∃ c,x=.bl c/\if c=true then Q (.bl true) H1 else tb σ H1 Q
def tNotV (ta:TE):TE:=λσ H Q=>ta σ H λx H1=>∃ c,x=.bl c/\Q (.bl (!c)) H1
theorem pe_one {op} {t:TE} (h:PE X a t):PE X (.BoolOp op [a] pos) t:=λpins s σ H Q I hw=>BoolOp_one (h pins s σ H Q I hw)
theorem pe_and (ha:PE X a ta) (hb:PE X (.BoolOp .And (b :: rest) pos) tb):PE X (.BoolOp .And (a :: b :: rest) pos) (tAndV ta tb):=by
 intro pins s σ H Q I h
 refine BoolOp_and (thn (ha pins s σ H _ I h) λv s1 ⟨x,H1,I1,r1,q1⟩=>?_)
 obtain ⟨c,rfl,q1⟩:=q1
 cases r1
 refine wpAny_truthy_bool ?_
 cases c with
 | true=>exact hb pins s1 σ H1 Q I1 q1
 | false=>exact ⟨.bl false,H1,I1,rfl,q1⟩
theorem pe_not (ha:PE X a ta):PE X (.UnaryOp .Not a pos) (tNotV ta):=by
 intro pins s σ H Q I h
 refine UnaryOp_ (thn (ha pins s σ H _ I h) λv s1 ⟨x,H1,I1,r1,q1⟩=>?_)
 obtain ⟨c,rfl,q1⟩:=q1
 cases r1
 exact not_of (wpAny_truthy_bool ⟨.bl (!c),H1,I1,rfl,q1⟩)
def tIf (t:TT) (ta tb:TE):TE:=λσ H Q=>t σ H λc H1=>if c=true then ta σ H1 Q else tb σ H1 Q
theorem pe_ifExp {c:Expr} (hc:PT X c tA) (ha:PE X a ta) (hb:PE X b tb):PE X (.IfExp c a b pos) (tIf tA ta tb):=by
 intro pins s σ H Q I h
 refine wpAny_IfExp (thn (hc pins s σ H _ I h) λd s1 ⟨H1,I1,q1⟩=>?_)
 cases d with
 | true=>exact ha pins s1 σ H1 Q I1 q1
 | false=>exact hb pins s1 σ H1 Q I1 q1
end
end L2

namespace L2
open PySem PySem.Spec PyProof.Rows

def SqL (K:PySem.W.Frag) (H:Hp) (a:Addr) (xs:List V):Prop :=
 Rd H a (.lst xs) \/
   ∃ (o:Obj) (its:Array Value) (n:Nat),K.lookup a=some o/\o.cls=.type "list"/\o.dict=none/\o.data=.seq its n/\its.size <= sizeLine/\Vals xs its.toList
def SqT (K:PySem.W.Frag) (H:Hp) (a:Addr) (xs:List V):Prop :=
 Rd H a (.tup xs) \/
   ∃ (o:Obj) (its:Array Value) (n:Nat),K.lookup a=some o/\o.cls=.type "tuple"/\o.data=.seq its n/\its.size <= sizeLine/\Vals xs its.toList
def absV:Value->Option V
 | .none=>some .non
 | .bool b=>some (.bl b)
 | .int i _=>some (.int i)
 | .str x _=>some (.str x)
 | .bytes b _=>some (.byt b)
 | .float b _=>some (.flt b)
 | .ref a=>some (.ref a)
 | .type n=>some (.ty n)
 | _=>none
theorem RelV.abs {x:V} {u:Value} (r:RelV x u):absV u=some x:=by
 cases x with
 | non=>cases r;rfl
 | bl _=>cases r;rfl
 | int _=>obtain ⟨t,rfl⟩:=r;rfl
 | str _=>obtain ⟨t,rfl⟩:=r;rfl
 | byt _=>obtain ⟨t,rfl⟩:=r;rfl
 | flt _=>obtain ⟨t,rfl⟩:=r;rfl
 | ref _=>cases r;rfl
 | ty _=>cases r;rfl
theorem RelV.inj {x y:V} {u:Value} (r:RelV x u) (q:RelV y u):x=y:=Option.some.inj (r.abs.symm.trans q.abs)
theorem Vals.inj:∀ {xs ys:List V} {us:List Value},Vals xs us->Vals ys us->xs=ys
 | _,_,_,.nil,.nil=>rfl
 | _,_,_,.cons r t,.cons r' t'=>by rw [r.inj r',Vals.inj t t']
section
variable {X:Cx} {pins:List (Addr × Obj)} {σ:St} {H:Hp} {s:Shared} {a:Addr} {xs ys:List V}
theorem SqL.of {K:PySem.W.Frag} (h:H a=some (.lst xs)):SqL K H a xs:=.inl (.inl h)
theorem SqT.of {K:PySem.W.Frag} (h:H a=some (.tup xs)):SqT K H a xs:=.inl (.inl h)
theorem Inv.list (I:Inv X pins σ H s) (h:SqL X.K H a xs):∃ its:List Value,Vals xs its/\PlainL s.heap a its.toArray/\xs.length <= sizeLine:=by
 rcases h with h | ⟨o,its,n,hk,hc,hd,hs,hz,r⟩
 · obtain ⟨z,its,n,r,e⟩:=h.ok I.hok
   exact ⟨its,r,⟨_,n,e,rfl,rfl,rfl⟩,z⟩
 · refine ⟨its.toList,r,⟨o,n,I.kIn a o hk,hc,hd,by simpa using hs⟩,?_⟩
   have e:=r.length
   simp only [Array.length_toList] at e
   omega
theorem Inv.tuple (I:Inv X pins σ H s) (h:SqT X.K H a xs):∃ its:List Value,Vals xs its/\IsTup s.heap a its.toArray/\xs.length <= sizeLine:=by
 rcases h with h | ⟨o,its,n,hk,hc,hs,hz,r⟩
 · obtain ⟨z,its,r,p⟩:=h.ok I.hok
   exact ⟨its,r,p,z⟩
 · refine ⟨its.toList,r,⟨o,I.kIn a o hk,hc,n,by simpa using hs⟩,?_⟩
   have e:=r.length
   simp only [Array.length_toList] at e
   omega
theorem Inv.list_inj (I:Inv X pins σ H s) (h:SqL X.K H a xs) (h':SqL X.K H a ys):xs=ys:=by
 obtain ⟨its,r,⟨o,n,e,_,_,d⟩,_⟩:=I.list h
 obtain ⟨its',r',⟨o',n',e',_,_,d'⟩,_⟩:=I.list h'
 rw [e] at e';cases e'
 rw [d] at d'
 injection d' with d1 _
 have:its=its':=by simpa using congrArg Array.toList d1
 subst this
 exact r.inj r'
theorem Inv.tuple_inj (I:Inv X pins σ H s) (h:SqT X.K H a xs) (h':SqT X.K H a ys):xs=ys:=by
 obtain ⟨its,r,⟨o,e,_,n,d⟩,_⟩:=I.tuple h
 obtain ⟨its',r',⟨o',e',_,n',d'⟩,_⟩:=I.tuple h'
 rw [e] at e';cases e'
 rw [d] at d'
 injection d' with d1 _
 have:its=its':=by simpa using congrArg Array.toList d1
 subst this
 exact r.inj r'
end

abbrev Cx.wish (X:Cx) (E:Value->Shared->Prop):Cx:={ X with xe:=E }
abbrev Cx.nox (X:Cx):Cx:=X.wish λ_ _=>False
theorem Cx.Ok.wish {X:Cx} (ok:X.Ok) (E:Value->Shared->Prop):(X.wish E).Ok :=
 ⟨ok.mod,ok.kind,ok.glob,ok.blt,ok.above,ok.inj,ok.has,ok.cab,ok.hd,ok.frames,ok.stk,ok.exf,ok.bs,ok.bsz,ok.noex,ok.exfs,ok.funs,ok.frf⟩
theorem Cx.Ok.unwish {X:Cx} {E:Value->Shared->Prop} (ok:(X.wish E).Ok):X.Ok :=
 ⟨ok.mod,ok.kind,ok.glob,ok.blt,ok.above,ok.inj,ok.has,ok.cab,ok.hd,ok.frames,ok.stk,ok.exf,ok.bs,ok.bsz,ok.noex,ok.exfs,ok.funs,ok.frf⟩
section
variable {X:Cx} {pins:List (Addr × Obj)} {σ:St} {H:Hp} {s:Shared} {E:Value->Shared->Prop}
theorem Inv.wish (I:Inv X pins σ H s) (E:Value->Shared->Prop):Inv (X.wish E) pins σ H s:=⟨I.ok.wish E,I.os,I.bare,I.base,I.loc,I.cell,I.free,I.freeC,I.pin,I.hok,I.len⟩
theorem Inv.unwish (I:Inv (X.wish E) pins σ H s):Inv X pins σ H s:=⟨I.ok.unwish,I.os,I.bare,I.base,I.loc,I.cell,I.free,I.freeC,I.pin,I.hok,I.len⟩
theorem SP.unwish {D:Ends} {f:Flow} {s':Shared} (h:SP (X.wish E) pins D f s'):SP X pins D f s':=by
 cases f with
 | next=>obtain ⟨σ',H',I,q⟩:=h;exact ⟨σ',H',I.unwish,q⟩
 | brk=>obtain ⟨σ',H',I,q⟩:=h;exact ⟨σ',H',I.unwish,q⟩
 | cont=>obtain ⟨σ',H',I,q⟩:=h;exact ⟨σ',H',I.unwish,q⟩
 | ret u=>obtain ⟨v,σ',H',I,r,q⟩:=h;exact ⟨v,σ',H',I.unwish,r,q⟩
theorem PE.nox {e:Expr} {t:TE} (h:PE X.nox e t):PE X e t:=λpins s σ H Q I hw =>
 wpAny_mono (h pins s σ H Q (I.wish _) hw) (λ_ _ ⟨v,H',I',r,q⟩=>⟨v,H',I'.unwish,r,q⟩) λ_ _ z=>False.elim z
theorem PT.nox {e:Expr} {t:TT} (h:PT X.nox e t):PT X e t:=λpins s σ H Q I hw =>
 wpAny_mono (h pins s σ H Q (I.wish _) hw) (λ_ _ ⟨H',I',q⟩=>⟨H',I'.unwish,q⟩) λ_ _ z=>False.elim z
theorem PSs.nox {st:List Stmt} {t:TS} (h:PSs X.nox st t):PSs X st t:=λpins s σ H D I hw =>
 wpAny_mono (h pins s σ H D (I.wish _) hw) (λ_ _ q=>q.unwish) λ_ _ z=>False.elim z
end

section
variable {X:Cx} {st:Stmt} {rest:List Stmt} {t u:TS} {e:Expr} {te:TE} {pos:Pos}
def tNext:TS:=λD σ H=>D.nx σ H
def tSeq (t u:TS):TS:=λD σ H=>t { D with nx:=u D } σ H
theorem pss_nil:PSs X [] tNext:=λ_ _ σ H _ I h=>wpAny_execs_nil ⟨σ,H,I,h⟩
theorem pss_cons (h1:PS X st t) (h2:PSs X rest u):PSs X (st :: rest) (tSeq t u):=by
 intro pins s σ H D I h
 refine wpAny_execs_cons (thn (h1 pins s σ H { D with nx:=u D } I h) λf s1 q=>?_)
 cases f with
 | next =>
   obtain ⟨σ',H',I',q⟩:=q
   exact h2 pins s1 σ' H' D I' q
 | ret v=>exact q
 | brk=>exact q
 | cont=>exact q
theorem pss_one (h1:PS X st t):PSs X [st] t:=by
 intro pins s σ H D I h
 refine wpAny_execs_cons (thn (h1 pins s σ H D I h) λf s1 q=>?_)
 cases f with
 | next=>exact wpAny_execs_nil q
 | ret v=>exact q
 | brk=>exact q
 | cont=>exact q
def tBreak:TS:=λD σ H=>D.bk σ H
def tCont:TS:=λD σ H=>D.ct σ H
theorem Inv.quiet {pins:List (Addr × Obj)} {σ:St} {H:Hp} {s:Shared} (I:Inv X pins σ H s):interactive X.env=false:=by simp [interactive,I.ok.kind]
def tDrop (te:TE):TS:=λD σ H=>te σ H λ_ H1=>D.nx σ H1
theorem ps_expr (he:PE X e te) (hs:swapsWith e none pos.line X.env=pure false:=by rfl):PS X (.Expr e pos) (tDrop te):=by
 intro pins s σ H D I h
 exact wpAny_Expr_any (thn (he pins s σ H _ I h) λv s1 ⟨x,H1,I1,r1,q1⟩=>⟨σ,H1,I1,q1⟩) I.quiet hs
def tRet (te:TE):TS:=λD σ H=>te σ H D.rt
theorem ps_ret (he:PE X e te):PS X (.Return (some e) pos) (tRet te):=by
 intro pins s σ H D I h
 exact wpAny_Return_some (thn (he pins s σ H _ I h) λv s1 ⟨x,H1,I1,r1,q1⟩=>⟨x,σ,H1,I1,r1,q1⟩)
def tRetN:TS:=λD _ H=>D.rt .non H
theorem ps_retN:PS X (.Return none pos) tRetN:=λ_ _ σ H _ I h=>wpAny_Return_none ⟨.non,σ,H,I,rfl,h⟩
def tIfS (c:TT) (t u:TS):TS:=λD σ H=>c σ H λb H1=>if b=true then t D σ H1 else u D σ H1
theorem ps_if {c:Expr} {a b:List Stmt} {tc:TT} (hc:PT X c tc) (ha:PSs X a t) (hb:PSs X b u):PS X (.If c a b pos) (tIfS tc t u):=by
 intro pins s σ H D I h
 refine wpAny_If (thn (hc pins s σ H _ I h) λd s1 ⟨H1,I1,q1⟩=>?_)
 cases d with
 | true=>exact ha pins s1 σ H1 D I1 q1
 | false=>exact hb pins s1 σ H1 D I1 q1
def tNever:TS:=λ_ _ _=>False
end

abbrev TG:=V->St->Hp->(St->Hp->Prop)->Prop
abbrev TGs:=List V->St->Hp->(St->Hp->Prop)->Prop
def PG (X:Cx) (target:Expr) (t:TG):Prop :=
 ∀ (pins:List (Addr × Obj)) (s:Shared) (σ:St) (H:Hp) (v:V) (u:Value) (Q:St->Hp->Prop),Inv X pins σ H s->RelV v u->t v σ H Q ->
   wpAny (model X.prog X.w) X.A (assign target X.env u) (λ_ s'=>∃ σ' H',Inv X pins σ' H' s'/\Q σ' H') X.xe s
def PGs (X:Cx) (ts:List Expr) (t:TGs):Prop :=
 ∀ (pins:List (Addr × Obj)) (s:Shared) (σ:St) (H:Hp) (vs:List V) (us:List Value) (Q:St->Hp->Prop),Inv X pins σ H s->Vals vs us->t vs σ H Q ->
   wpAny (model X.prog X.w) X.A (assignInOrder ((assignEach ts X.env).map (·.2)) us) (λ_ s'=>∃ σ' H',Inv X pins σ' H' s'/\Q σ' H') X.xe s
abbrev TSet:=V->V->V->Hp->(Hp->Prop)->Prop
def PSet (X:Cx) (t:TSet):Prop :=
 ∀ (pins:List (Addr × Obj)) (s:Shared) (σ:St) (H:Hp) (o i v:V) (ov iv u:Value) (Q:Hp->Prop),Inv X pins σ H s->RelV o ov->RelV i iv->RelV v u->t o i v H Q ->
   wpAny (model X.prog X.w) X.A (setItem ov iv u) (λ_ s'=>∃ H',Inv X pins σ H' s'/\Q H') X.xe s
abbrev TIp:=V->V->Hp->VK->Prop
def PIp (X:Cx) (op:Operator) (t:TIp):Prop :=
 ∀ (pins:List (Addr × Obj)) (s:Shared) (σ:St) (H:Hp) (x y:V) (v u:Value) (Q:VK),Inv X pins σ H s->RelV x v->RelV y u->t x y H Q ->
   wpAny (model X.prog X.w) X.A (inplaceOp op v u) (EP X pins σ Q) X.xe s
section
variable {X:Cx} {pos:Pos}
def gName (i:Nat):TG:=λv σ H Q=>Q (σ.set i (some v)) H
theorem pg_name {i:Nat} {x:Str} (hN:X.N.Nodup) (hi:X.N[i]?=some x) (hx:Loc X.env.scope x) (hf:X.fn x=true\/X.env.scope.names.lookup x=some .local:=by first | exact .inl rfl | exact .inr rfl | assumption):PG X (.Name x pos) (gName i):=by
 intro pins s σ H v u Q I r h
 exact wpAny_assign_Name (store_ok I hN hi hx r (λs' I'=>⟨_,H,I',h⟩) hf)
def gNil:TGs:=λvs σ H Q=>vs=[]/\Q σ H
def gCons (t:TG) (u:TGs):TGs:=λvs σ H Q=>∃ v r,vs=v :: r/\t v σ H λσ' H'=>u r σ' H' Q
theorem pgs_nil:PGs X [] gNil:=by
 intro pins s σ H vs us Q I r h
 obtain ⟨e,h⟩:=h
 subst e
 cases r
 exact assignInOrder_nil ⟨σ,H,I,h⟩
theorem pgs_cons {e:Expr} {es:List Expr} {t:TG} {u:TGs} (h1:PG X e t) (h2:PGs X es u)
   (hs:(assignEach (e :: es) X.env).map (·.2)=assign e X.env :: (assignEach es X.env).map (·.2):=by rfl):PGs X (e :: es) (gCons t u):=by
 intro pins s σ H vs us Q I r h
 obtain ⟨v,vr,e1,h⟩:=h
 subst e1
 cases r with
 | cons r rr =>
   rw [hs]
   refine assignInOrder_cons (thn (h1 pins s σ H _ _ _ I r h) λ_ s1 ⟨σ1,H1,I1,q1⟩=>?_)
   exact h2 pins s1 σ1 H1 _ _ Q I1 rr q1
def gTup (K:PySem.W.Frag) (n:Nat) (t:TGs):TG:=λv σ H Q=>∃ a xs,v=.ref a/\SqT K H a xs/\xs.length=n/\t xs σ H Q
theorem pg_tup {es:List Expr} {k:Nat} {t:TGs} {n:Nat} (hc:X.calm=true) (h:PGs X es t)
   (hn:(assignEach es X.env).length=n:=by rfl) (hst:(assignEach es X.env).findIdx? (·.1)=none:=by rfl):PG X (.Tuple es k pos) (gTup X.K n t):=by
 intro pins s σ H v u Q I r hw
 obtain ⟨a,xs,e1,hq,hl,hw⟩:=hw
 subst e1
 cases r
 obtain ⟨its,rv,ht,hz⟩:=I.tuple hq
 refine assign_Tuple_tuple (I.ok.hd hc) ht (by simp [hn,← hl,rv.length]) hst λh' hx=>?_
 have I1:Inv X pins σ H { s with heap:=h' }:=I.kept (t':=s.toks) λb o e=>hx b o (Nat.ne_of_lt (Heap.lt_size e)) e
 exact h pins _ σ H xs _ Q I1 (by simpa using rv) hw
def gSub (to ti:TE) (t:TSet):TG:=λv σ H Q=>to σ H λo H1=>ti σ H1 λi H2=>t o i v H2 λH3=>Q σ H3
def tAsg (te:TE) (g:TG):TS:=λD σ H=>te σ H λx H1=>g x σ H1 D.nx
theorem ps_set {i:Nat} {x:Str} {e:Expr} {te:TE} {pos':Pos} (hN:X.N.Nodup) (hi:X.N[i]?=some x) (hx:Loc X.env.scope x) (he:PE X e te) (hs:swapsWith e (some (.Name x pos')) pos.line X.env=pure false:=by rfl) (hf:X.fn x=true\/X.env.scope.names.lookup x=some .local:=by first | exact .inl rfl | exact .inr rfl | assumption) :
   PS X (.Assign [.Name x pos'] e pos) (tAsg te (gName i)):=by
 intro pins s σ H D I h
 refine wpAny_Assign_Name (thn (he pins s σ H _ I h) λv s1 ⟨y,H1,I1,r1,q1⟩=>?_) hs
 exact store_ok I1 hN hi hx r1 (λs2 I2=>⟨_,H1,I2,q1⟩) hf
def tPar (i j:Nat) (ta:TA):TS:=λD σ H=>ta σ H λvs H1=>∃ v w,vs=[v,w]/\D.nx ((σ.set i (some v)).set j (some w)) H1
def tAug (i:Nat) (te:TE) (ti:TIp):TS:=λD σ H=>∃ x,σ[i]?=some (some x)/\te σ H λy H1=>ti x y H1 λz H2=>D.nx (σ.set i (some z)) H2
def tAugS (to ti te:TE) (tget:V->V->Hp->VK->Prop) (tip:TIp) (tset:TSet):TS:=λD σ H=>to σ H λo H1=>ti σ H1 λi H2=>tget o i H2 λx H3=>te σ H3 λy H4=>tip x y H4 λz H5=>tset o i z H5 λH6=>D.nx σ H6
def PGet (X:Cx) (t:V->V->Hp->VK->Prop):Prop :=
 ∀ (pins:List (Addr × Obj)) (s:Shared) (σ:St) (H:Hp) (o i:V) (ov iv:Value) (Q:VK),Inv X pins σ H s->RelV o ov->RelV i iv->t o i H Q ->
   wpAny (model X.prog X.w) X.A (getItem ov iv) (EP X pins σ Q) X.xe s
def ipI (f:Int->Int->Int):TIp:=λx y H Q=>∃ i j,x=.int i/\y=.int j/\Q (.int (f i j)) H
end

section
variable {X:Cx} {pos:Pos}
def tWhile (c:TT) (tb:TS):TS:=λD σ H=>∃ W:Nat->St->Hp->Prop,(∃ m,W m σ H)/\∀ m σ H,W m σ H ->
 c σ H λb H1=>if b=true then ∃ N:St->Hp->Prop,(∀ σ' H',N σ' H'->∃ m',m' < m/\W m' σ' H')/\tb { D with nx:=N,ct:=N,bk:=D.nx } σ H1 else D.nx σ H1
end

structure It where
 go:Nat->Hp->Prop
 yld:Nat->Hp->V->Hp->Prop
 stop:Nat->Hp->Prop
def FpOk (X:Cx) (pins:List (Addr × Obj)) (H:Hp) (b:Addr):Prop :=
 H b=none/\b≠X.env.locals/\b ∉ X.fs/\(b∈X.ex\/X.s₀.heap.objs.size <= b)/\(∀ x c,X.env.cells.lookup x=some c->c≠b)/\∀ p∈X.pn++pins,p.1≠b
theorem Inv.fpOk {X:Cx} {pins:List (Addr × Obj)} {σ:St} {H H':Hp} {s:Shared} {b:Addr} (I:Inv X pins σ H s) (hb:s.heap.objs.size <= b) (hn:H' b=none):FpOk X pins H' b:=by
 refine ⟨hn,Nat.ne_of_gt (Nat.lt_of_lt_of_le I.lt hb),I.nofs hb,.inr (Nat.le_trans I.sz hb),λx c e z=>?_,λp hp z=>?_⟩
 · obtain ⟨v,q⟩:=I.cell x c e
   exact absurd (Nat.lt_of_lt_of_le q.lt (by rw [z];exact hb)) (Nat.lt_irrefl _)
 · exact absurd (Nat.lt_of_lt_of_le (Heap.lt_size (I.pin p hp).1) (by rw [z];exact hb)) (Nat.lt_irrefl _)
structure Turn (P:Program) (w:World) (K:PySem.W.Frag) (tg:Expr) (J:It) (fp:List Addr) (it:Addr) (tn:Nat->Heap->Prop):Prop where
 mem:it∈fp
 obj:∀ i h,tn i h->∀ b∈fp,∃ o,h.get? b=some o/\∀ v,o.data≠.cell v
 keep:∀ i h h',tn i h->(∀ b∈fp,∀ o,h.get? b=some o->h'.get? b=some o)->tn i h'
 item:∀ (X:Cx),X.prog=P->X.w=w->X.K=K->X.calm=true->∀ (i:Nat) (pins:List (Addr × Obj)) (s:Shared) (σ:St) (H:Hp) (E:Value->Shared->Prop),Inv X pins σ H s->(∀ b∈fp,FpOk X pins H b)->tn i s.heap->J.go i H ->
   wpAny (model P w) X.A (pyNext (.ref it)) (λr s1=>∃ u,r=some u /\
     wpAny (model P w) X.A (letOwnedTupleGo tg (.ref it) u) (λ_ s2=>∃ x H',Inv X pins σ H' s2/\RelV x u/\J.yld i H x H'/\tn (i+1) s2.heap/\∀ b∈fp,H' b=none) E s1) E s
 done:∀ (X:Cx),X.prog=P->X.w=w->X.K=K->X.calm=true->∀ (i:Nat) (pins:List (Addr × Obj)) (s:Shared) (σ:St) (H:Hp) (E:Value->Shared->Prop),Inv X pins σ H s->(∀ b∈fp,FpOk X pins H b)->tn i s.heap->J.stop i H ->
   wpAny (model P w) X.A (pyNext (.ref it)) (λr s1=>r=none/\Inv X pins σ H s1) E s
 self:∀ (A:Around) (i:Nat) (s:Shared) (Q:Value->Shared->Prop) (E:Value->Shared->Prop),tn i s.heap->Q (.ref it) s->wpAny (model P w) A (pyIter (.ref it)) Q E s
abbrev TI:=St->Hp->(It->Hp->Prop)->Prop
def PIE (X:Cx) (pins:List (Addr × Obj)) (σ:St) (tg:Expr) (R:It->Hp->Prop) (itv:Value) (s2:Shared):Prop :=
 ∃ (it:Addr) (fp:List Addr) (tn:Nat->Heap->Prop) (J:It) (H':Hp),itv=.ref it/\Inv X pins σ H' s2/\Turn X.prog X.w X.K tg J fp it tn/\tn 0 s2.heap/\(∀ b∈fp,FpOk X pins H' b)/\R J H'
def PI (X:Cx) (tg iter:Expr) (wi:TI):Prop :=
 ∀ (pins:List (Addr × Obj)) (s:Shared) (σ:St) (H:Hp) (R:It->Hp->Prop),Inv X pins σ H s->wi σ H R ->
   wpAny (model X.prog X.w) X.A (eval iter X.env) (λv s1=>wpAny (model X.prog X.w) X.A (pyIter v) (PIE X pins σ tg R) X.xe s1) X.xe s

theorem go_of {M:Model} {A:Around} {E:Value->Shared->Prop} {s:Shared} {tg:Expr} {it:Addr} {u:Value} {o:Obj} {n:String} {vs:Array Value} {Q:Unit->Shared->Prop} (ho:s.heap.get? it=some o) (hc:o.cls=.type n) (hd:o.data=.fields vs)
   (hn:["enumerate","zip","dict_itemiterator","dict_reverseitemiterator","odict_iterator","itertools.zip_longest","itertools.pairwise"].contains n=false) (hQ:Q () s):wpAny M A (letOwnedTupleGo tg (.ref it) u) Q E s:=by
 unfold letOwnedTupleGo
 cases tg<;>first
   | exact wpAny_pure hQ
   | (cases u<;>first
       | exact wpAny_pure hQ
       | (refine wpAny_bind (wpAny_load ho ?_)
          rw [hc,hd]
          show wpAny M A (if (["enumerate","zip","dict_itemiterator","dict_reverseitemiterator","odict_iterator","itertools.zip_longest","itertools.pairwise"].contains n && vs[0]? == some (rawInt _))=true then _ else _) Q E s
          rw [if_neg (by intro h;rw [hn,Bool.false_and] at h;cases h)]
          exact wpAny_pure hQ))

def Itl (K:PySem.W.Frag) (a:Addr):It :=
 ⟨λi H=>∃ xs x,SqL K H a xs/\xs[i]?=some x,λi H x H'=>H'=H/\∀ xs,SqL K H a xs->xs[i]?=some x,λi H=>∃ xs,SqL K H a xs/\xs.length <= i⟩
def Itt (K:PySem.W.Frag) (a:Addr):It :=
 ⟨λi H=>∃ xs x,SqT K H a xs/\xs[i]?=some x,λi H x H'=>H'=H/\∀ xs,SqT K H a xs->xs[i]?=some x,λi H=>∃ xs,SqT K H a xs/\xs.length <= i⟩
def Itr (lo:Int) (n:Nat):It:=⟨λi _=>i < n,λi H x H'=>H'=H/\x=.int (lo+i),λi _=>n <= i⟩
theorem turn_list {P:Program} {w:World} {K:PySem.W.Frag} {tg:Expr} (a it:Addr):Turn P w K tg (Itl K a) [it] it (λi h=>h.IsListIter it a i) where
 mem:=by simp
 obj:=λi h st b hb=>by
   have e:b=it:=by simpa using hb
   subst e
   obtain ⟨o,e,c,d⟩:=st
   exact ⟨o,e,λv z=>by rw [d] at z;cases z⟩
 keep:=λi h h' st k=>st.at λo e=>k it (by simp) o e
 item:=by
   intro X hP hw hK hc i pins s σ H E I hf st hg
   subst hP hw hK
   obtain ⟨xs,x,hq,hx⟩:=hg
   obtain ⟨its,rv,p,hz⟩:=I.list hq
   obtain ⟨u,hu,ru⟩:=rv.get hx
   obtain ⟨f0,f1,f2,f3,f4,f5⟩:=hf it (by simp)
   refine wpAny_pyNext_list_item st p.isList (x:=u) (by simpa using hu) λh' st' sb=>?_
   have I1:Inv X pins σ H { s with heap:=h' }:=I.turned (t':=s.toks) (λb o hb e=>(sb.2 b hb).trans e) f0 f1 f3 f4 f5
   obtain ⟨o,e,c,d⟩:=id st'
   exact ⟨u,rfl,go_of (s:={ s with heap:=h' }) e c d (by decide) ⟨x,H,I1,ru,⟨rfl,λys hy=>by rw [I.list_inj hy hq];exact hx⟩,st',λb hb=>(hf b hb).1⟩⟩
 done:=by
   intro X hP hw hK hc i pins s σ H E I hf st hg
   subst hP hw hK
   obtain ⟨xs,hq,hx⟩:=hg
   obtain ⟨its,rv,p,hz⟩:=I.list hq
   obtain ⟨f0,f1,f2,f3,f4,f5⟩:=hf it (by simp)
   have hl:=rv.length
   exact wpAny_pyNext_list_end (I.ok.hd hc) st p.isList (by simp;omega) λh' eb=>⟨rfl,I.turned (t':=s.toks) (λb o hb e=>eb b o hb e) f0 f1 f3 f4 f5⟩
 self:=λ_ _ _ _ _ st h=>wpAny_pyIter_listiter st h
theorem turn_tuple {P:Program} {w:World} {K:PySem.W.Frag} {tg:Expr} (a it:Addr):Turn P w K tg (Itt K a) [it] it (λi h=>h.IsTupleIter it a i) where
 mem:=by simp
 obj:=λi h st b hb=>by
   have e:b=it:=by simpa using hb
   subst e
   obtain ⟨o,e,c,d⟩:=st
   exact ⟨o,e,λv z=>by rw [d] at z;cases z⟩
 keep:=λi h h' st k=>st.at λo e=>k it (by simp) o e
 item:=by
   intro X hP hw hK hc i pins s σ H E I hf st hg
   subst hP hw hK
   obtain ⟨xs,x,hq,hx⟩:=hg
   obtain ⟨its,rv,p,hz⟩:=I.tuple hq
   obtain ⟨u,hu,ru⟩:=rv.get hx
   obtain ⟨f0,f1,f2,f3,f4,f5⟩:=hf it (by simp)
   refine wpAny_pyNext_tuple_item st (show s.heap.IsTuple a its.toArray from p) (x:=u) (by simpa using hu) λh' st' sb=>?_
   have I1:Inv X pins σ H { s with heap:=h' }:=I.turned (t':=s.toks) (λb o hb e=>(sb.2 b hb).trans e) f0 f1 f3 f4 f5
   obtain ⟨o,e,c,d⟩:=id st'
   exact ⟨u,rfl,go_of (s:={ s with heap:=h' }) e c d (by decide) ⟨x,H,I1,ru,⟨rfl,λys hy=>by rw [I.tuple_inj hy hq];exact hx⟩,st',λb hb=>(hf b hb).1⟩⟩
 done:=by
   intro X hP hw hK hc i pins s σ H E I hf st hg
   subst hP hw hK
   obtain ⟨xs,hq,hx⟩:=hg
   obtain ⟨its,rv,p,hz⟩:=I.tuple hq
   obtain ⟨f0,f1,f2,f3,f4,f5⟩:=hf it (by simp)
   have hl:=rv.length
   exact wpAny_pyNext_tuple_end (I.ok.hd hc) st (show s.heap.IsTuple a its.toArray from p) (by simp;omega) λh' eb=>⟨rfl,I.turned (t':=s.toks) (λb o hb e=>eb b o hb e) f0 f1 f3 f4 f5⟩
 self:=λ_ _ _ _ _ st h=>wpAny_pyIter_tupleiter st h
theorem turn_range {P:Program} {w:World} {K:PySem.W.Frag} {tg:Expr} (it:Addr) (lo:Int) (n:Nat):Turn P w K tg (Itr lo n) [it] it (λi h=>IsRangeIter h it (lo+(i:Nat) * 1) ((n:Int) - (i:Nat)) 1) where
 mem:=by simp
 obj:=λi h st b hb=>by
   have e:b=it:=by simpa using hb
   subst e
   exact ⟨_,st,λv z=>by
     have z':Data.fields _=Data.cell v:=z
     cases z'⟩
 keep:=λi h h' st k=>k it (by simp) _ st
 item:=by
   intro X hP hw hK hc i pins s σ H E I hf st hg
   subst hP hw hK
   obtain ⟨f0,f1,f2,f3,f4,f5⟩:=hf it (by simp)
   have W:=Walks.range (prog:=X.prog) (w:=X.w) (I.ok.hd hc) it lo 1 n
   refine W.item i s _ _ hg st λv h' tk hv st' kk=>?_
   obtain ⟨t,rfl⟩:=hv
   have I1:Inv X pins σ H { s with heap:=h',toks:=tk }:=I.turned (λb o hb e=>kk b o (by simpa using hb) e) f0 f1 f3 f4 f5
   refine ⟨_,rfl,go_of (s:={ s with heap:=h',toks:=tk }) (n:="range_iterator") st' rfl rfl (by decide) ⟨.int (lo+i),H,I1,⟨t,?_⟩,⟨rfl,rfl⟩,st',λb hb=>(hf b hb).1⟩⟩
   rw [Int.mul_one]
 done:=by
   intro X hP hw hK hc i pins s σ H E I hf st hg
   subst hP hw hK
   obtain ⟨f0,f1,f2,f3,f4,f5⟩:=hf it (by simp)
   exact wpAny_pyNext_range_end (I.ok.hd hc) st (by have:n <= i:=hg;omega) λh' eb=>⟨rfl,I.turned (t':=s.toks) (λb o hb e=>eb b o hb e) f0 f1 f3 f4 f5⟩
 self:=λ_ _ _ _ _ st h=>wpAny_pyIter_rangeiter st h
end L2

namespace L2
open PySem PySem.Spec PyProof.Rows
section
variable {X:Cx} {tg:Expr}
def iList (K:PySem.W.Frag) (tl:TE):TI:=λσ H R=>tl σ H λx H1=>∃ a,x=.ref a/\(∃ xs,SqL K H1 a xs)/\R (Itl K a) H1
def iTup (K:PySem.W.Frag) (tl:TE):TI:=λσ H R=>tl σ H λx H1=>∃ a,x=.ref a/\(∃ xs,SqT K H1 a xs)/\R (Itt K a) H1
theorem pi_list {l:Expr} {tl:TE} (hl:PE X l tl):PI X tg l (iList X.K tl):=by
 intro pins s σ H R I h
 refine thn (hl pins s σ H _ I h) λv s1 ⟨x,H1,I1,r1,q1⟩=>?_
 obtain ⟨a,e,⟨xs,hq⟩,q⟩:=q1
 subst e
 cases r1
 obtain ⟨its,rv,p,hz⟩:=I1.list hq
 refine wpAny_pyIter_list p.isList ?_
 refine ⟨s1.heap.objs.size,[s1.heap.objs.size],_,_,H1,rfl,I1.kept (t':=s1.toks) λb o e=>Heap.get?_push_of_some _ e,turn_list a _,⟨_,Heap.get?_push_size _ rfl,rfl,rfl⟩,λb hb=>?_,q⟩
 have e:b=s1.heap.objs.size:=by simpa using hb
 subst e
 exact I1.fpOk (Nat.le_refl _) (I1.hok.fresh (Nat.le_refl _))
theorem pi_tup {l:Expr} {tl:TE} (hl:PE X l tl):PI X tg l (iTup X.K tl):=by
 intro pins s σ H R I h
 refine thn (hl pins s σ H _ I h) λv s1 ⟨x,H1,I1,r1,q1⟩=>?_
 obtain ⟨a,e,⟨xs,hq⟩,q⟩:=q1
 subst e
 cases r1
 obtain ⟨its,rv,p,hz⟩:=I1.tuple hq
 refine wpAny_pyIter_tuple (show s1.heap.IsTuple a its.toArray from p) ?_
 refine ⟨s1.heap.objs.size,[s1.heap.objs.size],_,_,H1,rfl,I1.kept (t':=s1.toks) λb o e=>Heap.get?_push_of_some _ e,turn_tuple a _,⟨_,Heap.get?_push_size _ rfl,rfl,rfl⟩,λb hb=>?_,q⟩
 have e:b=s1.heap.objs.size:=by simpa using hb
 subst e
 exact I1.fpOk (Nat.le_refl _) (I1.hok.fresh (Nat.le_refl _))
theorem range_it {pins:List (Addr × Obj)} {σ:St} {H:Hp} {s:Shared} {R:It->Hp->Prop} {E:Value->Shared->Prop} {lo hi:Int} {t u v:Tok} {tk:Nat} (I:Inv X pins σ H s) (h1:-(2 ^ 62) <= lo) (h2:lo < 2 ^ 62) (h3:-(2 ^ 62) <= hi) (h4:hi < 2 ^ 62)
   (q:R (Itr lo (hi - lo).toNat) H):wpAny (model X.prog X.w) X.A (pyIter (.ref s.heap.objs.size)) (PIE X pins σ tg R) E { s with heap:=s.heap.push { cls:=.type "range",data:=.fields #[.int lo t,.int hi u,.int 1 v] },toks:=tk }:=by
 refine wpAny_pyIter_range (IsRange.new ..) (small_one h1 h2 h3 h4) ?_
 have I1:Inv X pins σ H { s with heap:=s.heap.push { cls:=.type "range",data:=.fields #[.int lo t,.int hi u,.int 1 v] },toks:=tk }:=I.kept λb o e=>Heap.get?_push_of_some _ e
 refine ⟨(s.heap.push { cls:=.type "range",data:=.fields #[.int lo t,.int hi u,.int 1 v] }).objs.size,[(s.heap.push { cls:=.type "range",data:=.fields #[.int lo t,.int hi u,.int 1 v] }).objs.size],_,_,H,rfl,
   I1.kept (t':=tk) λb o e=>Heap.get?_push_of_some _ e,turn_range _ lo (hi - lo).toNat,?_,λb hb=>?_,q⟩
 · have e1:lo+((0:Nat):Int) * 1=lo:=by simp
   have e2:(((hi - lo).toNat:Nat):Int) - ((0:Nat):Int)=Builtin.Range.rangeSize lo hi 1:=by rw [rangeSize_one];split<;>omega
   show IsRangeIter _ _ (lo+((0:Nat):Int) * 1) ((((hi - lo).toNat:Nat):Int) - ((0:Nat):Int)) 1
   rw [e1,e2]
   exact Heap.get?_push_size _ rfl
 · have e:b=(s.heap.push { cls:=.type "range",data:=.fields #[.int lo t,.int hi u,.int 1 v] }).objs.size:=by simpa using hb
   subst e
   exact I1.fpOk (Nat.le_refl _) (I1.hok.fresh (Nat.le_refl _))
def iRng1 (ta:TA):TI:=λσ H R=>ta σ H λvs H1=>∃ j:Int,vs=[.int j]/\-(2 ^ 62) <= j/\j < 2 ^ 62/\R (Itr 0 j.toNat) H1
def iRng2 (ta:TA):TI:=λσ H R=>ta σ H λvs H1=>∃ i j:Int,vs=[.int i,.int j]/\(-(2 ^ 62) <= i/\i < 2 ^ 62/\-(2 ^ 62) <= j/\j < 2 ^ 62)/\R (Itr i (j - i).toNat) H1
theorem pi_range1 {a:Expr} {ta:TA} {p pos:Pos} (hg:Gl X "range") (hm:X.mg "range"=none) (ha:PA X [a] ta) (hs:starEach [a] X.env=[(false,eval a X.env)]:=by rfl):PI X tg (.Call (.Name "range" p) [a] [] pos) (iRng1 ta):=by
 intro pins s σ H R I h
 refine Call_ (ld_blt I hg hm boot_range (PyProof.Rows.callWith_type1 (thn (ha pos pins s σ H _ I h) λus s1 ⟨vs,H1,I1,r1,q1⟩=>?_) hs rfl))
 obtain ⟨j,e,q1,q2,q⟩:=q1
 subst e
 cases r1 with
 | cons r rr =>
   cases rr
   obtain ⟨t,rfl⟩:=r
   exact call_range_1 (range_it I1 (by omega) (by omega) q1 q2 (by simpa using q))
def tFor (wi:TI) (g:TG) (tb:TS):TS:=λD σ H=>wi σ H λJ H1=>∃ W:Nat->Nat->St->Hp->Prop,(∃ m,W 0 m σ H1)/\∀ i m σ H,W i m σ H ->
 (J.stop i H/\D.nx σ H)\/(J.go i H/\∃ N:St->Hp->Prop,(∀ σ' H',N σ' H'->∃ m',m' < m/\W (i+1) m' σ' H')/\∀ x H',J.yld i H x H'->g x σ H' λσ2 H2=>tb { D with nx:=N,ct:=N,bk:=D.nx } σ2 H2)
def pinsAt (fp:List Addr) (h:Heap):List (Addr × Obj):=fp.filterMap λb=>(h.get? b).map λo=>(b,o)
theorem mem_pinsAt {fp:List Addr} {h:Heap} {b:Addr} {o:Obj} (hb:b∈fp) (e:h.get? b=some o):(b,o)∈pinsAt fp h:=List.mem_filterMap.mpr ⟨b,hb,by rw [e];rfl⟩
theorem of_pinsAt {fp:List Addr} {h:Heap} {p:Addr × Obj} (hp:p∈pinsAt fp h):p.1∈fp/\h.get? p.1=some p.2:=by
 obtain ⟨b,hb,e⟩:=List.mem_filterMap.mp hp
 cases q:h.get? b with
 | none=>rw [q] at e;cases e
 | some o =>
   rw [q] at e
   have e':(b,o)=p:=Option.some.inj e
   subst e'
   exact ⟨hb,q⟩
theorem Inv.pinned {pins:List (Addr × Obj)} {σ:St} {H:Hp} {s:Shared} {fp:List Addr} (I:Inv X pins σ H s) (hf:∀ b∈fp,FpOk X pins H b) (ho:∀ b∈fp,∃ o,s.heap.get? b=some o/\∀ v,o.data≠.cell v):Inv X (pins++pinsAt fp s.heap) σ H s :=
 I.pins_of λp hp=>(List.mem_append.mp hp).elim (λz=>I.pin p (List.mem_append_right _ z)) λz=>by
   obtain ⟨hb,e⟩:=of_pinsAt z
   obtain ⟨f0,f1,f2,_⟩:=hf p.1 hb
   obtain ⟨o,e',d⟩:=ho p.1 hb
   rw [e] at e';cases e'
   exact ⟨e,f0,f1,f2,d⟩
theorem Inv.unpinned {pins pl:List (Addr × Obj)} {σ:St} {H:Hp} {s:Shared} (I:Inv X (pins++pl) σ H s):Inv X pins σ H s:=I.pins_of λp hp=>I.pin p (List.mem_append_right _ (List.mem_append_left _ hp))
theorem ps_for {iter:Expr} {body:List Stmt} {wi:TI} {g:TG} {tb:TS} {pos:Pos} (hp:PassesOwn (model X.prog X.w) X.A X.env X.xe) (hc:X.calm=true) (hi:PI X tg iter wi) (hg:PG X tg g) (hb:PSs X body tb)
   (hs:∀ x,foldedSetIterable iter X.env x=pure x:=by intro _;rfl):PS X (.For tg iter body [] pos) (tFor wi g tb):=by
 intro pins s σ H D I h
 refine wpAny_For (thn (hi pins s σ H _ I h) λv s1 h1=>thn h1 λitv s2 h2=>?_) hs
 obtain ⟨it,fp,tn,J,H2,e,I2,T,st2,f2,W,⟨m0,w0⟩,turn⟩:=h2
 subst e
 have stat:∀ {H':Hp},(∀ b∈fp,H' b=none)->∀ b∈fp,FpOk X pins H' b:=λhn b hb=>⟨hn b hb,(f2 b hb).2⟩
 refine codeAny_forLoop_any (λn s'=>∃ i σ' H',Inv X pins σ' H' s'/\tn i s'.heap/\(∀ b∈fp,H' b=none)/\W i n σ' H') ?_ m0 ⟨0,σ,H2,I2,st2,λb hb=>(f2 b hb).1,w0⟩
 rintro n s3 ⟨i,σ3,H3,I3,st3,fr3,w3⟩
 rcases turn i n σ3 H3 w3 with ⟨stop,qn⟩ | ⟨go,N,hN,step⟩
 · refine wpAny_passesOwn hp (thn (T.done X rfl rfl rfl hc i pins s3 σ3 H3 X.xe I3 (stat fr3) st3 stop) λr s4 ⟨hr,I4⟩=>?_)
   subst hr
   exact wpAny_execs_nil ⟨σ3,H3,I4,qn⟩
 · refine wpAny_passesOwn hp (thn (T.item X rfl rfl rfl hc i pins s3 σ3 H3 X.xe I3 (stat fr3) st3 go) λr s4 ⟨u,hr,h4⟩=>?_)
   subst hr
   refine wpAny_passesOwn hp (thn h4 λ_ s5 ⟨x,H5,I5,r5,y5,st5,fr5⟩=>?_)
   have I5':=I5.pinned (stat fr5) (T.obj _ _ st5)
   refine wpAny_passesOwn hp (thn (hg _ s5 σ3 H5 x u _ I5' r5 (step x H5 y5)) λ_ s6 ⟨σ6,H6,I6,q6⟩=>?_)
   refine wpAny_passesOwn hp (thn (hb _ s6 σ6 H6 _ I6 q6) λf s7 q7=>?_)
   have again:∀ {σ7:St} {H7:Hp},Inv X (pins++pinsAt fp s5.heap) σ7 H7 s7->N σ7 H7->∃ m,m < n/\∃ i σ' H',Inv X pins σ' H' s7/\tn i s7.heap/\(∀ b∈fp,H' b=none)/\W i m σ' H':=λ{σ7 H7} I7 n7=>by
     obtain ⟨m',hm,w7⟩:=hN σ7 H7 n7
     refine ⟨m',hm,i+1,σ7,H7,I7.unpinned,T.keep _ _ _ st5 λb hb o e=>(I7.pin (b,o) (List.mem_append_right _ (List.mem_append_right _ (mem_pinsAt hb e)))).1,λb hb=>?_,w7⟩
     obtain ⟨o,e,d⟩:=T.obj _ _ st5 b hb
     exact (I7.pin (b,o) (List.mem_append_right _ (List.mem_append_right _ (mem_pinsAt hb e)))).2.1
   cases f with
   | next=>obtain ⟨σ7,H7,I7,n7⟩:=q7;exact again I7 n7
   | cont=>obtain ⟨σ7,H7,I7,n7⟩:=q7;exact again I7 n7
   | brk=>obtain ⟨σ7,H7,I7,q7⟩:=q7;exact ⟨σ7,H7,I7.unpinned,q7⟩
   | ret v=>obtain ⟨x7,σ7,H7,I7,r7,q7⟩:=q7;exact ⟨x7,σ7,H7,I7.unpinned,r7,q7⟩
end

theorem for_list {K:PySem.W.Frag} {a:Addr} {xs:List V} {g:TG} {tb:TS} {D:Ends} {σ:St} {H:Hp} (Pv:Nat->St->Hp->Prop) (h0:Pv 0 σ H) (hl:∀ i σ H,i <= xs.length->Pv i σ H->SqL K H a xs)
   (hs:∀ i x σ H,xs[i]?=some x->Pv i σ H->g x σ H λσ2 H2=>tb { D with nx:=Pv (i+1),ct:=Pv (i+1),bk:=D.nx } σ2 H2) (hd:∀ σ H,Pv xs.length σ H->D.nx σ H) :
   ∃ W:Nat->Nat->St->Hp->Prop,(∃ m,W 0 m σ H)/\∀ i m σ H,W i m σ H ->
     ((Itl K a).stop i H/\D.nx σ H)\/((Itl K a).go i H/\∃ N:St->Hp->Prop,(∀ σ' H',N σ' H'->∃ m',m' < m/\W (i+1) m' σ' H')/\∀ x H',(Itl K a).yld i H x H'->g x σ H' λσ2 H2=>tb { D with nx:=N,ct:=N,bk:=D.nx } σ2 H2):=by
 refine ⟨λi m σ H=>m=xs.length - i/\i <= xs.length/\Pv i σ H,⟨xs.length,by simp,Nat.zero_le _,h0⟩,?_⟩
 rintro i m σ H ⟨rfl,hi,p⟩
 have q:=hl i σ H hi p
 by_cases hlt:i < xs.length
 · refine .inr ⟨⟨xs,xs[i],q,by simp [hlt]⟩,Pv (i+1),λσ' H' p'=>⟨xs.length - (i+1),by omega,rfl,hlt,p'⟩,λx H' y=>?_⟩
   obtain ⟨e,y⟩:=y
   subst e
   exact hs i x σ _ (y xs q) p
 · have e:i=xs.length:=by omega
   subst e
   exact .inl ⟨⟨xs,q,Nat.le_refl _⟩,hd σ H p⟩
theorem for_tup {K:PySem.W.Frag} {a:Addr} {xs:List V} {g:TG} {tb:TS} {D:Ends} {σ:St} {H:Hp} (Pv:Nat->St->Hp->Prop) (h0:Pv 0 σ H) (hl:∀ i σ H,i <= xs.length->Pv i σ H->SqT K H a xs)
   (hs:∀ i x σ H,xs[i]?=some x->Pv i σ H->g x σ H λσ2 H2=>tb { D with nx:=Pv (i+1),ct:=Pv (i+1),bk:=D.nx } σ2 H2) (hd:∀ σ H,Pv xs.length σ H->D.nx σ H) :
   ∃ W:Nat->Nat->St->Hp->Prop,(∃ m,W 0 m σ H)/\∀ i m σ H,W i m σ H ->
     ((Itt K a).stop i H/\D.nx σ H)\/((Itt K a).go i H/\∃ N:St->Hp->Prop,(∀ σ' H',N σ' H'->∃ m',m' < m/\W (i+1) m' σ' H')/\∀ x H',(Itt K a).yld i H x H'->g x σ H' λσ2 H2=>tb { D with nx:=N,ct:=N,bk:=D.nx } σ2 H2):=by
 refine ⟨λi m σ H=>m=xs.length - i/\i <= xs.length/\Pv i σ H,⟨xs.length,by simp,Nat.zero_le _,h0⟩,?_⟩
 rintro i m σ H ⟨rfl,hi,p⟩
 have q:=hl i σ H hi p
 by_cases hlt:i < xs.length
 · refine .inr ⟨⟨xs,xs[i],q,by simp [hlt]⟩,Pv (i+1),λσ' H' p'=>⟨xs.length - (i+1),by omega,rfl,hlt,p'⟩,λx H' y=>?_⟩
   obtain ⟨e,y⟩:=y
   subst e
   exact hs i x σ _ (y xs q) p
 · have e:i=xs.length:=by omega
   subst e
   exact .inl ⟨⟨xs,q,Nat.le_refl _⟩,hd σ H p⟩
theorem for_range {lo:Int} {n:Nat} {g:TG} {tb:TS} {D:Ends} {σ:St} {H:Hp} (Pv:Nat->St->Hp->Prop) (h0:Pv 0 σ H)
   (hs:∀ i σ H,i < n->Pv i σ H->g (.int (lo+i)) σ H λσ2 H2=>tb { D with nx:=Pv (i+1),ct:=Pv (i+1),bk:=D.nx } σ2 H2) (hd:∀ σ H,Pv n σ H->D.nx σ H) :
   ∃ W:Nat->Nat->St->Hp->Prop,(∃ m,W 0 m σ H)/\∀ i m σ H,W i m σ H ->
     ((Itr lo n).stop i H/\D.nx σ H)\/((Itr lo n).go i H/\∃ N:St->Hp->Prop,(∀ σ' H',N σ' H'->∃ m',m' < m/\W (i+1) m' σ' H')/\∀ x H',(Itr lo n).yld i H x H'->g x σ H' λσ2 H2=>tb { D with nx:=N,ct:=N,bk:=D.nx } σ2 H2):=by
 refine ⟨λi m σ H=>m=n - i/\i <= n/\Pv i σ H,⟨n,by simp,Nat.zero_le _,h0⟩,?_⟩
 rintro i m σ H ⟨rfl,hi,p⟩
 by_cases hlt:i < n
 · refine .inr ⟨hlt,Pv (i+1),λσ' H' p'=>⟨n - (i+1),by omega,rfl,hlt,p'⟩,λx H' y=>?_⟩
   obtain ⟨e,y⟩:=y
   subst e y
   exact hs i σ _ hlt p
 · have e:i=n:=by omega
   subst e
   exact .inl ⟨Nat.le_refl _,hd σ H p⟩
end L2

namespace L2
open PySem PySem.Spec PyProof.Rows

abbrev R2:=V->V->Hp->VK->Prop
def OpR (X:Cx) (f:Value->Value->Sem Value) (r:R2):Prop :=
 ∀ (pins:List (Addr × Obj)) (s:Shared) (σ:St) (H:Hp) (x y:V) (v u:Value) (Q:VK),Inv X pins σ H s->RelV x v->RelV y u->r x y H Q ->
   wpAny (model X.prog X.w) X.A (f v u) (EP X pins σ Q) X.xe s
def UnR (X:Cx) (f:Value->Sem Value) (r:V->Hp->VK->Prop):Prop :=
 ∀ (pins:List (Addr × Obj)) (s:Shared) (σ:St) (H:Hp) (x:V) (v:Value) (Q:VK),Inv X pins σ H s->RelV x v->r x H Q ->
   wpAny (model X.prog X.w) X.A (f v) (EP X pins σ Q) X.xe s
def CallR (X:Cx) (f:Value) (r:List V->Hp->VK->Prop):Prop :=
 ∀ (pins:List (Addr × Obj)) (s:Shared) (σ:St) (H:Hp) (xs:List V) (us:List Value) (Q:VK),Inv X pins σ H s->Vals xs us->r xs H Q ->
   wpAny (model X.prog X.w) X.A (call f us) (EP X pins σ Q) X.xe s
def TruR (X:Cx) (r:V->Hp->(Bool->Hp->Prop)->Prop):Prop :=
 ∀ (pins:List (Addr × Obj)) (s:Shared) (σ:St) (H:Hp) (x:V) (v:Value) (Q:Bool->Hp->Prop),Inv X pins σ H s->RelV x v->r x H Q ->
   wpAny (model X.prog X.w) X.A (truthy v) (TP X pins σ Q) X.xe s

def tOp (r:R2) (ta tb:TE):TE:=λσ H Q=>ta σ H λx H1=>tb σ H1 λy H2=>r x y H2 Q
def tUn (r:V->Hp->VK->Prop) (ta:TE):TE:=λσ H Q=>ta σ H λx H1=>r x H1 Q
def rI (C:Int->Int->Prop) (g:Int->Int->V):R2:=λx y H Q=>∃ i j,x=.int i/\y=.int j/\C i j/\Q (g i j) H
def rI0 (g:Int->Int->V):R2:=λx y H Q=>∃ i j,x=.int i/\y=.int j/\Q (g i j) H
def rU (g:Int->V):V->Hp->VK->Prop:=λx H Q=>∃ i,x=.int i/\Q (g i) H

section
variable {X:Cx} {a b c:Expr} {ta tb tc:TE} {pos:Pos}

theorem binT (ha:PE X a ta) (hb:PE X b tb) {pins:List (Addr × Obj)} {s:Shared} {σ:St} {H:Hp} {R:V->V->Hp->Prop} (I:Inv X pins σ H s)
   (h:ta σ H λx H1=>tb σ H1 λy H2=>R x y H2) {Q:Value->Shared->Prop} {f:Value->Value->Sem Value}
   (hf:∀ v u s2 x y H2,Inv X pins σ H2 s2->RelV x v->RelV y u->R x y H2->wpAny (model X.prog X.w) X.A (f v u) Q X.xe s2) :
   wpAny (model X.prog X.w) X.A (eval a X.env) (λv s₁=>wpAny (model X.prog X.w) X.A (eval b X.env) (λu s₂=>wpAny (model X.prog X.w) X.A (f v u) Q X.xe s₂) X.xe s₁) X.xe s:=by
 refine thn (ha pins s σ H _ I h) λv s1 ⟨x,H1,I1,r1,q1⟩=>?_
 refine thn (hb pins s1 σ H1 _ I1 q1) λu s2 ⟨y,H2,I2,r2,q2⟩=>?_
 exact hf v u s2 x y H2 I2 r1 r2 q2

theorem pe_op {op:Operator} {r:R2} (ho:OpR X (binaryOp op) r) (ha:PE X a ta) (hb:PE X b tb):PE X (.BinOp a op b pos) (tOp r ta tb):=by
 intro pins s σ H Q I h
 exact wpAny_BinOp (binT ha hb I h λv u s2 x y H2 I2 rx ry q=>ho pins s2 σ H2 x y v u Q I2 rx ry q)
theorem pe_un {op:UnaryOp} {r:V->Hp->VK->Prop} (ho:UnR X (unaryOp op) r) (ha:PE X a ta):PE X (.UnaryOp op a pos) (tUn r ta):=by
 intro pins s σ H Q I h
 exact UnaryOp_ (thn (ha pins s σ H _ I h) λv s1 ⟨x,H1,I1,r1,q1⟩=>ho pins s1 σ H1 x v Q I1 r1 q1)
theorem opI {f:Value->Value->Sem Value} {C:Int->Int->Prop} {g:Int->Int->Int}
   (rule:∀ (i j:Int) (t u:Tok) (s:Shared) (Q:Value->Shared->Prop) (E:Value->Shared->Prop),C i j->Q (.int (g i j) s.toks) { s with toks:=s.toks+1 }->wpAny (model X.prog X.w) X.A (f (.int i t) (.int j u)) Q E s) :
   OpR X f (rI C λi j=>.int (g i j)):=by
 intro pins s σ H x y v u Q I rx ry h
 obtain ⟨i,j,rfl,rfl,hc,q⟩:=h
 obtain ⟨t,rfl⟩:=rx
 obtain ⟨t',rfl⟩:=ry
 exact rule i j t t' s _ _ hc ⟨.int (g i j),H,I.tok _,⟨_,rfl⟩,q⟩
theorem opI0 {f:Value->Value->Sem Value} {g:Int->Int->Int}
   (rule:∀ (i j:Int) (t u:Tok) (s:Shared) (Q:Value->Shared->Prop) (E:Value->Shared->Prop),Q (.int (g i j) s.toks) { s with toks:=s.toks+1 }->wpAny (model X.prog X.w) X.A (f (.int i t) (.int j u)) Q E s) :
   OpR X f (rI0 λi j=>.int (g i j)):=by
 intro pins s σ H x y v u Q I rx ry h
 obtain ⟨i,j,rfl,rfl,q⟩:=h
 obtain ⟨t,rfl⟩:=rx
 obtain ⟨t',rfl⟩:=ry
 exact rule i j t t' s _ _ ⟨.int (g i j),H,I.tok _,⟨_,rfl⟩,q⟩
theorem opB0 {f:Value->Value->Sem Value} {g:Int->Int->Bool}
   (rule:∀ (i j:Int) (t u:Tok) (s:Shared) (Q:Value->Shared->Prop) (E:Value->Shared->Prop),Q (.bool (g i j)) s->wpAny (model X.prog X.w) X.A (f (.int i t) (.int j u)) Q E s) :
   OpR X f (rI0 λi j=>.bl (g i j)):=by
 intro pins s σ H x y v u Q I rx ry h
 obtain ⟨i,j,rfl,rfl,q⟩:=h
 obtain ⟨t,rfl⟩:=rx
 obtain ⟨t',rfl⟩:=ry
 exact rule i j t t' s _ _ ⟨.bl (g i j),H,I,rfl,q⟩

def CDiv (i j:Int):Prop:=0 < j/\j < 1073741824
def CDivN (i j:Int):Prop:=j≠0/\j.natAbs < 1073741824
def CPow (i j:Int):Prop:=0 <= j/\j <= 1000000/\i.natAbs < 2 ^ 64
def CMul (i j:Int):Prop:=(-(2 ^ 64) < i/\i < 2 ^ 64)\/(-(2 ^ 64) < j/\j < 2 ^ 64)
theorem CMul.ok {i j:Int} (h:CMul i j):IntMulOk i j:=by
 rcases h with ⟨h1,h2⟩ | ⟨h1,h2⟩
 · exact .of_left (intBits_le_64 h1 h2)
 · exact .of_right (intBits_le_64 h1 h2)
theorem op_add:OpR X (binaryOp .Add) (rI0 λi j=>.int (i+j)):=opI0 λ_ _ _ _ _ _ _ q=>add_int q
theorem op_sub:OpR X (binaryOp .Sub) (rI0 λi j=>.int (i - j)):=opI0 λ_ _ _ _ _ _ _ q=>sub_int q
theorem op_mul:OpR X (binaryOp .Mult) (rI CMul λi j=>.int (i * j)):=opI λ_ _ _ _ _ _ _ hc q=>mul_int q hc.ok
theorem op_mod:OpR X (binaryOp .Mod) (rI (λ_ j=>0 < j) λi j=>.int (i % j)):=opI λi j _ _ _ _ _ hc q=>by
 have h1:(0:Int) < j:=hc
 exact mod_int' (by omega) (by rw [Int.fmod_eq_emod_of_nonneg i (by omega)];exact q)
theorem op_pow:OpR X (binaryOp .Pow) (rI CPow λi j=>.int (i ^ j.toNat)):=opI λ_ _ _ _ _ _ _ hc q=>pow_int_small hc.1 hc.2.1 hc.2.2 q
theorem unI {f:Value->Sem Value} {g:Int->Int}
   (rule:∀ (i:Int) (t:Tok) (s:Shared) (Q:Value->Shared->Prop) (E:Value->Shared->Prop),Q (.int (g i) s.toks) { s with toks:=s.toks+1 }->wpAny (model X.prog X.w) X.A (f (.int i t)) Q E s) :
   UnR X f (rU λi=>.int (g i)):=by
 intro pins s σ H x v Q I rx h
 obtain ⟨i,rfl,q⟩:=h
 obtain ⟨t,rfl⟩:=rx
 exact rule i t s _ _ ⟨.int (g i),H,I.tok _,⟨_,rfl⟩,q⟩
theorem un_neg:UnR X (unaryOp .USub) (rU λi=>.int (-i)):=unI λ_ _ _ _ _ q=>neg_int q
end

def scal:V->V->Bool
 | .non,.non=>true | .non,.int _=>true | .int _,.non=>true | .non,.bl _=>true | .bl _,.non=>true | .non,.str _=>true | .str _,.non=>true
 | .int _,.int _=>true | .bl _,.bl _=>true | .str _,.str _=>true | .byt _,.byt _=>true
 | .int _,.str _=>true | .str _,.int _=>true | .bl _,.str _=>true | .str _,.bl _=>true
 | _,_=>false
def rEq:R2:=λx y H Q=>scal x y=true/\Q (.bl (decide (x=y))) H
def rNe:R2:=λx y H Q=>scal x y=true/\Q (.bl (!decide (x=y))) H

theorem dec_int {i j:Int}:decide (V.int i=V.int j)=(i == j):=by
 rw [Bool.eq_iff_iff]
 simp
theorem dec_bl {i j:Bool}:decide (V.bl i=V.bl j)=(i == j):=by
 rw [Bool.eq_iff_iff]
 simp
theorem dec_str {i j:Str}:decide (V.str i=V.str j)=(i == j):=by
 rw [Bool.eq_iff_iff]
 simp
theorem dec_byt {i j:Array UInt8}:decide (V.byt i=V.byt j)=(i.toList == j.toList):=by
 rw [Bool.eq_iff_iff]
 cases i
 cases j
 simp

section
variable {X:Cx} {a b c:Expr} {ta tb tc:TE} {pos:Pos}
theorem fin_bl {pins:List (Addr × Obj)} {σ:St} {H:Hp} {s:Shared} {Q:VK} {k k':Bool} (I:Inv X pins σ H s) (q:Q (.bl k) H) (e:k=k'):EP X pins σ Q (.bool k') s:=by
 subst e
 exact ⟨.bl k,H,I,rfl,q⟩
theorem op_eq:OpR X (compareOp .Eq) rEq:=by
 intro pins s σ H x y v u Q I rx ry h
 obtain ⟨hs,q⟩:=h
 cases x with
 | non =>
   cases rx
   cases y with
   | non=>cases ry;exact PySem.EqNone.eq_none_none (fin_bl I q (by simp))
   | bl j=>cases ry;exact PySem.EqNone.eq_none_bool (fin_bl I q (by simp))
   | int j=>obtain ⟨t',rfl⟩:=ry;exact PySem.EqNone.eq_none_int (fin_bl I q (by simp))
   | str j=>obtain ⟨t',rfl⟩:=ry;exact PySem.EqNone.eq_none_str (fin_bl I q (by simp))
   | _=>exact absurd (show false=true from hs) Bool.false_ne_true
 | bl i =>
   cases rx
   cases y with
   | non=>cases ry;exact PySem.EqNone.eq_bool_none (fin_bl I q (by simp))
   | bl j=>cases ry;exact eq_bool (fin_bl I q dec_bl)
   | str j=>obtain ⟨t',rfl⟩:=ry;exact PySem.EqMixed.eq_bool_str (fin_bl I q (by simp))
   | _=>exact absurd (show false=true from hs) Bool.false_ne_true
 | int i =>
   obtain ⟨t,rfl⟩:=rx
   cases y with
   | non=>cases ry;exact PySem.EqNone.eq_int_none (fin_bl I q (by simp))
   | int j=>obtain ⟨t',rfl⟩:=ry;exact eq_int (fin_bl I q dec_int)
   | str j=>obtain ⟨t',rfl⟩:=ry;exact PySem.EqMixed.eq_int_str (fin_bl I q (by simp))
   | _=>exact absurd (show false=true from hs) Bool.false_ne_true
 | str i =>
   obtain ⟨t,rfl⟩:=rx
   cases y with
   | non=>cases ry;exact PySem.EqNone.eq_str_none (fin_bl I q (by simp))
   | bl j=>cases ry;exact PySem.EqMixed.eq_str_bool (fin_bl I q (by simp))
   | int j=>obtain ⟨t',rfl⟩:=ry;exact PySem.EqMixed.eq_str_int (fin_bl I q (by simp))
   | str j=>obtain ⟨t',rfl⟩:=ry;exact eq_str (fin_bl I q dec_str)
   | _=>exact absurd (show false=true from hs) Bool.false_ne_true
 | byt i =>
   obtain ⟨t,rfl⟩:=rx
   cases y with
   | byt j=>obtain ⟨t',rfl⟩:=ry;exact PySem.W.eq_bytes (fin_bl I q dec_byt)
   | _=>exact absurd (show false=true from hs) Bool.false_ne_true
 | _=>cases y<;>exact absurd (show false=true from hs) Bool.false_ne_true
theorem op_ne:OpR X (compareOp .NotEq) rNe:=by
 intro pins s σ H x y v u Q I rx ry h
 obtain ⟨hs,q⟩:=h
 cases x with
 | non =>
   cases rx
   cases y with
   | non=>cases ry;exact PySem.EqNone.ne_none_none (fin_bl I q (by simp))
   | bl j=>cases ry;exact PySem.EqNone.ne_none_bool (fin_bl I q (by simp))
   | int j=>obtain ⟨t',rfl⟩:=ry;exact PySem.EqNone.ne_none_int (fin_bl I q (by simp))
   | str j=>obtain ⟨t',rfl⟩:=ry;exact PySem.EqNone.ne_none_str (fin_bl I q (by simp))
   | _=>exact absurd (show false=true from hs) Bool.false_ne_true
 | bl i =>
   cases rx
   cases y with
   | non=>cases ry;exact PySem.EqNone.ne_bool_none (fin_bl I q (by simp))
   | bl j=>cases ry;exact ne_bool (fin_bl I q (congrArg not dec_bl))
   | str j=>obtain ⟨t',rfl⟩:=ry;exact PySem.EqMixed.ne_bool_str (fin_bl I q (by simp))
   | _=>exact absurd (show false=true from hs) Bool.false_ne_true
 | int i =>
   obtain ⟨t,rfl⟩:=rx
   cases y with
   | non=>cases ry;exact PySem.EqNone.ne_int_none (fin_bl I q (by simp))
   | int j=>obtain ⟨t',rfl⟩:=ry;exact ne_int (fin_bl I q (congrArg not dec_int))
   | str j=>obtain ⟨t',rfl⟩:=ry;exact PySem.EqMixed.ne_int_str (fin_bl I q (by simp))
   | _=>exact absurd (show false=true from hs) Bool.false_ne_true
 | str i =>
   obtain ⟨t,rfl⟩:=rx
   cases y with
   | non=>cases ry;exact PySem.EqNone.ne_str_none (fin_bl I q (by simp))
   | bl j=>cases ry;exact PySem.EqMixed.ne_str_bool (fin_bl I q (by simp))
   | int j=>obtain ⟨t',rfl⟩:=ry;exact PySem.EqMixed.ne_str_int (fin_bl I q (by simp))
   | str j=>obtain ⟨t',rfl⟩:=ry;exact ne_str (fin_bl I q (congrArg not dec_str))
   | _=>exact absurd (show false=true from hs) Bool.false_ne_true
 | byt i =>
   obtain ⟨t,rfl⟩:=rx
   cases y with
   | byt j=>obtain ⟨t',rfl⟩:=ry;exact PySem.W.ne_bytes (fin_bl I q (congrArg not dec_byt))
   | _=>exact absurd (show false=true from hs) Bool.false_ne_true
 | _=>cases y<;>exact absurd (show false=true from hs) Bool.false_ne_true

theorem op_lt:OpR X (compareOp .Lt) (rI0 λi j=>.bl (decide (i < j))):=opB0 λ_ _ _ _ _ _ _ q=>lt_int q
theorem op_le:OpR X (compareOp .LtE) (rI0 λi j=>.bl (decide (i <= j))):=opB0 λ_ _ _ _ _ _ _ q=>le_int q
theorem op_isN:OpR X (compareOp .Is) (λx y H Q=>y=.non/\Q (.bl (decide (x=.non))) H):=by
 intro pins s σ H x y v u Q I rx ry h
 obtain ⟨rfl,q⟩:=h
 cases ry
 refine is_none_gen (fin_bl I q ?_)
 cases x<;>first
   | (cases rx;rfl)
   | (obtain ⟨t,rfl⟩:=rx;rfl)
def isObj:HO->Bool
 | .lst _=>true
 | .ins _ _ _=>true
 | _=>false
theorem OpR.or {f:Value->Value->Sem Value} {r r':R2} (h:OpR X f r) (h':OpR X f r'):OpR X f (λx y H Q=>r x y H Q\/r' x y H Q):=by
 intro pins s σ H x y v u Q I rx ry q
 rcases q with q | q
 · exact h pins s σ H x y v u Q I rx ry q
 · exact h' pins s σ H x y v u Q I rx ry q

theorem nomark (b:Expr) {op:CmpOp} (h:op≠.In:=by decide) (h2:op≠.NotIn:=by decide):behindInMarks op b=false:=by
 have e1:(op == CmpOp.In)=false:=by cases op<;>first | rfl | exact absurd rfl h
 have e2:(op == CmpOp.NotIn)=false:=by cases op<;>first | rfl | exact absurd rfl h2
 cases b<;>simp [behindInMarks,e1,e2]
theorem pe_cmpR {op:CmpOp} {r:R2} (ho:OpR X (compareOp op) r) (ha:PE X a ta) (hb:PE X b tb) (hm:behindInMarks op b=false):PE X (.Compare a [op] [b] pos) (tOp r ta tb):=by
 intro pins s σ H Q I h
 exact wpAny_Compare1 (binT ha hb I h λv u s2 x y H2 I2 rx ry q=>ho pins s2 σ H2 x y v u Q I2 rx ry q) hm
def tTest (t:TE):TT:=λσ H Q=>t σ H λx H'=>∃ k,x=.bl k/\Q k H'
theorem pt_cmpR {op:CmpOp} {r:R2} (ho:OpR X (compareOp op) r) (ha:PE X a ta) (hb:PE X b tb) (hm:behindInMarks op b=false):PT X (.Compare a [op] [b] pos) (tTest (tOp r ta tb)):=by
 intro pins s σ H Q I h
 refine wpAny_isTrue_Compare1 (thn (ha pins s σ H _ I h) λv s1 ⟨x,H1,I1,r1,q1⟩=>thn (hb pins s1 σ H1 _ I1 q1) λu s2 ⟨y,H2,I2,r2,q2⟩ =>
   thn (ho pins s2 σ H2 x y v u _ I2 r1 r2 q2) λc s3 ⟨z,H3,I3,r3,k,e,q3⟩=>?_) hm
 subst e
 cases r3
 exact wpAny_truthy_bool ⟨H3,I3,q3⟩
def tChain (r r':R2) (ta tb tc:TE):TE:=λσ H Q=>ta σ H λx H1=>tb σ H1 λy H2=>r x y H2 λz H3=>∃ k,z=.bl k /\
 (if k=true then tc σ H3 λw' H4=>r' y w' H4 Q else Q (.bl false) H3)
theorem pe_chain {op op':CmpOp} {r r':R2} (ho:OpR X (compareOp op) r) (ho':OpR X (compareOp op') r') (ha:PE X a ta) (hb:PE X b tb) (hc:PE X c tc)
   (hm:lastMarks [op,op'] [b,c]=false:=by with_unfolding_all rfl):PE X (.Compare a [op,op'] [b,c] pos) (tChain r r' ta tb tc):=by
 intro pins s σ H Q I h
 refine Compare_chain (thn (ha pins s σ H _ I h) λv s1 ⟨x,H1,I1,r1,q1⟩=>chain_link (thn (hb pins s1 σ H1 _ I1 q1) λu s2 ⟨y,H2,I2,r2,q2⟩ =>
   thn (ho pins s2 σ H2 x y v u _ I2 r1 r2 q2) λd s3 ⟨z,H3,I3,r3,k,e,q3⟩=>?_)) hm
 subst e
 cases r3
 refine wpAny_truthy_bool ?_
 cases k with
 | false=>exact ite_ff ⟨.bl false,H3,I3,rfl,q3⟩
 | true=>exact ite_tt (chain_last (thn (hc pins s3 σ H3 _ I3 q3) λw' s4 ⟨z',H4,I4,r4,q4⟩=>ho' pins s4 σ H4 y z' u w' Q I4 r2 r4 q4))
def TruV (K:PySem.W.Frag) (x:V) (H:Hp) (k:Bool):Prop :=
 match x with
 | .non=>k=false
 | .bl b=>k=b
 | .int i=>k=(i != 0)
 | .str y=>y.length <= sizeLine/\k=((y.length:Int) != 0)
 | .byt y=>y.size <= sizeLine/\k=((y.size:Int) != 0)
 | .ref p=>(∃ xs,SqL K H p xs/\k=!xs.isEmpty)\/(∃ xs,SqT K H p xs/\k=!xs.isEmpty)\/∃ kvs,H p=some (.dK kvs)/\k=!kvs.isEmpty
 | _=>False
theorem isEmpty_kv {κ:Type} {kvs:List (κ × V)} {vs:List (κ × Value)} (r:KV kvs vs):(!vs.isEmpty)=!kvs.isEmpty:=by
 cases r<;>rfl
theorem isEmpty_of {xs:List V} {its:List Value} (r:Vals xs its):(!its.toArray.isEmpty)=!xs.isEmpty:=by
 cases r<;>simp
theorem line63:(sizeLine:Nat) < 2 ^ 63:=by rw [sizeLine_eq];decide
theorem tru_ok:TruR X (λx H Q=>∃ k,TruV X.K x H k/\Q k H):=by
 intro pins s σ H x v Q I rx h
 obtain ⟨k,e,q⟩:=h
 have hl:=line63
 have hs:sizeLine=16777216:=sizeLine_eq
 cases x with
 | non =>
   cases rx
   have e':k=false:=e
   subst e'
   exact truthy_none ⟨H,I,q⟩
 | bl b =>
   cases rx
   have e':k=b:=e
   subst e'
   exact wpAny_truthy_bool ⟨H,I,q⟩
 | int i =>
   obtain ⟨t,rfl⟩:=rx
   have e':k=(i != 0):=e
   subst e'
   exact PySem.P.truthy_int ⟨H,I,q⟩
 | str y =>
   obtain ⟨t,rfl⟩:=rx
   obtain ⟨hy,e'⟩:y.length <= sizeLine/\k=((y.length:Int) != 0):=e
   subst e'
   exact PySem.P.truthy_str (by omega) ⟨H,I.tok _,q⟩
 | byt y =>
   obtain ⟨t,rfl⟩:=rx
   obtain ⟨hy,e'⟩:y.size <= sizeLine/\k=((y.size:Int) != 0):=e
   subst e'
   exact PySem.W.truthy_bytes (by omega) ⟨H,I.tok _,q⟩
 | ref p =>
   cases rx
   have e':(∃ xs,SqL X.K H p xs/\k=!xs.isEmpty)\/(∃ xs,SqT X.K H p xs/\k=!xs.isEmpty)\/∃ kvs,H p=some (.dK kvs)/\k=!kvs.isEmpty:=e
   rcases e' with ⟨xs,hx,e'⟩ | ⟨xs,hx,e'⟩ | ⟨kvs,hx,e'⟩
   · subst e'
     obtain ⟨its,r,pl,hz⟩:=I.list hx
     have hlen:=r.length
     exact wpAny_truthy_list pl.isList (by simp only [List.size_toArray];omega) ⟨H,I.tok _,by rw [isEmpty_of r];exact q⟩
   · subst e'
     obtain ⟨its,r,pl,hz⟩:=I.tuple hx
     have hlen:=r.length
     exact truthy_tuple pl (by simp only [List.size_toArray];omega) ⟨H,I.tok _,by rw [isEmpty_of r];exact q⟩
   · subst e'
     obtain ⟨hz,hS,vs,r,m⟩:kvs.length <= sizeLine/\(p == sysModules)=false/\∃ vs,KV kvs vs/\s.heap.DictOf (mixKind X.prog X.w) p vs:=I.hok p _ hx
     have hlen:kvs.length=vs.length:=Paired.length r
     exact wpAny_truthy_dict hS m (by omega) ⟨H,I.tok _,by rw [isEmpty_kv r];exact q⟩
 | _=>exact (show False from e).elim
theorem pt_truth (ha:PE X a ta) (he:∀ whole,isTrue a X.env whole=(do let v ← whole;standAt a.pos;holding [v] (truthy v))) :
   PT X a (λσ H Q=>ta σ H λx H'=>∃ k,TruV X.K x H' k/\Q k H'):=by
 intro pins s σ H Q I h
 exact isTrue_plain (thn (ha pins s σ H _ I h) λv s1 ⟨x,H1,I1,r1,q1⟩=>tru_ok pins s1 σ H1 x v Q I1 r1 q1) (he _)

def PlainIxT (b:Expr):Prop:=∀ o i,subscripted b false o i=operate [o,i] (getItem o i)
theorem vals1 {x:V} {us:List Value} (r:Vals [x] us):∃ u,us=[u]/\RelV x u:=by
 cases r with
 | cons r1 r2=>cases r2;exact ⟨_,rfl,r1⟩
theorem vals2 {x y:V} {us:List Value} (r:Vals [x,y] us):∃ u w',us=[u,w']/\RelV x u/\RelV y w':=by
 cases r with
 | cons r1 r2 =>
   cases r2 with
   | cons r3 r4=>cases r4;exact ⟨_,_,rfl,r1,r3⟩
def LenV (K:PySem.W.Frag) (x:V) (H:Hp) (n:Nat):Prop :=
 match x with
 | .str y=>y.length <= sizeLine/\n=y.length
 | .byt y=>y.size <= sizeLine/\n=y.size
 | .ref p=>(∃ xs,SqL K H p xs/\n=xs.length)\/∃ xs,SqT K H p xs/\n=xs.length
 | _=>False
end
end L2

namespace L2
open PySem PySem.Spec PyProof.Rows

structure ObjM (h:Heap) (x dx C:Addr) (mA:Str->Option Value):Prop where
 obj:h.get? x=some (PySem.W.instObj C dx)
 ns:h.Ns1 dx mA
 ne:dx≠x

theorem lookIn_ns {h:Heap} {dx:Addr} {mA:Str->Option Value} (n:h.Ns1 dx mA):∃ od,h.get? dx=some od/\∀ name,PySem.W.lookIn name od=some (mA name):=by
 obtain ⟨o,es,ep,ho,hd,hk,_,hm⟩:=n
 refine ⟨o,ho,λname=>?_⟩
 have e:=hm name
 unfold nsFind findBy at e
 rw [← Array.find?_toList] at e
 unfold PySem.W.lookIn
 rw [hd]
 dsimp only
 split
 · rename_i y q
   rw [q] at e
   exact congrArg some e
 · rename_i q
   rw [q] at e
   have a:es.toList.any (·.refKey)=false:=by
     rw [List.any_eq_false]
     intro y hy
     obtain ⟨z,t,hkey⟩:=hk y (Array.mem_toList_iff.mp hy)
     simp [DictEntry.refKey,hkey]
   have a':¬ es.toList.any (·.refKey)=true:=by rw [a];exact Bool.false_ne_true
   rw [if_neg a']
   exact congrArg some e

theorem ObjM.look {h:Heap} {x dx C:Addr} {mA:Str->Option Value} (I:ObjM h x dx C mA):∃ od,PySem.W.InstAt h x (PySem.W.instObj C dx) C (some od)/\∀ name,PySem.W.lookIn name od=some (mA name) :=
 let ⟨od,ho,hl⟩:=lookIn_ns I.ns
 ⟨od,⟨I.obj,rfl,rfl,ho⟩,hl⟩

section
variable {prog:Program} {w:World} {A:Around} {E:Value->Shared->Prop} {s:Shared} {K:PySem.W.Frag} {x dx C f:Addr} {mA:Str->Option Value} {name:Str} {v:Value}

theorem get_map {expr:Bool} {Q:Value->Shared->Prop} (X:K.In s.heap) (I:ObjM s.heap x dx C mA) (hg:PySem.W.plainGet K C name=true) (hh:PySem.W.hasDictIn K C=true)
   (ha:PySem.W.findIn K (.ref C) name=some none) (hv:mA name=some v) (hv':PySem.W.handedIn v=true) (h:Q v { s with toks:=s.toks+1 }) :
   wpAny (model prog w) A (getAttr (.ref x) name expr) Q E s:=by
 obtain ⟨od,J,hl⟩:=I.look
 exact PySem.W.get_value X J (PySem.W.plainGet_of hg).1 (PySem.W.findObj_own hh ha rfl (by rw [hl,hv])) hv' h

theorem get_meth {pl:Sem Bool} {Q:Value × List Value->Shared->Prop} (X:K.In s.heap) (I:ObjM s.heap x dx C mA) (hg:PySem.W.plainGet K C name=true)
   (hf:PySem.W.findIn K (.ref C) name=some (some (.ref f))) (ht:PySem.W.isFn K (.ref f)=true) (hv:mA name=none) (h:Q (.ref f,[.ref x]) s) :
   wpAny (model prog w) A (getMethod (.ref x) name pl) Q E s:=by
 obtain ⟨od,J,hl⟩:=I.look
 exact PySem.W.method_fn X J (PySem.W.plainGet_of hg).1 (PySem.W.plainGet_of hg).2 hf (beq_iff_eq.mp ht) (by show (PySem.W.lookIn name od).map (·.isSome)=some false;rw [hl,hv];rfl) h

theorem set_map {ns:List Str} {Q:Unit->Shared->Prop} (X:K.In s.heap) (I:ObjM s.heap x dx C mA)
   (hs:PySem.W.findIn K (.ref C) "__setattr__"=some (some (.builtin "object.__setattr__"))) (hp:PySem.W.plainOver K C=true) (ht:PySem.W.takerIn K C name=some none) (hh:PySem.W.hasDictIn K C=true)
   (hw:PySem.Within mA ns) (hsz:ns.length <= sizeLine)
   (h:∀ h',ObjM h' x dx C (λy=>if y=name then some v else mA y)->Heap.SameBut dx s.heap h'->Q () { s with heap:=h',toks:=s.toks+2 }) :
   wpAny (model prog w) A (setAttr (.ref x) name v) Q E s:=by
 obtain ⟨od,J,hl⟩:=I.look
 refine PySem.W.set_plain X J hs (PySem.W.osa_open (s:={ s with toks:=s.toks+1 }) (r:=none) X J hp ht λb=>?_)
 obtain ⟨cd,hc,hd'⟩:=PySem.W.any_some hh
 have hx:s.heap.get? x=some ⟨.ref C,some dx,.plain,#[]⟩:=I.obj
 refine wpAny_bind (wpAny_pure (wpAny_bind (wpAny_bind (wpAny_loadPart hx (wpAny_bind (PySem.W.Looks.here (s:={ s with toks:=s.toks+1 }) (PySem.W.looks_clsIn X hc) ?_))))))
 rw [hd']
 refine wpAny_pure (a:=some dx) (wpAny_bind (wpAny_pure (wpAny_bind ?_)))
 refine wpAny_nsSet1 (s:={ s with toks:=s.toks+1 }) I.ns λh' hn2 hs2=>?_
 obtain ⟨oD,esD,epD,hoD,hdD,hcD⟩:=hn2.count (PySem.Within.cons name v hw)
 refine wpAny_bind (wpAny_lookBehind hoD (by rw [hdD];exact pastItsLine_dict (Nat.le_trans hcD (by rw [List.length_cons];omega))) ?_)
 exact wpAny_pure (h _ ⟨(hs2.2 _ (Ne.symm I.ne)).trans I.obj,hn2,I.ne⟩ hs2)

theorem make_map {R:Result->Shared->Prop} {vs:List Value} {kw:List (Str × Value)} (X:K.In s.heap) (hm:PySem.W.makesIn K C=true)
   (hi:PySem.W.findIn K (.ref C) "__init__"=some (some (.ref f))) (hf:PySem.W.typeIn K (.ref f)=some (.type "function"))
   (h:codeAny (model prog w) (A.under (.builtin "type.__call__" ⟨.ref C :: vs,kw⟩)) (.call (.ref f) ⟨.ref (s.heap.objs.size+1) :: vs,kw⟩) (PySem.W.InitBack (s.heap.objs.size+1) R)
     { s with heap:=(s.heap.push PySem.W.emptyDict).push (PySem.W.instObj C s.heap.objs.size) }) :
   codeAny (model prog w) A (.call (.ref C) ⟨vs,kw⟩) R s:=by
 obtain ⟨hh,g,d,t,os⟩:=s
 exact PySem.W.make_core (PySem.W.makes_of X hm) (PySem.W.looks_findIn X hi) (λself=>PySem.W.bind_fn X self hf) (.inl rfl) h
end

def putF (f:Str) (v:V):List (Str × V)->List (Str × V)
 | []=>[(f,v)]
 | (g,x) :: r=>if g=f then (g,v) :: r else (g,x) :: putF f v r
theorem lookup_putF (f g:Str) (v:V):∀ fs:List (Str × V),(putF f v fs).lookup g=if g=f then some v else fs.lookup g
 | []=>by
   show List.lookup g [(f,v)]=_
   by_cases h:g=f
   · have hb:(g == f)=true:=beq_iff_eq.mpr h
     simp only [List.lookup,hb,if_pos h]
   · have hb:(g == f)=false:=beq_eq_false_iff_ne.mpr h
     simp only [List.lookup,hb,if_neg h]
 | (k,x) :: r=>by
   have ih:=lookup_putF f g v r
   rw [show putF f v ((k,x) :: r)=(if k=f then (k,v) :: r else (k,x) :: putF f v r) from rfl]
   by_cases hk:k=f
   · rw [if_pos hk]
     by_cases h:g=k
     · have hb:(g == k)=true:=beq_iff_eq.mpr h
       simp only [List.lookup,hb,if_pos (h.trans hk)]
     · have hb:(g == k)=false:=beq_eq_false_iff_ne.mpr h
       simp only [List.lookup,hb,if_neg (λe:g=f=>h (e.trans hk.symm))]
   · rw [if_neg hk]
     by_cases h:g=k
     · have hb:(g == k)=true:=beq_iff_eq.mpr h
       simp only [List.lookup,hb,if_neg (λe:g=f=>hk (h.symm.trans e))]
     · have hb:(g == k)=false:=beq_eq_false_iff_ne.mpr h
       simp only [List.lookup,hb]
       exact ih
theorem keys_putF (f:Str) (v:V):∀ fs:List (Str × V),f∈(putF f v fs).map (·.1)/\∀ g,g∈fs.map (·.1)->g∈(putF f v fs).map (·.1)
 | []=>⟨by simp [putF],λg h=>by simp at h⟩
 | (k,x) :: r=>by
   obtain ⟨i1,i2⟩:=keys_putF f v r
   rw [show putF f v ((k,x) :: r)=(if k=f then (k,v) :: r else (k,x) :: putF f v r) from rfl]
   by_cases hk:k=f
   · rw [if_pos hk]
     subst hk
     exact ⟨by simp,λg h=>by simpa using h⟩
   · rw [if_neg hk]
     refine ⟨?_,λg h=>?_⟩
     · rw [List.map_cons]
       exact List.mem_cons_of_mem _ i1
     · rw [List.map_cons] at h ⊢
       rcases List.mem_cons.mp h with e | e
       · exact List.mem_cons.mpr (.inl e)
       · exact List.mem_cons_of_mem _ (i2 g e)
theorem length_putF (f:Str) (v:V):∀ fs:List (Str × V),(putF f v fs).length <= fs.length+1
 | []=>by simp [putF]
 | (k,x) :: r=>by
   have ih:=length_putF f v r
   rw [show putF f v ((k,x) :: r)=(if k=f then (k,v) :: r else (k,x) :: putF f v r) from rfl]
   by_cases hk:k=f
   · rw [if_pos hk,List.length_cons,List.length_cons];omega
   · rw [if_neg hk,List.length_cons,List.length_cons];omega

theorem RelO.some_of {v:V} {o:Option Value} (r:RelO (some v) o):∃ u,o=some u/\RelV v u:=by
 cases o with
 | none=>exact (show False from r).elim
 | some u=>exact ⟨u,rfl,r⟩
theorem RelO.none_of {o:Option Value} (r:RelO none o):o=none:=by
 cases o with
 | none=>rfl
 | some u=>exact (show False from r).elim
theorem handed_of {v:V} {u:Value} (r:RelV v u):PySem.W.handedIn u=true:=by
 cases v with
 | non=>cases (show u=Value.none from r);rfl
 | bl b=>cases (show u=Value.bool b from r);rfl
 | int i=>obtain ⟨t,e⟩:=(show ∃ t,u=Value.int i t from r);cases e;rfl
 | str x=>obtain ⟨t,e⟩:=(show ∃ t,u=Value.str x t from r);cases e;rfl
 | byt b=>obtain ⟨t,e⟩:=(show ∃ t,u=Value.bytes b t from r);cases e;rfl
 | flt b=>obtain ⟨t,e⟩:=(show ∃ t,u=Value.float b t from r);cases e;rfl
 | ref a=>cases (show u=Value.ref a from r);rfl
 | ty n=>cases (show u=Value.type n from r);rfl

section
variable {P:Program} {w:World} {H H':Hp} {h h':Heap} {a C dx:Addr} {fs fs':List (Str × V)}
theorem ins_get (hok:HOk P w H h) (e:H a=some (.ins C dx fs)):∃ mA,ObjM h a dx C mA/\(∀ f,RelO (fs.lookup f) (mA f))/\PySem.Within mA (fs.map (·.1))/\fs.length <= 1000/\H dx=some (.own a):=by
 obtain ⟨d,z,ne,ob,mA,n,r,q⟩:=(show ObjOk P w H h a (.ins C dx fs) from hok a _ e)
 exact ⟨mA,⟨ob,n,ne⟩,r,q,z,d⟩
end

structure Cls (K:PySem.W.Frag) (C:Addr):Prop where
 pg:PySem.W.plainGet K C Str.empty=true
 hd:PySem.W.hasDictIn K C=true
 po:PySem.W.plainOver K C=true
 sa:PySem.W.findIn K (.ref C) "__setattr__"=some (some (.builtin "object.__setattr__"))
theorem Cls.get {K:PySem.W.Frag} {C:Addr} (c:Cls K C) (f:Str):PySem.W.plainGet K C f=true:=c.pg
def NoAttr (K:PySem.W.Frag) (C:Addr) (f:Str):Prop:=PySem.W.findIn K (.ref C) f=some none
theorem NoAttr.taker {K:PySem.W.Frag} {C:Addr} {f:Str} (n:NoAttr K C f):PySem.W.takerIn K C f=some none:=by
 unfold PySem.W.takerIn
 rw [show PySem.W.findIn K (.ref C) f=some none from n]
 rfl
structure Con (K:PySem.W.Frag) (C:Addr) (f:Str) (v:V) (u:Value):Prop where
 at_:PySem.W.findIn K (.ref C) f=some (some u)
 rel:RelV v u
 get:PySem.W.specialIn K u "__get__"=some none
 cp:PySem.W.copiedNames.contains f=false
structure Meth (K:PySem.W.Frag) (C:Addr) (m:Str) (f:Addr):Prop where
 at_:PySem.W.findIn K (.ref C) m=some (some (.ref f))
 fn:PySem.W.isFn K (.ref f)=true
 kp:PySem.W.keepIn K (.ref f)=true

section
variable {X:Cx} {pins:List (Addr × Obj)} {σ:St} {H:Hp} {s:Shared} {a C dx:Addr} {fs:List (Str × V)} {f:Str} {v:V} {A:Around} {E:Value->Shared->Prop}

theorem getattr_ok {b:Bool} {Q:Value->Shared->Prop} (I:Inv X pins σ H s) (e:H a=some (.ins C dx fs)) (c:Cls X.K C) (n:NoAttr X.K C f) (l:fs.lookup f=some v)
   (h:∀ u s',Inv X pins σ H s'->RelV v u->Q u s'):wpAny (model X.prog X.w) A (getAttr (.ref a) f b) Q E s:=by
 obtain ⟨mA,O,r,_,_,_⟩:=ins_get I.hok e
 obtain ⟨u,hu,ru⟩:=RelO.some_of (v:=v) (o:=mA f) (by rw [← l];exact r f)
 exact get_map I.kIn O (c.get f) c.hd n hu (handed_of ru) (h u _ (I.tok _) ru)

theorem getmeth_ok {m:Str} {g:Addr} {pl:Sem Bool} {Q:Value × List Value->Shared->Prop} (I:Inv X pins σ H s) (e:H a=some (.ins C dx fs)) (c:Cls X.K C) (k:Meth X.K C m g) (l:fs.lookup m=none)
   (h:Q (.ref g,[.ref a]) s):wpAny (model X.prog X.w) A (getMethod (.ref a) m pl) Q E s:=by
 obtain ⟨mA,O,r,_,_,_⟩:=ins_get I.hok e
 have hn:mA m=none:=RelO.none_of (by rw [← l];exact r m)
 exact get_meth I.kIn O (c.get m) k.at_ k.fn hn h

theorem setattr_ok {y:V} {u:Value} {Q:Unit->Shared->Prop} (I:Inv X pins σ H s) (e:H a=some (.ins C dx fs)) (c:Cls X.K C) (n:NoAttr X.K C f) (hl:fs.length < 1000) (ry:RelV y u)
   (h:∀ s',Inv X pins σ (upd H a (.ins C dx (putF f y fs))) s'->Q () s'):wpAny (model X.prog X.w) A (setAttr (.ref a) f u) Q E s:=by
 obtain ⟨mA,O,r,wi,_,ho⟩:=ins_get I.hok e
 have hz:(fs.map (·.1)).length <= sizeLine:=by rw [List.length_map,sizeLine_eq];omega
 refine set_map I.kIn O c.sa c.po n.taker c.hd wi hz λh' O' sb=>h _ ?_
 have hd:∃ o,h'.get? dx=some o:=let ⟨o,_,_,e',_⟩:=O'.ns;⟨o,e'⟩
 refine I.write (x:=a) (e:=dx) (by rw [e];exact True.intro) (.inr ho) (λb q hb z=>(sb.2 b hb).trans z) hd ?_
 refine ⟨by rw [upd_ne O.ne];exact ho,?_,O.ne,O'.obj,_,O'.ns,λg=>?_,λg hg=>?_⟩
 · have:=length_putF f y fs;omega
 · show RelO ((putF f y fs).lookup g) (if g=f then some u else mA g)
   rw [lookup_putF]
   by_cases q:g=f
   · rw [if_pos q,if_pos q];exact ry
   · rw [if_neg q,if_neg q];exact r g
 · by_cases q:g=f
   · rw [q];exact (keys_putF f y fs).1
   · refine (keys_putF f y fs).2 g (wi g λz=>hg ?_)
     show (if g=f then some u else mA g)=none
     rw [if_neg q];exact z

theorem Inv.made (I:Inv X pins σ H s):Inv X pins σ (upd (upd H s.heap.objs.size (.own (s.heap.objs.size+1))) (s.heap.objs.size+1) (.ins C s.heap.objs.size []))
   { s with heap:=(s.heap.push PySem.W.emptyDict).push (PySem.W.instObj C s.heap.objs.size) }:=by
 have e1:(s.heap.push PySem.W.emptyDict).get? s.heap.objs.size=some PySem.W.emptyDict:=Heap.get?_push_size s.heap rfl
 have e2:((s.heap.push PySem.W.emptyDict).push (PySem.W.instObj C s.heap.objs.size)).get? (s.heap.objs.size+1)=some (PySem.W.instObj C s.heap.objs.size):=by
   have:=Heap.get?_push_size (s.heap.push PySem.W.emptyDict) (o:=PySem.W.instObj C s.heap.objs.size) rfl
   rwa [Heap.size_push] at this
 have e3:(s.heap.push PySem.W.emptyDict).Ns s.heap.objs.size (λ_=>none):=⟨PySem.W.emptyDict,#[],_,e1,rfl,(λe he=>absurd he (by simp)),λ_=>rfl⟩
 have I1:=I.laid (a:=s.heap.objs.size) (o:=.own (s.heap.objs.size+1)) (h':=s.heap.push PySem.W.emptyDict) (t':=s.toks) (λb u q=>Heap.get?_push_of_some _ q) (Nat.le_refl _) ⟨_,e1⟩
 refine I1.laid (a:=s.heap.objs.size+1) (o:=.ins C s.heap.objs.size []) (t':=s.toks) (λb u q=>Heap.get?_push_of_some _ q) (Nat.le_of_eq (Heap.size_push _ _)) ?_
 have ne:s.heap.objs.size≠s.heap.objs.size+1:=Nat.ne_of_lt (Nat.lt_succ_self _)
 refine ⟨by rw [upd_ne ne,upd_same],Nat.zero_le _,ne,e2,λ_=>none,(Heap.Ns1.of_empty e3).at λo q=>Heap.get?_push_of_some _ q,λ_=>True.intro,λy hy=>absurd rfl hy⟩

theorem attr_of {prog:Program} {w:World} {env:Env} {e:Expr} {f:Str} {pos:Pos} {s:Shared} {Q:Value->Shared->Prop} (hb:attributeBase e f env (eval e env)=eval e env)
   (h:wpAny (model prog w) A (eval e env) (λo s₁=>wpAny (model prog w) A (getAttr o f true) Q E s₁) E s):wpAny (model prog w) A (eval (.Attribute e f pos) env) Q E s :=
 Attribute_any_ h (by rw [arm_eval_Attribute,hb])
end

def tFld (K:PySem.W.Frag) (ta:TE) (f:Str):TE:=λσ H Q=>ta σ H λx H1=>∃ a C dx fs v,x=.ref a/\H1 a=some (.ins C dx fs)/\Cls K C/\NoAttr K C f/\fs.lookup f=some v/\Q v H1
def tCon (K:PySem.W.Frag) (ta:TE) (f:Str):TE:=λσ H Q=>ta σ H λx H1=>∃ a C dx fs v u,x=.ref a/\H1 a=some (.ins C dx fs)/\Cls K C/\Con K C f v u/\fs.lookup f=none/\Q v H1
def sFld (K:PySem.W.Frag) (ta tv:TE) (f:Str):TS:=λD σ H=>tv σ H λy H1=>ta σ H1 λx H2=>∃ a C dx fs,x=.ref a/\H2 a=some (.ins C dx fs)/\Cls K C/\NoAttr K C f/\fs.length < 1000 /\
 D.nx σ (upd H2 a (.ins C dx (putF f y fs)))
def InOp (X:Cx) (op:Operator) (rd:V->V->Hp->VK->Prop):Prop :=
 ∀ (pins:List (Addr × Obj)) (s:Shared) (σ:St) (H:Hp) (x y:V) (u v:Value) (Q:VK),Inv X pins σ H s->RelV x u->RelV y v->rd x y H Q->wpAny (model X.prog X.w) X.A (inplaceOp op u v) (EP X pins σ Q) X.xe s
def sFldAug (K:PySem.W.Frag) (ta tv:TE) (rd:V->V->Hp->VK->Prop) (f:Str):TS:=λD σ H=>ta σ H λx H1=>∃ a C dx fs v,x=.ref a/\H1 a=some (.ins C dx fs)/\Cls K C/\NoAttr K C f/\fs.lookup f=some v /\
 tv σ H1 λy H2=>rd v y H2 λz H3=>∃ dx' fs',H3 a=some (.ins C dx' fs')/\fs'.length < 1000/\D.nx σ (upd H3 a (.ins C dx' (putF f z fs')))

section
variable {X:Cx} {o e value:Expr} {f:Str} {pos pos' tpos:Pos} {ta tv:TE}
theorem pe_fld (he:PE X e ta) (hb:attributeBase e f X.env (eval e X.env)=eval e X.env):PE X (.Attribute e f pos) (tFld X.K ta f):=by
 intro pins s σ H Q I h
 refine attr_of hb (thn (he pins s σ H _ I h) λu s1 ⟨x,H1,I1,rx,a,C,dx,fs,v,ex,ea,c,n,l,q⟩=>?_)
 subst ex
 obtain rfl:u=Value.ref a:=rx
 exact getattr_ok I1 ea c n l λu' s2 I2 ru=>⟨v,H1,I2,ru,q⟩
theorem ps_fld (ha:PE X o ta) (hv:PE X value tv) (hs:swapsWith value (some (.Attribute o f pos')) pos.line X.env=pure false):PS X (.Assign [.Attribute o f pos'] value pos) (sFld X.K ta tv f):=by
 intro pins s σ H D I h
 refine plainObj_wpAny_Assign_Attribute (thn (hv pins s σ H _ I h) λu s1 ⟨y,H1,I1,ry,q⟩=>thn (ha pins s1 σ H1 _ I1 q) λov s2 ⟨x,H2,I2,rx,a,C,dx,fs,ex,ea,c,n,l,q2⟩=>?_) hs
 subst ex
 obtain rfl:ov=Value.ref a:=rx
 exact setattr_ok I2 ea c n l ry λs3 I3=>⟨σ,_,I3,q2⟩
def rAdd:V->V->Hp->VK->Prop:=λx y H Q=>∃ i j,x=.int i/\y=.int j/\Q (.int (i+j)) H
def rSub:V->V->Hp->VK->Prop:=λx y H Q=>∃ i j,x=.int i/\y=.int j/\Q (.int (i - j)) H
end

section
variable {X:Cx} {pins:List (Addr × Obj)} {σ:St} {H:Hp} {s:Shared} {A:Around} {E:Value->Shared->Prop} {Q:Value->Shared->Prop} {c:Value} {b:Bool}
inductive TyOf (K:PySem.W.Frag) (H:Hp):V->Value->Prop where
 | non:TyOf K H .non (.type "NoneType")
 | bl (x:Bool):TyOf K H (.bl x) (.type "bool")
 | int (i:Int):TyOf K H (.int i) (.type "int")
 | str (x:Str):TyOf K H (.str x) (.type "str")
 | flt (x:UInt64):TyOf K H (.flt x) (.type "float")
 | lst {a:Addr} {xs:List V} (e:H a=some (.lst xs)):TyOf K H (.ref a) (.type "list")
 | frz {a:Addr} {o:Obj} {xs:List V} (e:H a=some (.frz o (.lst xs))):TyOf K H (.ref a) (.type "list")
 | tup {a:Addr} {xs:List V} (e:H a=some (.tup xs)):TyOf K H (.ref a) (.type "tuple")
 | dK {a:Addr} {kvs:List (Key × V)} (e:H a=some (.dK kvs)):TyOf K H (.ref a) (.type "dict")
 | dT {a:Addr} {kvs:List (List Key × V)} (e:H a=some (.dT kvs)):TyOf K H (.ref a) (.type "dict")
 | ins {a C dx:Addr} {fs:List (Str × V)} (e:H a=some (.ins C dx fs)) (cl:Cls K C) (ha:PySem.W.findIn K (.ref C) "__class__"=some (some (.builtin "object.__class__")))
     (hn:PySem.W.specialIn K (.builtin "object.__class__") "__get__"=some (some (.builtin "getset_descriptor.__get__"))) (htk:PySem.W.takesIn K (.builtin "object.__class__")=some true)
     (hm:PySem.W.mroIn K C (.type "object")=some true):TyOf K H (.ref a) (.ref C)
theorem isinst_ok {x:V} {u t:Value} (I:Inv X pins σ H s) (rx:RelV x u) (ty:TyOf X.K H x t) (e:PySem.W.kitOne X.K t c=some b) (h:∀ tk,Q (.bool b) { s with toks:=tk }) :
   wpAny (model X.prog X.w) A (call (.builtin "isinstance") [u,c]) Q E s:=by
 cases ty with
 | non=>cases (show u=Value.none from rx);exact PySem.W.kia_one PySem.W.kitx_none I.kIn True.intro e (λz=>nomatch z) h
 | bl y=>cases (show u=Value.bool y from rx);exact PySem.W.kia_one PySem.W.kitx_bool I.kIn True.intro e (λz=>nomatch z) h
 | int i=>obtain ⟨t,q⟩:=(show ∃ t,u=Value.int i t from rx);cases q;exact PySem.W.kia_one PySem.W.kitx_int I.kIn True.intro e (λz=>nomatch z) h
 | str y=>obtain ⟨t,q⟩:=(show ∃ t,u=Value.str y t from rx);cases q;exact PySem.W.kia_one PySem.W.kitx_str I.kIn True.intro e (λz=>nomatch z) h
 | flt y=>obtain ⟨t,q⟩:=(show ∃ t,u=Value.float y t from rx);cases q;exact PySem.W.kia_one PySem.W.kitx_float I.kIn True.intro e (λz=>nomatch z) h
 | @lst a xs ea =>
   cases (show u=Value.ref a from rx)
   obtain ⟨_,_,n,_,h1⟩:=(show ObjOk X.prog X.w H s.heap a (.lst xs) from I.hok a _ ea)
   exact PySem.W.kia_one PySem.W.kitx_list I.kIn ⟨_,h1,rfl⟩ e (λz=>nomatch z) h
 | @frz a ob xs ea =>
   cases (show u=Value.ref a from rx)
   obtain ⟨_,_,_,n,_,h1⟩:=(show ObjOk X.prog X.w H s.heap a (.frz ob (.lst xs)) from I.hok a _ ea)
   exact PySem.W.kia_one PySem.W.kitx_list I.kIn ⟨_,h1,rfl⟩ e (λz=>nomatch z) h
 | @tup a xs ea =>
   cases (show u=Value.ref a from rx)
   obtain ⟨_,_,_,p⟩:=(show ObjOk X.prog X.w H s.heap a (.tup xs) from I.hok a _ ea)
   obtain ⟨o,h1,h2,_⟩:=p
   exact PySem.W.kia_one PySem.W.kitx_tuple I.kIn ⟨o,h1,h2⟩ e (λz=>nomatch z) h
 | @dK a kvs ea =>
   cases (show u=Value.ref a from rx)
   obtain ⟨_,_,vs,_,p⟩:=(show ObjOk X.prog X.w H s.heap a (.dK kvs) from I.hok a _ ea)
   obtain ⟨o,es,ep,h1,h2,_⟩:=p
   exact PySem.W.kia_one PySem.W.kitx_dict I.kIn ⟨o,h1,h2.1⟩ e (λz=>nomatch z) h
 | @dT a kvs ea =>
   cases (show u=Value.ref a from rx)
   obtain ⟨_,_,xs,_,o,es,ep,h1,h2,_⟩:=(show ObjOk X.prog X.w H s.heap a (.dT kvs) from I.hok a _ ea)
   exact PySem.W.kia_one PySem.W.kitx_dict I.kIn ⟨o,h1,h2.1⟩ e (λz=>nomatch z) h
 | @ins a C dx fs ea cl ha hn htk hm =>
   cases (show u=Value.ref a from rx)
   obtain ⟨mA,O,_⟩:=ins_get I.hok ea
   obtain ⟨od,J,_⟩:=O.look
   exact PySem.W.kia_one (PySem.W.kitx_own (cl.get _) cl.hd ha hn htk hm) I.kIn J e (λz=>nomatch z) h
end
end L2

namespace L2
open PySem PySem.Spec PyProof.Rows

structure Room (k:Nat) (A:Around):Prop where
 hd:A.handled=none
 dp:A.depth+3 * k+5 < recursionLimit
 un:A.units+16 * k+200 < cLine
theorem Room.mono {j k:Nat} {A:Around} (r:Room k A) (h:j <= k):Room j A:=⟨r.hd,by have:=r.dp;omega,by have:=r.un;omega⟩
theorem Room.deeper {k:Nat} {A:Around} (r:Room (k+1) A) (env:Env):Room k (A.deeper env) :=
 ⟨r.hd,by have:=r.dp;show A.depth+1+3 * k+5 < _;omega,by have:=r.un;show A.units+3+16 * k+200 < _;omega⟩
theorem Room.in1 {k:Nat} {A:Around} (r:Room (k+1) A):Room k A.in1 :=
 ⟨r.hd,by have:=r.dp;show A.depth+3 * k+5 < _;omega,by have:=r.un;show A.units+1+16 * k+200 < _;omega⟩
theorem make_depth {A:Around} {C:Addr} {us:List Value} {kw:List (Str × Value)}:(A.under (.builtin "type.__call__" ⟨.ref C :: us,kw⟩)).depth=A.depth+1:=by
 first | rfl | simp [Around.under,Code.weight,Code.isCreation,Code.isGuard,Code.isCaller,Code.frames,Code.isFrame,guardIds]
theorem make_units {A:Around} {C:Addr} {us:List Value} {kw:List (Str × Value)}:(A.under (.builtin "type.__call__" ⟨.ref C :: us,kw⟩)).units=A.units+1:=by
 first | rfl | simp [Around.under,Code.cUnits,Code.frames,Code.isFrame]
theorem Room.make {k:Nat} {A:Around} (r:Room (k+1) A) (C:Addr) (us:List Value) (kw:List (Str × Value)):Room k (A.under (.builtin "type.__call__" ⟨.ref C :: us,kw⟩)) :=
 ⟨r.hd,by have:=r.dp;rw [make_depth];omega,by have:=r.un;rw [make_units];omega⟩
theorem Room.depth {k:Nat} {A:Around} (r:Room k A):A.depth < recursionLimit:=by have:=r.dp;omega
theorem Room.units {k:Nat} {A:Around} (r:Room k A):A.units+64 < cLine:=by have:=r.un;omega
def tNil:TA:=λ_ H Q=>Q [] H
def tCons (ta:TE) (tr:TA):TA:=λσ H Q=>ta σ H λx H1=>tr σ H1 λxs H2=>Q (x :: xs) H2
section
variable {X:Cx} {e:Expr} {es:List Expr} {te:TE} {t:TA} {pos:Pos}
theorem pa_nil:PA X [] tNil:=λ_ _ _ _ H Q I h=>Calls.spliced_nil ⟨[],H,I,.nil,h⟩
theorem pa_cons (ha:PE X e te) (hr:PA X es t) (hs:starEach (e :: es) X.env=(false,eval e X.env) :: starEach es X.env:=by rfl):PA X (e :: es) (tCons te t):=by
 intro pos pins s σ H Q I h
 rw [hs]
 show wpAny _ _ (spliced ((false,eval e X.env) :: backTo pos (starEach es X.env))) _ _ s
 refine Calls.spliced_cons (thn (ha pins s σ H _ I h) λu s1 ⟨x,H1,I1,r1,q1⟩=>?_)
 exact thn (hr pos pins s1 σ H1 _ I1 q1) λus s2 ⟨xs,H2,I2,r2,q2⟩=>⟨x :: xs,H2,I2,.cons r1 r2,q2⟩

def tTup (t:TA):TE:=λσ H Q=>t σ H λxs H1=>xs.length <= sizeLine/\∀ p,H1 p=none->Q (.ref p) (upd H1 p (.tup xs))
def tLst (t:TA):TE:=λσ H Q=>t σ H λxs H1=>xs.length <= sizeLine/\∀ p,H1 p=none->Q (.ref p) (upd H1 p (.lst xs))
theorem pe_tup {x1} (h:PA X es t):PE X (.Tuple es x1 pos) (tTup t):=by
 intro pins s σ H Q I hq
 refine wpAny_Tuple_spliced (thn (h pos pins s σ H _ I hq) λus s1 ⟨xs,H1,I1,r,z,q⟩=>⟨by rw [← r.length];exact z,?_⟩)
 have hf:H1 s1.heap.objs.size=none:=I1.hok.fresh (Nat.le_refl _)
 refine ⟨.ref s1.heap.objs.size,upd H1 s1.heap.objs.size (.tup xs),I1.laid (t':=s1.toks) (λb u e=>Heap.get?_push_of_some _ e) (Nat.le_refl _) ?_,rfl,q _ hf⟩
 exact ⟨z,us,r,⟨_,Heap.get?_push_size _ rfl,rfl,_,rfl⟩⟩
theorem pe_lst (h:PA X es t):PE X (.List es pos) (tLst t):=by
 intro pins s σ H Q I hq
 refine wpAny_List_spliced (thn (h pos pins s σ H _ I hq) λus s1 ⟨xs,H1,I1,r,z,q⟩=>⟨by rw [← r.length];exact z,?_⟩)
 have hf:H1 s1.heap.objs.size=none:=I1.hok.fresh (Nat.le_refl _)
 refine ⟨.ref s1.heap.objs.size,upd H1 s1.heap.objs.size (.lst xs),I1.laid (t':=s1.toks) (λb u e=>Heap.get?_push_of_some _ e) (Nat.le_refl _) ?_,rfl,q _ hf⟩
 exact ⟨z,us,0,r,Heap.get?_push_size _ rfl⟩
end

abbrev Sp:=List V->Hp->VK->XK->Prop
abbrev CXT:=List Env->Hp->Shared->XK->Value->Shared->Prop

structure Env0 (P:Program) (w:World) (K:PySem.W.Frag) (mg:Str->Option Value) (base:Heap) (A:Around) (outer:List Env) (s:Shared) (H:Hp):Prop where
 frames:A.frames=some outer
 mod:Mod K mg base
 bs:∀ b o,base.get? b=some o->s.heap.get? b=some o/\H b=none
 bsz:base.objs.size <= s.heap.objs.size
 funs:s.heap.FunFrames base outer
 frf:∀ b∈frs outer,H b=none
 hok:HOk P w H s.heap
 bare:AllBare s.gens
def CE (outer:List Env) (P:Program) (w:World) (H:Hp) (s:Shared) (Q:VK) (u:Value) (s':Shared):Prop :=
 ∃ v H',s'.os=s.os/\AllBare s'.gens/\Un (frs outer) [] H H' s.heap s'.heap/\HOk P w H' s'.heap/\RelV v u/\Q v H'
def CR (CX:CXT) (outer:List Env) (P:Program) (w:World) (H:Hp) (s:Shared) (Q:VK) (E:XK) (r:Result) (s':Shared):Prop :=
 match r with
 | .ok (.ret u)=>CE outer P w H s Q u s'
 | .ok _=>False
 | .error e=>CX outer H s E e s'
structure FnOk (P:Program) (w:World) (K:PySem.W.Frag) (mg:Str->Option Value) (base:Heap) (CX:CXT) (k:Nat) (f:Addr) (fd:FuncData) (ps:List Str) (sp:Sp):Prop where
 len:∀ vs H Q E,sp vs H Q E->vs.length=ps.length
 run:∀ (A:Around) (outer:List Env) (s:Shared) (H:Hp) (args:Args) (us:List Value) (vs:List V) (Q:VK) (E:XK),Room k A->Env0 P w K mg base A outer s H->BindsTo s fd args (ps.zip us)->Vals vs us->sp vs H Q E ->
   codeAny (model P w) A (.call (.ref f) args) (CR CX outer P w H s Q E) s
theorem FnOk.mono {P:Program} {w:World} {K:PySem.W.Frag} {mg:Str->Option Value} {base:Heap} {CX:CXT} {j k:Nat} {f:Addr} {fd:FuncData} {ps:List Str} {sp:Sp} (F:FnOk P w K mg base CX j f fd ps sp) (h:j <= k) :
   FnOk P w K mg base CX k f fd ps sp:=⟨F.len,λA outer s H args us vs Q E hr=>F.run A outer s H args us vs Q E (hr.mono h)⟩
theorem FnOk.imp {P:Program} {w:World} {K:PySem.W.Frag} {mg:Str->Option Value} {base:Heap} {CX:CXT} {k:Nat} {f:Addr} {fd:FuncData} {ps:List Str} {sp sp':Sp} (F:FnOk P w K mg base CX k f fd ps sp)
   (h:∀ vs H Q E,sp' vs H Q E->sp vs H Q E):FnOk P w K mg base CX k f fd ps sp' :=
 ⟨λvs H Q E q=>F.len vs H Q E (h _ _ _ _ q),λA outer s H args us vs Q E hr he hb hv hs=>F.run A outer s H args us vs Q E hr he hb hv (h _ _ _ _ hs)⟩

theorem Env0.make {P:Program} {w:World} {K:PySem.W.Frag} {mg:Str->Option Value} {base:Heap} {A:Around} {outer:List Env} {s:Shared} {H:Hp} (e:Env0 P w K mg base A outer s H) (C:Addr) (us:List Value) (kw:List (Str × Value)) :
   Env0 P w K mg base (A.under (.builtin "type.__call__" ⟨.ref C :: us,kw⟩)) outer s H:=⟨by first | exact e.frames | (simpa [Around.under,Code.envs,Code.isFrame,pushEnvs] using e.frames),e.mod,e.bs,e.bsz,e.funs,e.frf,e.hok,e.bare⟩
theorem Env0.in1 {P:Program} {w:World} {K:PySem.W.Frag} {mg:Str->Option Value} {base:Heap} {A:Around} {outer:List Env} {s:Shared} {H:Hp} (e:Env0 P w K mg base A outer s H) :
   Env0 P w K mg base A.in1 outer s H:=⟨e.frames,e.mod,e.bs,e.bsz,e.funs,e.frf,e.hok,e.bare⟩

section
variable {X:Cx} {pins:List (Addr × Obj)} {σ:St} {H:Hp} {s s':Shared}
theorem Inv.env0 (I:Inv X pins σ H s):Env0 X.prog X.w X.K X.mg X.base X.A X.stack s H :=
 ⟨I.ok.frames,I.ok.mod,I.bs,Nat.le_trans I.ok.bsz I.sz,I.stack,I.stkFree,I.hok,I.bare⟩
theorem Inv.after {Q:VK} {u:Value} (I:Inv X pins σ H s) (h:CE X.stack X.prog X.w H s Q u s'):EP X pins σ Q u s':=by
 obtain ⟨v,H',os,bare,un,hok,r,q⟩:=h
 obtain ⟨hh,g,d,t,os'⟩:=s'
 obtain rfl:os'=s.os:=os
 exact ⟨v,H',I.call (h':=hh) (g':=g) (d':=d) (t':=t) (ch:=[]) un hok bare (λb z=>absurd z (by simp)),r,q⟩
end

def tCall (sp:Sp) (dvs:List V) (E:XK) (t:TA):TE:=λσ H Q=>t σ H λvs H1=>sp (vs++dvs) H1 Q E
def tMeth (C:Addr) (m:Str) (sp:Sp) (dvs:List V) (E:XK) (ta:TE) (t:TA):TE:=λσ H Q=>ta σ H λx H1=>∃ a dx fs,x=.ref a/\H1 a=some (.ins C dx fs)/\fs.lookup m=none /\
 t σ H1 λvs H2=>sp (x :: (vs++dvs)) H2 Q E
def tMake (C:Addr) (sp:Sp) (dvs:List V) (E:XK) (t:TA):TE:=λσ H Q=>t σ H λvs H1=>∀ x dx,H1 x=none->H1 dx=none->dx≠x ->
 sp (.ref x :: (vs++dvs)) (upd (upd H1 dx (.own x)) x (.ins C dx [])) (λv H2=>v=.non/\Q (.ref x) H2) E

def Binds (K:PySem.W.Frag) (fd:FuncData) (ps:List Str) (ds:List Value):Prop :=
 ∀ (s:Shared) (us:List Value),K.In s.heap->(us++ds).length=ps.length->BindsTo s fd ⟨us,[]⟩ (ps.zip (us++ds))
theorem Binds.all {K:PySem.W.Frag} {fd:FuncData} {ps:List Str} (h:∀ us:List Value,us.length=ps.length->bindArgs fd ⟨us,[]⟩=pure (ps.zip us)):Binds K fd ps []:=λs us _ hl=>by
 rw [List.append_nil] at hl ⊢
 exact .of_eq (h us hl)

def Passes (CX:CXT) (X:Cx) (E:XK):Prop:=∀ (pins:List (Addr × Obj)) (σ:St) (H:Hp) (s:Shared) (e:Value) (s':Shared),Inv X pins σ H s->CX X.stack H s E e s'->X.xe e s'

section
variable {X:Cx} {CX:CXT} {k:Nat} {f C:Addr} {fd:FuncData} {ps:List Str} {sp:Sp} {dvs:List V} {ds:List Value} {E:XK} {x m:Str} {p pos apos:Pos} {e o:Expr} {es:List Expr} {ta:TE} {t:TA}

theorem run_fn {pins:List (Addr × Obj)} {σ:St} {H:Hp} {s:Shared} {Q:VK} {us:List Value} {vs:List V} (F:FnOk X.prog X.w X.K X.mg X.base CX k f fd ps sp) (hr:Room k X.A) (hb:Binds X.K fd ps ds) (hd:Vals dvs ds) (hx:Passes CX X E)
   (I:Inv X pins σ H s) (r:Vals vs us) (h:sp (vs++dvs) H Q E):wpAny (model X.prog X.w) X.A (call (.ref f) us) (EP X pins σ Q) X.xe s:=by
 have r2:Vals (vs++dvs) (us++ds):=r.append hd
 have hl:(us++ds).length=ps.length:=by rw [← r2.length];exact F.len _ _ _ _ h
 refine wpAny_call (codeAny_mono (F.run X.A X.stack s H ⟨us,[]⟩ (us++ds) (vs++dvs) Q E hr I.env0 (hb s us I.kIn hl) r2 h) λr s' hq=>?_)
 cases r with
 | error e=>exact hx pins σ H s e s' I hq
 | ok fl =>
   cases fl with
   | ret u=>exact I.after hq
   | next=>exact False.elim hq
   | brk=>exact False.elim hq
   | cont=>exact False.elim hq

theorem pe_call (F:FnOk X.prog X.w X.K X.mg X.base CX k f fd ps sp) (hr:Room k X.A) (hg:Gl X x) (hm:X.mg x=some (.ref f)) (hk:PySem.W.keepIn X.K (.ref f)=true) (hb:Binds X.K fd ps ds) (hd:Vals dvs ds) (hx:Passes CX X E)
   (ha:PA X (e :: es) t) (hdb:(x == ("__debug__":Str))=false:=by decide) (he:starEach (e :: es) X.env=(false,eval e X.env) :: starEach es X.env:=by rfl) (hpl:(backTo pos (starEach es X.env)).any (·.1)=false:=by rfl) :
   PE X (.Call (.Name x p) (e :: es) [] pos) (tCall sp dvs E t):=by
 intro pins s σ H Q I h
 refine wpAny_Call_Name_kw (ld_glob I hg hm ?_ hdb)
 refine PySem.W.callWith_K (h₀:=X.base) I.ok.mod.kin hk (thn (ha pos pins s σ H _ I h) λus s1 ⟨vs,H1,I1,r,q⟩=>⟨I1.kIn,?_⟩) he hpl
 exact run_fn F hr hb hd hx I1 r q
theorem pe_meth {pl:Sem Bool} (he:PE X o ta) (c:Cls X.K C) (hm:Meth X.K C m f) (F:FnOk X.prog X.w X.K X.mg X.base CX k f fd ps sp) (hr:Room k X.A) (hb:Binds X.K fd ps ds) (hd:Vals dvs ds) (hx:Passes CX X E) (ha:PA X (e :: es) t)
   (hst:starEach (e :: es) X.env=(false,eval e X.env) :: starEach es X.env:=by rfl) (hpl:(backTo pos (starEach es X.env)).any (·.1)=false:=by rfl)
   (ht:eval (.Call (.Attribute o m apos) (e :: es) [] pos) X.env=(do
     let ov ← eval o X.env
     standAt apos.atName
     let (f,first) ← holding [ov] (getMethod ov m pl)
     callWith pos f first (backTo pos (starEach (e :: es) X.env)) (backToKw pos (keywordEach [] X.env))):=by rfl) :
   PE X (.Call (.Attribute o m apos) (e :: es) [] pos) (tMeth C m sp dvs E ta t):=by
 intro pins s σ H Q I h
 refine PySem.W.methodCall_KW (pl:=pl) (thn (he pins s σ H _ I h) λu s1 ⟨x,H1,I1,rx,a,dx,fs,ex,ea,l,q⟩=>?_) ht
 subst ex
 obtain rfl:u=Value.ref a:=rx
 refine getmeth_ok I1 ea c hm l ?_
 refine PySem.W.callWith_K (first:=[.ref a]) (h₀:=X.base) I.ok.mod.kin hm.kp (thn (ha pos pins s1 σ H1 _ I1 q) λus s2 ⟨vs,H2,I2,r,q2⟩=>⟨I2.kIn,?_⟩) hst hpl
 exact run_fn (us:=.ref a :: us) (vs:=.ref a :: vs) F hr hb hd hx I2 (.cons rfl r) q2
theorem pe_meth0 {pl:Sem Bool} (he:PE X o ta) (c:Cls X.K C) (hm:Meth X.K C m f) (F:FnOk X.prog X.w X.K X.mg X.base CX k f fd ps sp) (hr:Room k X.A) (hb:Binds X.K fd ps ds) (hd:Vals dvs ds) (hx:Passes CX X E)
   (ht:eval (.Call (.Attribute o m apos) [] [] pos) X.env=(do
     let ov ← eval o X.env
     standAt apos.atName
     let (f,first) ← holding [ov] (getMethod ov m pl)
     callWith pos f first (backTo pos (starEach [] X.env)) (backToKw pos (keywordEach [] X.env))):=by rfl) :
   PE X (.Call (.Attribute o m apos) [] [] pos) (tMeth C m sp dvs E ta tNil):=by
 intro pins s σ H Q I h
 refine PySem.W.methodCall_KW (pl:=pl) (thn (he pins s σ H _ I h) λu s1 ⟨x,H1,I1,rx,a,dx,fs,ex,ea,l,q⟩=>?_) ht
 subst ex
 obtain rfl:u=Value.ref a:=rx
 refine getmeth_ok I1 ea c hm l ?_
 exact PySem.W.callWith_K0 (first:=[.ref a]) I1.kIn hm.kp (run_fn (us:=[.ref a]) (vs:=[.ref a]) F hr hb hd hx I1 (.cons rfl .nil) q)

structure Mk (K:PySem.W.Frag) (C f:Addr):Prop where
 makes:PySem.W.makesIn K C=true
 init:PySem.W.findIn K (.ref C) "__init__"=some (some (.ref f))
 fn:PySem.W.isFn K (.ref f)=true
 kp:PySem.W.keepIn K (.ref C)=true

theorem run_make {pins:List (Addr × Obj)} {σ:St} {H:Hp} {s:Shared} {Q:VK} {us:List Value} {vs:List V} (M:Mk X.K C f) (F:FnOk X.prog X.w X.K X.mg X.base CX k f fd ps sp) (hr:Room (k+1) X.A) (hb:Binds X.K fd ps ds) (hd:Vals dvs ds)
   (hx:Passes CX X E) (I:Inv X pins σ H s) (r:Vals vs us)
   (h:∀ x dx,H x=none->H dx=none->dx≠x->sp (.ref x :: (vs++dvs)) (upd (upd H dx (.own x)) x (.ins C dx [])) (λv H2=>v=.non/\Q (.ref x) H2) E) :
   wpAny (model X.prog X.w) X.A (call (.ref C) us) (EP X pins σ Q) X.xe s:=by
 have hq:=h (s.heap.objs.size+1) s.heap.objs.size (I.hok.fresh (Nat.le_succ _)) (I.hok.fresh (Nat.le_refl _)) (Nat.ne_of_lt (Nat.lt_succ_self _))
 have I2:=Inv.made (C:=C) I
 have r2:Vals (V.ref (s.heap.objs.size+1) :: (vs++dvs)) (Value.ref (s.heap.objs.size+1) :: (us++ds)):=.cons rfl (r.append hd)
 have hl:(Value.ref (s.heap.objs.size+1) :: us++ds).length=ps.length:=by
   have e:=r2.length
   rw [F.len _ _ _ _ hq] at e
   exact e.symm
 refine wpAny_call (make_map (f:=f) I.kIn M.makes M.init (beq_iff_eq.mp M.fn) (codeAny_mono (F.run _ X.stack _ _ ⟨Value.ref (s.heap.objs.size+1) :: us,[]⟩ (Value.ref (s.heap.objs.size+1) :: (us++ds)) _ _ E (hr.make C us [])
   (I2.env0.make C us []) (hb _ (Value.ref (s.heap.objs.size+1) :: us) I2.kIn hl) r2 hq) λr s' hq'=>?_))
 cases r with
 | error e=>exact hx pins σ _ _ e s' I2 hq'
 | ok fl =>
   cases fl with
   | ret u =>
     obtain ⟨v,H',I3,rv,ev,q3⟩:=I2.after hq'
     subst ev
     exact ⟨rv,⟨V.ref (s.heap.objs.size+1),H',I3,rfl,q3⟩⟩
   | next=>exact False.elim hq'
   | brk=>exact False.elim hq'
   | cont=>exact False.elim hq'
theorem pe_make (M:Mk X.K C f) (F:FnOk X.prog X.w X.K X.mg X.base CX k f fd ps sp) (hr:Room (k+1) X.A) (hg:Gl X x) (hm:X.mg x=some (.ref C)) (hb:Binds X.K fd ps ds) (hd:Vals dvs ds) (hx:Passes CX X E)
   (ha:PA X (e :: es) t) (hdb:(x == ("__debug__":Str))=false:=by decide) (he:starEach (e :: es) X.env=(false,eval e X.env) :: starEach es X.env:=by rfl) (hpl:(backTo pos (starEach es X.env)).any (·.1)=false:=by rfl) :
   PE X (.Call (.Name x p) (e :: es) [] pos) (tMake C sp dvs E t):=by
 intro pins s σ H Q I h
 refine wpAny_Call_Name_kw (ld_glob I hg hm ?_ hdb)
 refine PySem.W.callWith_K (h₀:=X.base) I.ok.mod.kin M.kp (thn (ha pos pins s σ H _ I h) λus s1 ⟨vs,H1,I1,r,q⟩=>⟨I1.kIn,?_⟩) he hpl
 exact run_make M F hr hb hd hx I1 r q
theorem pe_make0 (M:Mk X.K C f) (F:FnOk X.prog X.w X.K X.mg X.base CX k f fd ps sp) (hr:Room (k+1) X.A) (hg:Gl X x) (hm:X.mg x=some (.ref C)) (hb:Binds X.K fd ps ds) (hd:Vals dvs ds) (hx:Passes CX X E)
   (hdb:(x == ("__debug__":Str))=false:=by decide):PE X (.Call (.Name x p) [] [] pos) (tMake C sp dvs E tNil):=by
 intro pins s σ H Q I h
 refine wpAny_Call_Name_kw (ld_glob I hg hm ?_ hdb)
 exact PySem.W.callWith_K0 I.kIn M.kp (run_make (us:=[]) M F hr hb hd hx I .nil h)
end

def PK (X:Cx) (kws:List Keyword) (t:TA):Prop :=
 ∀ (pos:Pos) (pins:List (Addr × Obj)) (s:Shared) (σ:St) (H:Hp) (Q:List V->Hp->Prop),Inv X pins σ H s->t σ H Q->wpAny (model X.prog X.w) X.A (evalAll ((backToKw pos (keywordEach kws X.env)).map (·.2))) (AP X pins σ Q) X.xe s
section
variable {X:Cx} {CX:CXT} {k:Nat} {f C:Addr} {fd:FuncData} {ps ks:List Str} {sp:Sp} {E:XK} {x m:Str} {p pos apos kpos:Pos} {e o:Expr} {es:List Expr} {kws:List Keyword} {te ta:TE} {t tk:TA} {nm:Option Str}
structure KBinds (K:PySem.W.Frag) (fd:FuncData) (ps ks:List Str) (g:List Value->List Value->List Value) (gV:List V->List V->List V):Prop where
 to:∀ (s:Shared) (us ws:List Value),K.In s.heap->(g us ws).length=ps.length->BindsTo s fd ⟨us,ks.zip ws⟩ (ps.zip (g us ws))
 rel:∀ {vs:List V} {us:List Value} {zs:List V} {ws:List Value},Vals vs us->Vals zs ws->Vals (gV vs zs) (g us ws)
def tCallK (sp:Sp) (gV:List V->List V->List V) (E:XK) (t tk:TA):TE:=λσ H Q=>t σ H λvs H1=>tk σ H1 λzs H2=>sp (gV vs zs) H2 Q E
variable {g:List Value->List Value->List Value} {gV:List V->List V->List V}
end

structure FnScope (N P:List Str) (sc:Scope):Prop where
 kind:sc.kind=.function
 co:sc.isCoroutine=false
 gen:sc.isGenerator=false
 nd:N.Nodup
 pre:N.take P.length=P
 par:∀ x∈P,sc.names.lookup x=some .local\/sc.names.lookup x=some .cell
 nofree:∀ y∈sc.names,y.2≠.free

theorem bindL_out {kindOf:Str->Option NameKind} {x:Str}:∀ {binds:List (Str × Value)} {m:Str->Option Value},(∀ v,(x,v) ∉ binds)->bindL kindOf binds m x=m x
 | [],_,_=>rfl
 | (n,v) :: r,m,h=>by
   unfold bindL
   rw [bindL_out λw hw=>h w (List.mem_cons_of_mem _ hw)]
   split
   · have:x≠n:=by rintro rfl;exact h v List.mem_cons_self
     simp [this]
   · rfl
theorem bindC_out {kindOf:Str->Option NameKind} {x:Str}:∀ {binds:List (Str × Value)} {m:Str->Option Value},(∀ v,(x,v) ∉ binds)->bindC kindOf binds m x=m x
 | [],_,_=>rfl
 | (n,v) :: r,m,h=>by
   unfold bindC
   rw [bindC_out λw hw=>h w (List.mem_cons_of_mem _ hw)]
   split
   · rfl
   · have:x≠n:=by rintro rfl;exact h v List.mem_cons_self
     simp [this]
theorem bindL_get {kindOf:Str->Option NameKind} {x:Str} {v:Value}:∀ {P:List Str} {vs:List Value} {i:Nat} {m:Str->Option Value},P.Nodup->P[i]?=some x->vs[i]?=some v->kindOf x=some .local ->
   bindL kindOf (P.zip vs) m x=some v
 | [],_,_,_,_,h,_,_=>by simp at h
 | _ :: _,[],_,_,_,_,h,_=>by simp at h
 | p :: P,w :: vs,0,m,nd,h1,h2,hk=>by
   simp at h1 h2;subst h1;subst h2
   show bindL kindOf ((p,w) :: P.zip vs) m p=_
   unfold bindL
   rw [bindL_out λv hv=>(List.nodup_cons.mp nd).1 (List.of_mem_zip hv).1,if_pos hk]
   simp
 | p :: P,w :: vs,i+1,m,nd,h1,h2,hk=>by
   show bindL kindOf ((p,w) :: P.zip vs) m x=_
   unfold bindL
   exact bindL_get (i:=i) (List.nodup_cons.mp nd).2 (by simpa using h1) (by simpa using h2) hk
theorem bindC_get {kindOf:Str->Option NameKind} {x:Str} {v:Value}:∀ {P:List Str} {vs:List Value} {i:Nat} {m:Str->Option Value},P.Nodup->P[i]?=some x->vs[i]?=some v->kindOf x≠some .local ->
   bindC kindOf (P.zip vs) m x=some v
 | [],_,_,_,_,h,_,_=>by simp at h
 | _ :: _,[],_,_,_,_,h,_=>by simp at h
 | p :: P,w :: vs,0,m,nd,h1,h2,hk=>by
   simp at h1 h2;subst h1;subst h2
   show bindC kindOf ((p,w) :: P.zip vs) m p=_
   unfold bindC
   rw [bindC_out λv hv=>(List.nodup_cons.mp nd).1 (List.of_mem_zip hv).1,if_neg hk]
   simp
 | p :: P,w :: vs,i+1,m,nd,h1,h2,hk=>by
   show bindC kindOf ((p,w) :: P.zip vs) m x=_
   unfold bindC
   exact bindC_get (i:=i) (List.nodup_cons.mp nd).2 (by simpa using h1) (by simpa using h2) hk

def start (N:List Str) (vs:List V):St:=vs.map some++List.replicate (N.length - vs.length) none

def cxOf (CX:CXT) (P:Program) (w:World) (K:PySem.W.Frag) (mg:Str->Option Value) (base:Heap) (N:List Str) (qual:Str) (scope:Scope) (f:Addr) (cd:Value) (A:Around) (outer:List Env) (s:Shared) (H:Hp) (E:XK):Cx where
 prog:=P
 w:=w
 K:=K
 mg:=mg
 base:=base
 A:=A.deeper (envOfC qual scope s.heap.objs.size f cd)
 N:=N
 s₀:=s
 H₀:=H
 env:=envOfC qual scope s.heap.objs.size f cd
 outer:=outer
 stack:=envOfC qual scope s.heap.objs.size f cd :: outer
 ex:=[]
 calm:=true
 fn:=λ_=>true
 pn:=[]
 xe:=λe s'=>wpAny (model P w) (A.deeper (envOfC qual scope s.heap.objs.size f cd)) (leaving (envOfC qual scope s.heap.objs.size f cd) e) (λ_ s''=>CX outer H s E e s'') (λe' s''=>CX outer H s E e' s'') s'

theorem cell_has {sc:Scope} {n:Nat} {x:Str} (h:sc.names.lookup x=some .cell):∃ c,(cellsFrom n sc.names []).lookup x=some c:=by
 have q:=PySem.W.cellsFrom_some sc.names n [] (.inl h)
 exact Option.isSome_iff_exists.mp q

theorem inv_start {CX:CXT} {P:Program} {w:World} {K:PySem.W.Frag} {mg:Str->Option Value} {base:Heap} {N ps:List Str} {qual:Str} {scope:Scope} {f:Addr} {cd:Value} {A:Around} {outer:List Env} {s s1:Shared} {H:Hp} {E:XK} {us:List Value} {vs:List V}
   (S:FnScope N ps scope) (hd:A.handled=none) (e0:Env0 P w K mg base A outer s H) (hl:vs.length=ps.length) (r:Vals vs us)
   (x:InCallC s s.heap.objs.size (bindL (envOfC qual scope s.heap.objs.size f cd).kindOf (ps.zip us) λ_=>none) (cellsFrom (s.heap.objs.size+1) scope.names []) (bindC (envOfC qual scope s.heap.objs.size f cd).kindOf (ps.zip us) λ_=>none) s1) :
   Inv (cxOf CX P w K mg base N qual scope f cd A outer s H E) [] (start N vs) H s1:=by
 have hpl:ps.length <= N.length:=by have:=congrArg List.length S.pre;rw [List.length_take] at this;omega
 obtain ⟨h1,tk,rfl,hk⟩:=x.done
 have noA:∀ b:Addr,b ∉ (cxOf CX P w K mg base N qual scope f cd A outer s H E).ex:=λb z=>absurd (show b∈([]:List Addr) from z) (by simp)
 refine ⟨⟨e0.mod,S.kind,rfl,rfl,Nat.le_refl _,λy z c h1 h2=>?_,λy hy=>?_,λy c _ h=>?_,λ_=>hd,Around.frames_deeper e0.frames,.inr ⟨rfl,rfl⟩,λb z=>absurd z (noA b),e0.bs,e0.bsz,λb _ _=>noA b,λb z=>absurd z (noA b),e0.funs,e0.frf⟩,
   rfl,e0.bare,Un.kept hk,⟨_,x.toInCall.ns,λi y v h1 h2 h3=>?_⟩,λy c h=>⟨_,x.cell y c h⟩,e0.hok.fresh (Nat.le_refl _),λy c h=>?_,λp hp=>absurd (show p∈([]:List (Addr × Obj)) from hp) (by simp),e0.hok.kept hk,?_⟩
 · exact name_of_addr x.apart (PySem.mem_of_lookup h1) (PySem.mem_of_lookup h2)
 · have hy:scope.names.lookup y=some .cell\/scope.names.lookup y=some .free:=hy
   rcases hy with hy | hy
   · exact cell_has hy
   · exact absurd rfl (S.nofree _ (PySem.mem_of_lookup hy))
 · exact Nat.le_of_lt (x.above y c (PySem.mem_of_lookup h))
 · have hi:i < vs.length:=by
     unfold start at h2
     by_cases hi:i < vs.length
     · exact hi
     · rw [List.getElem?_append_right (by simpa using hi)] at h2
       rw [List.getElem?_replicate] at h2
       split at h2<;>cases h2
   have ha:vs[i]?=some v:=by
     unfold start at h2
     rw [List.getElem?_append_left (by simpa using hi),List.getElem?_map] at h2
     cases e:vs[i]? with
     | none=>rw [e] at h2;cases h2
     | some a=>rw [e] at h2;cases h2;rfl
   obtain ⟨u,hu,rv⟩:=r.get ha
   have hp:ps[i]?=some y:=by
     rw [← S.pre,List.getElem?_take_of_lt (by omega)];exact h1
   have ndP:ps.Nodup:=by rw [← S.pre];exact S.nd.sublist (List.take_sublist _ _)
   refine ⟨u,rv,?_⟩
   rcases S.par y (List.mem_of_getElem? hp) with k | k
   · exact .inl ⟨k,bindL_get ndP hp hu k⟩
   · obtain ⟨c,e⟩:=cell_has (n:=s.heap.objs.size+1) k
     refine .inr ⟨.inl k,c,e,?_⟩
     have q:=x.cell y c e
     rw [bindC_get ndP hp hu (by show scope.names.lookup y≠_;rw [k];decide)] at q
     exact q
 · exact e0.hok.fresh (Nat.le_of_lt (x.above y c (PySem.mem_of_lookup h)))
 · unfold start
   show _=N.length
   rw [List.length_append,List.length_map,List.length_replicate]
   omega

theorem fn_of {CX:CXT} {P:Program} {w:World} {K:PySem.W.Frag} {mg:Str->Option Value} {base:Heap} {k:Nat} {f:Addr} {name qual:Str} {params:Arguments} {body:List Stmt} {scope:Scope} {dV kV doc pm cdv ct oc:Value} {an od:Option Addr}
   {osl:Array (Option Value)} {N ps:List Str} {sp:Sp} (lk:K.lookup f=some ⟨oc,od,.func (PySem.W.fnOf name qual params body scope dV kV doc pm an cdv ct),osl⟩) (hcd:PySem.W.codeIn K cdv qual=true) (S:FnScope N ps scope)
   (len:∀ vs H Q E,sp vs H Q E->vs.length=ps.length)
   (hbody:∀ (A:Around) (outer:List Env) (s:Shared) (H:Hp) (vs:List V) (Q:VK) (E:XK),Room k (A.deeper (envOfC qual scope s.heap.objs.size f cdv))->sp vs H Q E ->
     ∃ t,PSs (cxOf CX P w K mg base N qual scope f cdv A outer s H E) body t/\t { nx:=λ_ H'=>Q .non H',rt:=Q } (start N vs) H) :
   FnOk P w K mg base CX (k+1) f (PySem.W.fnOf name qual params body scope dV kV doc pm an cdv ct) ps sp:=by
 refine ⟨len,λA outer s H args us vs Q E hr e0 hb r hsp=>?_⟩
 have hl:=len _ _ _ _ hsp
 have KX:K.In s.heap:=e0.mod.kin.keeps λb o e=>(e0.bs b o e).1
 have lim:s.heap.NoLimit:=e0.mod.nolimit.keeps λb o e=>(e0.bs b o e).1
 have hkind:∀ y∈ps.zip us,scope.names.lookup y.1=some .local\/(scope.names.lookup y.1=some .cell/\((cellsFrom (s.heap.objs.size+1) scope.names []).lookup y.1).isSome=true):=λ⟨n,v⟩ hy=>by
   rcases S.par n (List.of_mem_zip hy).1 with q | q
   · exact .inl q
   · exact .inr ⟨q,PySem.W.cellsFrom_some _ _ _ (.inl q)⟩
 refine codeAny_call_function hr.depth (KX _ _ lk) rfl S.co S.gen rfl (PySem.W.codeRec_of KX hcd) (hb _ _ _ _ ?_)
 refine wpAny_newFunctionEnv_cells S.kind hkind λenv he s1 x=>?_
 subst he
 refine ⟨lim.keeps x.toInCall.keep,codeAny_func ?_⟩
 obtain ⟨t,ht,hq⟩:=hbody A outer s H vs Q E (hr.deeper _) hsp
 have I:Inv (cxOf CX P w K mg base N qual scope f cdv A outer s H E) [] (start N vs) H s1:=inv_start S hr.hd e0 hl r x
 refine wpAny_mono (ht [] s1 (start N vs) H _ I hq) (λfl s' hs=>?_) λe s' hs=>hs
 have fin:∀ {σ':St} {H':Hp} {v:V} {u:Value},Inv (cxOf CX P w K mg base N qual scope f cdv A outer s H E) [] σ' H' s'->RelV v u->Q v H'->CE outer P w H s Q u s' :=
   λ{σ' H' v u} J rv q=>⟨v,H',J.os,J.bare,J.base,J.hok,rv,q⟩
 cases fl with
 | ret u =>
   obtain ⟨v,σ',H',J,rv,q⟩:=hs
   exact fin J rv q
 | next =>
   obtain ⟨σ',H',J,q⟩:=hs
   exact fin (v:=V.non) (u:=Value.none) J rfl q
 | brk =>
   obtain ⟨_,_,_,q⟩:=hs
   exact False.elim q
 | cont =>
   obtain ⟨_,_,_,q⟩:=hs
   exact False.elim q
end L2

namespace L2
open PySem PySem.Spec PyProof.Rows
section
variable {X:Cx} {x:Str} {p pos:Pos} {e:Expr} {es:List Expr} {t:TA} {id T:String} {r:List V->Hp->VK->Prop}

def tCB (r:List V->Hp->VK->Prop) (t:TA):TE:=λσ H Q=>t σ H λvs H1=>r vs H1 Q
theorem pe_callB (hc:CallR X (.builtin id) r) (hg:Gl X x) (hm:X.mg x=none) (hv:bootBuiltins x=some (.builtin id)) (ha:PA X (e :: es) t) (hn:x≠"__name__":=by decide) (hdb:(x == ("__debug__":Str))=false:=by decide)
   (he:starEach (e :: es) X.env=(false,eval e X.env) :: starEach es X.env:=by rfl) (hpl:(backTo pos (starEach es X.env)).any (·.1)=false:=by rfl):PE X (.Call (.Name x p) (e :: es) [] pos) (tCB r t):=by
 intro pins s σ H Q I h
 refine wpAny_Call_Name_kw (ld_blt I hg hm hv ?_ hn hdb)
 exact PyProof.Rows.callWith_builtin1 (thn (ha pos pins s σ H _ I h) λus s1 ⟨vs,H1,I1,r1,q1⟩=>hc pins s1 σ H1 vs us Q I1 r1 q1) he hpl
theorem pe_callTy (hc:CallR X (.type T) r) (hg:Gl X x) (hm:X.mg x=none) (hv:bootBuiltins x=some (.type T)) (ha:PA X (e :: es) t) (hn:x≠"__name__":=by decide) (hdb:(x == ("__debug__":Str))=false:=by decide)
   (he:starEach (e :: es) X.env=(false,eval e X.env) :: starEach es X.env:=by rfl) (hpl:(backTo pos (starEach es X.env)).any (·.1)=false:=by rfl):PE X (.Call (.Name x p) (e :: es) [] pos) (tCB r t):=by
 intro pins s σ H Q I h
 refine wpAny_Call_Name_kw (ld_blt I hg hm hv ?_ hn hdb)
 exact PyProof.Rows.callWith_type1 (thn (ha pos pins s σ H _ I h) λus s1 ⟨vs,H1,I1,r1,q1⟩=>hc pins s1 σ H1 vs us Q I1 r1 q1) he hpl
end
end L2

namespace HT
open PySem PyProof.Rows

def lexLt:List Int->List Int->Bool
 | [],[]=>false
 | [],_ :: _=>true
 | _ :: _,[]=>false
 | x :: xs,y :: ys=>if x=y then lexLt xs ys else decide (x < y)
section
open PySem.SeqAt
open PySem.AutoSeq1 (wpAny_loadPart')
open PySem.MeetsSeq PySem.MeetsSeq2 PySem.MeetsSeq3

end

section
variable {prog:Program} {w:World} {A:Around} {E:Value->Shared->Prop} {s:Shared}

def sIx (n d:Nat):Option Int->Nat
 | none=>d
 | some v=>if v < 0 then (v+(n:Int)).toNat else min v.toNat n
theorem sIx_nat (n d k:Nat):sIx n d (some (k:Int))=min k n:=by
 show (if (k:Int) < 0 then ((k:Int)+(n:Int)).toNat else min (k:Int).toNat n)=min k n
 rw [if_neg (by omega),Int.toNat_natCast]
theorem sIx_le (n d:Nat) (hd:d <= n) (o:Option Int):sIx n d o <= n:=by
 cases o with
 | none=>exact hd
 | some v =>
   show (if v < 0 then (v+(n:Int)).toNat else min v.toNat n) <= n
   by_cases hv:v < 0
   · rw [if_pos hv];omega
   · rw [if_neg hv];exact Nat.min_le_right _ _
theorem clip_eq (v:Int) (n d:Nat):(if v < 0 then max (v+(n:Int)) 0 else min v (n:Int))=((sIx n d (some v):Nat):Int):=by
 show (if v < 0 then max (v+(n:Int)) 0 else min v (n:Int))=(((if v < 0 then (v+(n:Int)).toNat else min v.toNat n):Nat):Int)
 by_cases hv:v < 0
 · simp only [if_pos hv];omega
 · simp only [if_neg hv];omega
theorem adjust_gen (lo hi:Option Int) (n:Nat):Builtin.Slice.sliceAdjust lo hi 1 (n:Int)=(((sIx n 0 lo:Nat):Int),((sIx n n hi:Nat):Int)):=by
 have h1:¬ ((1:Int) < 0):=by omega
 unfold Builtin.Slice.sliceAdjust
 simp only [h1,if_false]
 refine Prod.ext ?_ ?_
 · cases lo with
   | none=>rfl
   | some v=>exact clip_eq v n 0
 · cases hi with
   | none=>rfl
   | some v=>exact clip_eq v n n
theorem places_gen (i j:Nat):Builtin.Slice.slicePlaces (i:Int) (j:Int) 1=j - i:=by
 unfold Builtin.Slice.slicePlaces
 have h1:(1:Int) > 0:=by omega
 simp only [h1,if_true,Int.ediv_one]
 split<;>omega
theorem slicePart_ {v:Value} {o:Option Int} {Q:Option Int->Shared->Prop} (p:IsPart v o) (h:Q o s):wpAny (model prog w) A (Builtin.Slice.slicePartIndex v) Q E s:=by
 cases p with
 | none=>exact slicePart_none h
 | int i t=>exact slicePart_int h
theorem sliceApplied_gen {sl:Addr} {vl vu:Value} {lo hi:Option Int} {n:Nat} {Q:Int × Int × Nat->Shared->Prop} (hs:s.heap.IsSliceOf sl vl vu .none) (pl:IsPart vl lo) (pu:IsPart vu hi)
   (h:Q (((sIx n 0 lo:Nat):Int),1,sIx n n hi - sIx n 0 lo) s):wpAny (model prog w) A (Builtin.Slice.sliceApplied (.ref sl) (pure (n:Int))) Q E s:=by
 obtain ⟨os,hos,hcs,hds⟩:=id hs
 unfold Builtin.Slice.sliceApplied Builtin.Slice.sliceFields
 refine wpAny_bind (wpAny_bind (wpAny_field hos hds (x:=vl) rfl (wpAny_bind (wpAny_field hos hds (x:=vu) rfl (wpAny_bind (wpAny_field hos hds (x:=.none) rfl (wpAny_pure ?_)))))))
 refine wpAny_bind (slicePart_none ?_)
 show wpAny _ _ (if ((1:Int) == 0)=true then _ else _) _ _ s
 rw [if_neg (by decide)]
 refine wpAny_bind (slicePart_ pl (wpAny_bind (slicePart_ pu (wpAny_bind (wpAny_pure ?_)))))
 show wpAny _ _ (match Builtin.Slice.sliceAdjust lo hi 1 (n:Int) with | (lo,hi)=>pure (lo,(1:Int),Builtin.Slice.slicePlaces lo hi 1)) _ _ s
 rw [adjust_gen lo hi n]
 show wpAny _ _ (pure (((sIx n 0 lo:Nat):Int),(1:Int),Builtin.Slice.slicePlaces ((sIx n 0 lo:Nat):Int) ((sIx n n hi:Nat):Int) 1)) _ _ s
 rw [places_gen]
 exact wpAny_pure h
theorem pick_gen (xs:Array Value) (i k:Nat):((List.range k).filterMap λ(m:Nat)=>xs[((i:Int)+(m:Int) * 1).toNat]?).toArray=((xs.toList.drop i).take k).toArray:=by
 have e:(λ(m:Nat)=>xs[((i:Int)+(m:Int) * 1).toNat]?)=λm=>xs[i+m]?:=by
   funext m
   have:((i:Int)+(m:Int) * 1).toNat=i+m:=by omega
   rw [this]
 rw [e]
 have:=pick_run xs i k
 rw [List.filterMap_map] at this
 have e2:((λx=>xs[x]?) ∘ λx=>i+x)=λm=>xs[i+m]?:=rfl
 rw [e2] at this
 rw [this]

theorem getItem_tuple_cut {t sl:Addr} {items:Array Value} {vl vu:Value} {lo hi:Option Int} {Q:Value->Shared->Prop} (ht:IsTup s.heap t items) (hs:s.heap.IsSliceOf sl vl vu .none) (pl:IsPart vl lo) (pu:IsPart vu hi)
   (hw:¬ (sIx items.size 0 lo=0/\sIx items.size items.size hi=items.size))
   (h:Q (.ref s.heap.objs.size) { s with heap:=s.heap.push { cls:=.type "tuple",data:=.seq ((items.toList.drop (sIx items.size 0 lo)).take (sIx items.size items.size hi - sIx items.size 0 lo)).toArray } })
   (hsz:items.size <= sizeLine):wpAny (model prog w) A (getItem (.ref t) (.ref sl)) Q E s:=by
 have htake:sizeOk (.seq ((items.toList.drop (sIx items.size 0 lo)).take (sIx items.size items.size hi - sIx items.size 0 lo)).toArray):=by
   show ((items.toList.drop (sIx items.size 0 lo)).take (sIx items.size items.size hi - sIx items.size 0 lo)).toArray.size <= sizeLine
   rw [List.size_toArray,List.length_take,List.length_drop,Array.length_toList]
   omega
 have hj:sIx items.size items.size hi <= items.size:=sIx_le _ _ (Nat.le_refl _) hi
 obtain ⟨os,hos,hcs,hds⟩:=id hs
 have hTs:s.TypeIs (.ref sl) "slice":=⟨os,hos,hcs⟩
 unfold getItem
 try with_reducible refine wpAny_holding ?_
 first | refine wpAny_bind (wpAny_pure ?_) | skip
 refine wpAny_bind (wpAny_sequenceKey ht.typeIs (by decide) ?_)
 refine wpAny_bind (wpAny_callSpecial?_slot (name:=Str.ofString "__getitem__") ht.typeIs PyProof.Rows.slot_tuple_getitem
   (wpAny_call_entry PyProof.Rows.slot_tuple_getitem ht.typeIs entry_tuple_getitem ?_ (args_tuple_getitem _ _)))
 show wpAny _ _ (Builtin.Tuple.tupleItemsOf (.ref t) >>= _) _ _ s
 refine wpAny_bind (tupleItemsOf_ ht ?_)
 refine wpAny_bind (wpAny_typeOf hTs ?_)
 rw [if_pos (by decide)]
 refine wpAny_bind (sliceApplied_gen hs pl pu ?_)
 have hno:¬ ((((sIx items.size 0 lo:Nat):Int) == 0 && (1:Int) == 1 && (sIx items.size items.size hi - sIx items.size 0 lo) == items.size)=true):=by
   intro q
   rw [Bool.and_eq_true,Bool.and_eq_true] at q
   have q1:((sIx items.size 0 lo:Nat):Int)=0:=eq_of_beq q.1.1
   have q2:sIx items.size items.size hi - sIx items.size 0 lo=items.size:=eq_of_beq q.2
   exact hw ⟨by omega,by omega⟩
 show wpAny _ _ (if (((sIx items.size 0 lo:Nat):Int) == 0 && (1:Int) == 1 && (sIx items.size items.size hi - sIx items.size 0 lo) == items.size)=true then _ else _) _ _ s
 rw [if_neg hno,pick_gen]
 first
   | exact wpAny_bind (m:=Builtin.Tuple.tupleExact _) (wpAny_newObj_type (wpAny_pure ⟨_,rfl,wpAny_pure h⟩) htake)
   | exact wpAny_bind (m:=Builtin.Tuple.tupleExact _) (wpAny_newObj_type (wpAny_bind (wpAny_pure (wpAny_pure ⟨_,rfl,wpAny_pure h⟩))) htake)
   | exact wpAny_bind (wpAny_bind (m:=Builtin.Tuple.tupleExact _) (wpAny_newObj_type (wpAny_pure (wpAny_pure ⟨_,rfl,wpAny_pure h⟩)) htake))
   | exact wpAny_bind (wpAny_bind (m:=Builtin.Tuple.tupleExact _) (wpAny_newObj_type (wpAny_pure ⟨_,rfl,wpAny_pure h⟩) htake))
end
end HT

namespace L2
open PySem PySem.Spec PyProof.Rows

abbrev TO:=St->Hp->(Option Int->Hp->Prop)->Prop
def PO (X:Cx) (e:Option Expr) (t:TO):Prop :=
 ∀ (pins:List (Addr × Obj)) (s:Shared) (σ:St) (H:Hp) (Q:Option Int->Hp->Prop),Inv X pins σ H s->t σ H Q ->
   wpAny (model X.prog X.w) X.A (evalPart e X.env) (λu s'=>∃ o H',Inv X pins σ H' s'/\IsPart u o/\Q o H') X.xe s
def tNoPart:TO:=λ_ H Q=>Q none H
def tPart (t:TE):TO:=λσ H Q=>t σ H λx H1=>∃ i,x=.int i/\Q (some i) H1

section
variable {X:Cx} {e:Expr} {te:TE} {lo hi:Option Expr} {tl th:TO} {pos p2:Pos}

theorem po_none:PO X none tNoPart:=by
 intro pins s σ H Q I h
 rw [evalPart_none]
 exact wpAny_pure ⟨none,H,I,.none,h⟩
theorem po_some (h:PE X e te):PO X (some e) (tPart te):=by
 intro pins s σ H Q I hw
 rw [evalPart_some]
 refine thn (h pins s σ H _ I hw) λu s1 ⟨x,H1,I1,r1,q1⟩=>?_
 obtain ⟨i,rfl,q⟩:=q1
 obtain ⟨t,rfl⟩:=r1
 exact ⟨some i,H1,I1,.int i t,q⟩

def SlR (X:Cx) (r:V->Option Int->Option Int->Hp->VK->Prop):Prop :=
 ∀ (pins:List (Addr × Obj)) (s:Shared) (σ:St) (H:Hp) (x:V) (v vl vu:Value) (lo hi:Option Int) (sl:Addr) (Q:VK),Inv X pins σ H s->RelV x v->s.heap.IsSliceOf sl vl vu .none->IsPart vl lo->IsPart vu hi->r x lo hi H Q ->
   ∃ T id,typeLookup (.type T) "__getitem__"=pure (some (.builtin id))/\s.TypeIs v T/\wpAny (model X.prog X.w) X.A (getItem v (.ref sl)) (EP X pins σ Q) X.xe s
theorem SlR.or {r r':V->Option Int->Option Int->Hp->VK->Prop} (h:SlR X r) (h':SlR X r'):SlR X (λx lo hi H Q=>r x lo hi H Q\/r' x lo hi H Q):=by
 intro pins s σ H x v vl vu lo hi sl Q I rx hs pl pu q
 rcases q with q | q
 · exact h pins s σ H x v vl vu lo hi sl Q I rx hs pl pu q
 · exact h' pins s σ H x v vl vu lo hi sl Q I rx hs pl pu q
def tSl (r:V->Option Int->Option Int->Hp->VK->Prop) (te:TE) (tl th:TO):TE:=λσ H Q=>te σ H λx H1=>tl σ H1 λl H2=>th σ H2 λu H3=>r x l u H3 Q
theorem pe_slice {r:V->Option Int->Option Int->Hp->VK->Prop} (hr:SlR X r) (he:PE X e te) (hl:PO X lo tl) (hu:PO X hi th):PE X (.Subscript e (.Slice lo hi none p2) pos) (tSl r te tl th):=by
 intro pins s σ H Q I h
 refine Subscript_ (thn (he pins s σ H _ I h) λv s1 ⟨x,H1,I1,r1,q1⟩=>?_)
 refine wpAny_Slice (thn (hl pins s1 σ H1 _ I1 q1) λvl s2 ⟨l,H2,I2,pl,q2⟩=>thn (hu pins s2 σ H2 _ I2 q2) λvu s3 ⟨u,H3,I3,pu,q3⟩=>?_)
 rw [evalPart_none]
 refine wpAny_pure ?_
 have I4:Inv X pins σ H3 { s3 with heap:=s3.heap.push { cls:=.type "slice",data:=.fields #[vl,vu,.none] } }:=I3.kept (t':=s3.toks) λb ob q=>Heap.get?_push_of_some _ q
 obtain ⟨T,id,hT,ht,hg⟩:=hr pins { s3 with heap:=s3.heap.push { cls:=.type "slice",data:=.fields #[vl,vu,.none] } } σ H3 x v vl vu l u s3.heap.objs.size Q I4 r1 (Heap.IsSliceOf.new ..) pl pu q3
 show wpAny (model X.prog X.w) X.A (subscriptTail e (.Slice lo hi none p2) v (.ref s3.heap.objs.size)) (EP X pins σ Q) X.xe { s3 with heap:=s3.heap.push { cls:=.type "slice",data:=.fields #[vl,vu,.none] } }
 exact tail_any (ops:=[.ref s3.heap.objs.size,v]) ht hT hg (by with_unfolding_all rfl)

def cutV (xs:List V) (lo hi:Option Int):List V:=(xs.drop (HT.sIx xs.length 0 lo)).take (HT.sIx xs.length xs.length hi - HT.sIx xs.length 0 lo)
theorem cutV_length (xs:List V) (lo hi:Option Int):(cutV xs lo hi).length <= xs.length:=by
 unfold cutV
 rw [List.length_take,List.length_drop]
 omega
def rSlT (K:PySem.W.Frag):V->Option Int->Option Int->Hp->VK->Prop:=λx lo hi H Q=>∃ a xs,x=.ref a/\SqT K H a xs /\
 ¬ (HT.sIx xs.length 0 lo=0/\HT.sIx xs.length xs.length hi=xs.length)/\∀ p,H p=none->Q (.ref p) (upd H p (.tup (cutV xs lo hi)))
theorem sl_tup:SlR X (rSlT X.K):=by
 intro pins s σ H x v vl vu lo hi sl Q I rx hs pl pu h
 obtain ⟨a,xs,rfl,hx,hw,q⟩:=h
 cases rx
 obtain ⟨its,r,ht,hz⟩:=I.tuple hx
 have hlen:its.toArray.size=xs.length:=by rw [List.size_toArray];exact r.length.symm
 refine ⟨"tuple",_,PyProof.Rows.slot_tuple_getitem.lookup,ht.typeIs,?_⟩
 refine HT.getItem_tuple_cut ht hs pl pu (by rw [hlen];exact hw) ?_ (by rw [hlen];exact hz)
 rw [hlen]
 refine ⟨.ref s.heap.objs.size,_,I.laid (t':=s.toks) (o:=.tup (cutV xs lo hi)) (λb ob q=>Heap.get?_push_of_some _ q) (Nat.le_refl _) ?_,rfl,q _ (I.hok.fresh (Nat.le_refl _))⟩
 exact ⟨Nat.le_trans (cutV_length xs lo hi) hz,_,(r.drop (HT.sIx xs.length 0 lo)).take (HT.sIx xs.length xs.length hi - HT.sIx xs.length 0 lo),IsTup.new _ _⟩

def rLtT (K:PySem.W.Frag):R2:=λx y H Q=>∃ a b ns ms,x=.ref a/\y=.ref b/\SqT K H a (ns.map V.int)/\SqT K H b (ms.map V.int)/\Q (.bl (HT.lexLt ns ms)) H
def rCatT (K:PySem.W.Frag):R2:=λx y H Q=>∃ a b xs ys,x=.ref a/\y=.ref b/\SqT K H a xs/\SqT K H b ys/\xs≠[]/\xs.length+ys.length <= sizeLine /\
 (ys=[]->Q (.ref a) H)/\(ys≠[]->∀ p,H p=none->Q (.ref p) (upd H p (.tup (xs++ys))))
end
end L2

namespace L2
open PySem PySem.Spec PyProof.Rows

def ixN (n:Nat) (i:Int):Option Nat:=if 0 <= i then (if i < n then some i.toNat else none) else if -(n:Int) <= i then some (i+n).toNat else none
def atI {α:Type} (xs:List α) (i:Int):Option α:=(ixN xs.length i).bind λj=>xs[j]?
theorem ixN_seq {n:Nat} {i:Int} {j:Nat} (h:ixN n i=some j):seqIndex? i n=some j/\j < n/\-(n:Int) <= i/\i < n:=by
 unfold ixN at h
 by_cases h0:0 <= i
 · rw [if_pos h0] at h
   by_cases h1:i < n
   · rw [if_pos h1] at h
     have e:i.toNat=j:=Option.some.inj h
     exact ⟨by rw [seqIndex_of h0 h1,e],by omega,by omega,h1⟩
   · rw [if_neg h1] at h;cases h
 · rw [if_neg h0] at h
   by_cases h1:-(n:Int) <= i
   · rw [if_pos h1] at h
     have e:(i+n).toNat=j:=Option.some.inj h
     exact ⟨by rw [seqIndex_neg (by omega) h1,e],by omega,h1,by omega⟩
   · rw [if_neg h1] at h;cases h
theorem atI_get {α:Type} {xs:List α} {i:Int} {v:α} (h:atI xs i=some v):∃ j,seqIndex? i xs.length=some j/\xs[j]?=some v/\j < xs.length/\-(xs.length:Int) <= i/\i < xs.length:=by
 unfold atI at h
 cases e:ixN xs.length i with
 | none=>rw [e] at h;cases h
 | some j =>
   rw [e] at h
   obtain ⟨h1,h2,h3,h4⟩:=ixN_seq e
   exact ⟨j,h1,h,h2,h3,h4⟩
def PlainIx (b:Expr):Prop:=∀ o i,subscripted b false o i=operate [o,i] (getItem o i)
def IxR (X:Cx) (r:R2):Prop :=
 ∀ (value slice:Expr) (pins:List (Addr × Obj)) (s:Shared) (σ:St) (H:Hp) (x y:V) (v u:Value) (Q:VK),Inv X pins σ H s->RelV x v->RelV y u->r x y H Q ->
   subscripted slice false v u=operate [v,u] (getItem v u)->wpAny (model X.prog X.w) X.A (subscriptTail value slice v u) (EP X pins σ Q) X.xe s
def MtR (X:Cx) (id:String) (r:V->List V->Hp->VK->Prop):Prop :=
 ∀ (pins:List (Addr × Obj)) (s:Shared) (σ:St) (H:Hp) (x:V) (xs:List V) (v:Value) (us:List Value) (Q:VK),Inv X pins σ H s->RelV x v->Vals xs us->r x xs H Q ->
   wpAny (model X.prog X.w) X.A (call (.builtin id) (v :: us)) (EP X pins σ Q) X.xe s
section
variable {X:Cx} {a b:Expr} {ta tb:TE} {pos:Pos}
theorem IxR.or {r r':R2} (h:IxR X r) (h':IxR X r'):IxR X (λx y H Q=>r x y H Q\/r' x y H Q):=by
 intro value slice pins s σ H x y v u Q I rx ry q hs
 rcases q with q | q
 · exact h value slice pins s σ H x y v u Q I rx ry q hs
 · exact h' value slice pins s σ H x y v u Q I rx ry q hs
theorem MtR.or {id:String} {r r':V->List V->Hp->VK->Prop} (h:MtR X id r) (h':MtR X id r'):MtR X id (λx xs H Q=>r x xs H Q\/r' x xs H Q):=by
 intro pins s σ H x xs v us Q I rx rs q
 rcases q with q | q
 · exact h pins s σ H x xs v us Q I rx rs q
 · exact h' pins s σ H x xs v us Q I rx rs q
theorem pe_ix {r:R2} (hr:IxR X r) (ha:PE X a ta) (hb:PE X b tb) (hs:PlainIx b):PE X (.Subscript a b pos) (tOp r ta tb):=by
 intro pins s σ H Q I h
 exact Subscript_ (binT ha hb I h λv u s2 x y H2 I2 rx ry q=>hr a b pins s2 σ H2 x y v u Q I2 rx ry q (hs _ _))

def rIxL (K:PySem.W.Frag):R2:=λx y H Q=>∃ p xs i v,x=.ref p/\y=.int i/\SqL K H p xs/\atI xs i=some v/\Q v H
def rIxT (K:PySem.W.Frag):R2:=λx y H Q=>∃ p xs i v,x=.ref p/\y=.int i/\SqT K H p xs/\atI xs i=some v/\Q v H
def rIxS:R2:=λx y H Q=>∃ z i c,x=.str z/\y=.int i/\z.length <= sizeLine/\atI z.cps.toList i=some c/\Q (.str ⟨#[c]⟩) H
theorem ix_list:IxR X (rIxL X.K):=by
 intro value slice pins s σ H x y v u Q I rx ry h hs
 obtain ⟨p,xs,i,z,rfl,rfl,hq,he,q⟩:=h
 cases rx
 obtain ⟨t,rfl⟩:=ry
 obtain ⟨its,r,pl,hz⟩:=I.list hq
 obtain ⟨j,h1,h2,h3,h4,h5⟩:=atI_get he
 obtain ⟨w,ew,rw'⟩:=r.get h2
 have hl:=r.length
 have hn:=line63
 have fin:EP X pins σ Q w s:=⟨z,H,I,rw',q⟩
 by_cases h0:0 <= i
 · have hj:i.toNat=j:=by
     rw [seqIndex_of h0 h5] at h1
     exact Option.some.inj h1
   exact item_listR pl.isList h0 (by omega) (by rw [hj];simpa using ew) fin hs
 · have hj:(i+(its.toArray.size:Int)).toNat=j:=by
     rw [seqIndex_neg (by omega) h4] at h1
     rw [List.size_toArray,← hl]
     exact Option.some.inj h1
   exact subscriptTail_builtinR (x:=w) pl.isList.typeIs slot_list_getitem.lookup
     (wpAny_getItem_list_neg (Q:=λr s'=>r=w/\EP X pins σ Q r s') pl.isList (by omega) (by rw [List.size_toArray]<;>omega) (by omega) (by rw [hj];simpa using ew) ⟨rfl,fin⟩) hs
theorem ix_tup:IxR X (rIxT X.K):=by
 intro value slice pins s σ H x y v u Q I rx ry h hs
 obtain ⟨p,xs,i,z,rfl,rfl,hq,he,q⟩:=h
 cases rx
 obtain ⟨t,rfl⟩:=ry
 obtain ⟨its,r,pl,hz⟩:=I.tuple hq
 obtain ⟨j,h1,h2,h3,h4,h5⟩:=atI_get he
 obtain ⟨w,ew,rw'⟩:=r.get h2
 have hl:=r.length
 have hn:=line63
 have fin:EP X pins σ Q w s:=⟨z,H,I,rw',q⟩
 exact subscriptTail_builtinR (x:=w) pl.typeIs slot_tuple_getitem.lookup
   (getItem_tuple (j:=j) (Q:=λr s'=>r=w/\EP X pins σ Q r s') pl (by omega) (by omega) (by rw [List.size_toArray,← hl];exact h1) (by simpa using ew) ⟨rfl,fin⟩) hs
def rIx (K:PySem.W.Frag):R2:=λx y H Q=>rIxL K x y H Q\/rIxT K x y H Q\/rIxS x y H Q
theorem Inv.lst {pins:List (Addr × Obj)} {σ:St} {H:Hp} {s:Shared} {p:Addr} {xs:List V} (I:Inv X pins σ H s) (h:H p=some (.lst xs)) :
   ∃ (its:List Value) (n:Nat),Vals xs its/\s.heap.get? p=some { cls:=.type "list",data:=.seq its.toArray n }/\xs.length <= sizeLine:=by
 obtain ⟨z,its,n,r,e⟩:=I.hok p _ h
 exact ⟨its,n,r,e,z⟩
def rSetL:V->V->V->Hp->(Hp->Prop)->Prop:=λo i v H Q=>∃ p xs k j,o=.ref p/\i=.int k/\H p=some (.lst xs)/\ixN xs.length k=some j/\Q (upd H p (.lst (xs.set j v)))
theorem slice_bounds (lo hi:Option Int) (n:Nat):(sliceBounds lo hi none n).1=((HT.sIx n 0 lo:Nat):Int)/\(sliceBounds lo hi none n).2.1=((HT.sIx n n hi:Nat):Int)/\(sliceBounds lo hi none n).2.2=1:=by
 refine ⟨?_,?_,rfl⟩
 · cases lo with
   | none=>simp [sliceBounds,HT.sIx]
   | some i =>
     simp only [sliceBounds,HT.sIx,Option.getD_none,show (1:Int) > 0 by decide,if_true]
     by_cases h:i < 0
     · simp only [h,if_true]<;>omega
     · simp only [h,if_false]<;>omega
 · cases hi with
   | none=>simp [sliceBounds,HT.sIx]
   | some i =>
     simp only [sliceBounds,HT.sIx,Option.getD_none,show (1:Int) > 0 by decide,if_true]
     by_cases h:i < 0
     · simp only [h,if_true]<;>omega
     · simp only [h,if_false]<;>omega
theorem slicePick_cut (its:List Value) (lo hi:Option Int):slicePick its.toArray lo hi none=((its.drop (HT.sIx its.length 0 lo)).take (HT.sIx its.length its.length hi - HT.sIx its.length 0 lo)).toArray:=by
 obtain ⟨h1,h2,h3⟩:=slice_bounds lo hi its.toArray.size
 unfold slicePick
 rw [h1,h2,h3]
 simp only [sliceRange_one,pick_run,List.size_toArray]<;>rfl
def rSlL (K:PySem.W.Frag):V->Option Int->Option Int->Hp->VK->Prop:=λx lo hi H Q=>∃ a xs,x=.ref a/\SqL K H a xs/\∀ p,H p=none->Q (.ref p) (upd H p (.lst (cutV xs lo hi)))
theorem sl_list:SlR X (rSlL X.K):=by
 intro pins s σ H x v vl vu lo hi sl Q I rx hs pl pu h
 obtain ⟨a,xs,rfl,hx,q⟩:=h
 cases rx
 obtain ⟨its,r,ht,hz⟩:=I.list hx
 have hlen:=r.length
 refine ⟨"list",_,slot_list_getitem.lookup,ht.isList.typeIs,?_⟩
 refine wpAny_getItem_list_slice ht.isList hs pl pu .none (by simp) ?_ (by rw [List.size_toArray]<;>omega)
 rw [slicePick_cut,← hlen]
 refine ⟨.ref s.heap.objs.size,_,I.laid (t':=s.toks) (o:=.lst (cutV xs lo hi)) (λb ob q=>Heap.get?_push_of_some _ q) (Nat.le_refl _) ?_,rfl,q _ (I.hok.fresh (Nat.le_refl _))⟩
 exact ⟨Nat.le_trans (cutV_length xs lo hi) hz,_,0,(r.drop (HT.sIx xs.length 0 lo)).take (HT.sIx xs.length xs.length hi - HT.sIx xs.length 0 lo),Heap.get?_push_size _ rfl⟩

def flatV:V->Bool
 | .non=>true
 | .bl _=>true
 | .int _=>true
 | .str _=>true
 | _=>false
def eqV:V->V->Bool
 | .non,.non=>true
 | .bl a,.bl b=>a == b
 | .bl a,.int b=>(if a then 1 else 0) == b
 | .int a,.bl b=>a == (if b then 1 else 0)
 | .int a,.int b=>a == b
 | .str a,.str b=>a == b
 | _,_=>false
theorem eqAt_V {A:Around} {s:Shared} {y x:V} {u v:Value} (ry:RelV y u) (rx:RelV x v) (fy:flatV y=true) (fx:flatV x=true):SeqAt.EqAt A s u v (eqV y x):=by
 cases y with
 | non =>
   cases ry
   cases x with
   | non=>cases rx;exact SeqAt.EqAt.same _
   | bl b=>cases rx;exact SeqAt.EqAt.none_bool b
   | int b=>obtain ⟨t,rfl⟩:=rx;exact SeqAt.EqAt.none_int b t
   | str b=>obtain ⟨t,rfl⟩:=rx;exact SeqAt.EqAt.none_str b t
   | _=>exact absurd (show false=true from fx) Bool.false_ne_true
 | bl a =>
   cases ry
   cases x with
   | non=>cases rx;exact SeqAt.EqAt.bool_none a
   | bl b=>cases rx;exact SeqAt.EqAt.bool_bool a b
   | int b=>obtain ⟨t,rfl⟩:=rx;exact SeqAt.EqAt.bool_int a b t
   | str b=>obtain ⟨t,rfl⟩:=rx;exact SeqAt.EqAt.bool_str a b t
   | _=>exact absurd (show false=true from fx) Bool.false_ne_true
 | int a =>
   obtain ⟨t',rfl⟩:=ry
   cases x with
   | non=>cases rx;exact SeqAt.EqAt.int_none a t'
   | bl b=>cases rx;exact SeqAt.EqAt.int_bool a t' b
   | int b=>obtain ⟨t,rfl⟩:=rx;exact SeqAt.EqAt.int_int a t' b t
   | str b=>obtain ⟨t,rfl⟩:=rx;exact SeqAt.EqAt.int_str a t' b t
   | _=>exact absurd (show false=true from fx) Bool.false_ne_true
 | str a =>
   obtain ⟨t',rfl⟩:=ry
   cases x with
   | non=>cases rx;exact SeqAt.EqAt.str_none a t'
   | bl b=>cases rx;exact SeqAt.EqAt.str_bool a t' b
   | int b=>obtain ⟨t,rfl⟩:=rx;exact SeqAt.EqAt.str_int a t' b t
   | str b=>obtain ⟨t,rfl⟩:=rx;exact SeqAt.EqAt.str_str a t' b t
   | _=>exact absurd (show false=true from fx) Bool.false_ne_true
 | _=>exact absurd (show false=true from fy) Bool.false_ne_true
def eqU (x:V) (u:Value):Bool:=match u with
 | .none=>eqV .non x
 | .bool b=>eqV (.bl b) x
 | .int i _=>eqV (.int i) x
 | .str z _=>eqV (.str z) x
 | _=>false
theorem eqU_of {x y:V} {u:Value} (r:RelV y u) (f:flatV y=true):eqU x u=eqV y x:=by
 cases y with
 | non=>cases r;rfl
 | bl b=>cases r;rfl
 | int i=>obtain ⟨t,rfl⟩:=r;rfl
 | str z=>obtain ⟨t,rfl⟩:=r;rfl
 | _=>exact absurd (show false=true from f) Bool.false_ne_true
theorem any_eqU {x:V}:∀ {xs:List V} {us:List Value},Vals xs us->xs.all flatV=true->us.any (eqU x)=xs.any λy=>eqV y x
 | _,_,.nil,_=>rfl
 | y :: xs,u :: us,.cons r t,f=>by
   rw [List.all_cons,Bool.and_eq_true] at f
   rw [List.any_cons,List.any_cons,eqU_of r f.1,any_eqU t f.2]
theorem mem_eqAt {A:Around} {s:Shared} {x:V} {v:Value} (rx:RelV x v) (fx:flatV x=true):∀ {xs:List V} {us:List Value},Vals xs us->xs.all flatV=true->∀ u∈us,SeqAt.EqAt A s u v (eqU x u)
 | _,_,.nil,_=>λu hu=>by cases hu
 | y :: xs,u :: us,.cons r t,f=>λu' hu=>by
   rw [List.all_cons,Bool.and_eq_true] at f
   rcases List.mem_cons.mp hu with rfl | hu
   · rw [eqU_of r f.1];exact eqAt_V r rx f.1 fx
   · exact mem_eqAt rx fx t f.2 u' hu
def inV (x:V) (xs:List V):Bool:=xs.any λy=>eqV y x
def rIn (K:PySem.W.Frag) (neg:Bool):R2:=λx y H Q=>∃ p xs,y=.ref p/\(SqL K H p xs\/SqT K H p xs)/\flatV x=true/\xs.all flatV=true/\Q (.bl (if neg then !inV x xs else inV x xs)) H
theorem op_in_seq:OpR X (compareOp .In) (rIn X.K false):=by
 intro pins s σ H x y v u Q I rx ry h
 obtain ⟨p,xs,rfl,hq,fx,fs,q⟩:=h
 cases ry
 rcases hq with hq | hq
 · obtain ⟨its,r,pl,hz⟩:=I.list hq
   refine SeqAt.in_listAt (eqU x) pl.isList (λw hw=>mem_eqAt rx fx r fs w (by simpa using hw)) ⟨.bl _,H,I,rfl,?_⟩
   rw [show its.toArray.any (eqU x)=its.any (eqU x) by simp,any_eqU r fs]
   exact q
 · obtain ⟨its,r,pl,hz⟩:=I.tuple hq
   refine SeqAt.in_tupleAt (eqU x) pl (λw hw=>mem_eqAt rx fx r fs w (by simpa using hw)) ⟨.bl _,H,I,rfl,?_⟩
   rw [show its.toArray.any (eqU x)=its.any (eqU x) by simp,any_eqU r fs]
   exact q
theorem op_notIn_seq:OpR X (compareOp .NotIn) (rIn X.K true):=by
 intro pins s σ H x y v u Q I rx ry h
 obtain ⟨p,xs,rfl,hq,fx,fs,q⟩:=h
 cases ry
 rcases hq with hq | hq
 · obtain ⟨its,r,pl,hz⟩:=I.list hq
   refine SeqAt.notIn_listAt (eqU x) pl.isList (λw hw=>mem_eqAt rx fx r fs w (by simpa using hw)) ⟨.bl _,H,I,rfl,?_⟩
   rw [show its.toArray.any (eqU x)=its.any (eqU x) by simp,any_eqU r fs]
   exact q
 · obtain ⟨its,r,pl,hz⟩:=I.tuple hq
   refine SeqAt.notIn_tupleAt (eqU x) pl (λw hw=>mem_eqAt rx fx r fs w (by simpa using hw)) ⟨.bl _,H,I,rfl,?_⟩
   rw [show its.toArray.any (eqU x)=its.any (eqU x) by simp,any_eqU r fs]
   exact q
theorem call_len_seq:CallR X (.builtin "len") (λxs H Q=>∃ p ys,xs=[.ref p]/\(SqL X.K H p ys\/SqT X.K H p ys)/\Q (.int ys.length) H):=by
 intro pins s σ H xs us Q I r h
 obtain ⟨p,ys,rfl,hq,q⟩:=h
 obtain ⟨u,rfl,rx⟩:=vals1 r
 cases rx
 have hn:=line63
 rcases hq with hq | hq
 · obtain ⟨its,r',pl,hz⟩:=I.list hq
   have hlen:=r'.length
   exact Calls.call_len_list pl.isList (by simp only [List.size_toArray]<;>omega) ⟨.int ys.length,H,I.tok _,⟨s.toks+1,by rw [List.size_toArray,hlen]⟩,q⟩
 · obtain ⟨its,r',pl,hz⟩:=I.tuple hq
   have hlen:=r'.length
   exact len_tuple pl (by simp only [List.size_toArray]<;>omega) ⟨.int ys.length,H,I.tok _,⟨s.toks+1,by rw [List.size_toArray,hlen]⟩,q⟩
theorem CallR.or {f:Value} {r r':List V->Hp->VK->Prop} (h:CallR X f r) (h':CallR X f r'):CallR X f (λxs H Q=>r xs H Q\/r' xs H Q):=by
 intro pins s σ H xs us Q I rs q
 rcases q with q | q
 · exact h pins s σ H xs us Q I rs q
 · exact h' pins s σ H xs us Q I rs q
theorem call_list_of:CallR X (.type "list") (λxs H Q=>∃ p ys,xs=[.ref p]/\(SqL X.K H p ys\/SqT X.K H p ys)/\∀ l,H l=none->Q (.ref l) (upd H l (.lst ys))):=by
 intro pins s σ H xs us Q I r h
 obtain ⟨p,ys,rfl,hq,q⟩:=h
 obtain ⟨u,rfl,rx⟩:=vals1 r
 cases rx
 have fin:∀ (its:List Value),Vals ys its->ys.length <= sizeLine->∀ (h':Heap) (c':Nat),(∀ b o',s.heap.get? b=some o'->h'.get? b=some o') ->
     h'.get? s.heap.objs.size=some { cls:=.type "list",dict:=none,data:=.seq its.toArray c',slots:=#[] }->EP X pins σ Q (.ref s.heap.objs.size) { s with heap:=h' }:=λits r' hz h' c' kp e =>
   ⟨.ref s.heap.objs.size,_,I.laid (t':=s.toks) kp (Nat.le_refl _) (show ObjOk X.prog X.w _ h' _ (.lst ys) from ⟨hz,its,c',r',e⟩),rfl,q _ (I.hok.fresh (Nat.le_refl _))⟩
 rcases hq with hq | hq
 · obtain ⟨its,r',pl,hz⟩:=I.list hq
   have hlen:=r'.length
   obtain ⟨o,ho,hc,n,hd⟩:=pl.isList
   exact call_list_seq p (.inl rfl) ho hc hd (λh' c' kp e=>fin its r' hz h' c' kp e) (by simp only [List.size_toArray]<;>omega)
 · obtain ⟨its,r',pl,hz⟩:=I.tuple hq
   have hlen:=r'.length
   obtain ⟨o,ho,hc,n,hd⟩:=pl
   exact call_list_seq p (.inr rfl) ho hc hd (λh' c' kp e=>fin its r' hz h' c' kp e) (by simp only [List.size_toArray]<;>omega)
theorem call_tuple_of:CallR X (.type "tuple") (λxs H Q=>∃ p ys,xs=[.ref p]/\((SqL X.K H p ys/\∀ l,H l=none->Q (.ref l) (upd H l (.tup ys)))\/(SqT X.K H p ys/\Q (.ref p) H))):=by
 intro pins s σ H xs us Q I r h
 obtain ⟨p,ys,rfl,h⟩:=h
 obtain ⟨u,rfl,rx⟩:=vals1 r
 cases rx
 rcases h with ⟨hq,q⟩ | ⟨hq,q⟩
 · obtain ⟨its,r',pl,hz⟩:=I.list hq
   have hlen:=r'.length
   refine call_tuple_list pl.isList (λh' kp=>?_) (by simp only [List.size_toArray]<;>omega)
   have I1:Inv X pins σ H { s with heap:=h' }:=I.kept (t':=s.toks) kp
   have I2:Inv X pins σ (upd H h'.objs.size (.tup ys)) { s with heap:=h'.push { cls:=.type "tuple",data:=.seq its.toArray } } :=
     I1.laid (t':=s.toks) (λb o e=>Heap.get?_push_of_some _ e) (Nat.le_refl _) (show ObjOk X.prog X.w _ _ _ (.tup ys) from ⟨hz,its,r',IsTup.new _ _⟩)
   exact ⟨.ref h'.objs.size,_,I2,rfl,q _ (I1.hok.fresh (Nat.le_refl _))⟩
 · obtain ⟨its,r',pl,hz⟩:=I.tuple hq
   exact call_tuple_same pl ⟨.ref p,H,I,rfl,q⟩

def tyV (K:PySem.W.Frag) (T:String) (x:V) (H:Hp):Prop:=match x with
 | .str _=>T="str"
 | .int _=>T="int"
 | .ref p=>(T="list"/\∃ xs,SqL K H p xs)\/(T="tuple"/\∃ o,K.lookup p=some o/\o.cls=.type "tuple"/\o.dict=none) \/
     (T="dict"/\((∃ kvs,H p=some (.dK kvs))\/∃ kvs,H p=some (.dT kvs)))\/(T="set"/\∃ S n,H p=some (.set S n))
 | _=>False
theorem tyV_is {pins:List (Addr × Obj)} {σ:St} {H:Hp} {s:Shared} {T:String} {x:V} {v:Value} (I:Inv X pins σ H s) (r:RelV x v) (ty:tyV X.K T x H) :
   s.TypeIs v T/\∀ a,v=.ref a->∃ ob,s.heap.get? a=some ob/\ob.dict=none:=by
 cases x with
 | str z =>
   obtain ⟨t,rfl⟩:=r
   cases (show T="str" from ty)
   exact ⟨typeIs_str s z t,λ_ e=>nomatch e⟩
 | int i =>
   obtain ⟨t,rfl⟩:=r
   cases (show T="int" from ty)
   exact ⟨typeIs_int s i t,λ_ e=>nomatch e⟩
 | ref p =>
   cases r
   rcases ty with ⟨rfl,xs,hq⟩ | ⟨rfl,o,hk,hc,hd⟩ | ⟨rfl,hk⟩ | ⟨rfl,S,n,hk⟩
   · obtain ⟨its,_,pl,_⟩:=I.list hq
     refine ⟨pl.isList.typeIs,λa e=>?_⟩
     cases e
     obtain ⟨o,n,e,c,hd,_⟩:=pl
     exact ⟨o,e,hd⟩
   · refine ⟨⟨o,I.kIn p o hk,hc⟩,λa e=>?_⟩
     cases e
     exact ⟨o,I.kIn _ o hk,hd⟩
   · have z:∃ o,s.heap.get? p=some o/\o.ExactDict:=by
       rcases hk with ⟨kvs,hk⟩ | ⟨kvs,hk⟩
       · obtain ⟨_,_,_,_,o,_,_,e,ex,_⟩:=I.hok p _ hk
         exact ⟨o,e,ex⟩
       · obtain ⟨_,_,_,_,o,_,_,e,ex,_⟩:=I.hok p _ hk
         exact ⟨o,e,ex⟩
     obtain ⟨o,e,ex⟩:=z
     refine ⟨⟨o,e,ex.1⟩,λa e2=>?_⟩
     cases e2
     exact ⟨o,e,ex.2.1⟩
   · obtain ⟨o,_,_,_,e,ex,_⟩:=I.hok p _ hk
     refine ⟨⟨o,e,ex.1⟩,λa e2=>?_⟩
     cases e2
     exact ⟨o,e,ex.2.1⟩
 | _=>exact False.elim ty
def tBM0 (K:PySem.W.Frag) (T:String) (r:V->List V->Hp->VK->Prop) (to:TE):TE:=λσ H Q=>to σ H λx H1=>tyV K T x H1/\r x [] H1 Q
def tBM (K:PySem.W.Frag) (T:String) (r:V->List V->Hp->VK->Prop) (to:TE) (t:TA):TE:=λσ H Q=>to σ H λx H1=>tyV K T x H1/\t σ H1 λxs H2=>r x xs H2 Q
variable {o e:Expr} {es:List Expr} {to:TE} {t:TA} {name:Str} {apos cpos:Pos} {T id:String} {r:V->List V->Hp->VK->Prop}
theorem pe_bm0 (pa:PlainAttrs T) (slot:Slot T name id) (hty:typeOf (.builtin id)=pure (.type "method_descriptor")) (hm:MtR X id r) (ho:PE X o to)
   (hbase:attributeBase o name X.env (eval o X.env)=eval o X.env:=by rfl) (hline:(apos.endLine == cpos.line)=true:=by rfl):PE X (.Call (.Attribute o name apos) [] [] cpos) (tBM0 X.K T r to):=by
 intro pins s σ H Q I h
 refine wpAny_Call_method0_late hbase hline (thn (ho pins s σ H _ I h) λv s1 ⟨x,H1,I1,r1,ty,q1⟩=>?_)
 obtain ⟨h1,h2⟩:=tyV_is I1 r1 ty
 exact ⟨T,id,pa,slot,hty,h1,h2,Calls.callWith_builtin rfl (PySem.evalArgs_none (hm pins s1 σ H1 x [] v [] Q I1 r1 .nil q1))⟩
theorem pe_bm (pa:PlainAttrs T) (slot:Slot T name id) (hty:typeOf (.builtin id)=pure (.type "method_descriptor")) (hm:MtR X id r) (ho:PE X o to) (ha:PA X (e :: es) t)
   (hbase:attributeBase o name X.env (eval o X.env)=eval o X.env:=by rfl)
   (hfew:((backTo cpos (starEach (e :: es) X.env)).all (λx=>!x.1) && (backToKw cpos (keywordEach [] X.env)).all (λx=>x.1.isSome)
     && decide ((e :: es).length+([]:List Keyword).length+(if ([]:List Keyword).isEmpty then 0 else 1) < 30))=true:=by rfl)
   (hline:(apos.endLine == cpos.line)=true:=by rfl) (hs:starEach (e :: es) X.env=(false,eval e X.env) :: starEach es X.env:=by rfl) (hplain:(backTo cpos (starEach es X.env)).any (·.1)=false:=by rfl) :
   PE X (.Call (.Attribute o name apos) (e :: es) [] cpos) (tBM X.K T r to t):=by
 intro pins s σ H Q I h
 refine wpAny_Call_method_late hbase hfew hline rfl (thn (ho pins s σ H _ I h) λv s1 ⟨x,H1,I1,r1,ty,q1⟩=>?_)
 obtain ⟨h1,h2⟩:=tyV_is I1 r1 ty
 refine ⟨T,id,pa,slot,hty,h1,h2,?_⟩
 have hA:=ha cpos pins s1 σ H1 _ I1 q1
 rw [hs] at hA ⊢
 refine Calls.callWith_builtin (by show (false || (backTo cpos (starEach es X.env)).any (·.1))=false;rw [hplain]<;>rfl) (Calls.evalArgs_plain ?_)
 exact thn hA λus s2 ⟨vs,H2,I2,r2,q2⟩=>hm pins s2 σ H2 x vs v us Q I2 r1 r2 q2
end
end L2

namespace L2
open PySem PySem.Spec PyProof.Rows

def MtM (X:Cx) (id:String) (r:V->List V->Hp->VK->Prop):Prop :=
 ∀ (pins:List (Addr × Obj)) (s:Shared) (σ:St) (H:Hp) (x:V) (xs:List V) (v:Value) (us:List Value) (Q:VK),Inv X pins σ H s->RelV x v->Vals xs us->r x xs H Q ->
   wpAny (model X.prog X.w) X.A (call (.builtin id) (v :: us)) (EP X pins σ Q) X.xe s

theorem Vals.one:∀ {x:V} {us:List Value},Vals [x] us->∃ u,us=[u]/\RelV x u
 | _,_,.cons r .nil=>⟨_,rfl,r⟩
theorem Vals.zero:∀ {us:List Value},Vals [] us->us=[]
 | _,.nil=>rfl
theorem Vals.dropLast {xs:List V} {us:List Value} (h:Vals xs us):Vals xs.dropLast us.dropLast:=by
 induction h with
 | nil=>exact .nil
 | cons r t ih =>
   cases t with
   | nil=>exact .nil
   | cons q t'=>exact .cons r ih
theorem Vals.eraseIdx:∀ {xs:List V} {us:List Value} (i:Nat),Vals xs us->Vals (xs.eraseIdx i) (us.eraseIdx i)
 | _,_,_,.nil=>.nil
 | _,_,0,.cons _ t=>t
 | _,_,i+1,.cons r t=>.cons r (Vals.eraseIdx i t)
theorem Vals.reverse {xs:List V} {us:List Value} (h:Vals xs us):Vals xs.reverse us.reverse:=by
 induction h with
 | nil=>exact .nil
 | cons r t ih=>rw [List.reverse_cons,List.reverse_cons];exact Vals.append ih (.cons r .nil)
section
variable {X:Cx} {pins:List (Addr × Obj)} {σ:St} {H:Hp} {s:Shared} {l b:Addr} {xs ys zs:List V}

theorem Inv.lset {its its':List Value} {n:Nat} {f:Array Value->Array Value} {t':Nat} (I:Inv X pins σ H s) (hH:H l=some (.lst xs))
   (e:s.heap.get? l=some { cls:=.type "list",data:=.seq its.toArray n }) (hf:f its.toArray=its'.toArray) (hv:Vals ys its') (hz:ys.length <= sizeLine) :
   Inv X pins σ (upd H l (.lst ys)) { s with heap:=s.heap.update l (Obj.mapSeq f),toks:=t' }:=by
 have q:=PySem.IsL.update e f
 rw [hf] at q
 refine I.write (x:=l) (e:=l) (by rw [hH];exact trivial) (.inl rfl) (λb' u hb hu=>(Heap.get?_update_other s.heap (Obj.mapSeq f) (Ne.symm hb)).trans hu) ⟨_,q⟩ ?_
 exact ⟨hz,its',_,hv,q⟩
theorem Inv.lnew {its:List Value} {t':Nat} (I:Inv X pins σ H s) (hv:Vals ys its) (hz:ys.length <= sizeLine) :
   Inv X pins σ (upd H s.heap.objs.size (.lst ys)) { s with heap:=s.heap.push { cls:=.type "list",data:=.seq its.toArray },toks:=t' } :=
 I.laid (λ_ _ q=>Heap.get?_push_of_some _ q) (Nat.le_refl _) ⟨hz,its,0,hv,Heap.get?_push_size _ rfl⟩
theorem Inv.fresh (I:Inv X pins σ H s):H s.heap.objs.size=none:=I.hok.fresh (Nat.le_refl _)
theorem Inv.lstM (I:Inv X pins σ H s) (hH:H l=some (.lst xs)):xs.length <= sizeLine/\∃ (its:List Value) (n:Nat),Vals xs its/\xs.length=its.length/\s.heap.get? l=some { cls:=.type "list",data:=.seq its.toArray n }:=by
 obtain ⟨z,its,n,r,e⟩:=I.hok l _ hH
 exact ⟨z,its,n,r,r.length,e⟩

theorem notLongL {n:Nat} (h:n <= sizeLine):Builtin.List.listTooLong n=false:=by
 unfold Builtin.List.listTooLong
 exact decide_eq_false (by omega)
end

section
variable {X:Cx}

def rAppend:V->List V->Hp->VK->Prop:=λx vs H Q=>∃ l xs y,x=.ref l/\vs=[y]/\H l=some (.lst xs)/\xs.length < sizeLine/\Q .non (upd H l (.lst (xs++[y])))
theorem mt_append:MtM X "list.append" rAppend:=by
 intro pins s σ H x vs v us Q I rx rv h
 obtain ⟨l,xs,y,rfl,rfl,hH,hz,q⟩:=h
 cases rx
 obtain ⟨u,rfl,ru⟩:=rv.one
 obtain ⟨z,its,n,r,hl,e⟩:=I.lstM hH
 refine call_meets F.slot_list_append ⟨_,e,rfl⟩ F.entry_list_append (F.args_list_append_2 _ _) (PySem.list_append l its.toArray n u (by rw [List.size_toArray];omega)) ⟨e,?_⟩
 refine ⟨.non,_,I.lset (its':=its++[u]) hH e (by simp) (r.append (.cons ru .nil)) ?_,rfl,q⟩
 rw [List.length_append,List.length_singleton]
 omega

def rExtend:V->List V->Hp->VK->Prop:=λx vs H Q=>∃ l b xs zs,x=.ref l/\vs=[.ref b]/\H l=some (.lst xs)/\H b=some (.lst zs)/\xs.length+zs.length <= sizeLine/\Q .non (upd H l (.lst (xs++zs)))
theorem mt_extend:MtM X "list.extend" rExtend:=by
 intro pins s σ H x vs v us Q I rx rv h
 obtain ⟨l,b,xs,zs,rfl,rfl,hH,hB,hz,q⟩:=h
 cases rx
 obtain ⟨u,rfl,ru⟩:=rv.one
 cases ru
 obtain ⟨z,its,n,r,hl,e⟩:=I.lstM hH
 obtain ⟨z2,its2,n2,r2,hl2,e2⟩:=I.lstM hB
 have hsz:its.toArray.size+its2.toArray.size <= sizeLine:=by rw [List.size_toArray,List.size_toArray];omega
 have hlong:¬ (!its.toArray.isEmpty && Builtin.List.listTooLong (its.toArray.size+its2.toArray.size))=true:=by
   rw [notLongL hsz,Bool.and_false]
   exact Bool.false_ne_true
 refine call_meets F.slot_list_extend ⟨_,e,rfl⟩ F.entry_list_extend (F.args_list_extend_2 _ _)
   (AutoSeq1.list_extend_list_list_0 l its.toArray n b its2.toArray n2 hlong (by rw [List.size_toArray];omega) (by omega)) ⟨e,e2,?_⟩
 refine ⟨.non,_,I.lset (its':=its++its2) hH e (by simp) (r.append r2) ?_,rfl,q⟩
 rw [List.length_append]
 omega

def rPop:V->List V->Hp->VK->Prop:=λx vs H Q=>∃ l xs y,x=.ref l/\vs=[]/\H l=some (.lst xs)/\xs[xs.length - 1]?=some y/\Q y (upd H l (.lst xs.dropLast))
def rPopAt:V->List V->Hp->VK->Prop:=λx vs H Q=>∃ l xs i k y,x=.ref l/\vs=[.int i]/\H l=some (.lst xs)/\-(2 ^ 63) <= i/\i < 2 ^ 63/\seqIndex? i xs.length=some k/\xs[k]?=some y/\Q y (upd H l (.lst (xs.eraseIdx k)))
def rReverse:V->List V->Hp->VK->Prop:=λx vs H Q=>∃ l xs,x=.ref l/\vs=[]/\H l=some (.lst xs)/\Q .non (upd H l (.lst xs.reverse))
def rClear:V->List V->Hp->VK->Prop:=λx vs H Q=>∃ l xs,x=.ref l/\vs=[]/\H l=some (.lst xs)/\Q .non (upd H l (.lst []))
theorem mt_clear:MtM X "list.clear" rClear:=by
 intro pins s σ H x vs v us Q I rx rv h
 obtain ⟨l,xs,rfl,rfl,hH,q⟩:=h
 cases rx
 have hus:=rv.zero
 subst hus
 obtain ⟨z,its,n,r,hl,e⟩:=I.lstM hH
 refine call_meets F.slot_list_clear ⟨_,e,rfl⟩ F.entry_list_clear (F.args_list_clear_1 _) (AutoSeq1.list_clear_list_0 l its.toArray n (by rw [List.size_toArray];omega)) ⟨e,?_⟩
 exact ⟨.non,_,I.lset (its':=[]) (ys:=[]) hH e rfl .nil (Nat.zero_le _),rfl,q⟩

def rCat:R2:=λx y H Q=>∃ l b xs zs,x=.ref l/\y=.ref b/\H l=some (.lst xs)/\H b=some (.lst zs)/\xs.length+zs.length <= sizeLine/\∀ p,H p=none->Q (.ref p) (upd H p (.lst (xs++zs)))
theorem op_cat:OpR X (binaryOp .Add) rCat:=by
 intro pins s σ H x y v u Q I rx ry h
 obtain ⟨l,b,xs,zs,rfl,rfl,hH,hB,hz,q⟩:=h
 cases rx
 cases ry
 obtain ⟨z,its,n,r,hl,e⟩:=I.lstM hH
 obtain ⟨z2,its2,n2,r2,hl2,e2⟩:=I.lstM hB
 refine PySem.P.add_list e e2 ?_ (by rw [List.size_toArray,List.size_toArray];omega)
 have ea:its.toArray++its2.toArray=(its++its2).toArray:=by simp
 rw [ea]
 exact ⟨.ref _,_,I.lnew (t':=s.toks) (r.append r2) (by rw [List.length_append];omega),rfl,q _ I.fresh⟩
def rRep:R2:=λx y H Q=>∃ l k xs,x=.ref l/\y=.int k/\H l=some (.lst xs)/\-(2 ^ 63) <= k/\k < 2 ^ 63/\xs.length * k.toNat <= sizeLine /\
 ∀ p,H p=none->Q (.ref p) (upd H p (.lst (List.replicate k.toNat xs).flatten))
end

section
variable {prog:Program} {w:World} {A:Around} {E:Value->Shared->Prop} {s:Shared}
end

section
variable {X:Cx}
end
end L2

namespace L2
open PySem PySem.Spec PyProof.Rows

section
variable {κ:Type} [DecidableEq κ]
def valV (kvs:List (κ × V)) (k:κ):Option V:=(kvs.find? λkv=>decide (kv.1=k)).map (·.2)
def putK (kvs:List (κ × V)) (k:κ) (v:V):List (κ × V) :=
 if (kvs.any λkv=>decide (kv.1=k))=true then kvs.map (λkv=>if kv.1=k then (kv.1,v) else kv) else kvs++[(k,v)]
def dropK (kvs:List (κ × V)) (k:κ):List (κ × V):=kvs.filter λkv=>decide (kv.1≠k)

theorem valV_pos {p:κ × V} {r:List (κ × V)} {k:κ} (e:p.1=k):valV (p :: r) k=some p.2:=by simp [valV,List.find?_cons,e]
theorem valV_neg {p:κ × V} {r:List (κ × V)} {k:κ} (e:¬ p.1=k):valV (p :: r) k=valV r k:=by simp [valV,List.find?_cons,e]
theorem valV_any (k:κ):∀ kvs:List (κ × V),(kvs.any λkv=>decide (kv.1=k))=(valV kvs k).isSome
 | []=>rfl
 | p :: r=>by
   rw [List.any_cons]
   by_cases e:p.1=k
   · simp only [valV_pos e,decide_eq_true e,Bool.true_or,Option.isSome_some]
   · rw [valV_neg e,decide_eq_false e,Bool.false_or];exact valV_any k r
theorem RelO.isSome_eq {o:Option V} {u:Option Value} (r:RelO o u):o.isSome=u.isSome:=by
 cases o with
 | none=>cases u with
   | none=>rfl
   | some _=>exact (show False from r).elim
 | some _=>cases u with
   | none=>exact (show False from r).elim
   | some _=>rfl
theorem RelO.getD {o:Option V} {u:Option Value} {d:V} {d':Value} (r:RelO o u) (rd:RelV d d'):RelV (o.getD d) (u.getD d'):=by
 cases o with
 | none=>cases u with
   | none=>exact rd
   | some _=>exact (show False from r).elim
 | some _=>cases u with
   | none=>exact (show False from r).elim
   | some _=>exact r

theorem KV.val {kvs:List (κ × V)} {vs:List (κ × Value)} (r:KV kvs vs) (k:κ):RelO (valV kvs k) (valueAt vs k):=by
 unfold KV at r
 induction r with
 | nil=>exact True.intro
 | @cons p q ps qs h t ih =>
   obtain ⟨h1,h2⟩:=h
   by_cases e:p.1=k
   · have e':q.1=k:=h1.symm.trans e
     have b:valueAt (q :: qs) k=some q.2:=by simp [valueAt,List.find?_cons,e']
     rw [valV_pos e,b];exact h2
   · have e':¬ q.1=k:=λz=>e (h1.trans z)
     have b:valueAt (q :: qs) k=valueAt qs k:=by simp [valueAt,List.find?_cons,e']
     rw [valV_neg e,b];exact ih
theorem KV.any {kvs:List (κ × V)} {vs:List (κ × Value)} (r:KV kvs vs) (k:κ):(kvs.any λkv=>decide (kv.1=k))=vs.any λkv=>decide (kv.1=k):=by
 unfold KV at r
 induction r with
 | nil=>rfl
 | cons h t ih=>rw [List.any_cons,List.any_cons,ih,h.1]
theorem KV.repl {kvs:List (κ × V)} {vs:List (κ × Value)} (r:KV kvs vs) (k:κ) {y:V} {u:Value} (ry:RelV y u) :
   KV (kvs.map λkv=>if kv.1=k then (kv.1,y) else kv) (vs.map λkv=>if kv.1=k then (kv.1,u) else kv):=by
 unfold KV at r ⊢
 induction r with
 | nil=>exact .nil
 | @cons p q ps qs h t ih =>
   rw [List.map_cons,List.map_cons]
   refine .cons ?_ ih
   obtain ⟨h1,h2⟩:=h
   by_cases e:p.1=k
   · rw [if_pos e,if_pos (h1.symm.trans e)];exact ⟨h1,ry⟩
   · rw [if_neg e,if_neg (λz=>e (h1.trans z))];exact ⟨h1,h2⟩
theorem KV.put {kvs:List (κ × V)} {vs:List (κ × Value)} (r:KV kvs vs) (k:κ) {y:V} {u:Value} (ry:RelV y u):KV (putK kvs k y) (stored vs k u):=by
 unfold putK stored
 rw [r.any k]
 by_cases e:(vs.any λkv=>decide (kv.1=k))=true
 · rw [if_pos e,if_pos e];exact r.repl k ry
 · rw [if_neg e,if_neg e];exact Paired.snoc r ⟨rfl,ry⟩
theorem KV.drop {kvs:List (κ × V)} {vs:List (κ × Value)} (r:KV kvs vs) (k:κ):KV (dropK kvs k) (without vs k):=by
 unfold KV at r ⊢
 unfold dropK without
 induction r with
 | nil=>exact .nil
 | @cons p q ps qs h t ih =>
   obtain ⟨h1,h2⟩:=h
   rw [List.filter_cons,List.filter_cons]
   by_cases e:p.1=k
   · have a:¬ decide (p.1≠k)=true:=by simp [e]
     have b:¬ decide (q.1≠k)=true:=by simp [h1.symm.trans e]
     rw [if_neg a,if_neg b];exact ih
   · have e':¬ q.1=k:=λz=>e (h1.trans z)
     have a:decide (p.1≠k)=true:=by simp [e]
     have b:decide (q.1≠k)=true:=by simp [e']
     rw [if_pos a,if_pos b];exact .cons ⟨h1,h2⟩ ih
theorem KV.keys {kvs:List (κ × V)} {vs:List (κ × Value)} (r:KV kvs vs):kvs.map (·.1)=vs.map (·.1):=by
 unfold KV at r
 induction r with
 | nil=>rfl
 | cons h t ih=>rw [List.map_cons,List.map_cons,ih,h.1]
theorem KV.length {kvs:List (κ × V)} {vs:List (κ × Value)} (r:KV kvs vs):kvs.length=vs.length:=Paired.length r
end


theorem kV_is {P:Program} {w:World} {k:Key} {u:Value} (r:RelV (kV k) u):(mixKind P w).is k u=true:=by
 cases k with
 | inl i=>obtain ⟨t,e⟩:=(show ∃ t,u=Value.int i t from r);subst e;exact mixKind_int P w i t
 | inr x=>obtain ⟨t,e⟩:=(show ∃ t,u=Value.str x t from r);subst e;exact mixKind_str P w x t
theorem items_are {P:Program} {w:World}:∀ {ks:List Key} {us:List Value},Vals (ks.map kV) us->ItemsAre (mixKind P w) ks us
 | [],_,r=>by rw [List.map_nil] at r;cases r;exact .nil
 | k :: ks,_,r=>by
   rw [List.map_cons] at r
   cases r with
   | cons h t=>exact .cons (kV_is h) (items_are t)

abbrev KT (H:Hp):List (List Key × V)->List (List Key × Addr × Value)->Prop:=Paired λp q=>p.1=q.1/\H q.2.1=some (.tup (p.1.map kV))/\RelV p.2 q.2.2
theorem KT.val {H:Hp} {kvs:List (List Key × V)} {xs:List (List Key × Addr × Value)} (r:KT H kvs xs) (k:List Key):RelO (valV kvs k) ((atKey xs k).map (·.2)):=by
 induction r with
 | nil=>exact True.intro
 | @cons p q ps qs h t ih =>
   obtain ⟨h1,_,h2⟩:=h
   by_cases e:p.1=k
   · have e':q.1=k:=h1.symm.trans e
     have b:atKey (q :: qs) k=some q.2:=by simp [atKey,List.find?_cons,e']
     rw [valV_pos e,b];exact h2
   · have e':¬ q.1=k:=λz=>e (h1.trans z)
     have b:atKey (q :: qs) k=atKey qs k:=by simp [atKey,List.find?_cons,e']
     rw [valV_neg e,b];exact ih
theorem KT.repl {H:Hp} {kvs:List (List Key × V)} {xs:List (List Key × Addr × Value)} (r:KT H kvs xs) (k:List Key) {y:V} {u:Value} (ry:RelV y u) :
   KT H (kvs.map λkv=>if kv.1=k then (kv.1,y) else kv) (xs.map (putAt k u)):=by
 induction r with
 | nil=>exact .nil
 | @cons p q ps qs h t ih =>
   rw [List.map_cons,List.map_cons]
   refine .cons ?_ ih
   obtain ⟨h1,h2,h3⟩:=h
   unfold putAt
   by_cases e:p.1=k
   · rw [if_pos e,if_pos (h1.symm.trans e)];exact ⟨h1,h2,ry⟩
   · rw [if_neg e,if_neg (λz=>e (h1.trans z))];exact ⟨h1,h2,h3⟩
theorem KT.put {H:Hp} {kvs:List (List Key × V)} {xs:List (List Key × Addr × Value)} (r:KT H kvs xs) (k:List Key) {b:Addr} {y:V} {u:Value} (hb:H b=some (.tup (k.map kV))) (ry:RelV y u) :
   KT H (putK kvs k y) (storedH xs k b u):=by
 have e:(kvs.any λkv=>decide (kv.1=k))=(atKey xs k).isSome:=by
   rw [valV_any,(r.val k).isSome_eq,Option.isSome_map]
 unfold putK storedH
 rw [e]
 by_cases q:(atKey xs k).isSome=true
 · rw [if_pos q,if_pos q];exact r.repl k ry
 · rw [if_neg q,if_neg q];exact Paired.snoc r ⟨rfl,hb,ry⟩
theorem KT.keeps {H H':Hp} {kvs:List (List Key × V)} {xs:List (List Key × Addr × Value)} (r:KT H kvs xs) (ht:∀ b ys,H b=some (.tup ys)->H' b=some (.tup ys)):KT H' kvs xs :=
 Paired.mapP r λ_ _ z=>⟨z.1,ht _ _ z.2.1,z.2.2⟩

section
variable {P:Program} {w:World} {H:Hp} {h:Heap} {a:Addr}
theorem rd_of {u:HO} (ok:HOk P w H h) (e:Rd H a u):ObjOk P w H h a u:=e.ok ok
theorem dk_rd {kvs:List (Key × V)} (ok:HOk P w H h) (e:Rd H a (.dK kvs)):kvs.length <= sizeLine/\(a == sysModules)=false/\∃ vs,KV kvs vs/\h.DictOf (mixKind P w) a vs :=
 show ObjOk P w H h a (.dK kvs) from rd_of ok e
theorem dk_of {kvs:List (Key × V)} (ok:HOk P w H h) (e:H a=some (.dK kvs)):kvs.length <= sizeLine/\(a == sysModules)=false/\∃ vs,KV kvs vs/\h.DictOf (mixKind P w) a vs:=dk_rd ok (.inl e)
theorem key_of {ks:List Key} (ok:HOk P w H h) (e:H a=some (.tup (ks.map kV))):(tupleKind (mixKind P w)).is h ks a:=by
 obtain ⟨_,its,r,o,h1,h2,n,h3⟩:=(show ObjOk P w H h a (.tup (ks.map kV)) from ok a _ e)
 exact ⟨o,its.toArray,n,h1,h2,h3,by simpa using items_are r⟩
theorem dt_rd {kvs:List (List Key × V)} (ok:HOk P w H h) (e:Rd H a (.dT kvs)):kvs.length <= sizeLine/\(a == sysModules)=false /\
   ∃ xs,KT H kvs xs/\h.DictOfH (tupleKind (mixKind P w)) a xs:=by
 obtain ⟨z,y,xs,r,o,es,ep,h1,h2,h3,h4,h5⟩:=(show ObjOk P w H h a (.dT kvs) from rd_of ok e)
 refine ⟨z,y,xs,r,o,es,ep,h1,h2,h3,h4,λx hx=>?_,h5⟩
 have all:∀ {l:List (List Key × V)} {m:List (List Key × Addr × Value)},KT H l m->∀ x∈m,(tupleKind (mixKind P w)).is h x.1 x.2.1:=by
   intro l m q
   induction q with
   | nil=>intro x hx;exact nomatch hx
   | @cons p q ps qs hq t ih =>
     intro x hx
     rcases List.mem_cons.mp hx with e | hx
     · subst e
       exact key_of ok (by rw [← hq.1];exact hq.2.1)
     · exact ih x hx
 exact all r x hx
end

def DGet (H:Hp) (a:Addr) (y:V) (r:Option V):Prop :=
 (∃ kvs k,Rd H a (.dK kvs)/\y=kV k/\r=valV kvs k)\/∃ kvs k b,Rd H a (.dT kvs)/\y=.ref b/\H b=some (.tup (k.map kV))/\r=valV kvs k
def DPut (H:Hp) (a:Addr) (y v:V) (H':Hp):Prop :=
 (∃ kvs k,H a=some (.dK kvs)/\y=kV k/\kvs.length < sizeLine/\H'=upd H a (.dK (putK kvs k v))) \/
 ∃ kvs k b,H a=some (.dT kvs)/\y=.ref b/\H b=some (.tup (k.map kV))/\kvs.length < sizeLine/\H'=upd H a (.dT (putK kvs k v))
theorem DGet.k {H:Hp} {a:Addr} {kvs:List (Key × V)} {k:Key} (e:H a=some (.dK kvs)):DGet H a (kV k) (valV kvs k):=.inl ⟨kvs,k,.inl e,rfl,rfl⟩
theorem DGet.t {H:Hp} {a b:Addr} {kvs:List (List Key × V)} {k:List Key} (e:H a=some (.dT kvs)) (eb:H b=some (.tup (k.map kV))):DGet H a (.ref b) (valV kvs k):=.inr ⟨kvs,k,b,.inl e,rfl,eb,rfl⟩
theorem DPut.k {H:Hp} {a:Addr} {kvs:List (Key × V)} {k:Key} {v:V} (e:H a=some (.dK kvs)) (hl:kvs.length < sizeLine):DPut H a (kV k) v (upd H a (.dK (putK kvs k v))):=.inl ⟨kvs,k,e,rfl,hl,rfl⟩
theorem DPut.t {H:Hp} {a b:Addr} {kvs:List (List Key × V)} {k:List Key} {v:V} (e:H a=some (.dT kvs)) (eb:H b=some (.tup (k.map kV))) (hl:kvs.length < sizeLine) :
   DPut H a (.ref b) v (upd H a (.dT (putK kvs k v))):=.inr ⟨kvs,k,b,e,rfl,eb,hl,rfl⟩


section
variable {X:Cx} {pins:List (Addr × Obj)} {σ:St} {H:Hp} {s:Shared} {a:Addr} {y v:V} {u r:Value} {o:Option V} {A:Around} {E:Value->Shared->Prop}

theorem Inv.big (I:Inv X pins σ H s):sysModules < s.heap.objs.size:=by
 have h:mainGlobals < s.heap.objs.size:=(I.mod.glob.keeps I.bk).lt
 exact Nat.lt_trans (by decide) h

theorem d_notIn {Q:Value->Shared->Prop} (hu:A.units+1 < cLine) (I:Inv X pins σ H s) (g:DGet H a y o) (ry:RelV y u) (h:∀ s',Inv X pins σ H s'->Q (.bool (!o.isSome)) s') :
   wpAny (model X.prog X.w) A (compareOp .NotIn u (.ref a)) Q E s:=by
 rcases g with ⟨kvs,k,e,ey,l⟩ | ⟨kvs,k,b,e,ey,eb,l⟩
 · subst ey
   obtain ⟨z,hd,vs,rel,dd⟩:=dk_rd I.hok e
   refine wpAny_notIn_of (kV_is ry) hd dd.mapOf ?_
   rw [← (rel.val k).isSome_eq,← l]
   exact h _ (I.tok _)
 · subst ey
   cases (show u=Value.ref b from ry)
   obtain ⟨z,hd,xs,rel,dd⟩:=dt_rd I.hok e
   refine wpAny_notIn_heap (tupleKind_room_in1 hu) (key_of I.hok eb) hd dd ?_
   have q:=(rel.val k).isSome_eq
   rw [Option.isSome_map] at q
   rw [← q,← l]
   exact h _ (I.tok _)
end

section
variable {X:Cx} {pins:List (Addr × Obj)} {σ:St} {H:Hp} {s:Shared} {a:Addr} {kvs:List (Key × V)} {k:Key} {u:Value} {A:Around} {E:Value->Shared->Prop}
end


def NoSl (i:Expr):Prop:=∀ ov iv,subscripted i false ov iv=operate [ov,iv] (getItem ov iv)
theorem subD_of {prog:Program} {w:World} {A:Around} {E:Value->Shared->Prop} {s:Shared} {env:Env} {value slice:Expr} {pos:Pos} {T id:String} {Q:Value->Shared->Prop}
   (hl:typeLookup (.type T) "__getitem__"=pure (some (.builtin id))) (hs:NoSl slice)
   (h:wpAny (model prog w) A (eval value env) (λo s₁=>wpAny (model prog w) A (eval slice env) (λi s₂=>s₂.TypeIs o T/\wpAny (model prog w) A (getItem o i) Q E s₂) E s₁) E s) :
   wpAny (model prog w) A (eval (.Subscript value slice pos) env) Q E s:=by
 refine Subscript_ (wpAny_mono h (λo s₁ h₁=>wpAny_mono h₁ (λi s₂ h₂=>?_) λ_ _ x=>x) λ_ _ x=>x)
 obtain ⟨hT,h₂⟩:=h₂
 unfold subscriptTail
 refine wpAny_bind ?_
 rw [getitemInPython_of_ne hT.not_modules]
 refine wpAny_bind (wpAny_specialOf hT hl ?_)
 have fin:wpAny (model prog w) A (subscripted slice false o i) (λr s₃=>wpAny (model prog w) A (letTemporaryGo value o r >>= λ_=>pure r) Q E s₃) E s₂:=by
   rw [hs o i]
   exact wpAny_operating (wpAny_mono h₂ (λr s₃ h₃=>wpAny_bind (wpAny_letTemporaryGo (wpAny_pure h₃))) λ_ _ x=>x)
 first
   | exact wpAny_pure (wpAny_bind fin)
   | exact wpAny_bind (wpAny_pure (wpAny_bind fin))
   | exact wpAny_bind fin

def tDGet (td ty:TE):TE:=λσ H Q=>td σ H λx H1=>ty σ H1 λy H2=>∃ a v,x=.ref a/\DGet H2 a y (some v)/\Q v H2
def tDIn (ty td:TE):TE:=λσ H Q=>ty σ H λy H1=>td σ H1 λx H2=>∃ a o,x=.ref a/\DGet H2 a y o/\Q (.bl o.isSome) H2
def tDNotIn (ty td:TE):TE:=λσ H Q=>ty σ H λy H1=>td σ H1 λx H2=>∃ a o,x=.ref a/\DGet H2 a y o/\Q (.bl (!o.isSome)) H2
def sDPut (td ty tv:TE):TS:=λD σ H=>tv σ H λv H1=>td σ H1 λx H2=>ty σ H2 λy H3=>∃ a H4,x=.ref a/\DPut H3 a y v H4/\D.nx σ H4
def sDAug (td ty tv:TE) (rd:V->V->Hp->VK->Prop):TS:=λD σ H=>td σ H λx H1=>ty σ H1 λy H2=>∃ a v,x=.ref a/\DGet H2 a y (some v) /\
 tv σ H2 λy2 H3=>rd v y2 H3 λz H4=>∃ H5,DPut H4 a y z H5/\D.nx σ H5
def sDDel (td ty:TE):TS:=λD σ H=>td σ H λx H1=>ty σ H1 λy H2=>∃ a kvs k,x=.ref a/\H2 a=some (.dK kvs)/\y=kV k/\(valV kvs k).isSome=true/\D.nx σ (upd H2 a (.dK (dropK kvs k)))

section
variable {X:Cx} {o i e value:Expr} {pos pos' tpos:Pos} {td ty tv:TE}
theorem pc_dnotin (hu:X.A.units+1 < cLine) (hi:PE X i ty) (ho:PE X o td):PC X .NotIn i o (tDNotIn ty td):=by
 intro pins s σ H Q I h
 refine thn (hi pins s σ H _ I h) λiv s1 ⟨y,H1,I1,ry,q1⟩=>thn (ho pins s1 σ H1 _ I1 q1) λu s2 ⟨x,H2,I2,rx,a,ov,ex,g,q2⟩=>?_
 subst ex
 obtain rfl:u=Value.ref a:=rx
 exact d_notIn hu I2 g ry λs3 I3=>⟨.bl (!ov.isSome),H2,I3,rfl,q2⟩
end


theorem dk_empty {P:Program} {w:World} {H:Hp} (h:Heap) (hb:sysModules < h.objs.size):ObjOk P w H (h.push { cls:=.type "dict",data:=.dict #[] }) h.objs.size (.dK []) :=
 ⟨Nat.zero_le _,beq_eq_false_iff_ne.mpr (Ne.symm (Nat.ne_of_lt hb)),[],.nil,Heap.DictOf.new h⟩
def tDNewK:TE:=λ_ H Q=>∀ p,H p=none->Q (.ref p) (upd H p (.dK []))
def tDNewT:TE:=λ_ H Q=>∀ p,H p=none->Q (.ref p) (upd H p (.dT []))
section
variable {X:Cx} {pos:Pos}
theorem pe_dnewK:PE X (.Dict [] [] pos) tDNewK:=λpins s σ H Q I h =>
 wpAny_Dict_empty ⟨.ref s.heap.objs.size,_,I.laid (a:=s.heap.objs.size) (o:=.dK []) (t':=s.toks) (λ_ _ q=>Heap.get?_push_of_some _ q) (Nat.le_refl _) (dk_empty s.heap I.big),rfl,h _ (I.hok.fresh (Nat.le_refl _))⟩
end

def tPairs:List (TE × TE)->St->Hp->(List (V × V)->Hp->Prop)->Prop
 | [],_,H,Q=>Q [] H
 | (tk,tv) :: r,σ,H,Q=>tk σ H λx H1=>tv σ H1 λy H2=>tPairs r σ H2 λps H3=>Q ((x,y) :: ps) H3
abbrev VV:List (V × V)->List (Value × Value)->Prop:=Paired λp q=>RelV p.1 q.1/\RelV p.2 q.2
def PPs (X:Cx) (pos:Pos) (keys:List (Option Expr)) (values:List Expr) (trs:List (TE × TE)):Prop :=
 ∀ (pins:List (Addr × Obj)) (s:Shared) (σ:St) (H:Hp) (Q:List (V × V)->Hp->Prop),Inv X pins σ H s->tPairs trs σ H Q ->
   wpAny (model X.prog X.w) X.A (evalPairs (pairTrees keys values X.env pos)) (λvs s'=>∃ ps H',Inv X pins σ H' s'/\VV ps vs/\Q ps H') X.xe s
def mergeK (kvs more:List (Key × V)):List (Key × V):=more.foldl (λacc kv=>putK acc kv.1 kv.2) kvs
def tDisp (trs:List (TE × TE)):TE:=λσ H Q=>∀ p,H p=none->tPairs trs σ (upd H p (.dK [])) λps H2=>H2 p=some (.dK [])/\∃ kvs:List (Key × V),ps=kvs.map (λkv=>(kV kv.1,kv.2))/\kvs.length <= 15/\Q (.ref p) (upd H2 p (.dK (mergeK [] kvs)))
structure M1 (X:Cx) (o:Expr) (m:Str) (apos:Pos) (e:Expr) (cpos:Pos):Prop where
 base:attributeBase o m X.env (eval o X.env)=eval o X.env
 few:((backTo cpos (starEach [e] X.env)).all (λx=>!x.1) && (backToKw cpos (keywordEach [] X.env)).all (λx=>x.1.isSome)
   && decide (([e]:List Expr).length+([]:List Keyword).length+(if ([]:List Keyword).isEmpty then 0 else 1) < 30))=true
 line:(apos.endLine == cpos.line)=true
 trees:backTo cpos (starEach [e] X.env)=[(false,eval e X.env)]
structure M2 (X:Cx) (o:Expr) (m:Str) (apos:Pos) (e f:Expr) (cpos:Pos):Prop where
 base:attributeBase o m X.env (eval o X.env)=eval o X.env
 few:((backTo cpos (starEach [e,f] X.env)).all (λx=>!x.1) && (backToKw cpos (keywordEach [] X.env)).all (λx=>x.1.isSome)
   && decide (([e,f]:List Expr).length+([]:List Keyword).length+(if ([]:List Keyword).isEmpty then 0 else 1) < 30))=true
 line:(apos.endLine == cpos.line)=true
 trees:backTo cpos (starEach [e,f] X.env)=[(false,eval e X.env),(false,eval f X.env)]

def IsD (H:Hp) (a:Addr):Prop:=(∃ kvs,Rd H a (.dK kvs))\/∃ kvs,Rd H a (.dT kvs)
section
variable {X:Cx} {pins:List (Addr × Obj)} {σ:St} {H:Hp} {s:Shared} {a:Addr} {y d:V} {u r:Value} {o:Option V} {A:Around} {E:Value->Shared->Prop}
end

def tDGet1 (td ty:TE):TE:=λσ H Q=>td σ H λx H1=>∃ a,x=.ref a/\IsD H1 a/\ty σ H1 λy H2=>∃ o,DGet H2 a y o/\Q (o.getD .non) H2
def tDGet2 (td ty tx:TE):TE:=λσ H Q=>td σ H λx H1=>∃ a,x=.ref a/\IsD H1 a/\ty σ H1 λy H2=>tx σ H2 λz H3=>∃ o,DGet H3 a y o/\Q (o.getD z) H3
def tDPop1 (td ty:TE):TE:=λσ H Q=>td σ H λx H1=>∃ a,x=.ref a/\IsD H1 a/\ty σ H1 λy H2=>∃ kvs k v,H2 a=some (.dK kvs)/\y=kV k/\valV kvs k=some v/\Q v (upd H2 a (.dK (dropK kvs k)))
def tDPop2 (td ty tx:TE):TE:=λσ H Q=>td σ H λx H1=>∃ a,x=.ref a/\IsD H1 a/\ty σ H1 λy H2=>tx σ H2 λz H3=>∃ kvs k,H3 a=some (.dK kvs)/\y=kV k /\
 (∀ v,valV kvs k=some v->Q v (upd H3 a (.dK (dropK kvs k))))/\(valV kvs k=none->Q z H3)
section
variable {X:Cx} {o e f:Expr} {apos cpos:Pos} {td ty tx:TE}
end

section
variable {X:Cx} {pins:List (Addr × Obj)} {σ:St} {H:Hp} {s:Shared} {a:Addr} {kvs:List (Key × V)} {A:Around} {E:Value->Shared->Prop}
end


section
variable {X:Cx} {pins:List (Addr × Obj)} {σ:St} {H:Hp} {s:Shared} {a:Addr} {y:V} {u:Value} {A:Around} {E:Value->Shared->Prop}
end
end L2

namespace Att
open PySem PySem.W PySem.Calls PyProof.Rows

theorem ints_of_wellAll {P:Params} {h:Heap}:∀ (ns:List Int) (vs:List Value),WellAll P h vs (ns.map WData.int)->IntsAre vs ns:=by
 intro ns
 induction ns with
 | nil =>
   intro vs w
   rw [List.map_nil] at w
   cases w
   exact .nil
 | cons n ns ih =>
   intro vs w
   rw [List.map_cons] at w
   cases w with
   | cons a b =>
     cases a
     exact .cons _ _ (ih _ b)

theorem script_of {l:OpenLaw} {n:Nat} (hn:l.most=some n) {P:Params} {h:Heap} {args:List WData} {vals:List Value}
   (hpre:l.row.toRowW.claim.pre args=true) (hwl:WellAll P h vals args) :
   ∃ a vs ns,vals=[Value.ref a]/\args=[WData.list (ns.map WData.int)]/\h.get? a=some { cls:=.type "list",data:=.seq vs.toArray }/\IntsAre vs ns/\ns.length <= n:=by
 have hsh:WShape.hasAll [] args [.list .int]=true:=(pre_splitW hpre).1
 have hc:l.pre.holds [] { args:=args }=true:=(pre_splitW hpre).2
 obtain ⟨d,r,rfl,h1,h2⟩:=hasAllW_cons hsh
 obtain rfl:=hasAllW_nil h2
 obtain ⟨xs,rfl,h3⟩:=hasW_list h1
 obtain ⟨ns,rfl⟩:=items_int h3
 have hlen:ns.length <= n:=by
   unfold OpenLaw.pre at hc
   have h4:(WTm.not (.lt (.lit (.int (n:Int))) (.len (.arg 0)))).holds [] { args:=[.list (ns.map .int)] }=true:=by
     have h4:=(holds_andW hc).1
     rw [hn] at h4
     exact h4
   have h5:=condW_of h4 (w_not (w_lt w_lit (w_len_list (w_arg rfl))))
   rw [List.length_map] at h5
   refine Nat.le_of_not_lt λq=>?_
   have q':(n:Int) < ((ns.length:Nat):Int):=by omega
   first
     | (rw [decide_eq_true q'] at h5;exact absurd h5 (by decide))
     | (simp at h5;omega)
 cases hwl with
 | cons w1 w2 =>
   cases w2
   cases w1 with
   | list ho hall=>exact ⟨_,_,ns,rfl,rfl,ho,ints_of_wellAll ns _ hall,hlen⟩

theorem post_true (l:OpenLaw) (args:List WData):l.row.toRowW.claim.post args (.bool true) args=true :=
 postW_of (r:=l.row.toRowW) (X:=(true == true))
   (show WShape.has [] (.bool true) .bool=true by first | rfl | decide | simp [WShape.has,WShape.arms,WShape.armsAll])
   (show (WTm.eq .res (.lit (.bool true))).value [] { args:=args,res:=some (.bool true),after:=args }=some (.bool (true == true)) from w_eq_bool (w_res rfl) w_lit) rfl

theorem attach_call {l:OpenLaw} {n:Nat} {q:Program} {loose:List Str} {XP:(Str->Option Value)->Heap->Prop} {YP:World->Heap->Prop} {d:DefRec}
   (hn:l.most=some n) (hdf:d.params.defaults=[])
   (call:∀ (w:World) (s₀ s₁:Shared) (mg mb:Str->Option Value) (fa:Addr) (o:Obj) (pm cd doc:Value) (a:Addr) (vs:List Value) (ns:List Int),
     Ground q loose [] XP w s₀ mg mb s₁.heap->YP w s₁.heap ->
     s₁.heap.get? fa=some o->o.data=.func (docDef d.name d.params d.body d.scope pm cd doc)->s₁.heap.CodeRec cd d.name->mg d.name=some (.ref fa) ->
     s₁.heap.get? a=some { cls:=.type "list",data:=.seq vs.toArray }->IntsAre vs ns->ns.length <= n->s₁.gens=#[] ->
     codeAny (model l.prog w) callerA (.call (.ref fa) ⟨[.ref a],[]⟩) (λr s'=>r=.ok (.ret (.bool true))/\OldK s₁.heap s'.heap/\s'.os=s₁.os/\AllBare s'.gens) s₁) :
   WalkO q loose XP YP l.row.toRowW d [] (λf vs=>PySem.call f vs):=by
 intro w s₀ s₁ mg mb G Y fa o pm cd doc dV kV ho hd hcd hD hmg hg args vals as hpre hlay hrd hwl hlo
 obtain rfl:dV=.none:=Dflts.none hD hdf
 obtain rfl:kV=.none:=Dflts.noKw hD
 obtain ⟨a,vs,ns,rfl,rfl,hobj,hints,hlen⟩:=script_of hn hpre hwl
 refine enter_call (codeAny_mono (call w s₀ s₁ mg mb fa o pm cd doc a vs ns G Y ho (fd_plain hd) hcd hmg hobj hints hlen hg) λr s' hq=>?_)
 obtain ⟨rfl,h2,h3,h4⟩:=hq
 exact ⟨.inl ⟨.bool true,.bool true,[],rfl,λ_=>rfl,.bool true,post_true l _,λ_=>⟨List.Pairwise.nil,λ_ hm=>(nomatch hm)⟩⟩,h2,h3,h4⟩

section
variable {prog:Program} {w:World} {A:Around} {E:Value->Shared->Prop} {s:Shared} {K:Frag}

def noObjs (h:Heap):Heap:={ h with objs:=#[] }
def ledger (h:Heap) (L d:Addr):List (Addr × Obj):=(List.range h.objs.size).filterMap λa=>if a=L\/a=d then none else (h.get? a).map λo=>(a,o)
end
end Att

namespace L2
open PySem PySem.Spec PyProof.Rows

theorem vals_ints:∀ {vs:List Value} {ns:List Int},IntsAre vs ns->Vals (ns.map V.int) vs
 | _,_,.nil=>.nil
 | _,_,.cons n t h=>.cons ⟨t,rfl⟩ (vals_ints h)

def Only (H:Hp):Prop:=∀ b,H b=none\/∃ o xs,H b=some (.frz o (.lst xs))

theorem law_call {P:Program} {w:World} {K:PySem.W.Frag} {mg mb:Str->Option Value} {CX:CXT} {k:Nat} {fa a:Addr} {fd:FuncData} {x:Str} {sp:Sp} {s₁:Shared} {vs:List Value} {ns:List Int}
   (KX:K.In s₁.heap) (hns:s₁.heap.Ns mainGlobals mg) (hb:s₁.heap.Ns builtinsNs mb) (hbb:∀ x:Str,x≠"__name__"->mb x=bootBuiltins x) (hlim:s₁.heap.NoLimit) (hg:s₁.gens=#[])
   (ha:s₁.heap.get? a=some { cls:=.type "list",data:=.seq vs.toArray }) (hi:IntsAre vs ns) (hl:ns.length <= sizeLine) (hr:Room k callerA)
   (F:∀ base:Heap,K.In base->base.Ns mainGlobals mg->FnOk P w K mg base CX k fa fd [x] sp) (hbind:∀ (s:Shared) (u:Value),BindsTo s fd ⟨[u],[]⟩ [(x,u)])
   (hsp:∀ H:Hp,Only H->SqL K H a (ns.map V.int)->sp [.ref a] H (λv _=>v=.bl true) λ_ _ _=>False)
   (hCX:∀ H e s',CX [] H s₁ (λ_ _ _=>False) e s'->False) :
   codeAny (model P w) callerA (.call (.ref fa) ⟨[.ref a],[]⟩) (λr s'=>r=.ok (.ret (.bool true))/\OldK s₁.heap s'.heap/\s'.os=s₁.os/\AllBare s'.gens) s₁:=by
 have rv:=vals_ints hi
 have lenV:=hi.length
 have core:∀ H:Hp,Only H->SqL K H a (ns.map V.int)->HOk P w H s₁.heap->(∀ b,H b≠none->b=a)->(H a≠none->K.lookup a=none) ->
     codeAny (model P w) callerA (.call (.ref fa) ⟨[.ref a],[]⟩) (λr s'=>r=.ok (.ret (.bool true))/\OldK s₁.heap s'.heap/\s'.os=s₁.os/\AllBare s'.gens) s₁:=by
   intro H hO hS hok hA hK
   have base_of:∀ {b:Addr} {o:Obj},s₁.heap.get? b=some o->H b=none->(hidT s₁.heap H).get? b=some o:=λe n=>hidT_get e n
   have noA:∀ {b:Addr} {o:Obj} {es:Array DictEntry} {ep:Nat},s₁.heap.get? b=some o->o.data=.dict es ep->H b=none:=λ{b o es ep} e d=>by
     cases q:H b with
     | none=>rfl
     | some u =>
       have e':b=a:=hA b (by rw [q];simp)
       subst e'
       rw [ha] at e;cases e
       have d':Data.seq vs.toArray _=Data.dict es ep:=d
       cases d'
   have nsK:∀ {b:Addr} {m:Str->Option Value},s₁.heap.Ns b m->(hidT s₁.heap H).Ns b m:=λ{b m} ⟨o,es,ep,e,d,r⟩=>⟨o,es,ep,base_of e (noA e d),d,r⟩
   have hKb:K.In (hidT s₁.heap H):=λb o e=>base_of (KX b o e) (by
     cases q:H b with
     | none=>rfl
     | some u =>
       have e':b=a:=hA b (by rw [q];simp)
       subst e'
       rw [hK (by rw [q];simp)] at e;cases e)
   have hM:Mod K mg (hidT s₁.heap H):=⟨hKb,nsK hns,⟨mb,nsK hb,hbb⟩,let ⟨mc,h1,h2⟩:=hlim;⟨mc,nsK h1,h2⟩⟩
   have e0:Env0 P w K mg (hidT s₁.heap H) callerA [] s₁ H:=⟨rfl,hM,λb o e=>of_hidT e,Nat.le_of_eq (hidT_size _ _),trivial,λb hb=>absurd (show b∈([]:List Addr) from hb) (by simp),hok,.of_eq hg⟩
   refine codeAny_mono ((F _ hKb (nsK hns)).run callerA [] s₁ H ⟨[.ref a],[]⟩ [.ref a] [.ref a] _ _ hr e0 (hbind s₁ (.ref a)) (.cons rfl .nil) (hsp H hO hS)) λr s' h=>?_
   cases r with
   | error e=>exact (hCX H e s' h).elim
   | ok fl =>
     cases fl with
     | next=>exact False.elim h
     | brk=>exact False.elim h
     | cont=>exact False.elim h
     | ret u =>
       obtain ⟨v,H',os,bare,un,hok',r',q⟩:=h
       have q':v=.bl true:=q
       subst q'
       obtain rfl:u=Value.bool true:=r'
       refine ⟨rfl,OldK.of_keep λb o e=>?_,os,bare⟩
       cases q:H b with
       | none=>exact un.keep b o e q (by intro z;exact absurd (show b∈([]:List Addr) from z) (by simp)) (by simp)
       | some u =>
         rcases hO b with z | ⟨ob,xs,z⟩
         · rw [q] at z;cases z
         · have z2:=un.frzs b ob _ z
           obtain ⟨e1,_⟩:=hok b _ z
           obtain ⟨e2,_⟩:=hok' b _ z2
           rw [e] at e1;cases e1
           exact e2
 cases hk:K.lookup a with
 | some o =>
   have e:=KX a o hk
   rw [ha] at e
   cases e
   refine core (λ_=>none) (λ_=>.inl rfl) (.inr ⟨_,vs.toArray,_,hk,rfl,rfl,rfl,by rw [List.size_toArray,lenV];exact hl,by simpa using rv⟩) (λb u z=>by have z':(none:Option HO)=some u:=z;cases z') (λb z=>absurd rfl z) λz=>absurd rfl z
 | none =>
   refine core (λb=>if b=a then some (.frz { cls:=.type "list",data:=.seq vs.toArray } (.lst (ns.map V.int))) else none) (λb=>?_) (.inl (.inr ⟨{ cls:=.type "list",data:=.seq vs.toArray },if_pos rfl⟩)) (λb u z=>?_) (λb z=>?_) λ_=>hk
   · by_cases hb:b=a
     · exact .inr ⟨_,_,if_pos hb⟩
     · exact .inl (if_neg hb)
   · by_cases hb:b=a
     · have z':=(if_pos hb).symm.trans z
       cases z'
       subst hb
       exact ⟨ha,by rw [List.length_map];exact hl,vs,_,rv,ha⟩
     · have z':=(if_neg hb).symm.trans z
       cases z'
   · by_cases hb:b=a
     · exact hb
     · exact absurd (if_neg hb) z
end L2

namespace L2
open PySem PySem.Spec PyProof.Rows

abbrev KOf {K:PySem.W.Frag} {h:Heap} (_:K.In h):PySem.W.Frag:=K

theorem walk_of {l:PySem.W.OpenLaw} {n k:Nat} {q:Program} {loose:List Str} {XP:(Str->Option Value)->Heap->Prop} {YP:World->Heap->Prop} {d:DefRec} {K:Params->PySem.W.Frag} {CX:World->CXT} {sp:World->Sp} {x:Str}
   (hn:l.most=some n) (hn2:n <= sizeLine) (hdf:d.params.defaults=[]) (hr:Room k callerA)
   (hY:∀ (w:World) (h:Heap),YP w h->(K w.params).In h)
   (F:∀ (w:World) (mg:Str->Option Value) (fa:Addr) (h:Heap),(K w.params).In h->h.Ns mainGlobals mg->mg d.name=some (.ref fa) ->
     ∃ fd:FuncData,(∀ (s:Shared) (u:Value),BindsTo s fd ⟨[u],[]⟩ [(x,u)]) /\
       ∀ base:Heap,(K w.params).In base->base.Ns mainGlobals mg->FnOk l.prog w (K w.params) mg base (CX w) k fa fd [x] (sp w))
   (hsp:∀ (w:World) (H:Hp) (a:Addr) (ns:List Int),ns.length <= n->Only H->SqL (K w.params) H a (ns.map V.int)->sp w [.ref a] H (λv _=>v=.bl true) λ_ _ _=>False)
   (hCX:∀ (w:World) (H:Hp) (s:Shared) (e:Value) (s':Shared),CX w [] H s (λ_ _ _=>False) e s'->False) :
   PySem.W.WalkO q loose XP YP l.row.toRowW d [] (λf vs=>PySem.call f vs):=by
 refine Att.attach_call hn hdf λw s₀ s₁ mg mb fa o pm cd doc a vs ns G Y ho hd hcd hmg hobj hints hlen hg=>?_
 have KX:=hY w _ Y
 obtain ⟨fd,hb,hF⟩:=F w mg fa _ KX G.T.g hmg
 exact law_call KX G.T.g G.T.b G.T.builtins G.T.nolimit hg hobj hints (Nat.le_trans hlen hn2) hr hF hb (λH hO hS=>hsp w H a ns hlen hO hS) λH e s'=>hCX w H s₁ e s'
end L2

namespace L2
open PySem PySem.Spec PyProof.Rows

def inClass (s:Stmt) (j:Nat):Stmt:=match s with
 | .ClassDef _ _ _ body _ _ _ _ _ _ _=>body.getD j (.Pass ⟨0,0,0,0⟩)
 | _=>.Pass ⟨0,0,0,0⟩
def defArgs (s:Stmt):Arguments:=match s with
 | .FunctionDef _ a _ _ _ _ _ _ _ _=>a
 | _=>{ posonlyargs:=[],args:=[],vararg:=none,kwonlyargs:=[],kw_defaults:=[],kwarg:=none,defaults:=[] }
def defBody (s:Stmt):List Stmt:=match s with
 | .FunctionDef _ _ b _ _ _ _ _ _ _=>b
 | _=>[]
def defScope (s:Stmt):Scope:=match s with
 | .FunctionDef _ _ _ _ _ _ sc _ _ _=>sc
 | _=>{ kind:=.function,names:=[],isGenerator:=false,isCoroutine:=false }

abbrev CX0:CXT:=λ_ _ _ _ _ _=>False
abbrev E0:XK:=λ_ _ _=>False
theorem pass0 {X:Cx}:Passes CX0 X E0:=λ_ _ _ _ _ _ _ h=>h.elim

structure Fun (K:PySem.W.Frag) (x qual:Str) (st:Stmt) (f:Addr) (fd:FuncData):Prop where
 ex:∃ (oc:Value) (od:Option Addr) (kV doc pm:Value) (an:Option Addr) (cdv ct:Value) (osl:Array (Option Value)),
   fd=PySem.W.fnOf x qual (defArgs st) (defBody st) (defScope st) .none kV doc pm an cdv ct/\K.lookup f=some ⟨oc,od,.func fd,osl⟩/\PySem.W.codeIn K cdv qual=true
 kp:PySem.W.keepIn K (.ref f)=true
section
variable {P:Program} {w:World} {K:PySem.W.Frag} {mg:Str->Option Value} {base:Heap}
theorem Fun.ok {x qual:Str} {st:Stmt} {f:Addr} {fd:FuncData} {N ps:List Str} {k:Nat} {sp:Sp} (F:Fun K x qual st f fd) (S:FnScope N ps (defScope st)) (len:∀ vs H Q E,sp vs H Q E->vs.length=ps.length)
   (hbody:∀ (cdv:Value) (A:Around) (outer:List Env) (s:Shared) (H:Hp) (vs:List V) (Q:VK) (E:XK),Room k (A.deeper (envOfC qual (defScope st) s.heap.objs.size f cdv))->sp vs H Q E ->
     ∃ t,PSs (cxOf CX0 P w K mg base N qual (defScope st) f cdv A outer s H E).nox (defBody st) t/\t { nx:=λ_ H'=>Q .non H',rt:=Q } (start N vs) H):FnOk P w K mg base CX0 (k+1) f fd ps sp:=by
 obtain ⟨oc,od,kV,doc,pm,an,cdv,ct,osl,rfl,lk,hcd⟩:=F.ex
 refine fn_of lk hcd S len λA outer s H vs Q E hr hsp=>?_
 obtain ⟨t,h,q⟩:=hbody cdv A outer s H vs Q E hr hsp
 exact ⟨t,h.nox,q⟩
theorem Fun.binds {x qual:Str} {st:Stmt} {f:Addr} {fd:FuncData} {ps:List Str} (F:Fun K x qual st f fd)
   (h:∀ (kV doc pm:Value) (an:Option Addr) (cdv ct:Value) (us:List Value),us.length=ps.length->bindArgs (PySem.W.fnOf x qual (defArgs st) (defBody st) (defScope st) .none kV doc pm an cdv ct) ⟨us,[]⟩=pure (ps.zip us)):Binds K fd ps []:=by
 obtain ⟨oc,od,kV,doc,pm,an,cdv,ct,osl,rfl,lk,hcd⟩:=F.ex
 exact .all (h kV doc pm an cdv ct)
theorem fun_mk {x qual:Str} {st:Stmt} {f:Addr} {oc:Value} {od an:Option Addr} {osl:Array (Option Value)} {kV doc pm cdv ct:Value} (l:K.lookup f=some ⟨oc,od,.func (PySem.W.fnOf x qual (defArgs st) (defBody st) (defScope st) .none kV doc pm an cdv ct),osl⟩)
   (c:PySem.W.codeIn K cdv qual=true) (k:PySem.W.keepIn K (.ref f)=true):Fun K x qual st f (PySem.W.fnOf x qual (defArgs st) (defBody st) (defScope st) .none kV doc pm an cdv ct):=⟨⟨oc,od,kV,doc,pm,an,cdv,ct,osl,rfl,l,c⟩,k⟩
end
theorem hu_of {A:Around} {k:Nat} (hr:Room k A):A.units+1 < cLine:=Nat.lt_of_le_of_lt (Nat.add_le_add_left (by decide:1 <= 64) _) hr.units
section
variable {X:Cx}
theorem pv (i:Nat) {x:Str} {pos:Pos} (hN:X.N[i]?=some x:=by rfl) (hv:Vis X.env.scope x:=by first | exact Or.inl rfl | exact Or.inr (Or.inl rfl) | exact Or.inr (Or.inr rfl)) (hd:(x == ("__debug__":Str))=false:=by decide)
   (hcd:(x == ("__classdict__":Str))=false:=by decide):PE X (.Name x pos) (tVar i):=pe_var hN hv hd hcd
end

theorem iteF {A B:Prop} (h:B):if false=true then A else B:=by
 rw [if_neg Bool.false_ne_true]
 exact h
theorem iteT {A B:Prop} (h:A):if true=true then A else B:=by
 rw [if_pos rfl]
 exact h
theorem ite2 {c A B:Prop} [Decidable c] (h1:c->A) (h2:¬ c->B):if c then A else B:=by
 by_cases h:c
 · rw [if_pos h]
   exact h1 h
 · rw [if_neg h]
   exact h2 h
theorem iteNS {c A B:Prop} [Decidable c] (hc:c) (h:B):if (!decide c)=true then A else B:=by
 rw [decide_eq_true hc]
 exact iteF h

def Same (H H':Hp):Prop:=∀ b o,H b=some o->H' b=some o
theorem Same.refl (H:Hp):Same H H:=λ_ _ h=>h
theorem Same.trans {H H1 H2:Hp} (a:Same H H1) (b:Same H1 H2):Same H H2:=λc o h=>b c o (a c o h)
theorem Same.free {H H':Hp} (e:Same H H') {l:Addr} (h:H' l=Option.none):H l=Option.none:=by
 cases q:H l with
 | none=>rfl
 | some o =>
   rw [e l o q] at h
   cases h
theorem Same.seq {K:PySem.W.Frag} {H H':Hp} {a:Addr} {xs:List V} (e:Same H H') (h:SqL K H a xs):SqL K H' a xs:=by
 rcases h with (h | ⟨o,h⟩) | h
 · exact .inl (.inl (e _ _ h))
 · exact .inl (.inr ⟨o,e _ _ h⟩)
 · exact .inr h

end L2

namespace L2
open PySem PySem.Spec PyProof.Rows
section
variable {X:Cx}
end
section
variable {κ:Type} [DecidableEq κ]
end
end L2


namespace L2
open PySem PySem.Spec PyProof.Rows
theorem bt_int:bootBuiltins "int"=some (.type "int"):=by decide +kernel
theorem bt_bool:bootBuiltins "bool"=some (.type "bool"):=by decide +kernel
theorem bt_list:bootBuiltins "list"=some (.type "list"):=by decide +kernel
theorem bt_tuple:bootBuiltins "tuple"=some (.type "tuple"):=by decide +kernel
theorem bt_str:bootBuiltins "str"=some (.type "str"):=by decide +kernel
theorem bt_reversed:bootBuiltins "reversed"=some (.type "reversed"):=by decide +kernel
theorem bt_isinstance:bootBuiltins "isinstance"=some (.builtin "isinstance"):=by decide +kernel
theorem bt_len:bootBuiltins "len"=some (.builtin "len"):=by decide +kernel
section
variable {X:Cx}
theorem call_isinst:CallR X (.builtin "isinstance") (λxs H Q=>∃ x c t b,xs=[x,V.ty c]/\TyOf X.K H x t/\PySem.W.kitOne X.K t (.type c)=some b/\Q (.bl b) H):=by
 intro pins s σ H xs us Q I r h
 obtain ⟨x,c,t,b,rfl,ty,e,q⟩:=h
 obtain ⟨u,w',rfl,ru,rw⟩:=vals2 r
 cases rw
 exact isinst_ok I ru ty e λtk=>⟨.bl b,H,I.tok _,rfl,q⟩
def CDivB (_i j:Int):Prop:=0 < j/\j < 2 ^ 40
theorem op_fdivB:OpR X (binaryOp .FloorDiv) (rI CDivB λi j=>.int (i / j)):=opI λi j _ _ _ _ _ hc q=>by
 have h1:(0:Int) < j:=hc.1
 have h2:j < 2 ^ 40:=hc.2
 refine floordiv_int (by omega) (by rw [Int.fdiv_eq_ediv_of_nonneg i (by omega)];exact q) (.inl (PyProof.noPylong_of_log2 ?_))
 have h3:j.natAbs≠0:=by omega
 have h4:j.natAbs.log2 < 40:=(Nat.log2_lt h3).mpr (by omega)
 omega
end
theorem iteC {c A B:Prop} [Decidable c] (hc:c) (h:A):if c then A else B:=by
 rw [if_pos hc];exact h
theorem iteN {c A B:Prop} [Decidable c] (hc:¬ c) (h:B):if c then A else B:=by
 rw [if_neg hc];exact h
theorem cmul_nn {i j:Int} (h0:0 <= i) (h1:i < 4294967296):CMul i j:=.inl ⟨Int.lt_of_lt_of_le (by decide) h0,Int.lt_trans h1 (by decide)⟩
theorem same_new {H:Hp} {p:Addr} {o:HO} (h:H p=none):Same H (upd H p o):=λb u e=>by
 rw [upd_ne (ne_of_none e h)];exact e
end L2
namespace L2
open PySem PySem.Spec PyProof.Rows
section
variable {X:Cx}
def rCatS (K:PySem.W.Frag):R2:=λx y H Q=>∃ l b xs zs,x=.ref l/\y=.ref b/\SqL K H l xs/\SqL K H b zs/\xs.length+zs.length <= sizeLine/\∀ p,H p=none->Q (.ref p) (upd H p (.lst (xs++zs)))
end
end L2

set_option Elab.async false
set_option maxRecDepth 100000
set_option maxHeartbeats 4000000
namespace MX
open PySem PySem.W
mutual
def kd:PyData->Bool
 | .int _=>true
 | .str x=>PyData.strOk x
 | .tuple xs=>kds xs
 | .none=>false
 | .bool _=>false
 | .list _=>false
 | .dict _=>false
def kds:List PyData->Bool
 | []=>true
 | x :: xs=>kd x && kds xs
end
mutual
def hashD (w:World):PyData->Int
 | .int i=>hashInt i
 | .str x=>hashStr w x
 | .tuple xs=>reduceHash (Builtin.Tuple.tupleHashOf (hashDs w xs))
 | .none=>0
 | .bool _=>0
 | .list _=>0
 | .dict _=>0
def hashDs (w:World):List PyData->List Int
 | []=>[]
 | x :: xs=>hashD w x :: hashDs w xs
end
mutual
theorem kd_lay:∀ d:PyData,kd d=true->d.canLay0=true
 | .int _,_=>rfl
 | .str _,h=>h
 | .tuple xs,h=>kds_lay xs h
 | .none,h=>by cases h
 | .bool _,h=>by cases h
 | .list _,h=>by cases h
 | .dict _,h=>by cases h
theorem kds_lay:∀ xs:List PyData,kds xs=true->PyData.canLayAll0 xs=true
 | [],_=>rfl
 | x :: xs,h=>by
   have h':(kd x && kds xs)=true:=h
   rw [Bool.and_eq_true] at h'
   show (x.canLay0 && PyData.canLayAll0 xs)=true
   rw [kd_lay x h'.1,kds_lay xs h'.2];rfl
end
theorem iffF {p q:Prop} (h1:¬ p) (h2:¬ q):p ↔ q:=⟨λz=>(h1 z).elim,λz=>(h2 z).elim⟩
mutual
theorem eqv_iff:∀ d e:PyData,kd d=true->kd e=true->(PyData.eqv d e=true ↔ d=e)
 | .int a,.int b,_,_=>by
   show (a == b)=true ↔ _
   rw [beq_iff_eq];exact ⟨λz=>by rw [z],λz=>by injection z⟩
 | .str a,.str b,_,_=>by
   show (a == b)=true ↔ _
   rw [beq_iff_eq];exact ⟨λz=>by rw [z],λz=>by injection z⟩
 | .tuple xs,.tuple ys,h1,h2=>by
   have q:=eqvs_iff xs ys h1 h2
   show PyData.eqvAll xs ys=true ↔ _
   rw [q];exact ⟨λz=>by rw [z],λz=>by injection z⟩
 | .int _,.str _,_,_=>iffF (λz=>by cases z) (λz=>by cases z)
 | .int _,.tuple _,_,_=>iffF (λz=>by cases z) (λz=>by cases z)
 | .str _,.int _,_,_=>iffF (λz=>by cases z) (λz=>by cases z)
 | .str _,.tuple _,_,_=>iffF (λz=>by cases z) (λz=>by cases z)
 | .tuple _,.int _,_,_=>iffF (λz=>by cases z) (λz=>by cases z)
 | .tuple _,.str _,_,_=>iffF (λz=>by cases z) (λz=>by cases z)
theorem eqvs_iff:∀ xs ys:List PyData,kds xs=true->kds ys=true->(PyData.eqvAll xs ys=true ↔ xs=ys)
 | [],[],_,_=>⟨λ_=>rfl,λ_=>rfl⟩
 | [],_ :: _,_,_=>iffF (λz=>by cases z) (λz=>by cases z)
 | _ :: _,[],_,_=>iffF (λz=>by cases z) (λz=>by cases z)
 | x :: xs,y :: ys,h1,h2=>by
   have h1':(kd x && kds xs)=true:=h1
   have h2':(kd y && kds ys)=true:=h2
   rw [Bool.and_eq_true] at h1' h2'
   show (PyData.eqv x y && PyData.eqvAll xs ys)=true ↔ _
   rw [Bool.and_eq_true,eqv_iff x y h1'.1 h2'.1,eqvs_iff xs ys h1'.2 h2'.2]
   exact ⟨λz=>by rw [z.1,z.2],λz=>by injection z with a b;exact ⟨a,b⟩⟩
end
section
variable {prog:Program} {w:World} {E:Value->Shared->Prop}
mutual
theorem hash_go:∀ (k:PyData) (v:Value) (as:List Addr) (A:Around) (s:Shared) (Q:Int->Shared->Prop),kd k=true->Reads s.heap v k as->A.units+k.depth < cLine ->
   (∀ tk,Q (hashD w k) { s with toks:=tk })->wpAny (model prog w) A (pyHash v) Q E s
 | .int i,_,_,A,s,Q,_,x,_,h=>by cases x;exact wpAny_pyHash_int (h _)
 | .str y,_,_,A,s,Q,_,x,_,h=>by cases x;exact wpAny_pyHash_str (h _)
 | .tuple xs,_,_,A,s,Q,hk,x,hu,h=>by
   cases x with
   | @tuple a o vs n _ _ hg hc hdt hw =>
     refine pyHash_slot (T:="tuple") ⟨_,hg,hc⟩ F.slot_tuple_hash F.entry_tuple_hash (F.args_tuple_hash_1 _) (beq_builtin_none _) (.inr (Nat.lt_of_le_of_lt (Nat.le_add_right _ _) hu)) ?_
     show wpAny _ _ (Builtin.Tuple.tupleItemsOf (.ref a) >>= _) _ _ s
     refine wpAny_bind (wpAny_tupleItemsOf hg hdt (wpAny_bind ?_))
     rw [← Array.forIn_toList]
     refine hashs_go xs _ _ A.in1 s #[] _ hk hw (by simp only [PyData.depth,Around.in1_units] at hu ⊢;omega) λtk b hb=>?_
     show wpAny _ _ (retInt (Builtin.Tuple.tupleHashOf b.toList)) _ _ _
     rw [hb]
     exact wpAny_bind (wpAny_mkInt (wpAny_pure ⟨_,_,rfl,h _⟩))
 | .none,_,_,_,_,_,h,_,_,_=>by cases h
 | .bool _,_,_,_,_,_,h,_,_,_=>by cases h
 | .list _,_,_,_,_,_,h,_,_,_=>by cases h
 | .dict _,_,_,_,_,_,h,_,_,_=>by cases h
theorem hashs_go:∀ (xs:List PyData) (vs:List Value) (as:List Addr) (A:Around) (s:Shared) (b:Array Int) (Q:Array Int->Shared->Prop),kds xs=true->ReadsAll s.heap vs xs as->A.units+PyData.depthAll xs < cLine ->
   (∀ tk b',b'.toList=b.toList++hashDs w xs->Q b' { s with toks:=tk }) ->
   wpAny (model prog w) A (forIn vs b λx r=>do let h ← pyHash x;pure PUnit.unit;pure (ForInStep.yield (r.push h))) Q E s
 | [],_,_,A,s,b,Q,_,x,_,h=>by cases x;exact wpAny_pure (h s.toks b (by simp [hashDs]))
 | k :: xs,_,_,A,s,b,Q,hk,x,hu,h=>by
   cases x with
   | cons x1 x2 =>
     have hk':(kd k && kds xs)=true:=hk
     rw [Bool.and_eq_true] at hk'
     simp only [PyData.depthAll] at hu
     rw [List.forIn_cons]
     refine wpAny_bind (wpAny_bind (hash_go k _ _ A s _ hk'.1 x1 (by omega) λtk=>wpAny_bind (wpAny_pure (wpAny_pure ?_))))
     exact hashs_go xs _ _ A _ _ Q hk'.2 x2 (by omega) λtk' b' hb=>h tk' b' (by simp [hb,hashDs])
end
theorem quiet_go:∀ (n:Nat) (k:PyData) (v:Value) (as:List Addr) (A:Around) (s:Shared) (Q:Bool->Shared->Prop),kd k=true->Reads s.heap v k as->k.depth <= n ->
   Q true s->wpAny (model prog w) A (eqIsQuiet n v) Q E s:=by
 intro n
 induction n with
 | zero =>
   intro k v as A s Q hk x hu h
   cases x with
   | int i t=>rw [eqIsQuiet_byValue 0 rfl];exact wpAny_pure h
   | str i t=>rw [eqIsQuiet_byValue 0 rfl];exact wpAny_pure h
   | tuple=>simp only [PyData.depth] at hu;omega
   | none=>cases hk
   | bool=>cases hk
   | list=>cases hk
   | dict=>cases hk
 | succ n ih =>
   intro k v as A s Q hk x hu h
   cases x with
   | int i t=>rw [eqIsQuiet_byValue _ rfl];exact wpAny_pure h
   | str i t=>rw [eqIsQuiet_byValue _ rfl];exact wpAny_pure h
   | none=>cases hk
   | bool=>cases hk
   | list=>cases hk
   | dict=>cases hk
   | @tuple a o vs m xs _ hg hc hdt hw =>
     have hT:s.TypeIs (.ref a) "tuple":=⟨_,hg,hc⟩
     unfold eqIsQuiet
     refine wpAny_bind (wpAny_specialOf hT F.slot_tuple_eq.lookup ?_)
     show wpAny _ _ (isInstance (.ref a) (.type "tuple") >>= _) _ _ s
     refine wpAny_bind (wpAny_isInstance hT isSubtype_tuple_tuple ?_)
     simp only [Bool.not_true,Bool.false_eq_true,if_false]
     refine wpAny_bind (wpAny_seqItems hg hdt (wpAny_bind ?_))
     show wpAny _ _ (forIn vs _ _) _ _ s
     rw [← Array.forIn_toList]
     refine wpAny_forIn_list _ (λrest r s'=>r.1=none/\s'=s/\∃ ys bs,ReadsAll s.heap rest ys bs/\kds ys=true/\PyData.depthAll ys <= n) _ ?_ ?_ _ _
       ⟨rfl,rfl,xs,_,hw,hk,by simp only [PyData.depth] at hu;omega⟩
     · rintro y rest r s' ⟨hr,rfl,ys,bs,rd,hks,hdp⟩
       cases rd with
       | @cons _ _ d ds _ _ r1 r2 =>
         have hks':(kd d && kds ds)=true:=hks
         rw [Bool.and_eq_true] at hks'
         simp only [PyData.depthAll] at hdp
         refine wpAny_bind (ih d _ _ A _ _ hks'.1 r1 (by omega) ?_)
         simp only [Bool.not_true,Bool.false_eq_true,if_false]
         exact wpAny_pure ⟨rfl,rfl,ds,_,r2,hks'.2,by omega⟩
     · rintro ⟨r1,r2⟩ s' ⟨hr,rfl,_⟩
       simp only at hr
       subst hr
       exact wpAny_pure h
def Ent (w:World) (h:Heap) (k:PyData) (e:DictEntry):Prop:=kd k=true/\k.depth <= 8/\(∃ as,Reads h e.key k as)/\e.hash=hashD w k
def Ask (h:Heap) (k:PyData) (v:Value):Prop:=kd k=true/\k.depth <= 8/\(∃ as,Reads h v k as)/\((∃ x t,v=.str x t)\/∃ a,v=.ref a)
abbrev Ents (w:World) (h:Heap) (ks:List PyData) (es:List DictEntry):Prop:=Paired (Ent w h) ks es
theorem f2_get {α β:Type} {R:α->β->Prop}:∀ {xs:List α} {ys:List β},Paired R xs ys->∀ (j:Nat) (y:β),ys[j]?=some y->∃ x,xs[j]?=some x/\R x y
 | _,_,.nil,j,y,h=>by simp at h
 | _,_,.cons r t,0,y,h=>by simp at h;subst h;exact ⟨_,rfl,r⟩
 | _,_,.cons r t,j+1,y,h=>by
   obtain ⟨x,e,q⟩:=f2_get t j y (by simpa using h)
   exact ⟨x,by simpa using e,q⟩
theorem f2_get' {α β:Type} {R:α->β->Prop}:∀ {xs:List α} {ys:List β},Paired R xs ys->∀ (j:Nat) (x:α),xs[j]?=some x->∃ y,ys[j]?=some y/\R x y
 | _,_,.nil,j,y,h=>by simp at h
 | _,_,.cons r t,0,y,h=>by simp at h;subst h;exact ⟨_,rfl,r⟩
 | _,_,.cons r t,j+1,y,h=>by
   obtain ⟨x,e,q⟩:=f2_get' t j y (by simpa using h)
   exact ⟨x,by simpa using e,q⟩
theorem mem_places {n:Nat} {f:Nat->Option Int} {h:Int} {j:Nat} (hj:j < n) (e:f j=some h):j∈placesWithHash n f h:=by
 unfold placesWithHash
 exact List.mem_filter.mpr ⟨List.mem_range.mpr hj,by rw [e];simp⟩
theorem places_lt {n:Nat} {f:Nat->Option Int} {h:Int} {j:Nat} (hj:j∈placesWithHash n f h):j < n:=by
 unfold placesWithHash at hj
 exact List.mem_range.mp (List.mem_filter.mp hj).1
theorem places_nd {n:Nat} {f:Nat->Option Int} {h:Int}:(placesWithHash n f h).Nodup:=by
 unfold placesWithHash
 exact List.Nodup.sublist List.filter_sublist List.nodup_range
theorem nd_ix {α:Type} {xs:List α} (hn:xs.Nodup) {i j:Nat} {k:α} (hi:xs[i]?=some k) (hj:xs[j]?=some k):i=j :=
 (List.getElem?_inj (List.getElem?_eq_some_iff.mp hi).1 hn).mp (hi.trans hj.symm)
variable {A:Around} {s:Shared}
theorem find_D {d:Addr} {o:Obj} {es:Array DictEntry} {ep:Nat} {ks:List PyData} {k:PyData} {key:Value} {Q:Option Nat->Shared->Prop} (hu:A.units+8 < cLine) (hk:Ask s.heap k key)
   (ho:s.heap.get? d=some o) (hd:o.data=.dict es ep) (hes:Ents w s.heap ks es.toList) (hn:ks.Nodup) (hnone:k ∉ ks->Q none s) (hsome:∀ j:Nat,ks[j]?=some k->Q (some j) s) :
   wpAny (model prog w) A (dictFind d key (hashD w k)) Q E s:=by
 obtain ⟨kk,kdp,⟨as,kr⟩,ksh⟩:=hk
 have hget:∀ (j:Nat) (e:DictEntry),es[j]?=some e->∃ k',ks[j]?=some k'/\Ent w s.heap k' e:=λj e h=>f2_get hes j e (by rw [Array.getElem?_toList];exact h)
 have hget':∀ (j:Nat) (k':PyData),ks[j]?=some k'->∃ e,es[j]?=some e/\Ent w s.heap k' e:=λj k' h=>by
   obtain ⟨e,h1,h2⟩:=f2_get' hes j k' h
   exact ⟨e,by rw [← Array.getElem?_toList];exact h1,h2⟩
 have hplace:∀ j:Nat,ks[j]?=some k->j∈placesWithHash es.size (λi=>es[i]?.map (·.hash)) (hashD w k):=λj h=>by
   obtain ⟨e,h1,_,_,_,h2⟩:=hget' j k h
   exact mem_places (Array.getElem?_eq_some_iff.mp h1).1 (by rw [h1,← h2];rfl)
 have heq:∀ (k':PyData) (e:DictEntry) (R:Bool->Shared->Prop),Ent w s.heap k' e->(k'=k->R true s)->(k'≠k->R false s)->wpAny (model prog w) A (eqBool e.key key) R E s:=λk' e R h h1 h2=>by
   obtain ⟨ek,ed,⟨bs,er⟩,_⟩:=h
   refine SeqAt.eqAt_reads k' k A s _ _ _ _ er kr (kd_lay _ ek) (kd_lay _ kk) (by omega) prog w E R ?_
   by_cases z:k'=k
   · rw [(eqv_iff k' k ek kk).mpr z];exact h1 z
   · have:PyData.eqv k' k=false:=by
       cases q:PyData.eqv k' k with
       | false=>rfl
       | true=>exact absurd ((eqv_iff k' k ek kk).mp q) z
     rw [this];exact h2 z
 have none_of:(∀ j:Nat,ks[j]?=some k->j∈([]:List Nat))->Q none s:=λh=>hnone λm=>by
   obtain ⟨j,hj⟩:=List.mem_iff_getElem?.mp m
   exact absurd (h j hj) (by simp)
 have plain:wpAny (model prog w) A (dictWalkPlain d key (hashD w k) es (placesWithHash es.size (λi=>es[i]?.map (·.hash)) (hashD w k))) Q E s:=by
   refine wpAny_bind ?_
   refine wpAny_forIn_list _ (λrest b s'=>s'=s/\b=(none,())/\(∀ j:Nat,ks[j]?=some k->j∈rest)/\∀ j∈rest,j < es.size) _ ?_ ?_ _ _ ⟨rfl,rfl,hplace,λj=>places_lt⟩
   · rintro x rest b s' ⟨rfl,rfl,hin,hlt⟩
     have hx:=hlt x List.mem_cons_self
     have hlt':∀ j∈rest,j < es.size:=λj hj=>hlt j (List.mem_cons_of_mem _ hj)
     obtain ⟨k',hk',he⟩:=hget x es[x] (Array.getElem?_eq_getElem hx)
     have next:k'≠k->∀ j:Nat,ks[j]?=some k->j∈rest:=λz j hj=>by
       rcases List.mem_cons.mp (hin j hj) with q | q
       · subst q;rw [hk'] at hj;exact absurd (Option.some.inj hj) z
       · exact q
     simp only [Array.getElem?_eq_getElem hx]
     by_cases hh:(es[x].hash == hashD w k)=true
     · rw [if_pos hh]
       refine wpAny_bind (wpAny_dictEpoch ho hd (wpAny_bind (heq k' es[x] _ he (λz=>wpAny_bind (wpAny_dictEpoch ho hd ?_)) (λz=>wpAny_bind (wpAny_dictEpoch ho hd ?_)))))
       · show wpAny _ _ (if (ep != ep)=true then _ else _) _ E _
         rw [if_neg (by simp)]
         exact wpAny_bind (wpAny_rule (wpAny_pure (wpAny_pure (hsome x (z ▸ hk')))))
       · show wpAny _ _ (if (ep != ep)=true then _ else _) _ E _
         rw [if_neg (by simp)]
         exact wpAny_bind (wpAny_rule (wpAny_pure ⟨rfl,rfl,next z,hlt'⟩))
     · rw [if_neg hh]
       refine wpAny_pure ⟨rfl,rfl,next λz=>hh ?_,hlt'⟩
       rw [he.2.2.2,z];simp
   · rintro b s' ⟨rfl,rfl,hin,_⟩
     exact wpAny_pure (none_of hin)
 have hstored:∀ v∈(placesWithHash es.size (λi=>es[i]?.map (·.hash)) (hashD w k)).filterMap (λi=>es[i]?.map (·.key)),∃ k' bs,kd k'=true/\k'.depth <= 8/\Reads s.heap v k' bs:=λv hv=>by
   obtain ⟨i,_,hi⟩:=List.mem_filterMap.mp hv
   cases q:es[i]? with
   | none=>rw [q] at hi;cases hi
   | some e =>
     rw [q] at hi
     have z:e.key=v:=by simpa using hi
     obtain ⟨k',_,h1,h2,⟨bs,h3⟩,_⟩:=hget i e q
     exact ⟨k',bs,h1,h2,z ▸ h3⟩
 have htell:∀ (R:Bool->Shared->Prop),R false s->wpAny (model prog w) A (tableMayTell key ((placesWithHash es.size (λi=>es[i]?.map (·.hash)) (hashD w k)).filterMap (λi=>es[i]?.map (·.key)))) R E s:=λR h=>by
   unfold tableMayTell
   split
   · exact wpAny_pure h
   · refine wpAny_bind (quiet_go 8 k key _ A s _ kk kr kdp ?_)
     simp only [Bool.not_true,Bool.false_eq_true,if_false]
     refine wpAny_bind ?_
     refine wpAny_forIn_list _ (λrest r s'=>s'=s/\r=(none,())/\∀ v∈rest,∃ k' bs,kd k'=true/\k'.depth <= 8/\Reads s.heap v k' bs) _ ?_ ?_ _ _ ⟨rfl,rfl,hstored⟩
     · rintro x rest r s' ⟨rfl,rfl,hr⟩
       obtain ⟨k',bs,h1,h2,h3⟩:=hr x List.mem_cons_self
       refine wpAny_bind (quiet_go 8 k' x _ A _ _ h1 h3 h2 ?_)
       simp only [Bool.not_true,Bool.false_eq_true,if_false]
       exact wpAny_pure ⟨rfl,rfl,λv hv=>hr v (List.mem_cons_of_mem _ hv)⟩
     · rintro r s' ⟨rfl,rfl,_⟩
       exact wpAny_pure h
 have hany:∀ a:Addr,key=.ref a->¬ (es.any λe=>e.key == Value.ref a && e.hash != hashD w k)=true:=by
   rintro a rfl h
   rw [← Array.any_toList,List.any_eq_true] at h
   obtain ⟨e,hin,hc⟩:=h
   obtain ⟨j,hj⟩:=List.mem_iff_getElem?.mp hin
   obtain ⟨k',hk',h1,h2,⟨bs,h3⟩,h4⟩:=hget j e (by rw [← Array.getElem?_toList];exact hj)
   rw [Bool.and_eq_true] at hc
   have z1:e.key=.ref a:=beq_iff_eq.mp hc.1
   rw [z1] at h3
   have z2:=SeqAt.Reads.unique k' k _ _ _ (kd_lay _ h1) h3 kr
   rw [h4,z2] at hc
   simp at hc
 unfold dictFind
 refine wpAny_holding ?_
 refine wpAny_bind (wpAny_dictEntries ho hd ?_)
 dsimp only
 rcases ksh with ⟨x,t,rfl⟩ | ⟨a,rfl⟩
 · dsimp only
   by_cases hstr:(es.all λe=>isExactStrKey e.key)=true
   · rw [if_pos hstr]
     unfold foundByValue
     have kx:k=.str x:=by cases kr;rfl
     have hkey:∀ (j:Nat) (e:DictEntry),es[j]?=some e->∃ k',ks[j]?=some k'/\Ent w s.heap k' e/\(e.key.isStr x=true ↔ k'=k):=λj e h=>by
       obtain ⟨k',h1,h2⟩:=hget j e h
       refine ⟨k',h1,h2,?_⟩
       have hs:isExactStrKey e.key=true:=by
         have q:=Array.all_eq_true.mp hstr
         obtain ⟨hl,he⟩:=Array.getElem?_eq_some_iff.mp h
         have:=q j hl
         rw [he] at this;exact this
       obtain ⟨_,_,⟨bs,h3⟩,_⟩:=h2
       cases hv:e.key with
       | str y u =>
         rw [hv] at h3
         cases h3
         show (y == x)=true ↔ _
         rw [kx,beq_iff_eq]
         exact ⟨λz=>by rw [z],λz=>by injection z⟩
       | _=>rw [hv] at hs;cases hs
     cases hf:es.findIdx? (λe=>e.key.isStr x) with
     | none =>
       refine wpAny_pure (hnone λm=>?_)
       obtain ⟨j,hj⟩:=List.mem_iff_getElem?.mp m
       obtain ⟨e,he,_⟩:=hget' j k hj
       obtain ⟨k',h1,_,h2⟩:=hkey j e he
       rw [hj] at h1
       have h3:=Array.findIdx?_eq_none_iff.mp hf e (Array.mem_of_getElem? he)
       rw [h2.mpr (Option.some.inj h1).symm] at h3
       cases h3
     | some i =>
       obtain ⟨hlt,hi,_⟩:=Array.findIdx?_eq_some_iff_getElem.mp hf
       obtain ⟨k',h1,h2,h3⟩:=hkey i es[i] (Array.getElem?_eq_getElem hlt)
       have z:k'=k:=h3.mp hi
       simp only [Array.getElem?_eq_getElem hlt]
       refine wpAny_bind (wpAny_dictEpoch ho hd (wpAny_bind (heq k' es[i] _ h2 (λ_=>wpAny_bind (wpAny_dictEpoch ho hd ?_)) (λq=>absurd z q))))
       rw [if_neg (by simp)]
       simp only [if_true]
       exact wpAny_bind (wpAny_rule (wpAny_pure (hsome i (z ▸ h1))))
   · rw [if_neg hstr]
     by_cases hall:((Value.str x t :: (placesWithHash es.size (λi=>es[i]?.map (·.hash)) (hashD w k)).filterMap (λi=>es[i]?.map (·.key))).all carriedByValue)=true
     · rw [if_pos hall]
       exact plain
     · rw [if_neg hall]
       by_cases hone:(((placesWithHash es.size (λi=>es[i]?.map (·.hash)) (hashD w k)).filterMap (λi=>es[i]?.map (·.key))) == [Value.str x t])=true
       all_goals
         first
           | (rw [if_pos hone];refine wpAny_bind (wpAny_pure ?_))
           | (rw [if_neg hone];refine wpAny_bind (htell _ ?_))
         rw [if_neg (by simp)]
         refine wpAny_bind (wpAny_forIn_list _ (λrest b s'=>s'=s/\∃ hit,b=(none,hit)/\((hit=none/\∀ j:Nat,ks[j]?=some k->j∈rest)\/∃ j,hit=some j/\ks[j]?=some k/\j ∉ rest)/\(∀ j∈rest,j < es.size)/\rest.Nodup) _ ?_ ?_ _ _
           ⟨rfl,none,rfl,.inl ⟨rfl,hplace⟩,λj=>places_lt,places_nd⟩)
         · rintro x rest b s' ⟨rfl,hit,rfl,hin,hlt,hnd⟩
           have hx:=hlt x List.mem_cons_self
           have hlt':∀ j∈rest,j < es.size:=λj hj=>hlt j (List.mem_cons_of_mem _ hj)
           obtain ⟨hxr,hnd'⟩:=List.nodup_cons.mp hnd
           obtain ⟨k',hk',he⟩:=hget x es[x] (Array.getElem?_eq_getElem hx)
           have next:k'≠k->((hit=none/\∀ j:Nat,ks[j]?=some k->j∈rest)\/∃ j,hit=some j/\ks[j]?=some k/\j ∉ rest):=λz=>by
             rcases hin with ⟨h0,hin⟩ | ⟨j,h0,hj,hjr⟩
             · refine .inl ⟨h0,λj hj=>?_⟩
               rcases List.mem_cons.mp (hin j hj) with q | q
               · subst q;rw [hk'] at hj;exact absurd (Option.some.inj hj) z
               · exact q
             · exact .inr ⟨j,h0,hj,λq=>hjr (List.mem_cons_of_mem _ q)⟩
           simp only [Array.getElem?_eq_getElem hx]
           by_cases hh:(es[x].hash == hashD w k)=true
           · rw [if_pos hh]
             refine wpAny_bind (wpAny_dictEpoch ho hd (wpAny_bind (heq k' es[x] _ he (λz=>wpAny_bind (wpAny_dictEpoch ho hd ?_)) (λz=>wpAny_bind (wpAny_dictEpoch ho hd ?_)))))
             · rw [if_neg (by simp)]
               have hkx:ks[x]?=some k:=z ▸ hk'
               rcases hin with ⟨rfl,hin⟩ | ⟨j,_,hj,hjr⟩
               · simp only [Option.isSome_none,Bool.false_eq_true,if_false,if_true]
                 refine wpAny_bind (wpAny_rule ?_)
                 split
                 · exact wpAny_pure (wpAny_pure (hsome x hkx))
                 · exact wpAny_pure ⟨rfl,some x,rfl,.inr ⟨x,rfl,hkx,hxr⟩,hlt',hnd'⟩
               · exact absurd (nd_ix hn hj hkx ▸ List.mem_cons_self) hjr
             · rw [if_neg (by simp)]
               simp only [Bool.false_eq_true,if_false]
               refine wpAny_bind (wpAny_rule ?_)
               try rw [if_neg (by simp)]
               exact wpAny_pure ⟨rfl,hit,rfl,next z,hlt',hnd'⟩
           · rw [if_neg hh]
             refine wpAny_pure ⟨rfl,hit,rfl,next λz=>hh ?_,hlt',hnd'⟩
             rw [he.2.2.2,z];simp
         · rintro b s' ⟨rfl,hit,rfl,hin,_⟩
           rcases hin with ⟨rfl,hin⟩ | ⟨j,rfl,hj,_⟩
           · exact wpAny_pure (none_of hin)
           · exact wpAny_pure (hsome j hj)
 · dsimp only
   rw [if_neg (show ¬ ((Value.ref a :: (placesWithHash es.size (λi=>es[i]?.map (·.hash)) (hashD w k)).filterMap (λi=>es[i]?.map (·.key))).all carriedByValue)=true from by simp [carriedByValue]),if_neg (hany a rfl)]
   by_cases hone:(((placesWithHash es.size (λi=>es[i]?.map (·.hash)) (hashD w k)).filterMap (λi=>es[i]?.map (·.key))) == [Value.ref a])=true
   all_goals
     first
       | (rw [if_pos hone];refine wpAny_bind (wpAny_pure ?_))
       | (rw [if_neg hone];refine wpAny_bind (htell _ ?_))
     rw [if_neg (by simp)]
     refine wpAny_bind (wpAny_forIn_list _ (λrest b s'=>s'=s/\∃ hit,b=(none,hit)/\((hit=none/\∀ j:Nat,ks[j]?=some k->j∈rest)\/∃ j,hit=some j/\ks[j]?=some k/\j ∉ rest)/\(∀ j∈rest,j < es.size)/\rest.Nodup) _ ?_ ?_ _ _
       ⟨rfl,none,rfl,.inl ⟨rfl,hplace⟩,λj=>places_lt,places_nd⟩)
     · rintro x rest b s' ⟨rfl,hit,rfl,hin,hlt,hnd⟩
       have hx:=hlt x List.mem_cons_self
       have hlt':∀ j∈rest,j < es.size:=λj hj=>hlt j (List.mem_cons_of_mem _ hj)
       obtain ⟨hxr,hnd'⟩:=List.nodup_cons.mp hnd
       obtain ⟨k',hk',he⟩:=hget x es[x] (Array.getElem?_eq_getElem hx)
       have next:k'≠k->((hit=none/\∀ j:Nat,ks[j]?=some k->j∈rest)\/∃ j,hit=some j/\ks[j]?=some k/\j ∉ rest):=λz=>by
         rcases hin with ⟨h0,hin⟩ | ⟨j,h0,hj,hjr⟩
         · refine .inl ⟨h0,λj hj=>?_⟩
           rcases List.mem_cons.mp (hin j hj) with q | q
           · subst q;rw [hk'] at hj;exact absurd (Option.some.inj hj) z
           · exact q
         · exact .inr ⟨j,h0,hj,λq=>hjr (List.mem_cons_of_mem _ q)⟩
       simp only [Array.getElem?_eq_getElem hx]
       by_cases hh:(es[x].hash == hashD w k)=true
       · rw [if_pos hh]
         refine wpAny_bind (wpAny_dictEpoch ho hd (wpAny_bind (heq k' es[x] _ he (λz=>wpAny_bind (wpAny_dictEpoch ho hd ?_)) (λz=>wpAny_bind (wpAny_dictEpoch ho hd ?_)))))
         · rw [if_neg (by simp)]
           have hkx:ks[x]?=some k:=z ▸ hk'
           rcases hin with ⟨rfl,hin⟩ | ⟨j,_,hj,hjr⟩
           · simp only [Option.isSome_none,Bool.false_eq_true,if_false,if_true]
             refine wpAny_bind (wpAny_rule ?_)
             split
             · exact wpAny_pure (wpAny_pure (hsome x hkx))
             · exact wpAny_pure ⟨rfl,some x,rfl,.inr ⟨x,rfl,hkx,hxr⟩,hlt',hnd'⟩
           · exact absurd (nd_ix hn hj hkx ▸ List.mem_cons_self) hjr
         · rw [if_neg (by simp)]
           simp only [Bool.false_eq_true,if_false]
           refine wpAny_bind (wpAny_rule ?_)
           try rw [if_neg (by simp)]
           exact wpAny_pure ⟨rfl,hit,rfl,next z,hlt',hnd'⟩
       · rw [if_neg hh]
         refine wpAny_pure ⟨rfl,hit,rfl,next λz=>hh ?_,hlt',hnd'⟩
         rw [he.2.2.2,z];simp
     · rintro b s' ⟨rfl,hit,rfl,hin,_⟩
       rcases hin with ⟨rfl,hin⟩ | ⟨j,rfl,hj,_⟩
       · exact wpAny_pure (none_of hin)
       · exact wpAny_pure (hsome j hj)
def DictE (h:Heap) (d:Addr) (es:List DictEntry) (ep:Nat):Prop:=∃ o,h.get? d=some o/\o.ExactDict/\o.data=.dict es.toArray ep
def DictEs (h:Heap) (d:Addr) (es:List DictEntry):Prop:=∃ o ep,h.get? d=some o/\o.ExactDict/\o.data=.dict es.toArray ep
theorem DictEs.ep {h:Heap} {d:Addr} {es:List DictEntry} (x:DictEs h d es):∃ ep,DictE h d es ep:=let ⟨o,ep,e⟩:=x;⟨ep,o,e⟩
theorem DictE.es {h:Heap} {d:Addr} {es:List DictEntry} {ep:Nat} (x:DictE h d es ep):DictEs h d es:=let ⟨o,e⟩:=x;⟨o,ep,e⟩
theorem DictE.typeIs {s:Shared} {d:Addr} {es:List DictEntry} {ep:Nat} (x:DictE s.heap d es ep):s.TypeIs (.ref d) "dict":=let ⟨o,ho,hc,_⟩:=x;⟨o,ho,hc.1⟩
theorem DictEs.typeIs {s:Shared} {d:Addr} {es:List DictEntry} (x:DictEs s.heap d es):s.TypeIs (.ref d) "dict":=let ⟨o,_,ho,hc,_⟩:=x;⟨o,ho,hc.1⟩
theorem DictEs.toks {s:Shared} {d:Addr} {es:List DictEntry} (x:DictEs s.heap d es) (tk:Nat):DictEs ({ s with toks:=tk }:Shared).heap d es:=x
theorem get_D {d:Addr} {es:List DictEntry} {ks:List PyData} {k:PyData} {key:Value} {Q:Option Value->Shared->Prop} (hu:A.units+8 < cLine) (hk:Ask s.heap k key)
   (hm:DictEs s.heap d es) (hes:Ents w s.heap ks es) (hn:ks.Nodup) (hnone:k ∉ ks->∀ tk,Q none { s with toks:=tk })
   (hsome:∀ (j:Nat) (e:DictEntry),ks[j]?=some k->es[j]?=some e->∀ tk,Q (some e.val) { s with toks:=tk }):wpAny (model prog w) A (dictGet d key) Q E s:=by
 obtain ⟨o,ep,ho,hc,hd⟩:=hm
 obtain ⟨kk,kdp,⟨as,kr⟩,ksh⟩:=id hk
 unfold dictGet
 refine wpAny_holding (wpAny_bind (hash_go k key as A s _ kk kr (by omega) λtk=>wpAny_bind (find_D (s:={ s with toks:=tk }) hu hk ho hd hes hn ?_ ?_)))
 · exact λh=>wpAny_pure (hnone h tk)
 · intro j hj
   refine wpAny_bind (wpAny_dictEntries (s:={ s with toks:=tk }) ho hd ?_)
   obtain ⟨e,he,_⟩:=f2_get' hes j k hj
   have q:es.toArray[j]?=some e:=by rw [List.getElem?_toArray];exact he
   rw [q]
   exact wpAny_pure (hsome j e hj he tk)
theorem meets_D (d:Addr) (key dflt:Value) (hd:(d == sysModules)=false) :
   MeetsIn prog w (Builtin.«dict.get» ⟨[.ref d,key,dflt],[]⟩) (λA R s=>A.in1.units+8 < cLine/\∃ k ks es,Ask s.heap k key/\DictEs s.heap d es/\Ents w s.heap ks es/\ks.Nodup /\
     (k ∉ ks->∀ tk,R (.ok (.ret dflt)) { s with toks:=tk })/\∀ (j:Nat) (e:DictEntry),ks[j]?=some k->es[j]?=some e->∀ tk,R (.ok (.ret e.val)) { s with toks:=tk }) :=
 .of_wp λA R s ⟨hu,k,ks,es,hk,hm,hes,hn,h1,h2⟩=>by
   show wpAny _ _ (dictGet d key >>= _) _ _ s
   refine wpAny_bind (get_D hu hk hm hes hn (λh tk=>?_) λj e hj he tk=>wpAny_pure ⟨_,rfl,h2 j e hj he tk⟩)
   show wpAny _ _ (Builtin.Dict.missed d key >>= _) _ _ _
   exact wpAny_bind (wpAny_missed_other hd (wpAny_pure ⟨dflt,rfl,h1 h tk⟩))
theorem item_D {d:Addr} {es:List DictEntry} {ks:List PyData} {k:PyData} {key:Value} {Q:Value->Shared->Prop} (hu:A.in1.units+8 < cLine) (hk:Ask s.heap k key)
   (hm:DictEs s.heap d es) (hes:Ents w s.heap ks es) (hn:ks.Nodup) (hin:k∈ks)
   (hsome:∀ (j:Nat) (e:DictEntry),ks[j]?=some k->es[j]?=some e->∀ tk,Q e.val { s with toks:=tk }):wpAny (model prog w) A (getItem (.ref d) key) Q E s:=by
 unfold getItem
 refine wpAny_holding (wpAny_bind (wpAny_sequenceKey hm.typeIs (by decide) (wpAny_bind (wpAny_callSpecial?_slot (name:=Str.ofString "__getitem__") hm.typeIs slot_dict_getitem
   (wpAny_call_entry slot_dict_getitem hm.typeIs entry_dict_getitem ?_ (args_dict_getitem _ _))))))
 show wpAny _ _ (dictGet d key >>= _) _ _ s
 exact wpAny_bind (get_D hu hk hm hes hn (λh _=>absurd hin h) λj e hj he tk=>wpAny_pure ⟨_,rfl,wpAny_pure (hsome j e hj he tk)⟩)
theorem keys_iter {d:Addr} {es:List DictEntry} {ep:Nat} {Q:Value->Shared->Prop} (hd:(d == sysModules)=false) (hm:DictE s.heap d es ep)
   (hQ:∀ h',h'.IsKeyIter s.heap.objs.size d 0 es.length ep->(∀ b o,s.heap.get? b=some o->h'.get? b=some o)->Q (.ref s.heap.objs.size) { s with heap:=h' }):wpAny (model prog w) A (pyIter (.ref d)) Q E s:=by
 obtain ⟨o,ho,hc,hdat⟩:=id hm
 refine wpAny_pyIter_slot hm.typeIs F.slot_dict_iter (wpAny_call_entry F.slot_dict_iter hm.typeIs F.entry_dict_iter ?_ (F.args_dict_iter_1 _))
 unfold Builtin.«dict.__iter__» Builtin.Dict.dictSlotNone
 refine wpAny_bind (wpAny_bind (wpAny_notOrdered_dict hm.typeIs (wpAny_pure ?_)))
 have hne:¬ (d == sysModules)=true:=by rw [hd];decide
 unfold Builtin.Dict.showsAll
 refine wpAny_bind (wpAny_of_eq (a:=d) rfl (wpAny_bind ?_))
 rw [if_neg hne]
 refine wpAny_pure (wpAny_bind (wpAny_dictEntries ho hdat (wpAny_bind (wpAny_dictEpoch ho hdat ?_))))
 refine wpAny_bind (wpAny_newObj_type (wpAny_pure ⟨_,rfl,"dict_keyiterator",_,⟨_,Heap.get?_push_size _ rfl,rfl⟩,F.slot_dict_keyiterator_next.lookup,?_⟩))
 exact hQ _ ⟨_,Heap.get?_push_size _ rfl,rfl,by simp [rawInt]⟩ λb o' e=>Heap.get?_push_of_some _ e
theorem keys_next {it d:Addr} {i ep:Nat} {es:List DictEntry} {e:DictEntry} {Q:Option Value->Shared->Prop} (hit:s.heap.IsKeyIter it d i es.length ep) (hm:DictE s.heap d es ep) (hx:es[i]?=some e)
   (hQ:∀ h',h'.IsKeyIter it d (i+1) es.length ep->Heap.SameBut it s.heap h'->Q (some e.key) { s with heap:=h' }):wpAny (model prog w) A (pyNext (.ref it)) Q E s:=by
 obtain ⟨o,ho,hc,hd⟩:=id hit
 obtain ⟨od,hod,hcd,hdd⟩:=id hm
 obtain ⟨hlt,he⟩:=List.getElem?_eq_some_iff.mp hx
 have hown:Builtin.Dict_items.ownsTuple "dict_keyiterator"=false:=by decide
 have hga:es.toArray[i]?=some e:=by rw [List.getElem?_toArray];exact hx
 unfold pyNext
 refine wpAny_bind (wpAny_attempt (wpAny_callSpecial?_slot (name:=Str.ofString "__next__") hit.typeIs F.slot_dict_keyiterator_next (wpAny_call_entry F.slot_dict_keyiterator_next hit.typeIs F.entry_dict_keyiterator_next ?_ (F.args_dict_keyiterator_next_1 _))))
 refine wpAny_bind (wpAny_pure (wpAny_bind (wpAny_bind ?_)))
 first | refine wpAny_bind (wpAny_typeNameOfWhole_keyiter hit.typeIs (wpAny_pure (wpAny_bind (wpAny_fieldsOf ho hd ?_)))) | refine wpAny_bind (wpAny_typeNameOf_keyiter hit.typeIs (wpAny_pure (wpAny_bind (wpAny_fieldsOf ho hd ?_))))
 simp only [hown,Bool.false_eq_true,if_false]
 show wpAny _ _ (if (Value.ref d == Value.none)=true then _ else _) _ _ s
 rw [if_neg (show ¬ ((Value.ref d == Value.none)=true) from Bool.false_ne_true)]
 refine wpAny_bind (wpAny_pure (wpAny_bind (wpAny_dictEntries hod hdd ?_)))
 rw [if_neg (by simp)]
 refine wpAny_bind (wpAny_pure (wpAny_bind (wpAny_dictEpoch hod hdd ?_)))
 rw [if_neg (by simp)]
 refine wpAny_pure ?_
 simp only [show ¬ ((i:Int) < 0) from by omega,if_false,Int.toNat_natCast,hga]
 refine wpAny_bind ?_
 first | refine wpAny_bind (wpAny_typeNameOfWhole_keyiter hit.typeIs (wpAny_pure (wpAny_bind (wpAny_isOneOf_keyiter hit.typeIs ?_)))) | refine wpAny_bind (wpAny_typeNameOf_keyiter hit.typeIs (wpAny_pure (wpAny_bind (wpAny_isOneOf_keyiter hit.typeIs ?_))))
 show wpAny _ _ (setField (.ref it) 1 (rawInt ((i:Int)+1)) >>= _) _ _ s
 have hit2:(s.heap.update it (Obj.mapFields (·.setIfInBounds 1 (rawInt ((i:Int)+1))))).IsKeyIter it d (i+1) es.length ep:=by
   refine ⟨_,Heap.get?_update_self _ ho (Obj.isFreed_of_fields (Obj.data_mapFields hd _)),(Obj.cls_mapFields ..).trans hc,?_⟩
   rw [Obj.data_mapFields hd];simp [rawInt]
 refine wpAny_bind (wpAny_setField ho hd (by simp) (wpAny_bind (wpAny_holding ?_)))
 refine wpAny_bind (wpAny_isOneOf_keyiter (s:={ s with heap:=s.heap.update it (Obj.mapFields (·.setIfInBounds 1 (rawInt ((i:Int)+1)))) }) hit2.typeIs ?_)
 show wpAny _ _ (pure e.key) _ _ _
 exact wpAny_pure (wpAny_pure ⟨_,rfl,wpAny_pure (hQ _ hit2 (Heap.SameBut.update ..))⟩)
theorem keys_end {it d:Addr} {i ep:Nat} {es:List DictEntry} {Q:Option Value->Shared->Prop} (hh:A.handled=none) (hit:s.heap.IsKeyIter it d i es.length ep) (hm:DictE s.heap d es ep) (hx:es.length <= i)
   (hQ:∀ h',Heap.ExtBut it s.heap h'->Q none { s with heap:=h' }):wpAny (model prog w) A (pyNext (.ref it)) Q E s:=by
 obtain ⟨o,ho,hc,hd⟩:=id hit
 obtain ⟨od,hod,hcd,hdd⟩:=id hm
 have hown:Builtin.Dict_items.ownsTuple "dict_keyiterator"=false:=by decide
 have hga:es.toArray[i]?=none:=by rw [List.getElem?_toArray];exact List.getElem?_eq_none hx
 unfold pyNext
 refine wpAny_bind (wpAny_attempt (wpAny_callSpecial?_slot (name:=Str.ofString "__next__") hit.typeIs F.slot_dict_keyiterator_next (wpAny_call_entry F.slot_dict_keyiterator_next hit.typeIs F.entry_dict_keyiterator_next ?_ (F.args_dict_keyiterator_next_1 _))))
 refine wpAny_bind (wpAny_pure (wpAny_bind (wpAny_bind ?_)))
 first | refine wpAny_bind (wpAny_typeNameOfWhole_keyiter hit.typeIs (wpAny_pure (wpAny_bind (wpAny_fieldsOf ho hd ?_)))) | refine wpAny_bind (wpAny_typeNameOf_keyiter hit.typeIs (wpAny_pure (wpAny_bind (wpAny_fieldsOf ho hd ?_))))
 simp only [hown,Bool.false_eq_true,if_false]
 show wpAny _ _ (if (Value.ref d == Value.none)=true then _ else _) _ _ s
 rw [if_neg (show ¬ ((Value.ref d == Value.none)=true) from Bool.false_ne_true)]
 refine wpAny_bind (wpAny_pure (wpAny_bind (wpAny_dictEntries hod hdd ?_)))
 rw [if_neg (by simp)]
 refine wpAny_bind (wpAny_pure (wpAny_bind (wpAny_dictEpoch hod hdd ?_)))
 rw [if_neg (by simp)]
 refine wpAny_pure ?_
 simp only [show ¬ ((i:Int) < 0) from by omega,if_false,Int.toNat_natCast,hga]
 refine wpAny_bind ?_
 first | refine wpAny_bind (wpAny_typeNameOfWhole_keyiter hit.typeIs (wpAny_pure ?_)) | refine wpAny_bind (wpAny_typeNameOf_keyiter hit.typeIs (wpAny_pure ?_))
 show wpAny _ _ (setField (.ref it) 0 .none >>= _) _ _ s
 refine wpAny_bind (wpAny_setField ho hd (by simp) ?_)
 show wpAny _ _ (newExc (.type "StopIteration") [] >>= _) _ _ _
 refine wpAny_bind ?_
 simp only [newExc,newTuple]
 refine wpAny_bind (wpAny_newObj_type (wpAny_bind (m:=firstArgMember _ _) (wpAny_of_eq (a:=Value.none) (by first | rfl | (simp only [firstArgMember];rfl)) (wpAny_newObj_type ?_ (by size_fits)))) (by size_fits))
 simp only [raiseNew]
 refine wpAny_bind (wpAny_handled ?_)
 rw [show A.in1.handled=none from hh]
 refine wpAny_bind (wpAny_pure (wpAny_throw ?_))
 refine wpAny_bind (wpAny_isInstance (T:="StopIteration") (b:=true) ⟨_,Heap.get?_push_size _ rfl,rfl⟩ isSubtype_stop (wpAny_pure (hQ _ (((Heap.SameBut.update ..).extBut.push _).push _))))
end
end MX

namespace L2
open PySem PySem.Spec PyProof.Rows
mutual
def DV (H:Hp):PyData->V->Prop
 | .none,x=>x=.non
 | .bool b,x=>x=.bl b
 | .int i,x=>x=.int i
 | .str t,x=>x=.str t
 | .list ds,x=>∃ (a:Addr) (vs:List V),x=.ref a/\H a=some (.lst vs)/\DVs H ds vs
 | .tuple ds,x=>∃ (a:Addr) (vs:List V),x=.ref a/\H a=some (.tup vs)/\DVs H ds vs
 | .dict _,_=>False
def DVs (H:Hp):List PyData->List V->Prop
 | [],vs=>vs=[]
 | d :: ds,vs=>∃ (v:V) (r:List V),vs=v :: r/\DV H d v/\DVs H ds r
end
section
variable {P:Program} {w:World} {H H':Hp} {h:Heap}
mutual
theorem DV.reads (ok:HOk P w H h):∀ (d:PyData) (x:V) (u:Value),DV H d x->RelV x u->∃ as,Reads h u d as
 | .none,_,_,e,r=>by cases e;cases r;exact ⟨_,.none⟩
 | .bool b,_,_,e,r=>by cases e;cases r;exact ⟨_,.bool b⟩
 | .int i,_,_,e,r=>by cases e;obtain ⟨t,rfl⟩:=r;exact ⟨_,.int i t⟩
 | .str y,_,_,e,r=>by cases e;obtain ⟨t,rfl⟩:=r;exact ⟨_,.str y t⟩
 | .list ds,_,_,e,r=>by
   obtain ⟨a,vs,rfl,ha,hv⟩:=e
   cases r
   obtain ⟨_,its,n,rv,hg⟩:=ok a _ ha
   obtain ⟨as,q⟩:=DVs.reads ok ds vs its hv rv
   exact ⟨_,.list hg rfl rfl (by simpa using q)⟩
 | .tuple ds,_,_,e,r=>by
   obtain ⟨a,vs,rfl,ha,hv⟩:=e
   cases r
   obtain ⟨_,its,rv,o,hg,hc,n,hd⟩:=ok a _ ha
   obtain ⟨as,q⟩:=DVs.reads ok ds vs its hv rv
   exact ⟨_,.tuple hg hc hd (by simpa using q)⟩
 | .dict _,_,_,e,_=>False.elim e
theorem DVs.reads (ok:HOk P w H h):∀ (ds:List PyData) (vs:List V) (us:List Value),DVs H ds vs->Vals vs us->∃ as,ReadsAll h us ds as
 | [],_,_,e,r=>by cases e;cases r;exact ⟨_,.nil⟩
 | d :: ds,_,_,e,r=>by
   obtain ⟨v,vs,rfl,h1,h2⟩:=e
   cases r with
   | cons r1 r2 =>
     obtain ⟨as,q1⟩:=DV.reads ok d _ _ h1 r1
     obtain ⟨bs,q2⟩:=DVs.reads ok ds _ _ h2 r2
     exact ⟨_,.cons q1 q2⟩
end
mutual
theorem DV.mono (hs:∀ b vs,H b=some (.lst vs)->H' b=some (.lst vs)) (ht:∀ b vs,H b=some (.tup vs)->H' b=some (.tup vs)):∀ (d:PyData) (x:V),DV H d x->DV H' d x
 | .none,_,e=>e
 | .bool _,_,e=>e
 | .int _,_,e=>e
 | .str _,_,e=>e
 | .list ds,_,⟨a,vs,e,ha,hv⟩=>⟨a,vs,e,hs _ _ ha,DVs.mono hs ht ds vs hv⟩
 | .tuple ds,_,⟨a,vs,e,ha,hv⟩=>⟨a,vs,e,ht _ _ ha,DVs.mono hs ht ds vs hv⟩
 | .dict _,_,e=>e
theorem DVs.mono (hs:∀ b vs,H b=some (.lst vs)->H' b=some (.lst vs)) (ht:∀ b vs,H b=some (.tup vs)->H' b=some (.tup vs)):∀ (ds:List PyData) (vs:List V),DVs H ds vs->DVs H' ds vs
 | [],_,e=>e
 | d :: ds,_,⟨v,r,e,h1,h2⟩=>⟨v,r,e,DV.mono hs ht d v h1,DVs.mono hs ht ds r h2⟩
end
mutual
theorem DV.keep (ht:∀ b vs,H b=some (.tup vs)->H' b=some (.tup vs)):∀ (d:PyData) (x:V),MX.kd d=true->DV H d x->DV H' d x
 | .int _,_,_,e=>e
 | .str _,_,_,e=>e
 | .tuple ds,_,k,⟨a,vs,e,ha,hv⟩=>⟨a,vs,e,ht _ _ ha,DVs.keep ht ds vs k hv⟩
 | .none,_,k,_=>by cases k
 | .bool _,_,k,_=>by cases k
 | .list _,_,k,_=>by cases k
 | .dict _,_,k,_=>by cases k
theorem DVs.keep (ht:∀ b vs,H b=some (.tup vs)->H' b=some (.tup vs)):∀ (ds:List PyData) (vs:List V),MX.kds ds=true->DVs H ds vs->DVs H' ds vs
 | [],_,_,e=>e
 | d :: ds,_,k,⟨v,r,e,h1,h2⟩=>by
   have k':(MX.kd d && MX.kds ds)=true:=k
   rw [Bool.and_eq_true] at k'
   exact ⟨v,r,e,DV.keep ht d v k'.1 h1,DVs.keep ht ds r k'.2 h2⟩
end
theorem DVs.length:∀ {ds:List PyData} {vs:List V},DVs H ds vs->vs.length=ds.length
 | [],_,e=>by cases e;rfl
 | d :: ds,_,⟨v,r,e,_,h2⟩=>by subst e;rw [List.length_cons,List.length_cons,DVs.length h2]
theorem DVs.get:∀ {ds:List PyData} {vs:List V} {j:Nat} {v:V},DVs H ds vs->vs[j]?=some v->∃ d,ds[j]?=some d/\DV H d v
 | [],_,j,v,e,g=>by cases e;simp at g
 | d :: ds,_,0,v,⟨v',r,e,h1,h2⟩,g=>by subst e;simp at g;subst g;exact ⟨d,rfl,h1⟩
 | d :: ds,_,j+1,v,⟨v',r,e,h1,h2⟩,g=>by
   subst e
   obtain ⟨d',a,b⟩:=DVs.get (j:=j) (v:=v) h2 (by simpa using g)
   exact ⟨d',by simpa using a,b⟩
theorem DVs.snoc:∀ {ds:List PyData} {vs:List V} {d:PyData} {v:V},DVs H ds vs->DV H d v->DVs H (ds++[d]) (vs++[v])
 | [],_,d,v,e,h=>by cases e;exact ⟨v,[],rfl,h,rfl⟩
 | c :: ds,_,d,v,⟨v',r,e,h1,h2⟩,h=>by subst e;exact ⟨v',r++[v],rfl,h1,DVs.snoc h2 h⟩
end
def LayD (d:PyData):Prop:=d.canLay0=true/\d.depth <= 16
theorem LayD.key {d:PyData} (h:MX.kd d=true) (h2:d.depth <= 8):LayD d:=⟨MX.kd_lay d h,by omega⟩
theorem LayD.int (i:Int):LayD (.int i):=⟨rfl,by show 0 <= 16;decide⟩
def rEqD (neg:Bool):R2:=λx y H Q=>∃ d e,DV H d x/\DV H e y/\LayD d/\LayD e/\Q (.bl (if neg then !PyData.eqv d e else PyData.eqv d e)) H
section
variable {X:Cx}
theorem op_eqD (hu:X.A.units+64 < cLine):OpR X (compareOp .Eq) (rEqD false):=by
 intro pins s σ H x y v u Q I rx ry h
 obtain ⟨d,e,h1,h2,l1,l2,q⟩:=h
 obtain ⟨as,r1⟩:=DV.reads I.hok d x v h1 rx
 obtain ⟨bs,r2⟩:=DV.reads I.hok e y u h2 ry
 exact SeqAt.compareEq_reads r1 r2 l1.1 l2.1 (by have:=l1.2;omega) ⟨.bl _,H,I,rfl,q⟩
theorem op_neD (hu:X.A.units+64 < cLine):OpR X (compareOp .NotEq) (rEqD true):=by
 intro pins s σ H x y v u Q I rx ry h
 obtain ⟨d,e,h1,h2,l1,l2,q⟩:=h
 obtain ⟨as,r1⟩:=DV.reads I.hok d x v h1 rx
 obtain ⟨bs,r2⟩:=DV.reads I.hok e y u h2 ry
 exact SeqAt.neOverData X.prog X.w X.A X.xe s v u d e as bs _ r1 r2 l1.1 l2.1 (by have:=l1.2;omega) ⟨.bl _,H,I,rfl,q⟩
end
def DObj (a:Addr) (es:List DictEntry) (ep:Nat):HO:=.ext λh=>(a == sysModules)=false/\MX.DictE h a es ep
def KEnt (w:World) (H:Hp) (p:PyData × V) (e:DictEntry):Prop:=MX.kd p.1=true/\p.1.depth <= 8/\e.hash=MX.hashD w p.1/\(∃ x,RelV x e.key/\DV H p.1 x)/\RelV p.2 e.val
def MD (w:World) (H:Hp) (a:Addr) (kvs:List (PyData × V)):Prop:=∃ es ep,H a=some (DObj a es ep)/\Paired (KEnt w H) kvs es/\(kvs.map (·.1)).Nodup/\kvs.length <= sizeLine
def KeyV (H:Hp) (k:PyData) (y:V):Prop:=MX.kd k=true/\k.depth <= 8/\DV H k y/\((∃ t,y=.str t)\/∃ b,y=.ref b)
def lookD (kvs:List (PyData × V)) (k:PyData):Option V:=(kvs.find? λp=>PyData.eqv p.1 k).map (·.2)
def putD (kvs:List (PyData × V)) (k:PyData) (v:V):List (PyData × V) :=
 if (kvs.any λp=>PyData.eqv p.1 k)=true then kvs.map (λp=>if PyData.eqv p.1 k=true then (p.1,v) else p) else kvs++[(k,v)]
theorem DObj.ok {P:Program} {w:World} {H:Hp} {h:Heap} {a:Addr} {es:List DictEntry} {ep:Nat} (hs:(a == sysModules)=false) (hm:MX.DictE h a es ep):ObjOk P w H h a (DObj a es ep):=by
 refine ⟨⟨hs,hm⟩,?_,λh1 h2 ⟨z,o,e,r⟩ k=>⟨z,o,k o e,r⟩⟩
 obtain ⟨o,e,_⟩:=hm
 exact ⟨o,e⟩
theorem DObj.of {P:Program} {w:World} {H:Hp} {h:Heap} {a:Addr} {es:List DictEntry} {ep:Nat} (ok:HOk P w H h) (e:H a=some (DObj a es ep)):(a == sysModules)=false/\MX.DictE h a es ep:=by
 obtain ⟨q,_⟩:=ok a _ e
 exact q
theorem Paired.keys {w:World} {H:Hp}:∀ {kvs:List (PyData × V)} {es:List DictEntry},Paired (KEnt w H) kvs es->kvs.length=es.length
 | _,_,.nil=>rfl
 | _,_,.cons _ t=>by rw [List.length_cons,List.length_cons,Paired.keys t]
theorem ents_of {P:Program} {w:World} {H:Hp} {h:Heap} (ok:HOk P w H h):∀ {kvs:List (PyData × V)} {es:List DictEntry},Paired (KEnt w H) kvs es->MX.Ents w h (kvs.map (·.1)) es
 | _,_,.nil=>.nil
 | _,_,.cons ⟨k1,k2,k3,⟨x,rx,dx⟩,_⟩ t=>.cons ⟨k1,k2,DV.reads ok _ _ _ dx rx,k3⟩ (ents_of ok t)
theorem ask_of {P:Program} {w:World} {H:Hp} {h:Heap} {k:PyData} {y:V} {u:Value} (ok:HOk P w H h) (hk:KeyV H k y) (r:RelV y u):MX.Ask h k u:=by
 obtain ⟨k1,k2,k3,k4⟩:=hk
 refine ⟨k1,k2,DV.reads ok _ _ _ k3 r,?_⟩
 rcases k4 with ⟨t,rfl⟩ | ⟨b,rfl⟩
 · obtain ⟨tk,rfl⟩:=r;exact .inl ⟨_,_,rfl⟩
 · cases r;exact .inr ⟨_,rfl⟩
section
variable {w:World} {H:Hp}
theorem eqv_false {d e:PyData} (h1:MX.kd d=true) (h2:MX.kd e=true) (n:d≠e):PyData.eqv d e=false:=by
 cases q:PyData.eqv d e with
 | false=>rfl
 | true=>exact absurd ((MX.eqv_iff d e h1 h2).mp q) n
theorem eqv_self {d:PyData} (h1:MX.kd d=true):PyData.eqv d d=true:=(MX.eqv_iff d d h1 h1).mpr rfl
def KK (kvs:List (PyData × V)):Prop:=∀ p∈kvs,MX.kd p.1=true
theorem KK.of {kvs:List (PyData × V)} {es:List DictEntry}:Paired (KEnt w H) kvs es->KK kvs:=by
 intro r
 induction r with
 | nil=>intro p h;cases h
 | cons a _ ih =>
   intro p h
   rcases List.mem_cons.mp h with rfl | h
   · exact a.1
   · exact ih p h
theorem lookD_at {k:PyData} (hk:MX.kd k=true):∀ {kvs:List (PyData × V)} {j:Nat},KK kvs->(kvs.map (·.1)).Nodup->(kvs.map (·.1))[j]?=some k->∃ v,kvs[j]?=some (k,v)/\lookD kvs k=some v
 | [],j,_,_,e=>by simp at e
 | (a,v) :: r,0,kk,_,e=>by
   simp at e;subst e
   refine ⟨v,rfl,?_⟩
   unfold lookD
   rw [List.find?_cons,eqv_self hk];rfl
 | (a,v) :: r,j+1,kk,nd,e=>by
   have nd':(a :: r.map (·.1)).Nodup:=nd
   obtain ⟨n1,n2⟩:=List.nodup_cons.mp nd'
   have e':(r.map (·.1))[j]?=some k:=by simpa using e
   obtain ⟨v',h1,h2⟩:=lookD_at hk (λp h=>kk p (List.mem_cons_of_mem _ h)) n2 e'
   refine ⟨v',by simpa using h1,?_⟩
   have ne:a≠k:=λz=>n1 (by rw [z];exact List.mem_of_getElem? e')
   unfold lookD at h2 ⊢
   rw [List.find?_cons,eqv_false (kk _ List.mem_cons_self) hk ne]
   exact h2
theorem lookD_no {k:PyData} (hk:MX.kd k=true) {kvs:List (PyData × V)} (kk:KK kvs) (n:k ∉ kvs.map (·.1)):lookD kvs k=none:=by
 unfold lookD
 rw [List.find?_eq_none.mpr λp hp=>?_]
 · rfl
 · rw [eqv_false (kk p hp) hk λz=>n (List.mem_map.mpr ⟨p,hp,z⟩)];decide
theorem putD_no {k:PyData} (hk:MX.kd k=true) {kvs:List (PyData × V)} (kk:KK kvs) (n:k ∉ kvs.map (·.1)) (v:V):putD kvs k v=kvs++[(k,v)]:=by
 unfold putD
 rw [if_neg]
 intro h
 obtain ⟨p,hp,e⟩:=List.any_eq_true.mp h
 exact n (List.mem_map.mpr ⟨p,hp,(MX.eqv_iff _ _ (kk p hp) hk).mp e⟩)
end
section
variable {w:World} {H H':Hp} {a:Addr} {kvs:List (PyData × V)}
theorem KEnt.keep (ht:∀ b vs,H b=some (.tup vs)->H' b=some (.tup vs)) {p:PyData × V} {e:DictEntry} (q:KEnt w H p e):KEnt w H' p e:=by
 obtain ⟨k1,k2,k3,⟨x,rx,dx⟩,k5⟩:=q
 exact ⟨k1,k2,k3,⟨x,rx,DV.keep ht _ _ k1 dx⟩,k5⟩
theorem MD.keep (m:MD w H a kvs) (ha:H' a=H a) (ht:∀ b vs,H b=some (.tup vs)->H' b=some (.tup vs)):MD w H' a kvs:=by
 obtain ⟨es,ep,h1,h2,h3⟩:=m
 exact ⟨es,ep,by rw [ha];exact h1,Paired.mapP h2 λ_ _ q=>q.keep ht,h3⟩
end
section
variable {X:Cx} {pins:List (Addr × Obj)} {σ:St} {H:Hp} {s:Shared} {a:Addr} {kvs:List (PyData × V)} {k:PyData} {y v d:V} {u r:Value} {A:Around} {E:Value->Shared->Prop}
theorem in1u {A:Around} (hu:A.units+64 < cLine):A.in1.units+8 < cLine:=by
 rw [Around.in1_units];omega
theorem md_get2 {Q:Value->Shared->Prop} (hu:A.units+64 < cLine) (I:Inv X pins σ H s) (m:MD X.w H a kvs) (hk:KeyV H k y) (ry:RelV y u) (rd:RelV d r) (h:∀ w' s',Inv X pins σ H s'->RelV ((lookD kvs k).getD d) w'->Q w' s') :
   wpAny (model X.prog X.w) A (call (.builtin "dict.get") [.ref a,u,r]) Q E s:=by
 obtain ⟨es,ep,h1,h2,h3,h4⟩:=m
 obtain ⟨hs,hme⟩:=DObj.of I.hok h1
 have hm:=hme.es
 refine call_meetsIn PySem.F.slot_dict_get hm.typeIs PySem.F.entry_dict_get (PySem.F.args_dict_get_3 _ _ _) (MX.meets_D a u r hs) ⟨in1u hu,k,_,es,ask_of I.hok hk ry,hm,ents_of I.hok h2,h3,λn tk=>h _ _ (I.tok _) ?_,λj e hj he tk=>h _ _ (I.tok _) ?_⟩
 · rw [lookD_no hk.1 (KK.of h2) n];exact rd
 · obtain ⟨v',g1,g2⟩:=lookD_at hk.1 (KK.of h2) h3 hj
   rw [g2]
   obtain ⟨p,e1,e2⟩:=MX.f2_get h2 j e he
   rw [g1] at e1;cases e1
   exact e2.2.2.2.2
theorem md_item {Q:Value->Shared->Prop} (hu:A.units+64 < cLine) (I:Inv X pins σ H s) (m:MD X.w H a kvs) (hk:KeyV H k y) (ry:RelV y u) (hl:lookD kvs k=some v) (h:∀ w' s',Inv X pins σ H s'->RelV v w'->Q w' s') :
   wpAny (model X.prog X.w) A (getItem (.ref a) u) Q E s:=by
 obtain ⟨es,ep,h1,h2,h3,h4⟩:=m
 obtain ⟨hs,hme⟩:=DObj.of I.hok h1
 have hm:=hme.es
 have hin:k∈kvs.map (·.1):=Classical.byContradiction λn=>by rw [lookD_no hk.1 (KK.of h2) n] at hl;cases hl
 refine MX.item_D (in1u hu) (ask_of I.hok hk ry) hm (ents_of I.hok h2) h3 hin λj e hj he tk=>h _ _ (I.tok _) ?_
 obtain ⟨v',g1,g2⟩:=lookD_at hk.1 (KK.of h2) h3 hj
 rw [g2] at hl;cases hl
 obtain ⟨p,e1,e2⟩:=MX.f2_get h2 j e he
 rw [g1] at e1;cases e1
 exact e2.2.2.2.2
end
end L2

namespace L2
open PySem PySem.Spec PyProof.Rows
def tMNew:TE:=λ_ H Q=>∀ p,H p=none->Q (.ref p) (upd H p (DObj p [] 0))
theorem MD.nil {w:World} {H:Hp} {p:Addr}:MD w (upd H p (DObj p [] 0)) p []:=⟨[],0,upd_same,.nil,List.nodup_nil,Nat.zero_le _⟩
def sMPut (w:World) (td ty tv:TE):TS:=λD σ H=>tv σ H λv H1=>td σ H1 λx H2=>ty σ H2 λy H3=>∃ a kvs k,x=.ref a/\MD w H3 a kvs/\kvs.length < sizeLine/\KeyV H3 k y /\
 ∀ H4,(∀ b,b≠a->H4 b=H3 b)->MD w H4 a (putD kvs k v)->D.nx σ H4
def tMGet2 (w:World) (td ty tx:TE):TE:=λσ H Q=>td σ H λx H1=>∃ a,x=.ref a/\(∃ kvs,MD w H1 a kvs)/\ty σ H1 λy H2=>tx σ H2 λz H3=>∃ kvs k,MD w H3 a kvs/\KeyV H3 k y/\Q ((lookD kvs k).getD z) H3
def tMItem (w:World) (td ty:TE):TE:=λσ H Q=>td σ H λx H1=>ty σ H1 λy H2=>∃ a kvs k v,x=.ref a/\MD w H2 a kvs/\KeyV H2 k y/\lookD kvs k=some v/\Q v H2
section
variable {X:Cx} {o i e f value:Expr} {pos pos' apos cpos:Pos} {td ty tv tx:TE}
theorem pe_mnew:PE X (.Dict [] [] pos) tMNew:=λpins s σ H Q I h =>
 wpAny_Dict_empty ⟨.ref s.heap.objs.size,_,I.laid (a:=s.heap.objs.size) (o:=DObj s.heap.objs.size [] 0) (t':=s.toks) (λ_ _ q=>Heap.get?_push_of_some _ q) (Nat.le_refl _)
   (DObj.ok (beq_eq_false_iff_ne.mpr (Ne.symm (Nat.ne_of_lt I.big))) ⟨_,Heap.get?_push_size _ rfl,⟨rfl,rfl,rfl⟩,rfl⟩),rfl,h _ (I.hok.fresh (Nat.le_refl _))⟩
theorem pe_mget2 (hu:X.A.units+64 < cLine) (ho:PE X o td) (he:PE X e ty) (hf:PE X f tx) (m:M2 X o "get" apos e f cpos):PE X (.Call (.Attribute o "get" apos) [e,f] [] cpos) (tMGet2 X.w td ty tx):=by
 intro pins s σ H Q I h
 refine wpAny_Call_method m.base m.few m.line PySem.F.plainAttrs_dict PySem.F.slot_dict_get PySem.F.type_dict_get (thn (ho pins s σ H _ I h) λu s1 ⟨x,H1,I1,rx,a,ex,⟨kv0,es,ep,e1,_⟩,q1⟩=>?_)
 subst ex
 obtain rfl:u=Value.ref a:=rx
 obtain ⟨_,ob,g1,g2,g3⟩:=DObj.of I1.hok e1
 refine ⟨⟨ob,g1,g2.1⟩,λb eb=>by injection eb with eb;subst eb;exact ⟨ob,g1,g2.2.1⟩,?_⟩
 rw [m.trees]
 refine Calls.callWith_builtin rfl (Calls.evalArgs_plain (Calls.spliced_cons (thn (he pins s1 σ H1 _ I1 q1) λiv s2 ⟨y,H2,I2,ry,q2⟩ =>
   Calls.spliced_cons (thn (hf pins s2 σ H2 _ I2 q2) λfv s3 ⟨z,H3,I3,rz,kvs,k,md,hk,q3⟩=>Calls.spliced_nil ?_))))
 exact md_get2 hu I3 md hk ry rz λw' s4 I4 rw'=>⟨_,H3,I4,rw',q3⟩
theorem pe_mitem (hu:X.A.units+64 < cLine) (ho:PE X o td) (hi:PE X i ty) (hs:NoSl i):PE X (.Subscript o i pos) (tMItem X.w td ty):=by
 intro pins s σ H Q I h
 refine subD_of (T:="dict") (id:="dict.__getitem__") slot_dict_getitem.lookup hs (thn (ho pins s σ H _ I h) λu s1 ⟨x,H1,I1,rx,q1⟩=>thn (hi pins s1 σ H1 _ I1 q1) λiv s2 ⟨y,H2,I2,ry,a,kvs,k,v,ex,md,hk,hl,q⟩=>?_)
 subst ex
 obtain rfl:u=Value.ref a:=rx
 obtain ⟨es,ep,e1,_⟩:=id md
 obtain ⟨_,ob,g1,g2,g3⟩:=DObj.of I2.hok e1
 exact ⟨⟨ob,g1,g2.1⟩,md_item hu I2 md hk ry hl λw' s4 I4 rw'=>⟨v,H2,I4,rw',q⟩⟩
end
def Itv (K:PySem.W.Frag) (a:Addr) (n:Nat):It :=
 ⟨λi H=>i < n/\∃ xs,SqL K H a xs/\xs.length=n,λi H x H'=>H'=H/\∀ xs,SqL K H a xs->xs[n - 1 - i]?=some x,λi _=>i=n⟩
theorem turn_rev {P:Program} {w:World} {K:PySem.W.Frag} {tg:Expr} (a it:Addr) (n:Nat):Turn P w K tg (Itv K a n) [it] it (λi h=>h.IsRevIter it a ((n:Int) - 1 - i)) where
 mem:=List.mem_singleton.mpr rfl
 obj:=λi h st b hb=>by
   obtain rfl:b=it:=List.mem_singleton.mp hb
   obtain ⟨o,e,c,d⟩:=st
   exact ⟨o,e,λv z=>by rw [d] at z;cases z⟩
 keep:=λi h h' st k=>st.at λo e=>k it (List.mem_singleton.mpr rfl) o e
 item:=by
   intro X hP hw hK hc i pins s σ H E I hf st hg
   subst hP hw hK
   obtain ⟨hi,xs,hq,hn⟩:=hg
   obtain ⟨its,rv,p,hz⟩:=I.list hq
   have hlt:n - 1 - i < xs.length:=by omega
   obtain ⟨u,hu,ru⟩:=rv.get (List.getElem?_eq_getElem hlt)
   obtain ⟨f0,f1,f2,f3,f4,f5⟩:=hf it (List.mem_singleton.mpr rfl)
   have ei:(n:Int) - 1 - i=((n - 1 - i:Nat):Int):=by omega
   rw [ei] at st
   refine wpAny_pyNext_rev_item st p.isList (x:=u) (by simpa using hu) λh' st' sb=>?_
   have I1:Inv X pins σ H { s with heap:=h' }:=I.turned (t':=s.toks) (λb o hb e=>(sb.2 b hb).trans e) f0 f1 f3 f4 f5
   have ej:((n - 1 - i:Nat):Int) - 1=(n:Int) - 1 - ((i+1:Nat):Int):=by omega
   rw [ej] at st'
   obtain ⟨o,e,c,d⟩:=id st'
   exact ⟨u,rfl,go_of (s:={ s with heap:=h' }) e c d (by decide) ⟨_,H,I1,ru,⟨rfl,λys hy=>by rw [I.list_inj hy hq];exact List.getElem?_eq_getElem hlt⟩,st',λb hb=>(hf b hb).1⟩⟩
 done:=by
   intro X hP hw hK hc i pins s σ H E I hf st hg
   subst hP hw hK
   obtain ⟨f0,f1,f2,f3,f4,f5⟩:=hf it (List.mem_singleton.mpr rfl)
   have hg':i=n:=hg
   have ei:(n:Int) - 1 - i=-1:=by omega
   rw [ei] at st
   exact wpAny_pyNext_rev_end (I.ok.hd hc) st λh' eb=>⟨rfl,I.turned (t':=s.toks) (λb o hb e=>eb b o hb e) f0 f1 f3 f4 f5⟩
 self:=λ_ _ _ _ _ st h=>wpAny_pyIter_revIter st h
def iRev (K:PySem.W.Frag) (ta:TA):TI:=λσ H R=>ta σ H λvs H1=>∃ a xs,vs=[.ref a]/\SqL K H1 a xs/\R (Itv K a xs.length) H1
section
variable {X:Cx} {tg:Expr}
theorem pi_rev {l:Expr} {ta:TA} {p pos:Pos} (hg:Gl X "reversed") (hm:X.mg "reversed"=none) (ha:PA X [l] ta) (hs:starEach [l] X.env=[(false,eval l X.env)]:=by rfl):PI X tg (.Call (.Name "reversed" p) [l] [] pos) (iRev X.K ta):=by
 intro pins s σ H R I h
 refine Call_ (ld_blt I hg hm bt_reversed (PyProof.Rows.callWith_type1 (thn (ha pos pins s σ H _ I h) λus s1 ⟨vs,H1,I1,r1,a,xs,ev,hq,q⟩=>?_) hs rfl))
 subst ev
 obtain ⟨u,rfl,ru⟩:=vals1 r1
 cases ru
 obtain ⟨its,rv,pl,hz⟩:=I1.list hq
 have hlen:=rv.length
 refine call_reversed_list pl.isList ?_
 have sz:((its.toArray.size:Nat):Int) - 1=(xs.length:Int) - 1 - ((0:Nat):Int):=by simp;omega
 rw [sz]
 have st0:(s1.heap.push (revObj a ((xs.length:Int) - 1 - ((0:Nat):Int)))).IsRevIter s1.heap.objs.size a ((xs.length:Int) - 1 - ((0:Nat):Int)):=⟨_,Heap.get?_push_size _ rfl,rfl,rfl⟩
 refine wpAny_pyIter_revIter (s:={ s1 with heap:=s1.heap.push (revObj a ((xs.length:Int) - 1 - ((0:Nat):Int))) }) st0 ?_
 refine ⟨s1.heap.objs.size,[s1.heap.objs.size],_,_,H1,rfl,I1.kept (t':=s1.toks) λb o e=>Heap.get?_push_of_some _ e,turn_rev a _ xs.length,st0,λb hb=>?_,q⟩
 obtain rfl:b=s1.heap.objs.size:=List.mem_singleton.mp hb
 exact I1.fpOk (Nat.le_refl _) (I1.hok.fresh (Nat.le_refl _))
theorem for_rev {K:PySem.W.Frag} {a:Addr} {xs:List V} {g:TG} {tb:TS} {D:Ends} {σ:St} {H:Hp} (Pv:Nat->St->Hp->Prop) (h0:Pv 0 σ H) (hl:∀ i σ H,i <= xs.length->Pv i σ H->SqL K H a xs)
   (hs:∀ i x σ H,i < xs.length->xs[xs.length - 1 - i]?=some x->Pv i σ H->g x σ H λσ2 H2=>tb { D with nx:=Pv (i+1),ct:=Pv (i+1),bk:=D.nx } σ2 H2) (hd:∀ σ H,Pv xs.length σ H->D.nx σ H) :
   ∃ W:Nat->Nat->St->Hp->Prop,(∃ m,W 0 m σ H)/\∀ i m σ H,W i m σ H->((Itv K a xs.length).stop i H/\D.nx σ H)\/((Itv K a xs.length).go i H/\∃ N:St->Hp->Prop,(∀ σ' H',N σ' H'->∃ m',m' < m/\W (i+1) m' σ' H') /\
     ∀ x H',(Itv K a xs.length).yld i H x H'->g x σ H' λσ2 H2=>tb { D with nx:=N,ct:=N,bk:=D.nx } σ2 H2):=by
 refine ⟨λi m σ H=>Pv i σ H/\i <= xs.length/\m=xs.length - i,⟨_,h0,Nat.zero_le _,rfl⟩,?_⟩
 rintro i m σ H ⟨hp,hi,rfl⟩
 by_cases z:i=xs.length
 · subst z
   exact .inl ⟨rfl,hd σ H hp⟩
 · have hlt:i < xs.length:=by omega
   refine .inr ⟨⟨hlt,xs,hl i σ H hi hp,rfl⟩,Pv (i+1),λσ' H' q=>⟨xs.length - (i+1),by omega,q,hlt,rfl⟩,?_⟩
   rintro x H' ⟨rfl,hx⟩
   exact hs i x σ H' hlt (hx xs (hl i σ H' hi hp)) hp
end
def rNil (K:PySem.W.Frag) (neg:Bool):R2:=λx y H Q=>∃ a b xs,x=.ref a/\y=.ref b/\SqL K H a xs/\SqL K H b []/\Q (.bl (if neg then !xs.isEmpty else xs.isEmpty)) H
section
variable {X:Cx}
theorem op_neNil (hu:X.A.units+64 < cLine):OpR X (compareOp .NotEq) (rNil X.K true):=by
 intro pins s σ H x y v u Q I rx ry h
 obtain ⟨a,b,xs,rfl,rfl,h1,h2,q⟩:=h
 cases rx
 cases ry
 obtain ⟨its,r1,p1,_⟩:=I.list h1
 obtain ⟨it2,r2,p2,_⟩:=I.list h2
 have e2:it2=[]:=Vals.zero r2
 subst e2
 have hl:=r1.length
 cases xs with
 | nil =>
   have e1:its=[]:=Vals.zero r1
   subst e1
   exact SeqAt.RcNeAt.lists (e:=λ_=>true) p1.isList p2.isList rfl (by omega) (λj h1 _=>absurd h1 (Nat.not_lt_zero _)) X.prog X.w X.xe _ ⟨.bl false,H,I,rfl,q⟩
 | cons z zs =>
   have hne:(its.toArray.size != ([]:List Value).toArray.size)=true:=by
     rw [List.length_cons] at hl
     rw [bne_iff_ne,List.size_toArray,List.size_toArray,List.length_nil]
     omega
   exact SeqAt.RcNeAt.lists_lengths p1.isList p2.isList hne (by omega) X.prog X.w X.xe _ ⟨.bl true,H,I,rfl,q⟩
end
def Itm (w:World) (a:Addr) (es:List DictEntry) (ep:Nat) (kvs:List (PyData × V)):It :=
 ⟨λi H=>H a=some (DObj a es ep)/\Paired (KEnt w H) kvs es/\i < kvs.length,λi H x H'=>H'=H/\∃ k v,kvs[i]?=some (k,v)/\KeyV H k x,λi H=>H a=some (DObj a es ep)/\kvs.length=es.length/\kvs.length <= i⟩
def TopK (kvs:List (PyData × V)):Prop:=∀ p∈kvs,(∃ t,p.1=.str t)\/∃ ds,p.1=.tuple ds
theorem turn_keys {P:Program} {w:World} {K:PySem.W.Frag} {tg:Expr} (a it:Addr) (es:List DictEntry) (ep:Nat) (kvs:List (PyData × V)) (top:TopK kvs) (hlen:kvs.length=es.length):Turn P w K tg (Itm w a es ep kvs) [it] it (λi h=>h.IsKeyIter it a i es.length ep) where
 mem:=List.mem_singleton.mpr rfl
 obj:=λi h st b hb=>by
   obtain rfl:b=it:=List.mem_singleton.mp hb
   obtain ⟨o,e,c,d⟩:=st
   exact ⟨o,e,λv z=>by rw [d] at z;cases z⟩
 keep:=λi h h' st k=>st.at λo e=>k it (List.mem_singleton.mpr rfl) o e
 item:=by
   intro X hP hw hK hc i pins s σ H E I hf st hg
   subst hP hw hK
   obtain ⟨h1,h2,hi⟩:=hg
   obtain ⟨hs,hm⟩:=DObj.of I.hok h1
   have hx:=List.getElem?_eq_getElem hi
   obtain ⟨e,he,k1,k2,k3,⟨x,rx,dx⟩,k5⟩:=MX.f2_get' h2 i _ hx
   obtain ⟨f0,f1,f2,f3,f4,f5⟩:=hf it (List.mem_singleton.mpr rfl)
   refine MX.keys_next st hm he λh' st' sb=>?_
   have I1:Inv X pins σ H { s with heap:=h' }:=I.turned (t':=s.toks) (λb o hb e=>(sb.2 b hb).trans e) f0 f1 f3 f4 f5
   obtain ⟨o,e',c,d⟩:=id st'
   refine ⟨e.key,rfl,go_of (s:={ s with heap:=h' }) e' c d (by decide) ⟨x,H,I1,rx,⟨rfl,_,_,hx,k1,k2,dx,?_⟩,st',λb hb=>(hf b hb).1⟩⟩
   rcases top _ (List.mem_of_getElem? hx) with ⟨t,z⟩ | ⟨ds,z⟩
   · rw [z] at dx;exact .inl ⟨t,dx⟩
   · rw [z] at dx;obtain ⟨b,_,e2,_⟩:=dx;exact .inr ⟨b,e2⟩
 done:=by
   intro X hP hw hK hc i pins s σ H E I hf st hg
   subst hP hw hK
   obtain ⟨h1,h2,hi⟩:=hg
   obtain ⟨hs,hm⟩:=DObj.of I.hok h1
   obtain ⟨f0,f1,f2,f3,f4,f5⟩:=hf it (List.mem_singleton.mpr rfl)
   exact MX.keys_end (I.ok.hd hc) st hm (by omega) λh' eb=>⟨rfl,I.turned (t':=s.toks) (λb o hb e=>eb b o hb e) f0 f1 f3 f4 f5⟩
 self:=λ_ _ _ _ _ st h=>wpAny_pyIter_keyiter st h
def iKeys (w:World) (tl:TE):TI:=λσ H R=>tl σ H λx H1=>∃ a es ep kvs,x=.ref a/\H1 a=some (DObj a es ep)/\Paired (KEnt w H1) kvs es/\TopK kvs/\R (Itm w a es ep kvs) H1
theorem pi_keys {X:Cx} {tg l:Expr} {tl:TE} (hl:PE X l tl):PI X tg l (iKeys X.w tl):=by
 intro pins s σ H R I h
 refine thn (hl pins s σ H _ I h) λv s1 ⟨x,H1,I1,r1,a,es,ep,kvs,ex,h1,h2,top,q⟩=>?_
 subst ex
 cases r1
 obtain ⟨hs,hm⟩:=DObj.of I1.hok h1
 refine MX.keys_iter hs hm λh' st hk=>?_
 refine ⟨s1.heap.objs.size,[s1.heap.objs.size],_,_,H1,rfl,I1.kept (t':=s1.toks) hk,turn_keys a _ es ep kvs top (Paired.keys h2),st,λb hb=>?_,q⟩
 obtain rfl:b=s1.heap.objs.size:=List.mem_singleton.mp hb
 exact I1.fpOk (Nat.le_refl _) (I1.hok.fresh (Nat.le_refl _))
end L2

namespace L2
open PySem PySem.Spec PyProof.Rows
theorem nhr:¬ (("held":Str)="rows"):=by decide +kernel
def stF (hd rl:Addr):List (Str × V):=putF "rows" (.ref rl) (putF "held" (.ref hd) [])
theorem stF_held {hd rl:Addr}:(stF hd rl).lookup ("held":Str)=some (.ref hd):=by
 unfold stF
 rw [lookup_putF,if_neg nhr,lookup_putF,if_pos rfl]
theorem stF_rows {hd rl:Addr}:(stF hd rl).lookup ("rows":Str)=some (.ref rl):=by
 unfold stF
 rw [lookup_putF,if_pos rfl]
theorem stF_no {hd rl:Addr} {m:Str} (h1:¬ m="rows") (h2:¬ m="held"):(stF hd rl).lookup m=none:=by
 unfold stF
 rw [lookup_putF,if_neg h1,lookup_putF,if_neg h2]
 all_goals rfl
def sdI:Bool->Int
 | false=>0
 | true=>1
theorem sdI_at {l:Bool->Addr} (b:Bool):atI [V.ref (l false),V.ref (l true)] (sdI b)=some (.ref (l b)):=by
 cases b<;>rfl
theorem KeyV.keep {H H':Hp} {k:PyData} {y:V} (h:KeyV H k y) (ht:∀ b vs,H b=some (.tup vs)->H' b=some (.tup vs)):KeyV H' k y :=
 ⟨h.1,h.2.1,DV.keep ht _ _ h.1 h.2.2.1,h.2.2.2⟩
def Wt (H:Hp) (p:PyData × V) (tv:V):Prop:=∃ t cv,tv=.ref t/\H t=some (.tup [cv,p.2])/\KeyV H p.1 cv
theorem Wt.keep {H H':Hp} {p:PyData × V} {tv:V} (h:Wt H p tv) (ht:∀ b vs,H b=some (.tup vs)->H' b=some (.tup vs)):Wt H' p tv:=by
 obtain ⟨t,cv,e,h1,h2⟩:=h
 exact ⟨t,cv,e,ht _ _ h1,h2.keep ht⟩
def RowAt (H:Hp) (l:Addr) (es:List (PyData × V)):Prop:=∃ ts:List V,H l=some (.lst ts)/\Paired (Wt H) es ts
theorem RowAt.keep {H H':Hp} {l:Addr} {es:List (PyData × V)} (h:RowAt H l es) (hl:∀ o,H l=some o->H' l=some o) (ht:∀ b vs,H b=some (.tup vs)->H' b=some (.tup vs)):RowAt H' l es:=by
 obtain ⟨ts,h1,h2⟩:=h
 exact ⟨ts,hl _ h1,Paired.mapP h2 λ_ _ q=>q.keep ht⟩
theorem pairedLen {α β:Type} {F:α->β->Prop}:∀ {xs:List α} {ys:List β},Paired F xs ys->xs.length=ys.length
 | _,_,.nil=>rfl
 | _,_,.cons _ t=>by rw [List.length_cons,List.length_cons,pairedLen t]
def setR {α:Type} (r:Bool->α) (b:Bool) (v:α):Bool->α:=λc=>if c=b then v else r c
theorem setR_same {α:Type} {r:Bool->α} {b:Bool} {v:α}:setR r b v b=v:=if_pos rfl
theorem setR_ne {α:Type} {r:Bool->α} {b c:Bool} {v:α} (h:c≠b):setR r b v c=r c:=if_neg h
structure Sto (w:World) (C:Addr) (H:Hp) (x hd rl:Addr) (l:Bool->Addr) (M:List (PyData × V)) (r:Bool->List (PyData × V)):Prop where
 ob:∃ dx,H x=some (.ins C dx (stF hd rl))
 me:MD w H hd M
 ro:H rl=some (.lst [.ref (l false),.ref (l true)])
 rw:∀ b,RowAt H (l b) (r b)
 nl:l false≠l true
 nr:∀ b,l b≠rl
def Kp (xs:List Addr) (H H':Hp):Prop:=∀ c o,c ∉ xs->H c=some o->H' c=some o
theorem Kp.refl (xs:List Addr) (H:Hp):Kp xs H H:=λ_ _ _ e=>e
theorem Kp.trans {xs:List Addr} {H H1 H2:Hp} (a:Kp xs H H1) (b:Kp xs H1 H2):Kp xs H H2:=λc o n e=>b c o n (a c o n e)
theorem Kp.mono {xs ys:List Addr} {H H':Hp} (a:Kp xs H H') (h:∀ c,c∈xs->c∈ys):Kp ys H H':=λc o n e=>a c o (λz=>n (h c z)) e
theorem Kp.same {H H':Hp} (a:Same H H') (xs:List Addr):Kp xs H H':=λc o _ e=>a c o e
section
variable {w:World} {C:Addr} {H H':Hp} {x hd rl:Addr} {l:Bool->Addr} {M:List (PyData × V)} {r:Bool->List (PyData × V)}
theorem MD.there (m:MD w H hd M):∃ ee:List DictEntry × Nat,H hd=some (DObj hd ee.1 ee.2):=let ⟨es,ep,h,_⟩:=m;⟨(es,ep),h⟩
theorem MD.keepS (m:MD w H hd M) (ha:∀ o,H hd=some o->H' hd=some o) (ht:∀ b vs,H b=some (.tup vs)->H' b=some (.tup vs)):MD w H' hd M:=by
 obtain ⟨es,ep,h1,h2⟩:=id m
 exact m.keep ((ha _ h1).trans h1.symm) ht
theorem Sto.keep (S:Sto w C H x hd rl l M r) (h:∀ c o,(c=x\/c=hd\/c=rl\/∃ b,c=l b)->H c=some o->H' c=some o) (ht:∀ b vs,H b=some (.tup vs)->H' b=some (.tup vs)):Sto w C H' x hd rl l M r:=by
 obtain ⟨dx,e⟩:=S.ob
 exact ⟨⟨dx,h _ _ (.inl rfl) e⟩,S.me.keepS (λo=>h _ o (.inr (.inl rfl))) ht,h _ _ (.inr (.inr (.inl rfl))) S.ro,λb=>(S.rw b).keep (λo=>h _ o (.inr (.inr (.inr ⟨b,rfl⟩)))) ht,S.nl,S.nr⟩
theorem Sto.same (S:Sto w C H x hd rl l M r) (h:Same H H'):Sto w C H' x hd rl l M r:=S.keep (λc o _ e=>h c o e) λb vs e=>h b _ e
theorem Sto.len (S:Sto w C H x hd rl l M r):M.length <= sizeLine:=let ⟨_,_,_,_,_,h⟩:=S.me;h
def Sto.own (x hd rl:Addr) (l:Bool->Addr) (c:Addr):Prop:=c=x\/c=hd\/c=rl\/c=l false\/c=l true
theorem Sto.there (S:Sto w C H x hd rl l M r) {c:Addr} (h:Sto.own x hd rl l c):∃ o,H c=some o/\(∀ xs,o≠.tup xs):=by
 rcases h with rfl | rfl | rfl | rfl | rfl
 · obtain ⟨dx,e⟩:=S.ob;exact ⟨_,e,λ_ z=>by cases z⟩
 · obtain ⟨es,e⟩:=S.me.there;exact ⟨_,e,λ_ z=>by cases z⟩
 · exact ⟨_,S.ro,λ_ z=>by cases z⟩
 · obtain ⟨ts,e,_⟩:=S.rw false;exact ⟨_,e,λ_ z=>by cases z⟩
 · obtain ⟨ts,e,_⟩:=S.rw true;exact ⟨_,e,λ_ z=>by cases z⟩
theorem Sto.fresh (S:Sto w C H x hd rl l M r) {p:Addr} (hp:H p=none):¬ Sto.own x hd rl l p:=λh=>by
 obtain ⟨o,e,_⟩:=S.there h
 rw [e] at hp;cases hp
end
def drainAll (M:List (PyData × V)) (es:List (PyData × V)):List (PyData × V):=es.foldl (λM p=>putD M p.1 p.2) M
def readV (M es:List (PyData × V)) (k:PyData):V:=match es.reverse.find? (λp=>PyData.eqv p.1 k) with
 | some p=>p.2
 | none=>(lookD M k).getD (.int 0)
def lastW (es:List (PyData × V)) (k:PyData):Option V:=(es.reverse.find? λp=>PyData.eqv p.1 k).map (·.2)
theorem readV_eq (M es:List (PyData × V)) (k:PyData):readV M es k=((lastW es k).or (lookD M k)).getD (.int 0):=by
 unfold readV lastW
 cases es.reverse.find? (λp=>PyData.eqv p.1 k)<;>rfl
theorem look_map {k k':PyData} (h:MX.kd k=true) (h':MX.kd k'=true) (v:V):∀ {M:List (PyData × V)},KK M->lookD (M.map λp=>if PyData.eqv p.1 k'=true then (p.1,v) else p) k=(lookD M k).map λx=>if PyData.eqv k' k=true then v else x
 | [],_=>rfl
 | p :: r,kk=>by
   have ih:=look_map h h' v (M:=r) λq hq=>kk q (List.mem_cons_of_mem _ hq)
   have kp:=kk p List.mem_cons_self
   unfold lookD at ih ⊢
   rw [List.map_cons,List.find?_cons,List.find?_cons]
   have e1:(if PyData.eqv p.1 k'=true then (p.1,v) else p).1=p.1:=by split<;>rfl
   rw [e1]
   cases z:PyData.eqv p.1 k with
   | false=>exact ih
   | true =>
     have pk:=(MX.eqv_iff _ _ kp h).mp z
     show some (if PyData.eqv p.1 k'=true then (p.1,v) else p).2=some (if PyData.eqv k' k=true then v else p.2)
     by_cases y:k'=k
     · subst y
       rw [eqv_self h',z];rfl
     · rw [eqv_false h' h y,pk,eqv_false h h' λq=>y q.symm];rfl
theorem look_put {M:List (PyData × V)} {k k':PyData} (kk:KK M) (h':MX.kd k'=true) (h:MX.kd k=true) (v:V):lookD (putD M k' v) k=if PyData.eqv k' k=true then some v else lookD M k:=by
 by_cases n:k'∈M.map (·.1)
 · obtain ⟨p,hp,e⟩:=List.mem_map.mp n
   have ha:(M.any λp=>PyData.eqv p.1 k')=true:=List.any_eq_true.mpr ⟨p,hp,by rw [e];exact eqv_self h'⟩
   unfold putD
   rw [if_pos ha,look_map h h' v kk]
   by_cases y:k'=k
   · subst y
     rw [eqv_self h']
     have:(lookD M k').isSome=true:=by
       unfold lookD
       rw [Option.isSome_map,List.find?_isSome]
       exact ⟨p,hp,by rw [e];exact eqv_self h'⟩
     cases z:lookD M k' with
     | none=>rw [z] at this;cases this
     | some x=>rfl
   · rw [eqv_false h' h y]
     cases lookD M k<;>rfl
 · rw [putD_no h' kk n]
   unfold lookD
   rw [List.find?_append,List.find?_cons]
   by_cases y:k'=k
   · subst y
     have z:=lookD_no h' kk n
     unfold lookD at z
     rw [Option.map_eq_none_iff] at z
     rw [z,eqv_self h'];rfl
   · rw [eqv_false h' h y]
     cases M.find? (λp=>PyData.eqv p.1 k)<;>rfl
theorem KK.put {M:List (PyData × V)} {k:PyData} (kk:KK M) (h:MX.kd k=true) (v:V):KK (putD M k v):=by
 unfold putD
 split
 · intro p hp
   obtain ⟨q,hq,rfl⟩:=List.mem_map.mp hp
   have:=kk q hq
   split<;>exact this
 · intro p hp
   rcases List.mem_append.mp hp with z | z
   · exact kk p z
   · rw [List.mem_singleton.mp z];exact h
theorem KK.nil:KK ([]:List (PyData × V)):=λ_ h=>by cases h
mutual
theorem keyBack {H:Hp} {D:Addr} {o:HO} (hD:H D=none) (ho:∀ xs,o≠.tup xs):∀ {k:PyData} {y:V},MX.kd k=true->DV (upd H D o) k y->DV H k y
 | .int _,_,_,e=>e
 | .str _,_,_,e=>e
 | .tuple ds,_,h,⟨a,vs,e,ha,hv⟩=>by
   have ne:a≠D:=λz=>by
     rw [z,upd_same] at ha
     exact ho vs (Option.some.inj ha)
   exact ⟨a,vs,e,by rw [upd_ne ne] at ha;exact ha,keysBack hD ho h hv⟩
 | .none,_,h,_=>by cases h
 | .bool _,_,h,_=>by cases h
 | .list _,_,h,_=>by cases h
 | .dict _,_,h,_=>by cases h
theorem keysBack {H:Hp} {D:Addr} {o:HO} (hD:H D=none) (ho:∀ xs,o≠.tup xs):∀ {ds:List PyData} {vs:List V},MX.kds ds=true->DVs (upd H D o) ds vs->DVs H ds vs
 | [],_,_,e=>e
 | d :: ds,_,h,⟨v,r,e,h1,h2⟩=>by
   have h':(MX.kd d && MX.kds ds)=true:=h
   rw [Bool.and_eq_true] at h'
   exact ⟨v,r,e,keyBack hD ho h'.1 h1,keysBack hD ho h'.2 h2⟩
end
end L2

namespace L2
open PySem PySem.Spec PyProof.Rows
theorem mem_of_lookup {β:Type} {y:Str} {c:β}:∀ {l:List (Str × β)},l.lookup y=some c->(y,c)∈l
 | [],h=>by cases h
 | (k,v) :: r,h=>by
   rw [List.lookup_cons] at h
   cases e:y == k with
   | true =>
     rw [e] at h
     cases h
     rw [beq_iff_eq.mp e]
     exact List.mem_cons_self
   | false =>
     rw [e] at h
     exact List.mem_cons_of_mem _ (mem_of_lookup h)
def cxComp (X:Cx) (scope:Scope) (cl:List (Str × Addr)) (C:Addr) (x:Str) (N':List Str) (s₃:Shared) (H₃:Hp) (pins:List (Addr × Obj)) (ex:List Addr) (E':Value->Shared->Prop):Cx :=
 { X with N:=N',s₀:=s₃,H₀:=H₃,env:=compEnvC scope cl C X.env,outer:=X.stack,stack:=X.stack,ex:=ex,fn:=λy=>y == x,pn:=X.pn++pins,xe:=E' }
structure CompOk (X:Cx) (scope:Scope) (cl:List (Str × Addr)) (x:Str):Prop where
 kind:scope.kind=.function
 clos:closureFor scope X.env=pure cl
 nocell:∀ y∈scope.names,y.2≠.cell
 names:∀ y∈scope.names,y.2=.local->scope.names.lookup y.1=some .local
 xloc:scope.names.lookup x=some .local
 sub:∀ p∈cl,X.env.cells.lookup p.1=some p.2
 has:∀ p∈scope.names,p.2=.free->∃ c,cl.lookup p.1=some c
 nox:cl.lookup x=none
def PTs (X:Cx) (ifs:List Expr) (t:TT):Prop :=
 ∀ (pins:List (Addr × Obj)) (s:Shared) (σ:St) (H:Hp) (Q:Bool->Hp->Prop),Inv X pins σ H s->t σ H Q ->
   wpAny (model X.prog X.w) X.A (forIn ifs true λc r=>if r=true then do let ok ← isTrue c X.env (eval c X.env);pure (ForInStep.yield ok) else pure (ForInStep.yield r)) (TP X pins σ Q) X.xe s
theorem pts_none {X:Cx}:PTs X [] (λ_ H Q=>Q true H):=λpins s σ H Q I h=>by
 rw [List.forIn_nil]
 exact wpAny_pure ⟨H,I,h⟩
theorem pts_one {X:Cx} {c:Expr} {t:TT} (h:PT X c t):PTs X [c] t:=λpins s σ H Q I q=>wpAny_tests_one (h pins s σ H Q I q)
def capt (σ:St) (js:List Nat):St:=js.map λj=>(σ[j]?).getD none
def tComp (wi:TI) (js:List Nat) (tc:TT) (te:TE):TE:=λσ H Q=>wi σ H λJ H1=>∀ D,H1 D=none->∃ W:Nat->Nat->List V->Hp->Prop,(∃ m,W 0 m [] (upd H1 D (.lst []))) /\
 ∀ i m ys H2,W i m ys H2->H2 D=some (.lst ys)/\ys.length < sizeLine/\((J.stop i H2/\Q (.ref D) H2)\/(J.go i H2/\∀ x H3,J.yld i H2 x H3 ->
   tc (some x :: capt σ js) H3 λb H4=>if b=true then te (some x :: capt σ js) H4 λy H5=>H5 D=some (.lst ys)/\∃ m',m' < m/\W (i+1) m' (ys++[y]) (upd H5 D (.lst (ys++[y])))
     else ∃ m',m' < m/\W (i+1) m' ys H4))
section
variable {X:Cx} {scope:Scope} {cl:List (Str × Addr)} {x:Str} {N':List Str}
theorem relabel_mem {names:List (Str × NameKind)} {env:Env} {y:Str} {k:NameKind} (h:(names.map λ(n,k)=>if (k == NameKind.free && env.scope.kind == .function && env.kindOf n == some .cell) then (n,NameKind.cell) else (n,k)).lookup y=some k) (hk:k=.cell\/k=.free) (hn:∀ p∈names,p.2≠.cell):∃ p∈names,p.1=y/\p.2=.free:=by
 obtain ⟨⟨n,k0⟩,hp,e⟩:=List.mem_map.mp (mem_of_lookup h)
 dsimp only at e
 split at e
 · rename_i hc
   injection e with e1 e2
   refine ⟨_,hp,e1,?_⟩
   rw [Bool.and_eq_true,Bool.and_eq_true] at hc
   exact beq_iff_eq.mp hc.1.1
 · injection e with e1 e2
   refine ⟨_,hp,e1,?_⟩
   rcases hk with rfl | rfl
   · exact absurd e2 (hn _ hp)
   · exact e2
theorem cxComp_ok {pins:List (Addr × Obj)} {σ:St} {H₃:Hp} {s₃:Shared} {ex:List Addr} {E':Value->Shared->Prop} (O:CompOk X scope cl x) (I:Inv X pins σ H₃ s₃) (hf:∀ b∈ex,FpOk X pins H₃ b/\b < s₃.heap.objs.size) :
   (cxComp X scope cl s₃.heap.objs.size x N' s₃ H₃ pins ex E').Ok where
 mod:=I.ok.mod
 kind:=O.kind
 glob:=I.ok.glob
 blt:=I.ok.blt
 above:=Nat.le_refl _
 inj:=λy z c h1 h2=>I.ok.inj y z c (O.sub _ (mem_of_lookup h1)) (O.sub _ (mem_of_lookup h2))
 has:=λy h=>by
   have h':∃ k,(relabel scope X.env).names.lookup y=some k/\(k=.cell\/k=.free):=by
     rcases h with h | h
     · exact ⟨_,h,.inl rfl⟩
     · exact ⟨_,h,.inr rfl⟩
   obtain ⟨k,e,hk⟩:=h'
   obtain ⟨p,hp,rfl,e2⟩:=relabel_mem e hk O.nocell
   exact O.has p hp e2
 cab:=λy c h1 h2=>by
   have:y=x:=beq_iff_eq.mp h1
   subst this
   have h2':cl.lookup y=some c:=h2
   rw [O.nox] at h2';cases h2'
 hd:=I.ok.hd
 frames:=I.ok.frames
 stk:=.inl rfl
 exf:=λb hb=>⟨Nat.ne_of_lt (hf b hb).2,λy c e=>(hf b hb).1.2.2.2.2.1 y c (O.sub _ (mem_of_lookup e))⟩
 bs:=I.bs
 bsz:=Nat.le_trans I.ok.bsz I.sz
 noex:=λb o e hb=>by
   obtain ⟨_,_,_,h4,_⟩:=(hf b hb).1
   rcases h4 with z | z
   · exact I.ok.noex b o e z
   · have g1:b < X.base.objs.size:=Heap.lt_size e
     exact absurd (Nat.lt_of_lt_of_le g1 (Nat.le_trans I.ok.bsz z)) (Nat.lt_irrefl _)
 exfs:=λb hb z=>by
   obtain ⟨_,h2,h3,_⟩:=(hf b hb).1
   rcases List.mem_cons.mp (I.stkSub b z) with q | q
   · exact h2 q
   · exact h3 q
 funs:=I.stack
 frf:=I.stkFree
theorem Inv.block {pins:List (Addr × Obj)} {σ σ':St} {H₃ H':Hp} {s₃ s':Shared} {ex:List Addr} {E':Value->Shared->Prop} {h':Heap} (I:Inv X pins σ H₃ s₃) (hf:∀ b∈ex,FpOk X pins H₃ b)
   (I':Inv (cxComp X scope cl s₃.heap.objs.size x N' s₃ H₃ pins ex E') [] σ' H' s') (hs:Heap.SameBut s₃.heap.objs.size s'.heap h'):Inv X pins σ H' { s' with heap:=h' }:=by
 have ne:∀ b o,s₃.heap.get? b=some o->b≠s₃.heap.objs.size:=λb o e=>Nat.ne_of_lt (Heap.lt_size e)
 have fr:H' s₃.heap.objs.size=none:=I'.free
 have hok:HOk X.prog X.w H' h':=λa o e=>by
   refine (I'.hok a o e).stay (λb u hb q=>(hs.2 b ?_).trans q) (λ_ q=>q) λ_ _ q=>q
   rintro rfl
   rcases hb with z | z
   · rw [← z,fr] at e;cases e
   · rw [fr] at z;cases z
 have u:Un (frs X.stack) ex H₃ H' s₃.heap h':=by
   obtain ⟨k1,k2,k3,k4,k5,k6,k7⟩:=I'.base
   refine ⟨λb o q n hb hx=>(hs.2 b (ne b o q)).trans (k1 b o q n hb hx),λb o q n hb hx=>?_,k3,λb o q hx=>?_,k5,k6,k7⟩
   · obtain ⟨sl,e⟩:=k2 b o q n hb hx
     exact ⟨sl,(hs.2 b (ne b o q)).trans e⟩
   · obtain ⟨o',e⟩:=k4 b o q hx
     exact ⟨o',(hs.2 b (ne b o q)).trans e⟩
 exact I.call' (s':={ s' with heap:=h' }) I'.os u hok I'.bare λb hb=>⟨(hf b hb).2.2.2.1,(hf b hb).2.1,(hf b hb).2.2.2.2.1,(hf b hb).2.2.2.2.2⟩
theorem Inv.enter {pins:List (Addr × Obj)} {σ:St} {H₃:Hp} {s₃:Shared} {ex:List Addr} {E':Value->Shared->Prop} {caps:List Str} {js:List Nat} {h₁:Heap} {tk:Nat} (O:CompOk X scope cl x) (I:Inv X pins σ H₃ s₃)
   (hf:∀ b∈ex,FpOk X pins H₃ b/\b < s₃.heap.objs.size) (hcap:∀ y∈caps,∃ c,cl.lookup y=some c) (hjs:Paired (λ(y:Str) (j:Nat)=>X.N[j]?=some y/\(X.env.scope.names.lookup y=some .cell\/X.env.scope.names.lookup y=some .free)) caps js)
   (hkc:∀ y∈caps,(relabel scope X.env).names.lookup y=some .cell\/(relabel scope X.env).names.lookup y=some .free)
   (hn:h₁.Ns s₃.heap.objs.size λ_=>none) (hk:∀ b o,s₃.heap.get? b=some o->h₁.get? b=some o) :
   Inv (cxComp X scope cl s₃.heap.objs.size x (x :: caps) s₃ H₃ pins ex E') [] (none :: capt σ js) H₃ { s₃ with heap:=h₁,toks:=tk }:=by
 have hlen:caps.length=js.length:=Paired.length hjs
 obtain ⟨m0,hm0,hl0⟩:=I.loc
 refine ⟨cxComp_ok O I hf,rfl,I.bare,Un.kept hk,⟨_,hn,λi y v e1 e2 e3=>?_⟩,λy c e=>?_,I.hok.fresh (Nat.le_refl _),λy c e=>I.freeC y c (O.sub _ (mem_of_lookup e)),λp hp=>?_,I.hok.kept hk,?_⟩
 · cases i with
   | zero=>cases e2
   | succ i =>
     have e1':(x :: caps)[i+1]?=some y:=e1
     rw [List.getElem?_cons_succ] at e1'
     have e2':(none :: capt σ js)[i+1]?=some (some v):=e2
     rw [List.getElem?_cons_succ] at e2'
     obtain ⟨j,ej,hN,hk1⟩:=MX.f2_get' hjs i y e1'
     unfold capt at e2'
     rw [List.getElem?_map,ej] at e2'
     have e3':(σ[j]?).getD none=some v:=by simpa using e2'
     have e4:σ[j]?=some (some v):=by
       cases q:σ[j]? with
       | none=>rw [q] at e3';cases e3'
       | some z=>rw [q] at e3';rw [show z=some v from e3']
     obtain ⟨u,r,l⟩:=hl0 j y v hN e4 (by rcases hk1 with z | z;exact .inr (.inl z);exact .inr (.inr z))
     obtain ⟨c,hc⟩:=hcap y (List.mem_of_getElem? e1')
     refine ⟨u,r,.inr ⟨hkc y (List.mem_of_getElem? e1'),c,hc,?_⟩⟩
     rcases l with ⟨z,_⟩ | ⟨_,c',z1,o,z2,z3⟩
     · have z':X.env.scope.names.lookup y=some .local:=z
       rcases hk1 with q | q<;>(rw [q] at z';cases z')
     · rw [O.sub _ (mem_of_lookup hc)] at z1
       cases z1
       exact ⟨o,hk _ _ z2,z3⟩
 · obtain ⟨v,o,z2,z3⟩:=I.cell y c (O.sub _ (mem_of_lookup e))
   exact ⟨v,o,hk _ _ z2,z3⟩
 · have hp':p∈X.pn++pins:=by simpa [cxComp] using hp
   obtain ⟨g1,g2,g3,g4,g5⟩:=I.pin p hp'
   refine ⟨hk _ _ g1,g2,Nat.ne_of_lt (Heap.lt_size g1),λz=>?_,g5⟩
   rcases List.mem_cons.mp (I.stkSub p.1 z) with q | q
   · exact g3 q
   · exact g4 q
 · show (none :: capt σ js).length=(x :: caps).length
   unfold capt
   rw [List.length_cons,List.length_cons,List.length_map,hlen]
theorem pe_comp {px pos:Pos} {iter elt:Expr} {ifs:List Expr} {caps:List Str} {js:List Nat} {wi:TI} {tc:TT} {te:TE} (hc:X.calm=true) (O:CompOk X scope cl x) (hnd:(x :: caps).Nodup)
   (hcap:∀ y∈caps,∃ c,cl.lookup y=some c) (hjs:Paired (λ(y:Str) (j:Nat)=>X.N[j]?=some y/\(X.env.scope.names.lookup y=some .cell\/X.env.scope.names.lookup y=some .free)) caps js)
   (hkc:∀ y∈caps,(relabel scope X.env).names.lookup y=some .cell\/(relabel scope X.env).names.lookup y=some .free)
   (hi:PI X (.Name x px) iter wi) (ht:∀ C s₃ H₃ pins ex E',PTs (cxComp X scope cl C x (x :: caps) s₃ H₃ pins ex E') ifs tc) (he:∀ C s₃ H₃ pins ex E',PE (cxComp X scope cl C x (x :: caps) s₃ H₃ pins ex E') elt te)
   (hs:∀ x,foldedSetIterable iter X.env x=pure x:=by intro _;rfl):PE X (.ListComp elt [⟨.Name x px,iter,ifs,0⟩] scope pos) (tComp wi js tc te):=by
 intro pins s σ H Q I h
 rw [eval_ListComp]
 refine wpAny_comprehension_free (use:=none) rfl hs O.clos O.kind O.names (thn (hi pins s σ H _ I h) λv s1 h1=>thn h1 λitv s2 ⟨it,fp,tn,J,H1,e,I2,T,t0,hf,q⟩=>?_)
 subst e
 refine wpAny_newObj_type (wpAny_newFunctionEnv O.nocell (by intro y hy;cases hy) (λh₁ hns₁ hsb₁=>?_) O.kind)
 obtain ⟨W,⟨m0,w0⟩,step⟩:=q s2.heap.objs.size (I2.hok.fresh (Nat.le_refl _))
 have I3:Inv X pins σ (upd H1 s2.heap.objs.size (.lst [])) { s2 with heap:=s2.heap.push { cls:=.type "list",data:=.seq ([]:List Value).toArray } }:=I2.lnew (t':=s2.toks) (its:=[]) .nil (Nat.zero_le _)
 have fpl:∀ b∈fp,b < s2.heap.objs.size:=λb hb=>by
   obtain ⟨o,e,_⟩:=T.obj _ _ t0 b hb
   exact Heap.lt_size e
 have hf3:∀ b∈fp,FpOk X pins (upd H1 s2.heap.objs.size (.lst [])) b:=λb hb=>by
   obtain ⟨f0,f⟩:=hf b hb
   exact ⟨by rw [upd_ne (Nat.ne_of_lt (fpl b hb))];exact f0,f⟩
 generalize hs3:({ s2 with heap:=s2.heap.push { cls:=.type "list",data:=.seq ([]:List Value).toArray } }:Shared)=s₃ at *
 generalize hH3:upd H1 s2.heap.objs.size (.lst [])=H₃ at *
 have hsz:s2.heap.objs.size < s₃.heap.objs.size:=by rw [← hs3];show _ < (s2.heap.push _).objs.size;rw [Heap.size_push];exact Nat.lt_succ_self _
 have hk2:∀ b o,s2.heap.get? b=some o->s₃.heap.get? b=some o:=λb o e=>by rw [← hs3];exact Heap.get?_push_of_some _ e
 have hk3:∀ b o,s₃.heap.get? b=some o->h₁.get? b=some o:=λb o e=>hsb₁.extBut b o (Nat.ne_of_lt (Heap.lt_size e)) (Heap.get?_push_of_some _ e)
 have t3:tn 0 h₁:=T.keep _ _ _ t0 λb _ o e=>hk3 b o (hk2 b o e)
 have loop:∀ (R:Result->Shared->Prop),(∀ f s',(∃ σ' H' i m ys,Inv (cxComp X scope cl s₃.heap.objs.size x (x :: caps) s₃ H₃ pins fp (notedBy (model X.prog X.w) X.A (compEnvC scope cl s₃.heap.objs.size X.env) λe s'=>R (.error e) s')) [] σ' H' s'/\W i m ys H'/\Q (.ref s2.heap.objs.size) H')->R (.ok f) s') ->
     ∀ tk,codeAny (model X.prog X.w) X.A (.compLoop (.ListComp elt [⟨.Name x px,iter,ifs,0⟩] scope pos) 0 (.ref it) (.ref s2.heap.objs.size) (compEnvC scope cl s₃.heap.objs.size X.env)) R { s₃ with heap:=h₁,toks:=tk }:=by
   intro R hR tk
   have I4:=Inv.enter (E':=notedBy (model X.prog X.w) X.A (compEnvC scope cl s₃.heap.objs.size X.env) λe s'=>R (.error e) s') (tk:=tk) O I3 (λb hb=>⟨hf3 b hb,Nat.lt_trans (fpl b hb) hsz⟩) hcap hjs hkc (by simpa using hns₁) hk3
   have stat:∀ {H':Hp},(∀ b∈fp,H' b=none)->∀ b∈fp,FpOk (cxComp X scope cl s₃.heap.objs.size x (x :: caps) s₃ H₃ pins fp (notedBy (model X.prog X.w) X.A (compEnvC scope cl s₃.heap.objs.size X.env) λe s'=>R (.error e) s')) [] H' b:=λhn b hb=>by
     obtain ⟨f0,f1,f2,f3,f4,f5⟩:=hf3 b hb
     refine ⟨hn b hb,Nat.ne_of_lt (Nat.lt_trans (fpl b hb) hsz),λz=>?_,.inl hb,λy c e=>f4 y c (O.sub _ (mem_of_lookup e)),λp hp=>f5 p (by simpa [cxComp] using hp)⟩
     rcases List.mem_cons.mp (I3.stkSub b z) with q | q
     · exact f1 q
     · exact f2 q
   refine codeAny_compLoop_tests (λn s'=>∃ i v0 ys H',Inv (cxComp X scope cl s₃.heap.objs.size x (x :: caps) s₃ H₃ pins fp (notedBy (model X.prog X.w) X.A (compEnvC scope cl s₃.heap.objs.size X.env) λe s'=>R (.error e) s')) [] (v0 :: capt σ js) H' s'/\tn i s'.heap/\(∀ b∈fp,H' b=none)/\W i n ys H') ?_ m0
     ⟨0,none,[],H₃,I4,t3,λb hb=>(hf3 b hb).1,w0⟩
   rintro n s4 ⟨i,v0,ys,H4,J4,t4,fr4,w4⟩
   obtain ⟨hD,hlen,hor⟩:=step i n ys H4 w4
   rcases hor with ⟨stop,qn⟩ | ⟨go,hy⟩
   · refine thn (T.done (cxComp X scope cl s₃.heap.objs.size x (x :: caps) s₃ H₃ pins fp (notedBy (model X.prog X.w) X.A (compEnvC scope cl s₃.heap.objs.size X.env) λe s'=>R (.error e) s')) rfl rfl rfl hc i [] s4 _ H4 _ J4 (stat fr4) t4 stop) λr s5 ⟨hr,J5⟩=>?_
     subst hr
     exact hR _ _ ⟨_,H4,i,n,ys,J5,w4,qn⟩
   · refine thn (T.item (cxComp X scope cl s₃.heap.objs.size x (x :: caps) s₃ H₃ pins fp (notedBy (model X.prog X.w) X.A (compEnvC scope cl s₃.heap.objs.size X.env) λe s'=>R (.error e) s')) rfl rfl rfl hc i [] s4 _ H4 _ J4 (stat fr4) t4 go) λr s5 ⟨u,hr,h5⟩=>?_
     subst hr
     have ea:assign (.Name x px) (compEnvC scope cl s₃.heap.objs.size X.env) u=(letOwnedTupleGo (.Name x px) (.ref it) u >>= λ_=>assign (.Name x px) (compEnvC scope cl s₃.heap.objs.size X.env) u):=rfl
     show wpAny _ _ (assign (.Name x px) (compEnvC scope cl s₃.heap.objs.size X.env) u) _ _ _
     rw [ea]
     refine wpAny_bind (thn h5 λ_ s6 ⟨y,H6,J6,ry,yl,t6,fr6⟩=>?_)
     have J6':=J6.pinned (stat fr6) (T.obj _ _ t6)
     have hy6:=hy y H6 yl
     refine thn (pg_name (X:=cxComp X scope cl s₃.heap.objs.size x (x :: caps) s₃ H₃ pins fp (notedBy (model X.prog X.w) X.A (compEnvC scope cl s₃.heap.objs.size X.env) λe s'=>R (.error e) s')) (i:=0) (x:=x) (pos:=px) hnd rfl (.inl (lookup_relabel_local O.xloc)) (.inl (beq_self_eq_true x)) _ s6 _ H6 y u (λσ2 H2=>σ2=some y :: capt σ js/\H2=H6) J6' ry ⟨rfl,rfl⟩) λ_ s7 ⟨σ7,H7,J7,e7,e7'⟩=>?_
     subst e7 e7'
     refine thn (ht _ _ _ _ _ _ _ s7 _ H7 _ J7 hy6) λok s8 ⟨H8,J8,q8⟩=>?_
     have back:∀ {σ9:St} {H9:Hp} {s9:Shared},Inv (cxComp X scope cl s₃.heap.objs.size x (x :: caps) s₃ H₃ pins fp (notedBy (model X.prog X.w) X.A (compEnvC scope cl s₃.heap.objs.size X.env) λe s'=>R (.error e) s')) ([]++pinsAt fp s6.heap) σ9 H9 s9->tn (i+1) s9.heap/\∀ b∈fp,H9 b=none:=λJ9=>by
       refine ⟨T.keep _ _ _ t6 λb hb o e=>(J9.pin (b,o) (List.mem_append_right _ (List.mem_append_right _ (mem_pinsAt hb e)))).1,λb hb=>?_⟩
       obtain ⟨o,e,d⟩:=T.obj _ _ t6 b hb
       exact (J9.pin (b,o) (List.mem_append_right _ (List.mem_append_right _ (mem_pinsAt hb e)))).2.1
     cases ok with
     | false =>
       rw [if_neg (by decide)]
       rw [if_neg (by decide)] at q8
       obtain ⟨m',hm,w8⟩:=q8
       obtain ⟨b1,b2⟩:=back J8
       exact ⟨m',hm,i+1,some y,ys,H8,J8.unpinned,b1,b2,w8⟩
     | true =>
       rw [if_pos rfl]
       rw [if_pos rfl] at q8
       refine thn (he _ _ _ _ _ _ _ s8 _ H8 _ J8 q8) λz s9 ⟨vz,H9,J9,rz,hD9,m',hm,w9⟩=>?_
       refine thn (mt_append (X:=cxComp X scope cl s₃.heap.objs.size x (x :: caps) s₃ H₃ pins fp (notedBy (model X.prog X.w) X.A (compEnvC scope cl s₃.heap.objs.size X.env) λe s'=>R (.error e) s')) _ s9 _ H9 (.ref s2.heap.objs.size) [vz] (.ref s2.heap.objs.size) [z] (λ_ H10=>H10=upd H9 s2.heap.objs.size (.lst (ys++[vz]))) J9 rfl (.cons rz .nil) ⟨_,ys,vz,rfl,rfl,hD9,hlen,rfl⟩) λ_ s10 ⟨v10,H10,J10,r10,e10⟩=>?_
       subst e10
       obtain ⟨b1,b2⟩:=back J10
       exact ⟨m',hm,i+1,some y,ys++[vz],_,J10.unpinned,b1,b2,w9⟩
 have fin:∀ tk,codeAny (model X.prog X.w) X.A (.compLoop (.ListComp elt [⟨.Name x px,iter,ifs,0⟩] scope pos) 0 (.ref it) (.ref s2.heap.objs.size) (compEnvC scope cl s₃.heap.objs.size X.env)) (compPost (model X.prog X.w) X.A X.xe none (EP X pins σ Q) (.ref s2.heap.objs.size) s₃.heap.objs.size) { s₃ with heap:=h₁,toks:=tk }:=λtk=>by
   refine loop _ (λf s' ⟨σ',H',i,m,ys,J',w',qn⟩=>?_) tk
   obtain ⟨mm,hmm,_⟩:=J'.loc
   exact ⟨mm,hmm,λh' hs'=>⟨.ref s2.heap.objs.size,H',Inv.block I3 hf3 J' hs',rfl,qn⟩⟩
 exact codeAny_compStart_list (fin _) (T.self _ _ _ _ _ t3 (fin _))
end
def SubCl (env:Env):List (Str × Addr)->Prop
 | []=>True
 | p :: r=>env.cells.lookup p.1=some p.2/\SubCl env r
theorem SubCl.all {env:Env}:∀ {cl:List (Str × Addr)},SubCl env cl->∀ p∈cl,env.cells.lookup p.1=some p.2
 | [],_,p,h=>by cases h
 | q :: r,⟨a,b⟩,p,h=>by
   rcases List.mem_cons.mp h with rfl | h
   · exact a
   · exact SubCl.all b p h
theorem compOk {X:Cx} {scope:Scope} {cl:List (Str × Addr)} {x:Str} (kind:scope.kind=.function) (clos:closureFor scope X.env=pure cl) (nocell:∀ y∈scope.names,y.2≠.cell) (names:∀ y∈scope.names,y.2=.local->scope.names.lookup y.1=some .local)
   (xloc:scope.names.lookup x=some .local) (sub:SubCl X.env cl) (has:(scope.names.all λp=>p.2 != .free || (cl.lookup p.1).isSome)=true) (nox:cl.lookup x=none):CompOk X scope cl x :=
 ⟨kind,clos,nocell,names,xloc,sub.all,λp hp hf=>by
   have h:=List.all_eq_true.mp has p hp
   rw [hf] at h
   have h':(cl.lookup p.1).isSome=true:=by simpa using h
   exact Option.isSome_iff_exists.mp h',nox⟩
end L2

namespace L2
open PySem PySem.Spec PyProof.Rows
def rInD (neg:Bool):R2:=λx y H Q=>∃ d ds,DV H d x/\DV H (.list ds) y/\LayD d/\LayD (.list ds)/\Q (.bl (if neg then !ds.any (λz=>PyData.eqv z d) else ds.any λz=>PyData.eqv z d)) H
section
variable {X:Cx}
end
end L2

namespace L2
open PySem PySem.Spec PyProof.Rows
def tCut (t u:TS):TS:=λD σ H=>∃ B:St->Hp->Prop,t { D with nx:=B } σ H/\∀ σ' H',B σ' H'->u D σ' H'
theorem pss_cut {X:Cx} {st:Stmt} {rest:List Stmt} {t u:TS} (h1:PS X st t) (h2:PSs X rest u):PSs X (st :: rest) (tCut t u):=by
 intro pins s σ H D I h
 obtain ⟨B,h,k⟩:=h
 refine wpAny_execs_cons (thn (h1 pins s σ H { D with nx:=B } I h) λf s1 q=>?_)
 cases f with
 | next =>
   obtain ⟨σ',H',I',q⟩:=q
   exact h2 pins s1 σ' H' D I' (k σ' H' q)
 | ret v=>exact q
 | brk=>exact q
 | cont=>exact q
def tCutT (t:TT):TT:=λσ H Q=>∃ B:Bool->Hp->Prop,t σ H B/\∀ b H',B b H'->Q b H'
end L2
namespace L2
open PySem PySem.Spec PyProof.Rows
mutual
theorem eqv_refl:∀ d:PyData,d.canLay0=true->PyData.eqv d d=true
 | .none,_=>rfl
 | .bool b,_=>by simp [PyData.eqv]
 | .int i,_=>by simp [PyData.eqv]
 | .str t,_=>by simp [PyData.eqv]
 | .list xs,h=>by
   have h':PyData.canLayAll0 xs=true:=by simpa [PyData.canLay0] using h
   simpa [PyData.eqv] using eqvAll_refl xs h'
 | .tuple xs,h=>by
   have h':PyData.canLayAll0 xs=true:=by simpa [PyData.canLay0] using h
   simpa [PyData.eqv] using eqvAll_refl xs h'
 | .dict _,h=>by simp [PyData.canLay0] at h
theorem eqvAll_refl:∀ xs:List PyData,PyData.canLayAll0 xs=true->PyData.eqvAll xs xs=true
 | [],_=>rfl
 | x :: xs,h=>by
   have h':x.canLay0=true/\PyData.canLayAll0 xs=true:=by simpa [PyData.canLayAll0] using h
   simp [PyData.eqvAll,eqv_refl x h'.1,eqvAll_refl xs h'.2]
end
def rNeK2:R2:=λx y H Q=>∃ a b k1 k2 v1 v2 u1 u2 d1 d2 e1 e2,x=.ref a/\y=.ref b/\H a=some (.dK [(k1,v1),(k2,v2)])/\H b=some (.dK [(k1,u1),(k2,u2)])/\¬ k1=k2/\(DV H d1 v1/\DV H d2 v2/\DV H e1 u1/\DV H e2 u2)/\(LayD d1/\LayD d2/\LayD e1/\LayD e2) /\
 Q (.bl (!(PyData.eqv d1 e1 && PyData.eqv d2 e2))) H
end L2

namespace L2
open PySem PySem.Spec PyProof.Rows
def gLst (K:PySem.W.Frag) (n:Nat) (t:TGs):TG:=λv σ H Q=>∃ a xs,v=.ref a/\SqL K H a xs/\xs.length=n/\t xs σ H Q
section
variable {X:Cx} {pos:Pos}
def rIxA (K:PySem.W.Frag):R2:=λx y H Q=>rIxL K x y H Q\/rIxT K x y H Q
theorem ix_any:IxR X (rIxA X.K):=IxR.or ix_list ix_tup
def clsV:V->Value
 | .ty c=>.type c
 | .ref a=>.ref a
 | _=>.none
def isClsV:V->Bool
 | .ty _=>true
 | .ref _=>true
 | _=>false
end
def Its (lo st:Int) (n:Nat):It:=⟨λi _=>i < n,λi H x H'=>H'=H/\x=.int (lo+i * st),λi _=>n <= i⟩
def iRng3 (ta:TA):TI:=λσ H R=>ta σ H λvs H1=>∃ i j c:Int,vs=[.int i,.int j,.int c]/\(-(2 ^ 40) <= i/\i < 2 ^ 40/\-(2 ^ 40) <= j/\j < 2 ^ 40/\0 < c/\c < 2 ^ 29)/\∀ n,R (Its i c n) H1
theorem call_len_b {X:Cx}:CallR X (.builtin "len") (λxs H Q=>∃ p ys,xs=[.ref p]/\(SqL X.K H p ys\/SqT X.K H p ys)/\(ys.length <= sizeLine->Q (.int ys.length) H)):=by
 intro pins s σ H xs us Q I r h
 obtain ⟨p,ys,e,hq,q⟩:=h
 have hb:ys.length <= sizeLine:=by
   rcases hq with z | z
   · obtain ⟨its,r',_,hz⟩:=I.list z
     have:=r'.length
     omega
   · obtain ⟨its,r',_,hz⟩:=I.tuple z
     have:=r'.length
     omega
 exact call_len_seq pins s σ H xs us Q I r ⟨p,ys,e,hq,q hb⟩
theorem ix_any_of {K:PySem.W.Frag} {H:Hp} {p:Addr} {xs:List V} {i:Int} {v:V} {Q:VK} (h:SqL K H p xs\/SqT K H p xs) (e:atI xs i=some v) (q:Q v H):rIxA K (.ref p) (.int i) H Q:=by
 rcases h with h | h
 · exact .inl ⟨p,xs,i,v,rfl,rfl,h,e,q⟩
 · exact .inr ⟨p,xs,i,v,rfl,rfl,h,e,q⟩
theorem Same.seqT {K:PySem.W.Frag} {H H':Hp} {a:Addr} {xs:List V} (e:Same H H') (h:SqT K H a xs):SqT K H' a xs:=by
 rcases h with z | z
 · rcases z with z | ⟨o,z⟩
   · exact .inl (.inl (e _ _ z))
   · exact .inl (.inr ⟨o,e _ _ z⟩)
 · exact .inr z
end L2

namespace L2
open PySem PySem.Spec PyProof.Rows
theorem ObjOk.here {P:Program} {w:World} {H:Hp} {h:Heap} {a:Addr} {o:HO} (x:ObjOk P w H h a o):∃ ob,h.get? a=some ob:=by
 cases o with
 | lst xs=>obtain ⟨_,_,_,_,e⟩:=x;exact ⟨_,e⟩
 | tup xs=>obtain ⟨_,_,_,_,e,_⟩:=x;exact ⟨_,e⟩
 | dK kvs=>obtain ⟨_,_,_,_,o,_,_,e,_⟩:=x;exact ⟨_,e⟩
 | dT kvs=>obtain ⟨_,_,_,_,o,_,_,e,_⟩:=x;exact ⟨_,e⟩
 | set S n=>obtain ⟨o,_,_,_,e,_⟩:=x;exact ⟨_,e⟩
 | ins C dx fs=>obtain ⟨_,_,_,e,_⟩:=x;exact ⟨_,e⟩
 | own y=>exact x
 | xd fs=>obtain ⟨_,⟨_,_,_,e,_⟩,_⟩:=x;exact ⟨_,e⟩
 | rng lo hi=>obtain ⟨_,_,_,e⟩:=x;exact ⟨_,e⟩
 | frz ob u=>exact ⟨_,x.1⟩
 | tbl ps=>exact ⟨_,show h.get? a=some _ from x⟩
 | met f y=>exact ⟨_,show h.get? a=some _ from x⟩
 | ext φ=>exact x.2.1
theorem HOk.nothing {P:Program} {w:World} {H:Hp} {h:Heap} {a:Addr} (ok:HOk P w H h) (e:h.get? a=none):H a=none:=by
 cases q:H a with
 | none=>rfl
 | some o =>
   obtain ⟨ob,e'⟩:=(ok a o q).here
   rw [e'] at e;cases e
def Trc (h:Heap) (e T:Addr) (cls fl:Value):Prop :=
 ∃ oe vs oT ts a0,h.get? e=some oe/\(oe.cls=cls/\vs[0]?=some a0)/\oe.data=.fields vs/\vs[1]?=some (.ref T)/\T≠e/\h.get? T=some oT/\oT.data=.fields ts/\ts[3]?=some fl
theorem Trc.on {h B:Heap} {e T:Addr} {cls fl:Value} (x:Trc h e T cls fl) (hB:B.get? T=none):∃ a0,h.TracedAtW B e cls a0 fl:=by
 obtain ⟨oe,vs,oT,ts,a0,h1,h2,h3,h4,h5,h6,h7,h8⟩:=x
 exact ⟨a0,oe,vs,T,oT,ts,h1,h2,h3,h4,hB,h5,h6,h7,h8⟩
def Apt (X:Cx) (pins:List (Addr × Obj)) (H:Hp) (b:Addr):Prop :=
 X.s₀.heap.get? b=none/\H b=none/\b≠X.env.locals/\(∀ x c,X.env.cells.lookup x=some c->c≠b)/\∀ p∈X.pn++pins,p.1≠b
section
variable {X:Cx} {pins:List (Addr × Obj)} {σ:St} {H H':Hp} {s:Shared} {h':Heap}
theorem Inv.apt (I:Inv X pins σ H s) (hx:X.ex=[]) {b:Addr} (e:s.heap.get? b=none) (n:H' b=none):Apt X pins H' b:=by
 refine ⟨?_,n,?_,λx c hc z=>?_,λp hp z=>?_⟩
 · cases q:X.s₀.heap.get? b with
   | none=>rfl
   | some o =>
     obtain ⟨o',e'⟩:=I.base.there b o q (by rw [hx];simp)
     rw [e] at e';cases e'
 · rintro rfl
   obtain ⟨m,⟨o,_,_,ho,_⟩,_⟩:=I.loc
   rw [e] at ho;cases ho
 · obtain ⟨v,o,ho,_⟩:=I.cell x c hc
   rw [z,e] at ho;cases ho
 · have ho:=(I.pin p hp).1
   rw [z,e] at ho;cases ho
theorem Inv.fsIn (I:Inv X pins σ H s):∀ b∈X.fs,b∈frs X.stack:=λb hb=>by
 rcases I.ok.stk with e | ⟨e,f⟩
 · rw [e];exact hb
 · rw [e]
   show b∈List.filterMap (·.frame) (X.env :: X.outer)
   rw [List.filterMap_cons,f]
   exact List.mem_cons_of_mem _ hb
theorem Inv.moved (I:Inv X pins σ H s) (ch:List Addr) (hch:∀ b∈ch,Apt X pins H b) (keep:∀ b o,b ∉ ch->b ∉ frs X.stack->s.heap.get? b=some o->h'.get? b=some o)
   (slot:∀ b o,b∈frs X.stack->s.heap.get? b=some o->∃ sl,h'.get? b=some { o with slots:=sl }):Inv X pins σ H { s with heap:=h' }:=by
 have up:∀ b o,b ∉ ch->s.heap.get? b=some o->∃ sl,h'.get? b=some { o with slots:=sl }:=λb o n e=>by
   by_cases z:b∈frs X.stack
   · exact slot b o z e
   · exact ⟨o.slots,keep b o n z e⟩
 have neL:∀ b o,X.s₀.heap.get? b=some o->b≠X.env.locals:=λb o e=>Nat.ne_of_lt (Nat.lt_of_lt_of_le (Heap.lt_size e) I.ok.above)
 have neC:∀ b o,X.s₀.heap.get? b=some o->b ∉ ch:=λb o e z=>by
   rw [(hch b z).1] at e;cases e
 have nst:∀ b,b≠X.env.locals->b ∉ X.fs->b ∉ frs X.stack:=λb n1 n2 z=>(List.mem_cons.mp (I.stkSub b z)).elim n1 n2
 have cellU:∀ x c,X.env.cells.lookup x=some c->∀ v,s.heap.IsCell c v->h'.IsCell c v:=λx c hc v ⟨o,ho,hd⟩=>by
   obtain ⟨sl,q⟩:=up c o (λz=>(hch c z).2.2.2.1 x c hc rfl) ho
   exact ⟨_,q,hd⟩
 refine ⟨I.ok,I.os,I.bare,⟨λb o e n hb hx=>?_,λb o e n hb hx=>?_,I.base.free,λb o e hx=>?_,I.base.tups,I.base.frzs,I.base.tbls⟩,?_,λx c e=>?_,I.free,I.freeC,λp hp=>?_,λa o e=>?_,I.len⟩
 · exact keep b o (neC b o e) (nst b (neL b o e) hb) (I.base.keep b o e n hb hx)
 · obtain ⟨sl,e1⟩:=I.base.slot b o e n hb hx
   obtain ⟨sl',e2⟩:=slot b _ (I.fsIn b hb) e1
   exact ⟨sl',e2⟩
 · obtain ⟨o',e1⟩:=I.base.there b o e hx
   obtain ⟨sl,e2⟩:=up b o' (neC b o e) e1
   exact ⟨_,e2⟩
 · obtain ⟨m,⟨o,es,ep,ho,r⟩,hl⟩:=I.loc
   obtain ⟨sl,q⟩:=up _ o (λz=>(hch _ z).2.2.1 rfl) ho
   refine ⟨m,⟨_,es,ep,q,r⟩,λi x v e1 e2 e3=>?_⟩
   obtain ⟨u,r',l⟩:=hl i x v e1 e2 e3
   refine ⟨u,r',?_⟩
   rcases l with l | ⟨k,c,e,z⟩
   · exact .inl l
   · exact .inr ⟨k,c,e,cellU x c e _ z⟩
 · obtain ⟨v,z⟩:=I.cell x c e
   exact ⟨v,cellU x c e v z⟩
 · obtain ⟨e,n,ne,nf,d⟩:=I.pin p hp
   exact ⟨keep p.1 p.2 (λz=>(hch p.1 z).2.2.2.2 p hp rfl) (nst p.1 ne nf) e,n,ne,nf,d⟩
 · refine (I.hok a o e).stay (λb u hb q=>keep b u (λz=>?_) (λz=>?_) q) (λ_ q=>q) λ_ _ q=>q
   · have n:=(hch b z).2.1
     rcases hb with rfl | hb
     · rw [n] at e;cases e
     · rw [n] at hb;cases hb
   · have n:=I.stkFree b z
     rcases hb with rfl | hb
     · rw [n] at e;cases e
     · rw [n] at hb;cases hb
abbrev hid (X:Cx) (h:Heap) (e T:Addr):Heap:=PySem.W.hideAll h (e :: T :: frs X.stack)
theorem hid_stays {h:Heap} {e T:Addr}:(hid X h e T).StaysIn h:=λ_ _ q=>PySem.W.of_hideAll _ q
theorem hid_frames {h:Heap} {e T:Addr} (F:h.FunFrames X.base X.stack):h.FunFrames (hid X h e T) X.stack :=
 PySem.W.funFrames_hide F λenv he a ha=>List.mem_cons_of_mem _ (List.mem_cons_of_mem _ (List.mem_filterMap.mpr ⟨env,he,ha⟩))
theorem hid_e {h:Heap} {e T:Addr}:(hid X h e T).get? e=none:=PySem.W.hideAll_none _ List.mem_cons_self
theorem hid_T {h:Heap} {e T:Addr}:(hid X h e T).get? T=none:=PySem.W.hideAll_none _ (List.mem_cons_of_mem _ List.mem_cons_self)
theorem Inv.flown (hx:X.ex=[]) (I:Inv X pins σ H s) {e T:Addr} {cls a0 fl:Value} (aE:Apt X pins H e) (aT:Apt X pins H T) (k1:(hid X s.heap e T).StaysIn h') (k2:h'.FunFrames (hid X s.heap e T) X.stack)
   (k3:h'.TracedAtW (hid X s.heap e T) e cls a0 fl) (k4:s.heap.UpToSlots h'):Inv X pins σ H { s with heap:=h' }/\∃ T',Trc h' e T' cls fl/\Apt X pins H T':=by
 refine ⟨I.moved [e,T] (λb hb=>?_) (λb o n1 n2 q=>?_) (λb o hb q=>?_),?_⟩
 · rcases List.mem_cons.mp hb with rfl | hb
   · exact aE
   · rw [List.mem_singleton.mp hb];exact aT
 · refine k1 b o (PySem.W.hideAll_get _ q λz=>?_)
   rcases List.mem_cons.mp z with z | z
   · exact n1 (by rw [z];exact List.mem_cons_self)
   · rcases List.mem_cons.mp z with z | z
     · exact n1 (by rw [z];simp)
     · exact n2 z
 · obtain ⟨_,o',e',hd⟩:=I.stack.mem hb
   rw [q] at e';cases e'
   exact k4 b o q hd
 · obtain ⟨oe,vs,T',oT,ts,h1,h2,h3,h4,h5,h6,h7,h8,h9⟩:=k3
   refine ⟨T',⟨oe,vs,oT,ts,a0,h1,h2,h3,h4,h6,h7,h8,h9⟩,?_⟩
   by_cases z:T'=T
   · rw [z];exact aT
   · have nf:T' ∉ frs X.stack:=λy=>by
       obtain ⟨_,o',e',hd⟩:=k2.mem y
       rw [h7] at e';cases e'
       exact hd _ h8
     have hn:s.heap.get? T'=none:=by
       cases q:s.heap.get? T' with
       | none=>rfl
       | some o =>
         have:=PySem.W.hideAll_get (e :: T :: frs X.stack) q λy=>by
           rcases List.mem_cons.mp y with y | y
           · exact h6 y
           · rcases List.mem_cons.mp y with y | y
             · exact z y
             · exact nf y
         rw [h5] at this;cases this
     exact I.apt hx hn (I.hok.nothing hn)
end
def CXv (P:Program) (w:World):CXT:=λouter H s E e s'=>∃ (ex T:Addr) (cls:Value) (H':Hp),e=.ref ex/\s'.os=s.os/\AllBare s'.gens/\Un (frs outer) [] H H' s.heap s'.heap/\HOk P w H' s'.heap/\Trc s'.heap ex T cls .none /\
 s.heap.get? ex=none/\s.heap.get? T=none/\H' ex=none/\H' T=none/\E cls none H'
structure Raisy (X:Cx) (E:XK):Prop where
 ex:X.ex=[]
 stk:X.stack=X.env :: X.outer
 frm:X.env.frame=some X.env.locals
 xe:X.xe=λe s'=>wpAny (model X.prog X.w) X.A («leaving» X.env e) (λ_ s''=>CXv X.prog X.w X.outer X.H₀ X.s₀ E e s'') (λe' s''=>CXv X.prog X.w X.outer X.H₀ X.s₀ E e' s'') s'
section
variable {X:Cx} {pins:List (Addr × Obj)} {σ:St} {H H':Hp} {s:Shared} {E:XK}
theorem Inv.out (hx:X.ex=[]) (I:Inv X pins σ H s) {e T:Addr} {cls:Value} (t:Trc s.heap e T cls .none) (aE:Apt X pins H e) (aT:Apt X pins H T) (q:E cls none H):CXv X.prog X.w X.outer X.H₀ X.s₀ E (.ref e) s:=by
 refine ⟨e,T,cls,H,rfl,I.os,I.bare,?_,I.hok,t,aE.1,aT.1,aE.2.1,aT.2.1,q⟩
 have u:=I.base
 rw [hx] at u
 exact u
theorem leave_made (R:Raisy X E) (I:Inv X pins σ H s) {e:Addr} {cls:Value} {args:List Value} {h2:Heap} (M:Heap.MadeExcOf s.heap h2 e cls args) (q:E cls none H):X.xe (.ref e) { s with heap:=h2 }:=by
 rw [R.xe]
 have aE:Apt X pins H e:=I.apt R.ex M.new (I.hok.nothing M.new)
 have I2:Inv X pins σ H { s with heap:=h2 }:=I.kept (t':=s.toks) M.keeps
 obtain ⟨t,he,_,_⟩:=M.there
 have hA:X.A.frames=some (X.env :: X.outer):=by rw [← R.stk];exact I.ok.frames
 have FF:=hid_frames (e:=e) (T:=e) I2.stack
 rw [R.stk] at FF
 refine wpAny_leaving_firstW (base:=hid X h2 e e) (a0:=.ref t) hA FF R.frm he hid_stays hid_e rfl rfl rfl λh' hL=>?_
 obtain ⟨k1,k2,k3,k4⟩:=hL
 rw [← R.stk] at k2
 obtain ⟨I3,T',t3,aT⟩:=I2.flown R.ex aE aE k1 k2 k3 k4
 exact I3.out R.ex t3 aE aT q
theorem Raisy.passes (R:Raisy X E):Passes (CXv X.prog X.w) X E:=by
 intro pins σ H s e s' I h
 obtain ⟨ex,T,cls,H',rfl,os,bare,un,hok,t,n1,n2,n3,n4,q⟩:=h
 have I2:Inv X pins σ H' s':=I.call' (ch:=[]) os un hok bare (λb z=>absurd z (by simp))
 have aE:Apt X pins H' ex:=I.apt R.ex n1 n3
 have aT:Apt X pins H' T:=I.apt R.ex n2 n4
 rw [R.xe]
 have hA:X.A.frames=some (X.env :: X.outer):=by rw [← R.stk];exact I.ok.frames
 have FF:=hid_frames (e:=ex) (T:=T) I2.stack
 rw [R.stk] at FF
 obtain ⟨a0,tw⟩:=t.on (hid_T (X:=X) (h:=s'.heap) (e:=ex) (T:=T))
 refine wpAny_leaving_nextW (base:=hid X s'.heap ex T) (a0:=a0) hA FF R.frm tw hid_stays hid_e λh' hL=>?_
 obtain ⟨k1,k2,k3,k4⟩:=hL
 rw [← R.stk] at k2
 obtain ⟨I3,T',t3,aT'⟩:=I2.flown R.ex aE aT k1 k2 k3 k4
 exact I3.out R.ex t3 aE aT' q
end
def veB:List Value:=[.type "ValueError",.type "Exception",.type "BaseException",.type "object"]
theorem exc_obj {K:PySem.W.Frag} {h:Heap} {C:Addr} (X:K.In h) (q:PySem.W.excIn K C veB "ValueError.__new__"=true) :
   ∃ bm N nm qn bs hd sn sub ab col dd k0 k1 k2 k3 k5 mN,h.get? C=some (excClassObj nm qn C N bs bm hd sn sub ab col dd k0 k1 k2 k3 k5 "ValueError.__new__")/\h.Ns N mN/\mN "__init__"=none/\OwnTail h veB bm:=by
 unfold PySem.W.excIn at q
 split at q
 · rename_i dd cd sl ho
   split at q
   · rename_i C' bm k0 k1 k2 k3 n k5 hm hs
     obtain ⟨nm,bs,mro,ns,qn,hd,sn,sub,ab,col,del⟩:=cd
     simp only [Bool.and_eq_true,beq_iff_eq,Bool.not_eq_true'] at q hm
     have q1:=q.1.1.1.1.1
     have q2:=q.1.1.1.1.2
     have q3:=q.1.1.1.2
     have es:sl=#[k0,k1,k2,k3,some (.builtin n),k5]:=Array.ext' hs
     rw [hm,q3,es,q1,q2] at ho
     have hok:=q.1.2
     refine ⟨bm,ns,nm,qn,bs,hd,sn,sub,ab,col,dd,k0,k1,k2,k3,k5,h.nsMap ns,X _ _ ho,?_,PySem.W.nsMap_none_of_in X hok q.2,PySem.W.tail_of_in X q.1.1.2⟩
     exact Heap.Ns.of_isNs (PySem.W.isNs_of_in X hok)
   · cases q
 · cases q
def tRaise (E:XK) (C:Addr) (t:TA):TS:=λ_ σ H=>t σ H λvs H1=>vs.length <= sizeLine/\E (.ref C) none H1
theorem ps_raise {X:Cx} {E:XK} {x:Str} {C:Addr} {e:Expr} {es:List Expr} {t:TA} {np cpos pos:Pos} (R:Raisy X E) (hh:X.A.handled=none) (hg:Gl X x) (hm:X.mg x=some (.ref C)) (hc:PySem.W.excIn X.K C veB "ValueError.__new__"=true)
   (ha:PA X (e :: es) t) (hdb:(x == ("__debug__":Str))=false:=by decide) (he:starEach (e :: es) X.env=(false,eval e X.env) :: starEach es X.env:=by rfl) (hpl:(backTo cpos (starEach (e :: es) X.env)).any (·.1)=false:=by rfl) :
   PS X (.Raise (some (.Call (.Name x np) (e :: es) [] cpos)) none pos) (tRaise E C t):=by
 intro pins s σ H D I h
 obtain ⟨bm,N,nm,qn,bs,hd,sn,sub,ab,col,dd,k0,k1,k2,k3,k5,mN,hC,hN,hni,TL⟩:=exc_obj I.ok.mod.kin hc
 refine wpAny_Raise_call_subT (C:=C) (nm:=nm) (q:=qn) (N:=N) (bs:=bs) (bm:=bm) (hdct:=hd) (sn:=sn) (sub:=sub) (ab:=ab) (col:=col) (dd:=dd) (k0:=k0) (k1:=k1) (k2:=k2) (k3:=k3) (k5:=k5) PySem.F.excBase_ValueError (mN:=mN)
   (TL.hasType PySem.F.excBase_ValueError.hasBase) hh hpl hni (ld_glob I hg hm ⟨rfl,?_⟩ hdb)
 have hq:=ha cpos pins s σ H _ I h
 have e2:backTo cpos (starEach (e :: es) X.env)=backTo cpos ((false,eval e X.env) :: starEach es X.env):=by rw [he]
 rw [e2] at hq ⊢
 refine Calls.evalArgs_plain (thn hq λus s2 ⟨vs,H2,I2,r,z,q⟩=>?_)
 exact ⟨rfl,by rw [← r.length];exact z,I2.bk _ _ hC,hN.keeps I2.bk,TL.keeps I2.bk,λh' ex M=>leave_made R I2 M q⟩
theorem Fun.okX {P:Program} {w:World} {K:PySem.W.Frag} {mg:Str->Option Value} {base:Heap} {x qual:Str} {st:Stmt} {f:Addr} {fd:FuncData} {N ps:List Str} {k:Nat} {sp:Sp} (F:Fun K x qual st f fd) (S:FnScope N ps (defScope st)) (len:∀ vs H Q E,sp vs H Q E->vs.length=ps.length)
   (hbody:∀ (cdv:Value) (A:Around) (outer:List Env) (s:Shared) (H:Hp) (vs:List V) (Q:VK) (E:XK),Room k (A.deeper (envOfC qual (defScope st) s.heap.objs.size f cdv))->Raisy (cxOf (CXv P w) P w K mg base N qual (defScope st) f cdv A outer s H E) E->sp vs H Q E ->
     ∃ t,PSs (cxOf (CXv P w) P w K mg base N qual (defScope st) f cdv A outer s H E) (defBody st) t/\t { nx:=λ_ H'=>Q .non H',rt:=Q } (start N vs) H):FnOk P w K mg base (CXv P w) (k+1) f fd ps sp:=by
 obtain ⟨oc,od,kV,doc,pm,an,cdv,ct,osl,rfl,lk,hcd⟩:=F.ex
 exact fn_of lk hcd S len λA outer s H vs Q E hr hsp=>hbody cdv A outer s H vs Q E hr ⟨rfl,rfl,rfl,rfl⟩ hsp
abbrev Cx.tryX (X:Cx) (pins:List (Addr × Obj)) (R:St->Value->Hp->Prop):Cx :=
 { X with pn:=X.pn++pins,xe:=λe s'=>∃ (ex T:Addr) (cls:Value) (σ':St) (H':Hp),e=.ref ex/\Inv X pins σ' H' s'/\Trc s'.heap ex T cls .none/\Apt X pins H' ex/\Apt X pins H' T/\R σ' cls H' }
abbrev Cx.inH (X:Cx) (e:Value):Cx:={ X with A:=X.A.mark (some e),calm:=false,xe:=λ_ _=>False }
section
variable {X:Cx} {pins pins':List (Addr × Obj)} {σ:St} {H H':Hp} {s:Shared} {R:St->Value->Hp->Prop} {e:Value}
theorem Cx.Ok.try_ (ok:X.Ok):(X.tryX pins R).Ok:=⟨ok.mod,ok.kind,ok.glob,ok.blt,ok.above,ok.inj,ok.has,ok.cab,ok.hd,ok.frames,ok.stk,ok.exf,ok.bs,ok.bsz,ok.noex,ok.exfs,ok.funs,ok.frf⟩
theorem Cx.Ok.untry (ok:(X.tryX pins R).Ok):X.Ok:=⟨ok.mod,ok.kind,ok.glob,ok.blt,ok.above,ok.inj,ok.has,ok.cab,ok.hd,ok.frames,ok.stk,ok.exf,ok.bs,ok.bsz,ok.noex,ok.exfs,ok.funs,ok.frf⟩
theorem Inv.try_ (I:Inv X pins σ H s):Inv (X.tryX pins R) [] σ H s:=⟨I.ok.try_,I.os,I.bare,I.base,I.loc,I.cell,I.free,I.freeC,λp hp=>I.pin p (by simpa [Cx.tryX] using hp),I.hok,I.len⟩
theorem Inv.untry (I:Inv (X.tryX pins R) pins' σ H s):Inv X pins σ H s:=⟨I.ok.untry,I.os,I.bare,I.base,I.loc,I.cell,I.free,I.freeC,λp hp=>I.pin p (List.mem_append_left _ hp),I.hok,I.len⟩
theorem Cx.Ok.inH (ok:X.Ok):(X.inH e).Ok:=⟨ok.mod,ok.kind,ok.glob,ok.blt,ok.above,ok.inj,ok.has,ok.cab,λz=>(by cases z),ok.frames,ok.stk,ok.exf,ok.bs,ok.bsz,ok.noex,ok.exfs,ok.funs,ok.frf⟩
theorem Inv.inH (I:Inv X pins σ H s):Inv (X.inH e) pins σ H s:=⟨I.ok.inH,I.os,I.bare,I.base,I.loc,I.cell,I.free,I.freeC,I.pin,I.hok,I.len⟩
theorem Inv.outH (ok:X.Ok) (I:Inv (X.inH e) pins σ H s):Inv X pins σ H s:=⟨ok,I.os,I.bare,I.base,I.loc,I.cell,I.free,I.freeC,I.pin,I.hok,I.len⟩
theorem SP.outH {D:Ends} {f:Flow} {s':Shared} (ok:X.Ok) (h:SP (X.inH e) pins D f s'):SP X pins D f s':=by
 cases f with
 | next=>obtain ⟨σ',H',I,q⟩:=h;exact ⟨σ',H',I.outH ok,q⟩
 | brk=>obtain ⟨σ',H',I,q⟩:=h;exact ⟨σ',H',I.outH ok,q⟩
 | cont=>obtain ⟨σ',H',I,q⟩:=h;exact ⟨σ',H',I.outH ok,q⟩
 | ret u=>obtain ⟨v,σ',H',I,r,q⟩:=h;exact ⟨v,σ',H',I.outH ok,r,q⟩
theorem SP.untry {D:Ends} {f:Flow} {s':Shared} (h:SP (X.tryX pins R) pins' D f s'):SP X pins D f s':=by
 cases f with
 | next=>obtain ⟨σ',H',I,q⟩:=h;exact ⟨σ',H',I.untry,q⟩
 | brk=>obtain ⟨σ',H',I,q⟩:=h;exact ⟨σ',H',I.untry,q⟩
 | cont=>obtain ⟨σ',H',I,q⟩:=h;exact ⟨σ',H',I.untry,q⟩
 | ret u=>obtain ⟨v,σ',H',I,r,q⟩:=h;exact ⟨v,σ',H',I.untry,r,q⟩
end
structure Framed (X:Cx):Prop where
 ex:X.ex=[]
 stk:X.stack=X.env :: X.outer
 frm:X.env.frame=some X.env.locals
abbrev TH:=Ends->St->Value->Hp->Prop
def PH (X:Cx) (hs:List ExceptHandler) (t:TH):Prop :=
 ∀ (pins:List (Addr × Obj)) (s:Shared) (σ:St) (H:Hp) (D:Ends) (ex T:Addr) (cls:Value),Inv X pins σ H s->Trc s.heap ex T cls .none->Apt X pins H ex->Apt X pins H T->t D σ cls H ->
   wpAny (model X.prog X.w) X.A (handleBy (.ref ex) X.env hs) (SP X pins D) X.xe s
def tHNil:TH:=λ_ _ _ _=>False
theorem ph_nil {X:Cx}:PH X [] tHNil:=λ_ _ _ _ _ _ _ _ _ _ _ _ h=>h.elim
def tHCons (K:PySem.W.Frag) (C:Value) (tb:TS) (tr:TH):TH:=λD σ cls H=>∃ b,PySem.W.exmOne K cls C=some b/\if b=true then tb D σ H else tr D σ cls H
section
variable {X:Cx}
theorem Trc.ty {M:Model} {h:Heap} {e T:Addr} {cls fl:Value} (t:Trc h e T cls fl):PySem.W.Looks M h (typeOf (.ref e)) cls:=by
 obtain ⟨oe,vs,oT,ts,a0,h1,⟨rfl,_⟩,_⟩:=t
 exact (PySem.W.Looks.ld h1).andThen .now
theorem land {pins:List (Addr × Obj)} {σ:St} {H:Hp} {s:Shared} {ex T:Addr} {cls fl:Value} {A:Around} {Q:Unit->Shared->Prop} {E:Value->Shared->Prop} (hx:X.ex=[]) (I:Inv X pins σ H s) (t:Trc s.heap ex T cls fl) (aE:Apt X pins H ex) (aT:Apt X pins H T)
   (h:∀ s' T',Inv X pins σ H s'->Trc s'.heap ex T' cls .none->Apt X pins H T'->Q () s'):wpAny (model X.prog X.w) A (setFlight (.ref ex) none) Q E s:=by
 obtain ⟨a0,tw⟩:=t.on (hid_T (X:=X) (h:=s.heap) (e:=ex) (T:=T))
 refine wpAny_setFlight_noneW (base:=hid X s.heap ex T) (l:=X.stack) hid_stays (hid_frames I.stack) tw λh' k1 k2 k3 k4=>?_
 obtain ⟨I3,T',t3,aT'⟩:=I.flown hx aE aT k1 k2 k3.at λb o q n=>⟨o.slots,k4 b o q n⟩
 exact h _ T' I3 t3 aT'
theorem ph_cons {x:Str} {C:Addr} {b₀:Stmt} {suite:List Stmt} {np pos:Pos} {rest:List ExceptHandler} {tb:TS} {tr:TH} (F:Framed X) (hg:Gl X x) (hm:X.mg x=some (.ref C)) (hb:∀ e,PSs (X.inH e) (b₀ :: suite) tb) (hr:PH X rest tr)
   (hdb:(x == ("__debug__":Str))=false:=by decide):PH X (.ExceptHandler (some (.Name x np)) none (b₀ :: suite) pos :: rest) (tHCons X.K (.ref C) tb tr):=by
 intro pins s σ H D ex T cls I t aE aT h
 obtain ⟨b,hx,h⟩:=h
 refine wpAny_handleBy_cons (codeAny_handlers_test (ld_glob (X:=X.inH (.ref ex)) I.inH hg hm ?_ hdb)) (by intro q;cases q)
 refine (PySem.W.exm_one (M:=model X.prog X.w) I.kIn t.ty hx).at ?_
 cases b with
 | false=>exact hr pins s σ H D ex T cls I t aE aT h
 | true =>
   refine codeAny_handlers_suite (land F.ex I t aE aT λs' T' I' t' aT'=>?_)
   exact wpAny_mono (hb (.ref ex) pins s' σ H D I'.inH h) (λf s2 q=>q.outH I.ok) λ_ _ z=>False.elim z
def tTry (tb:(St->Value->Hp->Prop)->TS) (th:TH):TS:=λD σ H=>∃ R:St->Value->Hp->Prop,tb R D σ H/\∀ σ' cls H',R σ' cls H'->th D σ' cls H'
theorem ps_try {body:List Stmt} {h₀:ExceptHandler} {hs:List ExceptHandler} {pos:Pos} {tb:(St->Value->Hp->Prop)->TS} {th:TH} (F:Framed X) (hb:∀ pins R,PSs (X.tryX pins R) body (tb R)) (hh:PH X (h₀ :: hs) th):PS X (.Try body (h₀ :: hs) [] [] pos) (tTry tb th):=by
 intro pins s σ H D I h
 obtain ⟨R,h,k⟩:=h
 refine wpAny_Try_except (wpAny_mono (hb pins R [] s σ H D I.try_ h) (λf s1 q=>?_) λe s1 q=>?_)
 · have q':=q.untry
   cases f with
   | next=>exact wpAny_execs_nil q'
   | brk=>exact q'
   | cont=>exact q'
   | ret u=>exact q'
 · obtain ⟨ex,T,cls,σ',H',rfl,I1,t,aE,aT,r⟩:=q
   have hA:X.A.frames=some (X.env :: X.outer):=by rw [← F.stk];exact I.ok.frames
   have FF:=hid_frames (e:=ex) (T:=T) I1.stack
   rw [F.stk] at FF
   obtain ⟨a0,tw⟩:=t.on (hid_T (X:=X) (h:=s1.heap) (e:=ex) (T:=T))
   refine wpAny_noteFrame_onW (base:=hid X s1.heap ex T) (a0:=a0) hA FF F.frm tw hid_stays hid_e λh' hL=>?_
   obtain ⟨k1,k2,k3,k4⟩:=hL
   rw [← F.stk] at k2
   obtain ⟨I2,T2,t2,aT2⟩:=I1.flown F.ex aE aT k1 k2 k3 k4
   exact land F.ex I2 t2 aE aT2 λs3 T3 I3 t3 aT3=>hh pins s3 σ' H' D ex T3 cls I3 t3 aE aT3 (k σ' cls H' r)
end
def tCallX (sp:Sp) (dvs:List V) (R:St->Value->Hp->Prop) (t:TA):TE:=λσ H Q=>t σ H λvs H1=>sp (vs++dvs) H1 Q λcls _ H'=>R σ cls H'
def tMethX (C:Addr) (m:Str) (sp:Sp) (dvs:List V) (R:St->Value->Hp->Prop) (ta:TE) (t:TA):TE:=λσ H Q=>ta σ H λx H1=>∃ a dx fs,x=.ref a/\H1 a=some (.ins C dx fs)/\fs.lookup m=none /\
 t σ H1 λvs H2=>sp (x :: (vs++dvs)) H2 Q λcls _ H'=>R σ cls H'
section
variable {X:Cx} {k:Nat} {f C:Addr} {fd:FuncData} {ps:List Str} {sp:Sp} {dvs:List V} {ds:List Value} {x m:Str} {p pos apos:Pos} {e o:Expr} {es:List Expr} {ta:TE} {t:TA} {pins:List (Addr × Obj)} {R:St->Value->Hp->Prop}
theorem run_fnX {pins':List (Addr × Obj)} {σ:St} {H:Hp} {s:Shared} {Q:VK} {us:List Value} {vs:List V} (hx:X.ex=[]) (F:FnOk X.prog X.w X.K X.mg X.base (CXv X.prog X.w) k f fd ps sp) (hr:Room k X.A) (hb:Binds X.K fd ps ds) (hd:Vals dvs ds)
   (I:Inv (X.tryX pins R) pins' σ H s) (r:Vals vs us) (h:sp (vs++dvs) H Q λcls _ H'=>R σ cls H'):wpAny (model X.prog X.w) X.A (call (.ref f) us) (EP (X.tryX pins R) pins' σ Q) (X.tryX pins R).xe s:=by
 have r2:Vals (vs++dvs) (us++ds):=r.append hd
 have hl:(us++ds).length=ps.length:=r2.length.symm.trans (F.len _ _ _ _ h)
 refine wpAny_call (codeAny_mono (F.run X.A X.stack s H ⟨us,[]⟩ _ _ Q _ hr I.env0 (hb s us I.kIn hl) r2 h) λr s' hq=>?_)
 cases r with
 | error e =>
   obtain ⟨ex,T,cls,H',rfl,os,bare,un,hok,t,n1,n2,n3,n4,q⟩:=hq
   exact ⟨ex,T,cls,σ,H',rfl,(I.call' (ch:=[]) os un hok bare (λb z=>absurd z (by simp))).untry,t,I.untry.apt hx n1 n3,I.untry.apt hx n2 n4,q⟩
 | ok fl =>
   cases fl with
   | ret u=>exact I.after hq
   | next=>exact False.elim hq
   | brk=>exact False.elim hq
   | cont=>exact False.elim hq
theorem pe_methX {pl:Sem Bool} (hx:X.ex=[]) (he:PE (X.tryX pins R) o ta) (c:Cls X.K C) (hm:Meth X.K C m f) (F:FnOk X.prog X.w X.K X.mg X.base (CXv X.prog X.w) k f fd ps sp) (hr:Room k X.A) (hb:Binds X.K fd ps ds) (hd:Vals dvs ds) (ha:PA (X.tryX pins R) (e :: es) t)
   (hst:starEach (e :: es) X.env=(false,eval e X.env) :: starEach es X.env:=by rfl) (hpl:(backTo pos (starEach es X.env)).any (·.1)=false:=by rfl)
   (ht:eval (.Call (.Attribute o m apos) (e :: es) [] pos) X.env=(do
     let ov ← eval o X.env
     standAt apos.atName
     let (f,first) ← holding [ov] (getMethod ov m pl)
     callWith pos f first (backTo pos (starEach (e :: es) X.env)) (backToKw pos (keywordEach [] X.env))):=by rfl) :
   PE (X.tryX pins R) (.Call (.Attribute o m apos) (e :: es) [] pos) (tMethX C m sp dvs R ta t):=by
 intro pins' s σ H Q I h
 refine PySem.W.methodCall_KW (pl:=pl) (thn (he pins' s σ H _ I h) λu s1 z=>?_) ht
 obtain ⟨x,H1,I1,rx,a,dx,fs,ex,ea,l,q⟩:=z
 subst ex
 cases (show u=Value.ref a from rx)
 refine getmeth_ok I1 ea c hm l (PySem.W.callWith_K (first:=[.ref a]) (h₀:=X.base) I.ok.mod.kin hm.kp (thn (ha pos pins' s1 σ H1 _ I1 q) λus s2 z=>?_) hst hpl)
 obtain ⟨vs,H2,I2,r,q2⟩:=z
 exact ⟨I2.kIn,run_fnX (us:=.ref a :: us) (vs:=.ref a :: vs) hx F hr hb hd I2 (.cons rfl r) q2⟩
end
end L2

namespace PySem.W
open PySem PySem.Calls PyProof.Rows Builtin Builtin.ObjectAttr Builtin.Getset_descriptor
structure XCls (K:Frag) (C:Addr):Prop where
 ga:findIn K (.ref C) "__getattribute__"=some (some (.builtin "BaseException.__getattribute__"))
 gt:findIn K (.ref C) "__getattr__"=some none
 cl:findIn K (.ref C) "__class__"=some (some (.builtin "object.__class__"))
 ob:mroIn K C (.type "object")=some true
 be:subIn K (.ref C) (.type "BaseException")=some true
 is:isClsIn K C=true
section
variable {prog:Program} {w:World} {A:Around} {E:Value->Shared->Prop} {h:Heap} {g:Array GenState} {d:Drawn} {t:Nat} {os:OsState} {K:Frag} {x C:Addr} {ox:Obj}
end
end PySem.W
namespace L2
open PySem PySem.Spec PyProof.Rows
def excO (x C:Addr):HO:=.ext λh=>∃ o vs,h.get? x=some o/\o.cls=.ref C/\o.data=.fields vs
section
variable {X:Cx} {pins:List (Addr × Obj)} {σ:St} {H:Hp} {s:Shared}
theorem Inv.seen {x:Addr} {o:HO} (I:Inv X pins σ H s) (a:Apt X pins H x) (new:ObjOk X.prog X.w (upd H x o) s.heap x o):Inv X pins σ (upd H x o) s:=by
 obtain ⟨a1,a2,a3,a4,a5⟩:=a
 have ne:∀ b u,H b=some u->b≠x:=λb u e z=>by rw [z,a2] at e;cases e
 refine ⟨I.ok,I.os,I.bare,⟨I.base.keep,I.base.slot,λb u e n hx=>?_,I.base.there,λb xs e=>?_,λb u v e=>?_,λb ps e=>?_⟩,I.loc,I.cell,?_,λy c e=>?_,λp hp=>?_,λb u e=>?_,I.len⟩
 · rw [upd_ne (λz=>by rw [z,a1] at e;cases e)];exact I.base.free b u e n hx
 · have q:=I.base.tups b xs e
   rw [upd_ne (ne _ _ q)];exact q
 · have q:=I.base.frzs b u v e
   rw [upd_ne (ne _ _ q)];exact q
 · obtain ⟨more,q⟩:=I.base.tbls b ps e
   exact ⟨more,by rw [upd_ne (ne _ _ q)];exact q⟩
 · rw [upd_ne (Ne.symm a3)];exact I.free
 · rw [upd_ne (a4 y c e)];exact I.freeC y c e
 · obtain ⟨e,n,r⟩:=I.pin p hp
   exact ⟨e,by rw [upd_ne (a5 p hp)];exact n,r⟩
 · by_cases hb:b=x
   · subst hb;rw [upd_same] at e;cases e;exact new
   · rw [upd_ne hb] at e
     refine (I.hok b u e).stay (λ_ _ _ q=>q) (λc q=>?_) λc xs q=>?_
     · rw [upd_ne (ne _ _ q)];exact q
     · rw [upd_ne (ne _ _ q)];exact q
def Ends.gone (D:Ends) (i:Nat):Ends:=⟨λσ H=>D.nx (σ.set i none) H,D.rt,λσ H=>D.bk (σ.set i none) H,λσ H=>D.ct (σ.set i none) H⟩
def tHAs (K:PySem.W.Frag) (C:Addr) (i:Nat) (tb:TS) (tr:TH):TH:=λD σ cls H=>∃ b,PySem.W.exmOne K cls (.ref C)=some b/\if b=true then ∃ c,cls=.ref c/\∀ ex,H ex=none->tb (D.gone i) (σ.set i (some (.ref ex))) (upd H ex (excO ex c)) else tr D σ cls H
end
end L2

namespace L2
open PySem PySem.Spec PyProof.Rows
section
variable {X:Cx} {scope:Scope} {cl:List (Str × Addr)} {x:Str} {N':List Str}
theorem ps_compset {px py pos spos:Pos} {yT:Str} {iN:Nat} {iter elt:Expr} {ifs:List Expr} {caps:List Str} {js:List Nat} {wi:TI} {tc:TT} {te:TE} (hN:X.N.Nodup) (hiN:X.N[iN]?=some yT) (hyL:Loc X.env.scope yT)
   (hsw:swapsWith (.ListComp elt [⟨.Name x px,iter,ifs,0⟩] scope pos) (some (.Name yT py)) spos.line X.env=pure true) (hc:X.calm=true) (O:CompOk X scope cl x) (hnd:(x :: caps).Nodup)
   (hcap:∀ y∈caps,∃ c,cl.lookup y=some c) (hjs:Paired (λ(y:Str) (j:Nat)=>X.N[j]?=some y/\(X.env.scope.names.lookup y=some .cell\/X.env.scope.names.lookup y=some .free)) caps js)
   (hkc:∀ y∈caps,(relabel scope X.env).names.lookup y=some .cell\/(relabel scope X.env).names.lookup y=some .free)
   (hi:PI X (.Name x px) iter wi) (ht:∀ C s₃ H₃ pins ex E',PTs (cxComp X scope cl C x (x :: caps) s₃ H₃ pins ex E') ifs tc) (he:∀ C s₃ H₃ pins ex E',PE (cxComp X scope cl C x (x :: caps) s₃ H₃ pins ex E') elt te)
   (hs:∀ x,foldedSetIterable iter X.env x=pure x:=by intro _;rfl) (hfN:X.fn yT=true\/X.env.scope.names.lookup yT=some .local:=by first | exact .inl rfl | exact .inr rfl | assumption) :
   PS X (.Assign [.Name yT py] (.ListComp elt [⟨.Name x px,iter,ifs,0⟩] scope pos) spos) (tAsg (tComp wi js tc te) (gName iN)):=by
 intro pins s σ H D I h
 rw [exec_Assign_Name_used _ _ _ _ hsw]
 refine wpAny_bind (wpAny_standAt (wpAny_bind ?_))
 show wpAny _ X.A (do let _ ← comprehension (.ListComp elt [⟨.Name x px,iter,ifs,0⟩] scope pos) scope X.env _ (newList []) false (eval iter X.env) (some (assign (.Name yT py) X.env))) _ _ s
 refine wpAny_bind (wpAny_mono (wpAny_comprehension_free (use:=some (assign (.Name yT py) X.env)) (Q:=λ_ s'=>SP X pins D .next s') rfl hs O.clos O.kind O.names (thn (hi pins s σ H _ I h) λv s1 h1=>thn h1 λitv s2 ⟨it,fp,tn,J,H1,e,I2,T,t0,hf,q⟩=>?_))
   (λ_ s' hq=>wpAny_pure (wpAny_pure hq)) λ_ _ e=>e)
 subst e
 refine wpAny_newObj_type (wpAny_newFunctionEnv O.nocell (by intro y hy;cases hy) (λh₁ hns₁ hsb₁=>?_) O.kind)
 obtain ⟨W,⟨m0,w0⟩,step⟩:=q s2.heap.objs.size (I2.hok.fresh (Nat.le_refl _))
 have I3:Inv X pins σ (upd H1 s2.heap.objs.size (.lst [])) { s2 with heap:=s2.heap.push { cls:=.type "list",data:=.seq ([]:List Value).toArray } }:=I2.lnew (t':=s2.toks) (its:=[]) .nil (Nat.zero_le _)
 have fpl:∀ b∈fp,b < s2.heap.objs.size:=λb hb=>by
   obtain ⟨o,e,_⟩:=T.obj _ _ t0 b hb
   exact Heap.lt_size e
 have hf3:∀ b∈fp,FpOk X pins (upd H1 s2.heap.objs.size (.lst [])) b:=λb hb=>by
   obtain ⟨f0,f⟩:=hf b hb
   exact ⟨by rw [upd_ne (Nat.ne_of_lt (fpl b hb))];exact f0,f⟩
 generalize hs3:({ s2 with heap:=s2.heap.push { cls:=.type "list",data:=.seq ([]:List Value).toArray } }:Shared)=s₃ at *
 generalize hH3:upd H1 s2.heap.objs.size (.lst [])=H₃ at *
 have hsz:s2.heap.objs.size < s₃.heap.objs.size:=by rw [← hs3];show _ < (s2.heap.push _).objs.size;rw [Heap.size_push];exact Nat.lt_succ_self _
 have hk2:∀ b o,s2.heap.get? b=some o->s₃.heap.get? b=some o:=λb o e=>by rw [← hs3];exact Heap.get?_push_of_some _ e
 have hk3:∀ b o,s₃.heap.get? b=some o->h₁.get? b=some o:=λb o e=>hsb₁.extBut b o (Nat.ne_of_lt (Heap.lt_size e)) (Heap.get?_push_of_some _ e)
 have t3:tn 0 h₁:=T.keep _ _ _ t0 λb _ o e=>hk3 b o (hk2 b o e)
 have loop:∀ (R:Result->Shared->Prop),(∀ f s',(∃ σ' H' i m ys,Inv (cxComp X scope cl s₃.heap.objs.size x (x :: caps) s₃ H₃ pins fp (notedBy (model X.prog X.w) X.A (compEnvC scope cl s₃.heap.objs.size X.env) λe s'=>R (.error e) s')) [] σ' H' s'/\W i m ys H'/\D.nx (σ.set iN (some (.ref s2.heap.objs.size))) H')->R (.ok f) s') ->
     ∀ tk,codeAny (model X.prog X.w) X.A (.compLoop (.ListComp elt [⟨.Name x px,iter,ifs,0⟩] scope pos) 0 (.ref it) (.ref s2.heap.objs.size) (compEnvC scope cl s₃.heap.objs.size X.env)) R { s₃ with heap:=h₁,toks:=tk }:=by
   intro R hR tk
   have I4:=Inv.enter (E':=notedBy (model X.prog X.w) X.A (compEnvC scope cl s₃.heap.objs.size X.env) λe s'=>R (.error e) s') (tk:=tk) O I3 (λb hb=>⟨hf3 b hb,Nat.lt_trans (fpl b hb) hsz⟩) hcap hjs hkc (by simpa using hns₁) hk3
   have stat:∀ {H':Hp},(∀ b∈fp,H' b=none)->∀ b∈fp,FpOk (cxComp X scope cl s₃.heap.objs.size x (x :: caps) s₃ H₃ pins fp (notedBy (model X.prog X.w) X.A (compEnvC scope cl s₃.heap.objs.size X.env) λe s'=>R (.error e) s')) [] H' b:=λhn b hb=>by
     obtain ⟨f0,f1,f2,f3,f4,f5⟩:=hf3 b hb
     refine ⟨hn b hb,Nat.ne_of_lt (Nat.lt_trans (fpl b hb) hsz),λz=>?_,.inl hb,λy c e=>f4 y c (O.sub _ (mem_of_lookup e)),λp hp=>f5 p (by simpa [cxComp] using hp)⟩
     rcases List.mem_cons.mp (I3.stkSub b z) with q | q
     · exact f1 q
     · exact f2 q
   refine codeAny_compLoop_tests (λn s'=>∃ i v0 ys H',Inv (cxComp X scope cl s₃.heap.objs.size x (x :: caps) s₃ H₃ pins fp (notedBy (model X.prog X.w) X.A (compEnvC scope cl s₃.heap.objs.size X.env) λe s'=>R (.error e) s')) [] (v0 :: capt σ js) H' s'/\tn i s'.heap/\(∀ b∈fp,H' b=none)/\W i n ys H') ?_ m0
     ⟨0,none,[],H₃,I4,t3,λb hb=>(hf3 b hb).1,w0⟩
   rintro n s4 ⟨i,v0,ys,H4,J4,t4,fr4,w4⟩
   obtain ⟨hD,hlen,hor⟩:=step i n ys H4 w4
   rcases hor with ⟨stop,qn⟩ | ⟨go,hy⟩
   · refine thn (T.done (cxComp X scope cl s₃.heap.objs.size x (x :: caps) s₃ H₃ pins fp (notedBy (model X.prog X.w) X.A (compEnvC scope cl s₃.heap.objs.size X.env) λe s'=>R (.error e) s')) rfl rfl rfl hc i [] s4 _ H4 _ J4 (stat fr4) t4 stop) λr s5 ⟨hr,J5⟩=>?_
     subst hr
     exact hR _ _ ⟨_,H4,i,n,ys,J5,w4,qn⟩
   · refine thn (T.item (cxComp X scope cl s₃.heap.objs.size x (x :: caps) s₃ H₃ pins fp (notedBy (model X.prog X.w) X.A (compEnvC scope cl s₃.heap.objs.size X.env) λe s'=>R (.error e) s')) rfl rfl rfl hc i [] s4 _ H4 _ J4 (stat fr4) t4 go) λr s5 ⟨u,hr,h5⟩=>?_
     subst hr
     have ea:assign (.Name x px) (compEnvC scope cl s₃.heap.objs.size X.env) u=(letOwnedTupleGo (.Name x px) (.ref it) u >>= λ_=>assign (.Name x px) (compEnvC scope cl s₃.heap.objs.size X.env) u):=rfl
     show wpAny _ _ (assign (.Name x px) (compEnvC scope cl s₃.heap.objs.size X.env) u) _ _ _
     rw [ea]
     refine wpAny_bind (thn h5 λ_ s6 ⟨y,H6,J6,ry,yl,t6,fr6⟩=>?_)
     have J6':=J6.pinned (stat fr6) (T.obj _ _ t6)
     have hy6:=hy y H6 yl
     refine thn (pg_name (X:=cxComp X scope cl s₃.heap.objs.size x (x :: caps) s₃ H₃ pins fp (notedBy (model X.prog X.w) X.A (compEnvC scope cl s₃.heap.objs.size X.env) λe s'=>R (.error e) s')) (i:=0) (x:=x) (pos:=px) hnd rfl (.inl (lookup_relabel_local O.xloc)) (.inl (beq_self_eq_true x)) _ s6 _ H6 y u (λσ2 H2=>σ2=some y :: capt σ js/\H2=H6) J6' ry ⟨rfl,rfl⟩) λ_ s7 ⟨σ7,H7,J7,e7,e7'⟩=>?_
     subst e7 e7'
     refine thn (ht _ _ _ _ _ _ _ s7 _ H7 _ J7 hy6) λok s8 ⟨H8,J8,q8⟩=>?_
     have back:∀ {σ9:St} {H9:Hp} {s9:Shared},Inv (cxComp X scope cl s₃.heap.objs.size x (x :: caps) s₃ H₃ pins fp (notedBy (model X.prog X.w) X.A (compEnvC scope cl s₃.heap.objs.size X.env) λe s'=>R (.error e) s')) ([]++pinsAt fp s6.heap) σ9 H9 s9->tn (i+1) s9.heap/\∀ b∈fp,H9 b=none:=λJ9=>by
       refine ⟨T.keep _ _ _ t6 λb hb o e=>(J9.pin (b,o) (List.mem_append_right _ (List.mem_append_right _ (mem_pinsAt hb e)))).1,λb hb=>?_⟩
       obtain ⟨o,e,d⟩:=T.obj _ _ t6 b hb
       exact (J9.pin (b,o) (List.mem_append_right _ (List.mem_append_right _ (mem_pinsAt hb e)))).2.1
     cases ok with
     | false =>
       rw [if_neg (by decide)]
       rw [if_neg (by decide)] at q8
       obtain ⟨m',hm,w8⟩:=q8
       obtain ⟨b1,b2⟩:=back J8
       exact ⟨m',hm,i+1,some y,ys,H8,J8.unpinned,b1,b2,w8⟩
     | true =>
       rw [if_pos rfl]
       rw [if_pos rfl] at q8
       refine thn (he _ _ _ _ _ _ _ s8 _ H8 _ J8 q8) λz s9 ⟨vz,H9,J9,rz,hD9,m',hm,w9⟩=>?_
       refine thn (mt_append (X:=cxComp X scope cl s₃.heap.objs.size x (x :: caps) s₃ H₃ pins fp (notedBy (model X.prog X.w) X.A (compEnvC scope cl s₃.heap.objs.size X.env) λe s'=>R (.error e) s')) _ s9 _ H9 (.ref s2.heap.objs.size) [vz] (.ref s2.heap.objs.size) [z] (λ_ H10=>H10=upd H9 s2.heap.objs.size (.lst (ys++[vz]))) J9 rfl (.cons rz .nil) ⟨_,ys,vz,rfl,rfl,hD9,hlen,rfl⟩) λ_ s10 ⟨v10,H10,J10,r10,e10⟩=>?_
       subst e10
       obtain ⟨b1,b2⟩:=back J10
       exact ⟨m',hm,i+1,some y,ys++[vz],_,J10.unpinned,b1,b2,w9⟩
 have fin:∀ tk,codeAny (model X.prog X.w) X.A (.compLoop (.ListComp elt [⟨.Name x px,iter,ifs,0⟩] scope pos) 0 (.ref it) (.ref s2.heap.objs.size) (compEnvC scope cl s₃.heap.objs.size X.env)) (compPost (model X.prog X.w) X.A X.xe (some (assign (.Name yT py) X.env)) (λ_ s'=>SP X pins D .next s') (.ref s2.heap.objs.size) s₃.heap.objs.size) { s₃ with heap:=h₁,toks:=tk }:=λtk=>by
   refine loop _ (λf s' ⟨σ',H',i,m,ys,J',w',qn⟩=>?_) tk
   obtain ⟨mm,hmm,_⟩:=J'.loc
   have I5:Inv X pins σ H' s':=Inv.block I3 hf3 J' (Heap.SameBut.refl _ _)
   show wpAny _ _ (assign (.Name yT py) X.env _) _ _ _
   refine wpAny_assign_Name (store_ok2 I5 hN hiN hyL (v:=.ref s2.heap.objs.size) rfl (λs6 I6 ⟨a6,hs6,ha6⟩=>?_) hfN)
   have neL:s₃.heap.objs.size≠X.env.locals:=(Nat.ne_of_lt I3.lt).symm
   have neCl:∀ y c,X.env.cells.lookup y=some c->c≠s₃.heap.objs.size:=λy c z=>by
     obtain ⟨v,q⟩:=I3.cell _ _ z
     exact Nat.ne_of_lt q.lt
   have neC:s₃.heap.objs.size≠a6:=by
     rcases ha6 with z | z
     · rw [z];exact neL
     · exact (neCl _ _ z).symm
   have fr:H' s₃.heap.objs.size=none:=J'.free
   refine ⟨mm,Heap.Ns.sameBut hmm hs6 neC,λh' hs'=>⟨_,H',I6.turned (t':=s6.toks) (it:=s₃.heap.objs.size) (λb o hb e=>(hs'.2 b hb).trans e) fr neL (.inr I3.sz) neCl (λp hp=>Nat.ne_of_lt (Heap.lt_size (I3.pin p hp).1)),qn⟩⟩
 exact codeAny_compStart_list (fin _) (T.self _ _ _ _ _ t3 (fin _))
end
end L2

namespace PySem
open Sem (wp)
def SqI (b:Bool) (h:Heap) (i l:Addr) (k:Nat):Prop:=match b with
 | false=>h.IsListIter i l k
 | true=>h.IsTupleIter i l k
def SqA (b:Bool) (h:Heap) (l:Addr) (xs:Array Value):Prop:=match b with
 | false=>h.IsList l xs
 | true=>h.IsTuple l xs
theorem SqI.at {b:Bool} {h h':Heap} {i l:Addr} {k:Nat} (x:SqI b h i l k) (e:∀ o,h.get? i=some o->h'.get? i=some o):SqI b h' i l k:=by
 cases b<;>(obtain ⟨o,h1,r⟩:=x;exact ⟨o,e o h1,r⟩)
theorem SqA.at {b:Bool} {h h':Heap} {l:Addr} {xs:Array Value} (x:SqA b h l xs) (e:∀ o,h.get? l=some o->h'.get? l=some o):SqA b h' l xs:=by
 cases b<;>(obtain ⟨o,h1,r⟩:=x;exact ⟨o,e o h1,r⟩)
theorem SqI.obj {b:Bool} {h:Heap} {i l:Addr} {k:Nat} (x:SqI b h i l k):∃ o,h.get? i=some o/\∀ v,o.data≠.cell v:=by
 cases b<;>(obtain ⟨o,h1,_,h3⟩:=x;exact ⟨o,h1,λv z=>by rw [h3] at z;cases z⟩)
theorem SqA.lt {b:Bool} {h:Heap} {l:Addr} {xs:Array Value} (x:SqA b h l xs):l < h.objs.size:=by
 cases b<;>(obtain ⟨o,h1,_⟩:=x;exact Heap.lt_size h1)
section
variable {prog:Program} {w:World} {A:Around} {E:Value->Shared->Prop} {s:Shared}
theorem next_sq {b:Bool} {it l:Addr} {i:Nat} {items:Array Value} {x:Value} {Q:Value->Shared->Prop} (hit:SqI b s.heap it l i) (hl:SqA b s.heap l items) (hx:items[i]?=some x)
   (hQ:∀ h',SqI b h' it l (i+1)->Heap.SameBut it s.heap h'->Q x { s with heap:=h' }):wpAny (model prog w) A (Builtin.SmallTypes.nextOf (.ref it)) Q E s:=by
 cases b with
 | false=>exact wpAny_nextOf_list_item hit hl hx hQ
 | true =>
   have hty:s.TypeIs (.ref it) "tuple_iterator":=Heap.IsTupleIter.typeIs hit
   obtain ⟨o,ho,hc,hd⟩:=id hit
   obtain ⟨ol,hol,_,nl,hdl⟩:=hl
   unfold Builtin.SmallTypes.nextOf
   refine wpAny_bind (wpAny_callSpecial?_slot (name:=Str.ofString "__next__") hty F.slot_tuple_iterator_next (wpAny_call_entry F.slot_tuple_iterator_next hty F.entry_tuple_iterator_next ?_ (F.args_tuple_iterator_next_1 _)))
   show wpAny _ _ (field (.ref it) 0 >>= _) _ _ s
   refine wpAny_bind (wpAny_field ho hd (x:=.ref l) rfl ?_)
   show wpAny _ _ (if (Value.ref l == Value.none)=true then _ else _) _ _ s
   rw [if_neg (show ¬ ((Value.ref l == Value.none)=true) from Bool.false_ne_true)]
   show wpAny _ _ (field (.ref it) 1 >>= _) _ _ s
   refine wpAny_bind (wpAny_field ho hd (x:=.int i 0) rfl ?_)
   show wpAny _ _ (seqItems? (.ref l) >>= _) _ _ s
   refine wpAny_bind (wpAny_seqItems hol hdl ?_)
   simp only [Int.toNat_natCast,hx]
   refine wpAny_bind (wpAny_setField ho hd (by simp) (wpAny_pure ⟨x,rfl,wpAny_pure (hQ _ ?_ (Heap.SameBut.update ..))⟩))
   exact ⟨_,Heap.get?_update_self _ ho (Obj.isFreed_of_fields (Obj.data_mapFields hd _)),(Obj.cls_mapFields ..).trans hc,by rw [Obj.data_mapFields hd];simp [rawInt]⟩
theorem next_sq_end {b:Bool} {it l:Addr} {i:Nat} {items:Array Value} {Q:Value->Shared->Prop} (hh:A.handled=none) (hit:SqI b s.heap it l i) (hl:SqA b s.heap l items) (hx:items[i]?=none)
   (hE:∀ h' e,Heap.ExtBut it s.heap h'->(∃ o,h'.get? e=some o/\o.cls=.type "StopIteration")->E (.ref e) { s with heap:=h' }):wpAny (model prog w) A (Builtin.SmallTypes.nextOf (.ref it)) Q E s:=by
 cases b with
 | false=>exact wpAny_nextOf_list_end hh hit hl hx hE
 | true =>
   have hty:s.TypeIs (.ref it) "tuple_iterator":=Heap.IsTupleIter.typeIs hit
   obtain ⟨o,ho,hc,hd⟩:=id hit
   obtain ⟨ol,hol,_,nl,hdl⟩:=hl
   unfold Builtin.SmallTypes.nextOf
   refine wpAny_bind (wpAny_callSpecial?_slot (name:=Str.ofString "__next__") hty F.slot_tuple_iterator_next (wpAny_call_entry F.slot_tuple_iterator_next hty F.entry_tuple_iterator_next ?_ (F.args_tuple_iterator_next_1 _)))
   show wpAny _ _ (field (.ref it) 0 >>= _) _ _ s
   refine wpAny_bind (wpAny_field ho hd (x:=.ref l) rfl ?_)
   show wpAny _ _ (if (Value.ref l == Value.none)=true then _ else _) _ _ s
   rw [if_neg (show ¬ ((Value.ref l == Value.none)=true) from Bool.false_ne_true)]
   show wpAny _ _ (field (.ref it) 1 >>= _) _ _ s
   refine wpAny_bind (wpAny_field ho hd (x:=.int i 0) rfl ?_)
   show wpAny _ _ (seqItems? (.ref l) >>= _) _ _ s
   refine wpAny_bind (wpAny_seqItems hol hdl ?_)
   simp only [Int.toNat_natCast,hx]
   refine wpAny_bind (wpAny_rule (wpAny_bind (wpAny_setField ho hd (by simp) ?_)))
   show wpAny _ _ (newExc (.type "StopIteration") [] >>= _) _ _ _
   refine wpAny_bind ?_
   simp only [newExc,newTuple]
   refine wpAny_bind (wpAny_newObj_type ?_ (by size_fits))
   refine wpAny_bind (m:=firstArgMember _ _) (wpAny_of_eq (a:=Value.none) (by first | rfl | (simp only [firstArgMember];rfl)) ?_)
   refine wpAny_newObj_type ?_ (by size_fits)
   simp only [raiseNew]
   refine wpAny_bind (wpAny_handled ?_)
   first | rw [show A.in1.handled=none from hh] | rw [hh]
   refine wpAny_bind (wpAny_pure (wpAny_throw ?_))
   exact hE _ _ (((Heap.SameBut.update ..).extBut.push _).push _) ⟨_,Heap.get?_push_size _ rfl,rfl⟩
theorem zip_sq_item {b:Bool} {z TI TO i1 i2 l1 l2:Addr} {k1 k2:Nat} {xs ys:Array Value} {x y a c:Value} {Q:Option Value->Shared->Prop} (D:ZipApart z TI TO i1 i2 l1 l2)
   (hz:IsZip s.heap z TI TO .none) (hTI:IsPair s.heap TI (.ref i1) (.ref i2)) (hTO:IsPair s.heap TO a c)
   (h1:SqI b s.heap i1 l1 k1) (h2:SqI b s.heap i2 l2 k2) (hl1:SqA b s.heap l1 xs) (hl2:SqA b s.heap l2 ys) (hx:xs[k1]?=some x) (hy:ys[k2]?=some y)
   (hQ:∀ h',IsZip h' z TI TO (rawInt s.heap.objs.size)->IsPair h' TO x y->SqI b h' i1 l1 (k1+1)->SqI b h' i2 l2 (k2+1)->IsPair h' s.heap.objs.size x y ->
     (∀ c o,c≠z->c≠TO->c≠i1->c≠i2->s.heap.get? c=some o->h'.get? c=some o)->Q (some (.ref s.heap.objs.size)) { s with heap:=h' }):wpAny (model prog w) A (pyNext (.ref z)) Q E s:=by
 have hT:s.TypeIs (.ref z) "zip":=⟨_,hz,rfl⟩
 unfold pyNext
 refine wpAny_bind (wpAny_attempt (wpAny_callSpecial?_slot (name:=Str.ofString "__next__") hT F.slot_zip_next (wpAny_call_entry F.slot_zip_next hT F.entry_zip_next ?_ (F.args_zip_next_1 _))))
 show wpAny _ _ (field (.ref z) 2 >>= _) _ _ _
 refine wpAny_bind (wpAny_field hz rfl (x:=.bool false) rfl ?_)
 show wpAny _ _ (field (.ref z) 3 >>= _) _ _ _
 refine wpAny_bind (wpAny_field hz rfl (x:=.ref TI) rfl (wpAny_bind (wpAny_seqItems hTI rfl ?_)))
 show wpAny _ _ (Builtin.SmallTypes.ownedTupleIsFree (.ref z) >>= _) _ _ _
 refine wpAny_bind ?_
 unfold Builtin.SmallTypes.ownedTupleIsFree
 refine wpAny_bind (wpAny_field hz rfl (x:=.none) rfl (wpAny_pure ?_))
 simp only [if_true]
 refine wpAny_bind (wpAny_rule (wpAny_bind (wpAny_field hz rfl (x:=.ref TO) rfl (wpAny_bind (wpAny_setField_rec hz (by simp) λg1 z1 e1=>?_)))))
 replace z1:IsZip g1 z TI TO .ellipsis:=z1
 refine wpAny_bind ?_
 simp only [List.zipIdx_cons,List.zipIdx_nil,List.forIn_cons,List.forIn_nil]
 refine wpAny_bind (wpAny_bind (wpAny_onRaise ?_))
 show wpAny _ _ (Builtin.SmallTypes.nextOf (.ref i1) >>= _) _ _ _
 refine wpAny_bind (next_sq (h1.at λo e=>e1.extBut _ _ D.i1z e) (hl1.at λo e=>e1.extBut _ _ D.l1z e) hx λg2 h1' e2=>wpAny_pure ?_)
 have t2:IsPair g2 TO a c:=e2.extBut _ _ D.TOi1 (e1.extBut _ _ D.TOz hTO)
 refine wpAny_bind (wpAny_seqItems t2 rfl (wpAny_bind (wpAny_updateSeq_pair t2 λg3 t3 e3=>?_)))
 replace t3:IsPair g3 TO x c:=t3
 refine wpAny_bind (wpAny_letGo (wpAny_pure ?_))
 refine wpAny_bind (wpAny_bind (wpAny_onRaise ?_))
 show wpAny _ _ (Builtin.SmallTypes.nextOf (.ref i2) >>= _) _ _ _
 refine wpAny_bind (next_sq (h2.at λo e=>e3.extBut _ _ D.TOi2.symm (e2.extBut _ _ D.i12.symm (e1.extBut _ _ D.i2z e))) (hl2.at λo e=>e3.extBut _ _ D.l2TO (e2.extBut _ _ D.l2i1 (e1.extBut _ _ D.l2z e))) hy λg4 h2' e4=>wpAny_pure ?_)
 have t4:IsPair g4 TO x c:=e4.extBut _ _ D.TOi2 t3
 refine wpAny_bind (wpAny_seqItems t4 rfl (wpAny_bind (wpAny_updateSeq_pair t4 λg5 t5 e5=>?_)))
 replace t5:IsPair g5 TO x y:=t5
 refine wpAny_bind (wpAny_letGo (wpAny_pure (wpAny_pure ?_)))
 refine wpAny_bind (wpAny_seqItems t5 rfl (wpAny_bind (wpAny_newTuple ?_)))
 have hsz:g5.objs.size=s.heap.objs.size:=by rw [e5.1,e4.1,e3.1,e2.1,e1.1]
 have z5:IsZip g5 z TI TO .ellipsis:=e5.extBut _ _ D.TOz.symm (e4.extBut _ _ D.i2z.symm (e3.extBut _ _ D.TOz.symm (e2.extBut _ _ D.i1z.symm z1)))
 have k5:∀ c o,c≠z->c≠TO->c≠i1->c≠i2->s.heap.get? c=some o->g5.get? c=some o:=λc o c1 c2 c3 c4 e =>
   e5.extBut _ _ c2 (e4.extBut _ _ c4 (e3.extBut _ _ c2 (e2.extBut _ _ c3 (e1.extBut _ _ c1 e))))
 have w1:SqI b g5 i1 l1 (k1+1):=h1'.at λo e=>e5.extBut _ _ D.TOi1.symm (e4.extBut _ _ D.i12 (e3.extBut _ _ D.TOi1.symm e))
 have w2:SqI b g5 i2 l2 (k2+1):=h2'.at λo e=>e5.extBut _ _ D.TOi2.symm e
 have zlt:z < g5.objs.size:=Heap.lt_size z5
 show wpAny _ _ (Builtin.SmallTypes.ownedTupleHandOut (.ref z) (.ref g5.objs.size) >>= _) _ _ _
 refine wpAny_bind ?_
 unfold Builtin.SmallTypes.ownedTupleHandOut
 have z6:IsZip (g5.push { cls:=.type "tuple",data:=.seq #[x,y] }) z TI TO .ellipsis:=Heap.get?_push_of_some _ z5
 refine wpAny_bind (wpAny_setField_rec z6 (by simp) λg7 z7 e7=>?_)
 replace z7:IsZip g7 z TI TO (rawInt g5.objs.size):=z7
 refine wpAny_setField_rec z7 (by simp) λg8 z8 e8=>?_
 replace z8:IsZip g8 z TI TO (rawInt g5.objs.size):=z8
 have up:∀ c o,c≠z->g5.get? c=some o->g8.get? c=some o:=λc o c1 e=>e8.extBut _ _ c1 (e7.extBut _ _ c1 (Heap.get?_push_of_some _ e))
 have t8:IsPair g8 g5.objs.size x y:=e8.extBut _ _ (Nat.ne_of_gt zlt) (e7.extBut _ _ (Nat.ne_of_gt zlt) (Heap.get?_push_size _ rfl))
 rw [hsz] at z8 t8
 refine wpAny_pure ⟨_,rfl,wpAny_pure ?_⟩
 show Q (some (.ref g5.objs.size)) _
 rw [hsz]
 exact hQ g8 z8 (up _ _ D.TOz t5) (w1.at λo e=>up _ o D.i1z e) (w2.at λo e=>up _ o D.i2z e) t8 λc o c1 c2 c3 c4 e=>up c o c1 (k5 c o c1 c2 c3 c4 e)
theorem zip_sq_end {b:Bool} {z TI TO i1 i2 l1 l2:Addr} {k1:Nat} {xs:Array Value} {Q:Option Value->Shared->Prop} (hh:A.handled=none) (D:ZipApart z TI TO i1 i2 l1 l2)
   (hz:IsZip s.heap z TI TO .none) (hTI:IsPair s.heap TI (.ref i1) (.ref i2)) (h1:SqI b s.heap i1 l1 k1) (hl1:SqA b s.heap l1 xs) (hx:xs[k1]?=none)
   (hQ:∀ h',(∀ c o,c≠z->c≠i1->s.heap.get? c=some o->h'.get? c=some o)->Q none { s with heap:=h' }):wpAny (model prog w) A (pyNext (.ref z)) Q E s:=by
 have hT:s.TypeIs (.ref z) "zip":=⟨_,hz,rfl⟩
 unfold pyNext
 refine wpAny_bind (wpAny_attempt (wpAny_callSpecial?_slot (name:=Str.ofString "__next__") hT F.slot_zip_next (wpAny_call_entry F.slot_zip_next hT F.entry_zip_next ?_ (F.args_zip_next_1 _))))
 show wpAny _ _ (field (.ref z) 2 >>= _) _ _ _
 refine wpAny_bind (wpAny_field hz rfl (x:=.bool false) rfl ?_)
 show wpAny _ _ (field (.ref z) 3 >>= _) _ _ _
 refine wpAny_bind (wpAny_field hz rfl (x:=.ref TI) rfl (wpAny_bind (wpAny_seqItems hTI rfl ?_)))
 show wpAny _ _ (Builtin.SmallTypes.ownedTupleIsFree (.ref z) >>= _) _ _ _
 refine wpAny_bind ?_
 unfold Builtin.SmallTypes.ownedTupleIsFree
 refine wpAny_bind (wpAny_field hz rfl (x:=.none) rfl (wpAny_pure ?_))
 simp only [if_true]
 refine wpAny_bind (wpAny_rule (wpAny_bind (wpAny_field hz rfl (x:=.ref TO) rfl (wpAny_bind (wpAny_setField_rec hz (by simp) λg1 z1 e1=>?_)))))
 replace z1:IsZip g1 z TI TO .ellipsis:=z1
 refine wpAny_bind ?_
 simp only [List.zipIdx_cons,List.zipIdx_nil,List.forIn_cons,List.forIn_nil]
 refine wpAny_bind (wpAny_bind (wpAny_onRaise ?_))
 show wpAny _ _ (Builtin.SmallTypes.nextOf (.ref i1) >>= _) _ _ _
 refine wpAny_bind (next_sq_end hh (h1.at λo e=>e1.extBut _ _ D.i1z e) (hl1.at λo e=>e1.extBut _ _ D.l1z e) hx λg2 e e2 he=>?_)
 obtain ⟨oe,hoe,hce⟩:=he
 have z2:IsZip g2 z TI TO .ellipsis:=e2 _ _ D.i1z.symm z1
 have hez:e≠z:=λq=>by subst q;rw [z2] at hoe;cases hoe;simp at hce
 refine wpAny_setField_rec z2 (by simp) λg3 _ e3=>?_
 refine wpAny_bind (wpAny_isInstance (T:="StopIteration") (b:=true) ⟨oe,e3.extBut _ _ hez hoe,hce⟩ isSubtype_stop ?_)
 exact wpAny_pure (hQ g3 λc o c1 c2 q=>e3.extBut _ _ c1 (e2 _ _ c2 (e1.extBut _ _ c1 q)))
abbrev zipT1 (h:Heap) (l1:Addr):Heap:=h.push { cls:=.type "tuple_iterator",data:=.fields #[.ref l1,.int 0 0] }
abbrev zipT2 (h:Heap) (l1 l2:Addr):Heap:=(zipT1 h l1).push { cls:=.type "tuple_iterator",data:=.fields #[.ref l2,.int 0 0] }
abbrev zipT3 (h:Heap) (l1 l2:Addr):Heap:=(zipT2 h l1 l2).push { cls:=.type "tuple",data:=.seq #[.ref h.objs.size,.ref (zipT1 h l1).objs.size] }
abbrev zipT4 (h:Heap) (l1 l2:Addr):Heap:=(zipT3 h l1 l2).push { cls:=.type "tuple",data:=.seq #[.none,.none] }
abbrev zipT5 (h:Heap) (l1 l2:Addr):Heap:=(zipT4 h l1 l2).push { cls:=.type "zip",data:=.fields #[.none,.bool false,.bool false,.ref (zipT2 h l1 l2).objs.size,.ref (zipT3 h l1 l2).objs.size] }
theorem meets_zipT (l1 l2:Addr) (xs ys:Array Value) :
   Meets (Builtin.«zip.__new__» ⟨[.type "zip",.ref l1,.ref l2],[]⟩) (λ_ R s=>s.heap.IsTuple l1 xs/\s.heap.IsTuple l2 ys/\R (.ok (.ret (.ref (zipT4 s.heap l1 l2).objs.size))) { s with heap:=zipT5 s.heap l1 l2 }) :=
 .of_wp λprog w A R s h=>by
   obtain ⟨hp,g,d,tk,os⟩:=s;obtain ⟨hl1,hl2,h⟩:=h
   have hsub:=sub_zip
   have hL1:Heap.IsTuple (Shared.heap ⟨hp,g,d,tk,os⟩) l1 xs:=hl1
   have hL2:Heap.IsTuple (Shared.heap ⟨hp.push { cls:=.type "tuple_iterator",data:=.fields #[.ref l1,.int 0 0] },g,d,tk,os⟩) l2 ys:=Heap.IsTuple.push hl2 _
   wp_walk using wpAny_pyIter_tuple hL1,wpAny_pyIter_tuple hL2
   exact ⟨_,rfl,h⟩
theorem call_zip_sq {b:Bool} {l1 l2:Addr} {xs ys:Array Value} {Q:Value->Shared->Prop} (hl1:SqA b s.heap l1 xs) (hl2:SqA b s.heap l2 ys)
   (h:∀ h',IsZip h' (s.heap.objs.size+4) (s.heap.objs.size+2) (s.heap.objs.size+3) .none->IsPair h' (s.heap.objs.size+2) (.ref s.heap.objs.size) (.ref (s.heap.objs.size+1)) ->
     IsPair h' (s.heap.objs.size+3) .none .none->SqI b h' s.heap.objs.size l1 0->SqI b h' (s.heap.objs.size+1) l2 0->(∀ c o,s.heap.get? c=some o->h'.get? c=some o)->Q (.ref (s.heap.objs.size+4)) { s with heap:=h' }) :
   wpAny (model prog w) A (call (.type "zip") [.ref l1,.ref l2]) Q E s:=by
 cases b with
 | false=>exact call_zip_2 hl1 hl2 λh' a1 a2 a3 a4 a5 _ a7=>h h' a1 a2 a3 a4 a5 a7
 | true =>
   refine callType_new F.called_zip (by decide) (F.typeCall_zip_2 _ _) (F.newCall_zip_2 _ _) (λobj=>F.args_object_init_3 obj _ _) F.entry_zip_new (meets_zipT l1 l2 xs ys) ⟨hl1,hl2,?_⟩
   have z1:(zipT1 s.heap l1).objs.size=s.heap.objs.size+1:=Heap.size_push ..
   have z2:(zipT2 s.heap l1 l2).objs.size=s.heap.objs.size+2:=by rw [Heap.size_push,z1]
   have z3:(zipT3 s.heap l1 l2).objs.size=s.heap.objs.size+3:=by rw [Heap.size_push,z2]
   have z4:(zipT4 s.heap l1 l2).objs.size=s.heap.objs.size+4:=by rw [Heap.size_push,z3]
   have g5:(zipT5 s.heap l1 l2).get? (zipT4 s.heap l1 l2).objs.size=some _:=Heap.get?_push_size _ rfl
   have g4:(zipT5 s.heap l1 l2).get? (zipT3 s.heap l1 l2).objs.size=some _:=Heap.get?_push_of_some _ (Heap.get?_push_size _ rfl)
   have g3:(zipT5 s.heap l1 l2).get? (zipT2 s.heap l1 l2).objs.size=some _:=Heap.get?_push_of_some _ (Heap.get?_push_of_some _ (Heap.get?_push_size _ rfl))
   have g2:(zipT5 s.heap l1 l2).get? (zipT1 s.heap l1).objs.size=some _:=Heap.get?_push_of_some _ (Heap.get?_push_of_some _ (Heap.get?_push_of_some _ (Heap.get?_push_size _ rfl)))
   have g1:(zipT5 s.heap l1 l2).get? s.heap.objs.size=some _:=Heap.get?_push_of_some _ (Heap.get?_push_of_some _ (Heap.get?_push_of_some _ (Heap.get?_push_of_some _ (Heap.get?_push_size _ rfl))))
   show _/\_
   rw [z2,z3,z4] at g5
   rw [z1,z2] at g3
   rw [z3] at g4
   rw [z1] at g2
   rw [z4]
   exact ⟨⟨_,g5,rfl⟩,h _ g5 g3 g4 ⟨_,g1,rfl,rfl⟩ ⟨_,g2,rfl,rfl⟩ λc o x=>Heap.get?_push_of_some _ (Heap.get?_push_of_some _ (Heap.get?_push_of_some _ (Heap.get?_push_of_some _ (Heap.get?_push_of_some _ x))))⟩
end
end PySem
namespace L2
open PySem PySem.Spec PyProof.Rows
def Sq (b:Bool) (K:PySem.W.Frag) (H:Hp) (a:Addr) (xs:List V):Prop:=match b with
 | false=>SqL K H a xs
 | true=>SqT K H a xs
theorem Sq.same {b:Bool} {K:PySem.W.Frag} {H H':Hp} {a:Addr} {xs:List V} (e:Same H H') (h:Sq b K H a xs):Sq b K H' a xs:=by
 cases b
 · exact e.seq h
 · exact e.seqT h
section
variable {X:Cx}
theorem Inv.sq {pins:List (Addr × Obj)} {σ:St} {H:Hp} {s:Shared} {b:Bool} {a:Addr} {xs:List V} (I:Inv X pins σ H s) (h:Sq b X.K H a xs):∃ its:List Value,Vals xs its/\SqA b s.heap a its.toArray:=by
 cases b with
 | false=>obtain ⟨its,r,p,_⟩:=I.list h;exact ⟨its,r,p.isList⟩
 | true=>obtain ⟨its,r,p,_⟩:=I.tuple h;exact ⟨its,r,p⟩
theorem Inv.sq_inj {pins:List (Addr × Obj)} {σ:St} {H:Hp} {s:Shared} {b:Bool} {a:Addr} {xs ys:List V} (I:Inv X pins σ H s) (h:Sq b X.K H a xs) (h':Sq b X.K H a ys):xs=ys:=by
 cases b
 · exact I.list_inj h h'
 · exact I.tuple_inj h h'
theorem Inv.turnedL {pins:List (Addr × Obj)} {σ:St} {H:Hp} {s:Shared} {h':Heap} {t':Nat} {ch:List Addr} (I:Inv X pins σ H s) (hf:∀ b∈ch,FpOk X pins H b) (k:∀ b o,b ∉ ch->s.heap.get? b=some o->h'.get? b=some o):Inv X pins σ H { s with heap:=h',toks:=t' }:=by
 refine I.step (g':=s.gens) (d':=s.drawn) (ch:=ch) (λb hb=>?_) (λb o _ _ n e _=>k b o n e) (λb o _ _ n e _=>⟨o.slots,k b o n e⟩) (λ_ _ _ _ n=>n) (λb o n e=>⟨o,k b o n e⟩) (λ_ _ q=>q) (λ_ _ _ q=>q) (λ_ ps q=>⟨#[],by rw [Array.append_empty];exact q⟩) (λm hm=>?_) (λa o e=>?_) I.bare
 · obtain ⟨_,f1,_,f3,f4,f5⟩:=hf b hb
   exact ⟨f3,f1,f4,f5⟩
 · obtain ⟨o,es,ep,ho,r⟩:=hm
   exact ⟨o,es,ep,k _ o (λz=>(hf _ z).2.1 rfl) ho,r⟩
 · refine (I.hok a o e).stay (λb u hb q=>k b u (λz=>?_) q) (λ_ q=>q) λ_ _ q=>q
   have n:=(hf b z).1
   rcases hb with rfl | hb
   · rw [n] at e;cases e
   · rw [n] at hb;cases hb
theorem Inv.aptSz {pins:List (Addr × Obj)} {σ:St} {H:Hp} {s:Shared} {b:Addr} (I:Inv X pins σ H s) (hb:s.heap.objs.size <= b) (hn:H b=none):Apt X pins H b:=by
 obtain ⟨_,f1,_,_,f4,f5⟩:=I.fpOk hb hn
 refine ⟨?_,hn,f1,f4,f5⟩
 cases q:X.s₀.heap.get? b with
 | none=>rfl
 | some o=>exact absurd (Nat.lt_of_lt_of_le (Heap.lt_size q) (Nat.le_trans I.sz hb)) (Nat.lt_irrefl _)
def Itz (b:Bool) (K:PySem.W.Frag) (a1 a2:Addr):It :=
 ⟨λi H=>∃ xs ys x y,Sq b K H a1 xs/\Sq b K H a2 ys/\xs[i]?=some x/\ys[i]?=some y,
  λi H v H'=>∃ T x y,H T=none/\v=.ref T/\H'=upd H T (.tup [x,y])/\(∀ xs,Sq b K H a1 xs->xs[i]?=some x)/\∀ ys,Sq b K H a2 ys->ys[i]?=some y,
  λi H=>∃ xs,Sq b K H a1 xs/\xs.length <= i⟩
theorem turn_zip {P:Program} {w:World} {K:PySem.W.Frag} {elts:List Expr} {kt:Nat} {pt:Pos} {b:Bool} {z TI TO i1 i2 a1 a2:Addr} (D:ZipApart z TI TO i1 i2 a1 a2) :
   Turn P w K (.Tuple elts kt pt) (Itz b K a1 a2) [z,TI,TO,i1,i2] z (λi h=>IsZip h z TI TO .none/\IsPair h TI (.ref i1) (.ref i2)/\(∃ a c,IsPair h TO a c)/\SqI b h i1 a1 i/\SqI b h i2 a2 i) where
 mem:=List.mem_cons_self
 obj:=λi h st c hc=>by
   obtain ⟨s1,s2,⟨_,_,s3⟩,s4,s5⟩:=st
   simp only [List.mem_cons,List.not_mem_nil,or_false] at hc
   rcases hc with rfl | rfl | rfl | rfl | rfl
   · exact ⟨_,s1,λv q=>by cases q⟩
   · exact ⟨_,s2,λv q=>by cases q⟩
   · exact ⟨_,s3,λv q=>by cases q⟩
   · exact s4.obj
   · exact s5.obj
 keep:=λi h h' st k=>by
   obtain ⟨s1,s2,⟨u,v,s3⟩,s4,s5⟩:=st
   exact ⟨k z (by simp) _ s1,k TI (by simp) _ s2,⟨u,v,k TO (by simp) _ s3⟩,s4.at λo e=>k i1 (by simp) o e,s5.at λo e=>k i2 (by simp) o e⟩
 item:=by
   intro X hP hw hK hc i pins s σ H E I hf st hg
   subst hP hw hK
   obtain ⟨s1,s2,⟨u,v,s3⟩,s4,s5⟩:=st
   obtain ⟨xs,ys,x,y,q1,q2,hx,hy⟩:=hg
   obtain ⟨us,r1,p1⟩:=I.sq q1
   obtain ⟨ws,r2,p2⟩:=I.sq q2
   obtain ⟨ux,hux,rx⟩:=r1.get hx
   obtain ⟨uy,huy,ry⟩:=r2.get hy
   refine zip_sq_item D s1 s2 s3 s4 s5 p1 p2 (x:=ux) (y:=uy) (by simpa using hux) (by simpa using huy) λh' t1 t2 t3 t4 t5 kk=>?_
   have hfresh:H s.heap.objs.size=none:=I.hok.fresh (Nat.le_refl _)
   have lt:∀ {c o},s.heap.get? c=some o->c≠s.heap.objs.size:=λe=>Nat.ne_of_lt (Heap.lt_size e)
   refine ⟨_,rfl,wpAny_letOwnedTupleGo_zip t1 λh'' u1 e2=>?_⟩
   have ch:∀ c o,c ∉ [z,TO,i1,i2]->s.heap.get? c=some o->h''.get? c=some o:=λc o n e=>by
     have n1:c≠z:=λq=>n (by simp [q])
     exact e2.extBut _ _ n1 (kk c o n1 (λq=>n (by simp [q])) (λq=>n (by simp [q])) (λq=>n (by simp [q])) e)
   have sub:∀ c∈[z,TO,i1,i2],c∈[z,TI,TO,i1,i2]:=λc hc=>by
     simp only [List.mem_cons,List.not_mem_nil,or_false] at hc ⊢
     rcases hc with h | h | h | h<;>simp [h]
   have I1:Inv X pins σ H { s with heap:=h'' }:=I.turnedL (t':=s.toks) (λb hb=>hf b (sub b hb)) ch
   have T5:IsPair h'' s.heap.objs.size ux uy:=e2.extBut _ _ (lt s1).symm t5
   have apt:=I.aptSz (Nat.le_refl s.heap.objs.size) hfresh
   have I2:=I1.seen (o:=.tup [x,y]) apt ⟨by show 2 <= sizeLine;decide,[ux,uy],.cons rx (.cons ry .nil),⟨_,T5,rfl,_,rfl⟩⟩
   refine ⟨.ref s.heap.objs.size,_,I2,rfl,⟨_,x,y,hfresh,rfl,rfl,λzs hz=>by rw [I.sq_inj hz q1];exact hx,λzs hz=>by rw [I.sq_inj hz q2];exact hy⟩,⟨u1,e2.extBut _ _ D.TIz (kk _ _ D.TIz D.TITO D.TIi1 D.TIi2 s2),⟨_,_,e2.extBut _ _ D.TOz t2⟩,t3.at λo e=>e2.extBut _ _ D.i1z e,t4.at λo e=>e2.extBut _ _ D.i2z e⟩,λb hb=>?_⟩
   obtain ⟨o,ho,_⟩:∃ o,s.heap.get? b=some o/\True:=by
     simp only [List.mem_cons,List.not_mem_nil,or_false] at hb
     rcases hb with rfl | rfl | rfl | rfl | rfl
     · exact ⟨_,s1,trivial⟩
     · exact ⟨_,s2,trivial⟩
     · exact ⟨_,s3,trivial⟩
     · obtain ⟨o,e,_⟩:=s4.obj;exact ⟨o,e,trivial⟩
     · obtain ⟨o,e,_⟩:=s5.obj;exact ⟨o,e,trivial⟩
   rw [upd_ne (lt ho)]
   exact (hf b hb).1
 done:=by
   intro X hP hw hK hc i pins s σ H E I hf st hg
   subst hP hw hK
   obtain ⟨s1,s2,_,s4,s5⟩:=st
   obtain ⟨xs,q1,hx⟩:=hg
   obtain ⟨us,r1,p1⟩:=I.sq q1
   have hl:=r1.length
   exact zip_sq_end (I.ok.hd hc) D s1 s2 s4 p1 (by simp;omega) λh' kk=>⟨rfl,I.turnedL (t':=s.toks) (ch:=[z,i1]) (λb hb=>hf b (by
     simp only [List.mem_cons,List.not_mem_nil,or_false] at hb ⊢
     rcases hb with q | q<;>simp [q])) λb o n e=>kk b o (λq=>n (by simp [q])) (λq=>n (by simp [q])) e⟩
 self:=λA i s Q E st hQ=>wpAny_pyIter_zip st.1 hQ
def iZip (b:Bool) (K:PySem.W.Frag) (ta:TA):TI:=λσ H R=>ta σ H λvs H1=>∃ a1 a2 xs ys,vs=[.ref a1,.ref a2]/\Sq b K H1 a1 xs/\Sq b K H1 a2 ys/\R (Itz b K a1 a2) H1
def iZips (K:PySem.W.Frag) (ta:TA):TI:=λσ H R=>ta σ H λvs H1=>∃ b a1 a2 xs ys,vs=[.ref a1,.ref a2]/\Sq b K H1 a1 xs/\Sq b K H1 a2 ys/\R (Itz b K a1 a2) H1
theorem boot_zip:bootBuiltins "zip"=some (.type "zip"):=by decide +kernel
theorem apart_new {n l1 l2:Nat} (h1:l1 < n) (h2:l2 < n):ZipApart (n+4) (n+2) (n+3) n (n+1) l1 l2:=by
 constructor<;>(show (_:Nat)≠_;omega)
theorem pi_zip {a c:Expr} {ta:TA} {p pos pt:Pos} {elts:List Expr} {kt:Nat} (hg:Gl X "zip") (hm:X.mg "zip"=none) (ha:PA X [a,c] ta) (hs:starEach [a,c] X.env=[(false,eval a X.env),(false,eval c X.env)]:=by rfl) (hs2:starEach [c] X.env=[(false,eval c X.env)]:=by rfl) :
   PI X (.Tuple elts kt pt) (.Call (.Name "zip" p) [a,c] [] pos) (iZips X.K ta):=by
 intro pins s σ H R I h
 refine Call_ (ld_blt I hg hm boot_zip (PyProof.Rows.callWith_type1 (thn (ha pos pins s σ H _ I h) λus s1 ⟨vs,H1,I1,r1,q1⟩=>?_) (by rw [hs,hs2]) (by rw [hs2];rfl)))
 obtain ⟨b,a1,a2,xs,ys,e,h1,h2,q⟩:=q1
 subst e
 obtain ⟨u,w',rfl,ru,rw⟩:=vals2 r1
 cases ru
 cases rw
 obtain ⟨us,_,p1⟩:=I1.sq h1
 obtain ⟨ws,_,p2⟩:=I1.sq h2
 refine call_zip_sq p1 p2 λh' z1 z2 z3 z4 z5 kk=>wpAny_pyIter_zip z1 ?_
 have fr:∀ b,s1.heap.objs.size <= b->FpOk X pins H1 b:=λb hb=>I1.fpOk hb (I1.hok.fresh hb)
 refine ⟨_,[s1.heap.objs.size+4,s1.heap.objs.size+2,s1.heap.objs.size+3,s1.heap.objs.size,s1.heap.objs.size+1],_,_,H1,rfl,I1.kept (t':=s1.toks) kk,turn_zip (apart_new p1.lt p2.lt),⟨z1,z2,⟨_,_,z3⟩,z4,z5⟩,λb hb=>fr b ?_,q⟩
 simp only [List.mem_cons,List.not_mem_nil,or_false] at hb
 rcases hb with rfl | rfl | rfl | rfl | rfl<;>omega
end
end L2

namespace L2
open PySem PySem.Spec PyProof.Rows
section
variable {X:Cx}
def tRevS (K:PySem.W.Frag) (te tk:TE):TE:=λσ H Q=>te σ H λx H1=>tk σ H1 λy H2=>y=.int (-1)/\∃ a xs,x=.ref a/\SqL K H2 a xs/\∀ p,H2 p=none->Q (.ref p) (upd H2 p (.lst xs.reverse))
theorem Vals.rev:∀ {xs:List V} {us:List Value},Vals xs us->Vals xs.reverse us.reverse
 | _,_,.nil=>.nil
 | x :: xs,u :: us,.cons r t=>by
   rw [List.reverse_cons,List.reverse_cons]
   exact (Vals.rev t).append (.cons r .nil)
def rRemove:V->List V->Hp->VK->Prop:=λx vs H Q=>∃ (l:Addr) (ns:List Int) (i:Int),x=.ref l/\vs=[.int i]/\H l=some (.lst (ns.map V.int))/\i∈ns/\Q .non (upd H l (.lst ((ns.erase i).map V.int)))
theorem Vals.erase:∀ {xs:List V} {us:List Value} (j:Nat),Vals xs us->Vals (xs.eraseIdx j) (us.eraseIdx j)
 | _,_,_,.nil=>.nil
 | _,_,0,.cons _ t=>t
 | _,_,j+1,.cons r t=>.cons r (Vals.erase j t)
theorem vals_of:∀ {us:List Value} {ns:List Int},IntsAre us ns->Vals (ns.map V.int) us
 | _,_,.nil=>.nil
 | _,_,.cons n t r=>.cons ⟨t,rfl⟩ (vals_of r)
theorem bt_sorted:bootBuiltins "sorted"=some (.builtin "sorted"):=by decide +kernel
end
end L2

namespace L2
open PySem PySem.Spec PyProof.Rows
section
variable {X:Cx}
theorem items_ints {P:Program} {w:World}:∀ {vs:List (Key × Value)} {ns:List Int} {us:List Value},vs.map (·.1)=ns.map Sum.inl->us.length=vs.length ->
   (∀ (j:Nat) (u:Value),us[j]?=some u->∃ k x,vs[j]?=some (k,x)/\(mixKind P w).is k u=true)->IntsAre us ns
 | [],[],[],_,_,_=>.nil
 | [],[],_ :: _,_,h,_=>by cases h
 | [],_ :: _,_,h,_,_=>by cases h
 | _ :: _,[],_,h,_,_=>by cases h
 | _ :: _,_ :: _,[],_,h,_=>by cases h
 | (k,x) :: vs,n :: ns,u :: us,e,h,g=>by
   have e1:k=Sum.inl n:=by simpa using (List.cons.inj e).1
   subst e1
   have r:=items_ints (P:=P) (w:=w) (us:=us) (List.cons.inj e).2 (by simpa using h) λj u' hu=>by
     obtain ⟨k',x',q,q2⟩:=g (j+1) u' (by simpa using hu)
     exact ⟨k',x',by simpa using q,q2⟩
   obtain ⟨k',x',q,q2⟩:=g 0 u rfl
   cases q
   rcases keyIs_shape (show keyIs (Sum.inl n) u=true from q2) with ⟨i,t,e1,e2⟩ | ⟨y,t,e1,e2⟩
   · cases e1
     subst e2
     exact .cons _ t r
   · cases e1
theorem call_sortedD (hc:X.calm=true):CallR X (.builtin "sorted") (λxs H Q=>∃ (p:Addr) (kvs:List (Key × V)) (ns:List Int),xs=[.ref p]/\H p=some (.dK kvs)/\kvs.map (·.1)=ns.map Sum.inl/\ns.length < 64 /\
   ∀ (l:Addr) (ns':List Int),H l=none->ns'.Perm ns->ns'.Pairwise (· <= ·)->Q (.ref l) (upd H l (.lst (ns'.map V.int)))):=by
 intro pins s σ H xs us Q I r h
 obtain ⟨p,kvs,ns,rfl,hH,hk,h64,q⟩:=h
 obtain ⟨u,rfl,rx⟩:=vals1 r
 cases rx
 obtain ⟨z,hd,vs,rel,dd⟩:=dk_of I.hok hH
 have hl:=rel.length
 have hkv:vs.map (·.1)=ns.map Sum.inl:=by rw [← hk];exact rel.keys.symm
 have hln:ns.length=vs.length:=by
   have:=congrArg List.length hkv
   simpa using this.symm
 obtain ⟨ep,hat⟩:=dd.dictAt
 refine Calls.call_function_entry kind_sorted plain_sorted entry_sorted (args_sorted1 _) ?_
 unfold Builtin.«sorted»
 refine wpAny_bind (m:=checkCount "sorted" 1 1 _) (wpAny_pure ?_)
 refine wpAny_bind (PySem.W.kdu_collect (A:=X.A.in1) (PySem.W.kdl_dict (knd:=mixKind X.prog X.w) (kvs:=vs) (ep:=ep) hd) (I.ok.hd hc) hat (by omega) λh' tk acc hkp hacc=>?_)
 have I1:Inv X pins σ H { s with heap:=h',toks:=tk }:=I.kept (t':=tk) hkp
 have hal:acc.toList.length=vs.length:=by rw [Array.length_toList];exact hacc.1
 have hI:IntsAre acc.toList ns:=items_ints (P:=X.prog) (w:=X.w) hkv hal λj u hu=>by
   obtain ⟨k,x,e,g⟩:=hacc.2 j u (by rw [← Array.getElem?_toList];exact hu)
   exact ⟨k,x,e,g⟩
 refine wpAny_bind (wpAny_newList ?_ (by rw [hal];omega))
 have hoL:(h'.push (seqObj "list" acc.toList.toArray 0)).get? h'.objs.size=some (seqObj "list" acc.toList.toArray 0):=Heap.get?_push_size _ rfl
 show wpAny _ _ _ _ _ { s with heap:=h'.push (seqObj "list" acc.toList.toArray 0),toks:=tk }
 refine wpAny_bind (wpAny_holding (wpAny_call_entry slot_list_sort ⟨_,hoL,rfl⟩ entry_list_sort (list_sort_tree hoL hI (by omega) λout ns' a1 a2 a3=>⟨_,rfl,?_⟩) (args_list_sort _)))
 obtain ⟨e,he⟩:=sortedHeap_at (out:=out) hoL
 refine wpAny_pure ⟨_,rfl,.ref h'.objs.size,_,I1.laid (t':=tk) (o:=.lst (ns'.map V.int)) (λb o' q=>?_) (Nat.le_refl _) ?_,rfl,q _ _ (I1.hok.fresh (Nat.le_refl _)) a2 a3⟩
 · rw [sortedHeap_old (Nat.ne_of_lt (Heap.lt_size q)) (by rw [size_push'];exact Nat.lt_succ_of_lt (Heap.lt_size q))]
   exact Heap.get?_push_of_some _ q
 · exact ⟨by rw [List.length_map,a2.length_eq];omega,out.toList,e,vals_of a1,he⟩
end
end L2

namespace L2
open PySem PySem.Spec PyProof.Rows
theorem pyHash_none {prog:Program} {w:World} {A:Around} {E:Value->Shared->Prop} {s:Shared} {Q:Int->Shared->Prop} (h:Q 4238894112 { s with toks:=s.toks+1 }):wpAny (model prog w) A (pyHash .none) Q E s:=by
 have hT:s.TypeIs Value.none "NoneType":=rfl
 unfold pyHash
 have hv:[Value.none].any Value.onHeap=false:=rfl
 refine wpAny_bind ?_
 rw [cRoomFor,if_neg (by rw [hv];exact Bool.false_ne_true)];refine wpAny_pure ?_
 refine wpAny_bind (wpAny_specialOf hT PySem.F.slot_NoneType_hash.lookup ?_)
 show wpAny _ _ (if (some (Value.builtin "NoneType.__hash__") == some Value.none)=true then _ else _) Q E s
 rw [if_neg (by rw [beq_builtin_none];exact Bool.false_ne_true)]
 refine wpAny_bind (wpAny_specialOf hT PySem.F.slot_NoneType_hash.lookup ?_)
 show wpAny _ _ (callSpecialIfBoundUnlessNone? Value.none "__hash__" _ >>= _) Q E s
 refine wpAny_bind (wpAny_callSpecialIfBoundUnlessNone?_slot hT PySem.F.slot_NoneType_hash
   (wpAny_call_entry PySem.F.slot_NoneType_hash hT PySem.F.entry_NoneType_hash
     (show wpAny _ _ (do ret (← mkInt 4238894112)) _ _ s from wpAny_ret_mkInt ?_) (PySem.F.args_NoneType_hash_1 _)))
 show wpAny _ _ (if (decide (-(2:Int) ^ 63 <= 4238894112) && decide ((4238894112:Int) < 2 ^ 63))=true then _ else _) Q E _
 rw [if_pos (by decide)]
 exact wpAny_pure h
def optIs:Option Key->Value->Bool
 | none,.none=>true
 | none,_=>false
 | some k,v=>keyIs k v
theorem optIs_none {v:Value} (h:optIs none v=true):v=.none:=by
 cases v<;>first | rfl | cases h
def optKind (prog:Program) (w:World):PySem.KeyKind prog w (Option Key) where
 is:=optIs
 hash:=λk=>match k with
   | none=>4238894112
   | some k=>keyH w k
 inj:=λv a b ha hb=>by
   cases a with
   | none =>
     cases optIs_none ha
     cases b with
     | none=>rfl
     | some k=>rcases keyIs_shape (show keyIs k Value.none=true from hb) with ⟨i,t,_,e⟩ | ⟨x,t,_,e⟩<;>cases e
   | some k =>
     cases b with
     | none =>
       cases optIs_none hb
       rcases keyIs_shape (show keyIs k Value.none=true from ha) with ⟨i,t,_,e⟩ | ⟨x,t,_,e⟩<;>cases e
     | some k'=>rw [(mixKind prog w).inj v k k' ha hb]
 byValue:=λk v h=>by
   cases k with
   | none=>cases optIs_none h;rfl
   | some k=>exact (mixKind prog w).byValue k v h
 pyHash:=λ{A E s k v Q} hv h=>by
   cases k with
   | none=>cases optIs_none hv;exact pyHash_none h
   | some k=>exact (mixKind prog w).pyHash (k:=k) hv h
 eqBool:=λ{A E s a b u v Q} hu hv h=>by
   cases a with
   | none =>
     cases optIs_none hu
     cases b with
     | none=>cases optIs_none hv;exact SeqAt.EqAt.same Value.none _ _ _ _ h
     | some k =>
       rcases keyIs_shape (show keyIs k v=true from hv) with ⟨i,t,rfl,rfl⟩ | ⟨x,t,rfl,rfl⟩
       · exact SeqAt.EqAt.none_int i t _ _ _ _ h
       · exact SeqAt.EqAt.none_str x t _ _ _ _ h
   | some k =>
     cases b with
     | none =>
       cases optIs_none hv
       rcases keyIs_shape (show keyIs k u=true from hu) with ⟨i,t,rfl,rfl⟩ | ⟨x,t,rfl,rfl⟩
       · exact SeqAt.EqAt.int_none i t _ _ _ _ h
       · exact SeqAt.EqAt.str_none x t _ _ _ _ h
     | some k' =>
       refine (mixKind prog w).eqBool (a:=k) (b:=k') hu hv ?_
       have e:decide (some k=some k')=decide (k=k'):=by
         rw [decide_eq_decide];exact ⟨λz=>Option.some.inj z,λz=>by rw [z]⟩
       rw [← e];exact h
 «strs»:=λk x t v h=>by
   cases k with
   | none=>cases h
   | some k=>exact (mixKind prog w).strs k x t v h
def tDPop2N (td ty tx:TE):TE:=λσ H Q=>td σ H λx H1=>∃ a,x=.ref a/\IsD H1 a/\ty σ H1 λy H2=>tx σ H2 λz H3=>∃ kvs,H3 a=some (.dK kvs) /\
 ((∃ k,y=kV k/\(∀ v,valV kvs k=some v->Q v (upd H3 a (.dK (dropK kvs k))))/\(valV kvs k=none->Q z H3))\/(y=.non/\Q z H3))
end L2

namespace L2
open PySem PySem.Spec PyProof.Rows
theorem own_of {x hd rl:Addr} {l:Bool->Addr} {c:Addr} (hc:c=x\/c=hd\/c=rl\/∃ b,c=l b):Sto.own x hd rl l c:=by
 rcases hc with h | h | h | ⟨b',h⟩
 · exact .inl h
 · exact .inr (.inl h)
 · exact .inr (.inr (.inl h))
 · cases b'
   · exact .inr (.inr (.inr (.inl h)))
   · exact .inr (.inr (.inr (.inr h)))
theorem own_l {x hd rl:Addr} {l:Bool->Addr} (b:Bool):Sto.own x hd rl l (l b):=own_of (.inr (.inr (.inr ⟨b,rfl⟩)))
theorem Sto.kp {w:World} {C:Addr} {H H':Hp} {x hd rl:Addr} {l:Bool->Addr} {M:List (PyData × V)} {r:Bool->List (PyData × V)} {xs:List Addr} (S:Sto w C H x hd rl l M r) (k:Kp xs H H') (h:∀ c∈xs,¬ Sto.own x hd rl l c) (ht:∀ c∈xs,∀ vs,H c≠some (.tup vs)):Sto w C H' x hd rl l M r :=
 S.keep (λc o hc e=>k c o (λz=>h c z (own_of hc)) e) λc vs e=>k c _ (λz=>ht c z vs e) e
theorem Kp.one {H:Hp} {c:Addr} {o:HO}:Kp [c] H (upd H c o):=λb u n e=>by rw [upd_ne λz=>n (List.mem_singleton.mpr z)];exact e
theorem fld {K:PySem.W.Frag} {H:Hp} {a C dx:Addr} {fs:List (Str × V)} {v:V} {f:Str} {Q:V->Prop} (hx:H a=some (.ins C dx fs)) (c:Cls K C) (na:NoAttr K C f) (l:fs.lookup f=some v) (q:Q v) :
   ∃ a' C' dx' fs' v',V.ref a=.ref a'/\H a'=some (.ins C' dx' fs')/\Cls K C'/\NoAttr K C' f/\fs'.lookup f=some v'/\Q v':=⟨a,C,dx,fs,v,rfl,hx,c,na,l,q⟩
structure RP where
 s:Int
 R:Int
 e:Bool
structure RP.Ok (p:RP):Prop where
 s0:0 < p.s
 s8:p.s <= 8
 sR:0 < p.s * p.R
structure SA where
 x:Addr
 hd:Addr
 rl:Addr
 l:Bool->Addr
abbrev SA.At (w:World) (C:Addr) (H:Hp) (z:SA) (M:List (PyData × V)) (r:Bool->List (PyData × V)):Prop:=Sto w C H z.x z.hd z.rl z.l M r
def SA.own (z:SA) (c:Addr):Prop:=Sto.own z.x z.hd z.rl z.l c
def rF (st:Addr) (b:Bool) (w0 w1 w2:Str) (p:RP):List (Str × V) :=
 putF "counter_first" (.bl p.e) (putF "rounds" (.int p.R) (putF "size" (.int p.s) (putF "fetched" (.str w2) (putF "laid" (.str w1) (putF "word" (.str w0) (putF "side" (.int (sdI b)) (putF "shelf" (.ref st) [])))))))
section
variable {st:Addr} {b:Bool} {w0 w1 w2:Str} {p:RP}
theorem rF_shelf:(rF st b w0 w1 w2 p).lookup ("shelf":Str)=some (.ref st):=by unfold rF;repeat (first | rw [lookup_putF,if_pos rfl] | rw [lookup_putF,if_neg (by decide +kernel)]);try rfl
theorem rF_side:(rF st b w0 w1 w2 p).lookup ("side":Str)=some (.int (sdI b)):=by unfold rF;repeat (first | rw [lookup_putF,if_pos rfl] | rw [lookup_putF,if_neg (by decide +kernel)]);try rfl
theorem rF_laid:(rF st b w0 w1 w2 p).lookup ("laid":Str)=some (.str w1):=by unfold rF;repeat (first | rw [lookup_putF,if_pos rfl] | rw [lookup_putF,if_neg (by decide +kernel)]);try rfl
theorem rF_fetched:(rF st b w0 w1 w2 p).lookup ("fetched":Str)=some (.str w2):=by unfold rF;repeat (first | rw [lookup_putF,if_pos rfl] | rw [lookup_putF,if_neg (by decide +kernel)]);try rfl
theorem rF_size:(rF st b w0 w1 w2 p).lookup ("size":Str)=some (.int p.s):=by unfold rF;repeat (first | rw [lookup_putF,if_pos rfl] | rw [lookup_putF,if_neg (by decide +kernel)]);try rfl
theorem rF_rounds:(rF st b w0 w1 w2 p).lookup ("rounds":Str)=some (.int p.R):=by unfold rF;repeat (first | rw [lookup_putF,if_pos rfl] | rw [lookup_putF,if_neg (by decide +kernel)]);try rfl
theorem rF_filled:(rF st b w0 w1 w2 p).lookup ("filled":Str)=none:=by unfold rF;repeat (first | rw [lookup_putF,if_pos rfl] | rw [lookup_putF,if_neg (by decide +kernel)]);try rfl
theorem rF_full:(rF st b w0 w1 w2 p).lookup ("is_full":Str)=none:=by unfold rF;repeat (first | rw [lookup_putF,if_pos rfl] | rw [lookup_putF,if_neg (by decide +kernel)]);try rfl
end
def Rn (CR:Addr) (H:Hp) (q st:Addr) (b:Bool) (w0 w1 w2:Str) (p:RP):Prop:=∃ dx,H q=some (.ins CR dx (rF st b w0 w1 w2 p))
def gK (ns:List Int):List (Key × V):=ns.map λi=>(.inl i,.bl true)
theorem gK_val (i:Int):∀ ns:List Int,valV (gK ns) (.inl i)=if ns.contains i then some (.bl true) else none
 | []=>rfl
 | n :: ns=>by
   by_cases h:n=i
   · subst h
     show valV ((Sum.inl n,V.bl true) :: gK ns) _=_
     rw [valV_pos rfl,List.contains_cons];simp
   · show valV ((Sum.inl n,V.bl true) :: gK ns) _=_
     rw [valV_neg (λz=>h (Sum.inl.inj z)),gK_val i ns,List.contains_cons]
     have:(i == n)=false:=by simpa using λz=>h z.symm
     rw [this];rfl
def gNext (ns:List Int) (i:Int):List Int:=if ns.contains i then ns else ns++[i]
structure HA where
 h:Addr
 ra:Addr
 rb:Addr
 gd:Addr
def hF (z:HA) (n:Int):List (Str × V):=putF "going" (.ref z.gd) (putF "names" (.int n) (putF "answers" (.ref z.rb) (putF "asks" (.ref z.ra) [])))
section
variable {z:HA} {n:Int}
theorem hF_asks:(hF z n).lookup ("asks":Str)=some (.ref z.ra):=by unfold hF;repeat (first | rw [lookup_putF,if_pos rfl] | rw [lookup_putF,if_neg (by decide +kernel)]);try rfl
theorem hF_names:(hF z n).lookup ("names":Str)=some (.int n):=by unfold hF;repeat (first | rw [lookup_putF,if_pos rfl] | rw [lookup_putF,if_neg (by decide +kernel)]);try rfl
theorem hF_going:(hF z n).lookup ("going":Str)=some (.ref z.gd):=by unfold hF;repeat (first | rw [lookup_putF,if_pos rfl] | rw [lookup_putF,if_neg (by decide +kernel)]);try rfl
theorem hF_least:(hF z n).lookup ("least_free":Str)=none:=by unfold hF;repeat (first | rw [lookup_putF,if_pos rfl] | rw [lookup_putF,if_neg (by decide +kernel)]);try rfl
theorem hF_check:(hF z n).lookup ("check_ask":Str)=none:=by unfold hF;repeat (first | rw [lookup_putF,if_pos rfl] | rw [lookup_putF,if_neg (by decide +kernel)]);try rfl
theorem hF_under:(hF z n).lookup ("under_way":Str)=none:=by unfold hF;repeat (first | rw [lookup_putF,if_pos rfl] | rw [lookup_putF,if_neg (by decide +kernel)]);try rfl
end
structure Hn (CH CR:Addr) (H:Hp) (z:HA) (st:Addr) (p:RP) (n:Int) (aw:List Int):Prop where
 ob:∃ dx,H z.h=some (.ins CH dx (hF z n))
 ra:Rn CR H z.ra st false "ask" "asked" "taken" p
 rb:Rn CR H z.rb st false "answer" "answered" "handed" p
 go:H z.gd=some (.dK (gK aw))
def HA.own (z:HA) (c:Addr):Prop:=c=z.h\/c=z.ra\/c=z.rb\/c=z.gd
structure TA' where
 h:Addr
 ra:Addr
 rb:Addr
 gd:Addr
def tF (z:TA'):List (Str × V):=putF "doing" (.ref z.gd) (putF "answers" (.ref z.rb) (putF "asks" (.ref z.ra) []))
section
variable {z:TA'}
theorem tF_answers:(tF z).lookup ("answers":Str)=some (.ref z.rb):=by unfold tF;repeat (first | rw [lookup_putF,if_pos rfl] | rw [lookup_putF,if_neg (by decide +kernel)]);try rfl
theorem tF_doing:(tF z).lookup ("doing":Str)=some (.ref z.gd):=by unfold tF;repeat (first | rw [lookup_putF,if_pos rfl] | rw [lookup_putF,if_neg (by decide +kernel)]);try rfl
theorem tF_check:(tF z).lookup ("check_answer":Str)=none:=by unfold tF;repeat (first | rw [lookup_putF,if_pos rfl] | rw [lookup_putF,if_neg (by decide +kernel)]);try rfl
theorem tF_tasks:(tF z).lookup ("tasks":Str)=none:=by unfold tF;repeat (first | rw [lookup_putF,if_pos rfl] | rw [lookup_putF,if_neg (by decide +kernel)]);try rfl
end
structure Tn (CT CR:Addr) (H:Hp) (z:TA') (st:Addr) (p:RP) (ts:List Int):Prop where
 ob:∃ dx,H z.h=some (.ins CT dx (tF z))
 ra:Rn CR H z.ra st true "ask" "asked" "taken" p
 rb:Rn CR H z.rb st true "answer" "answered" "handed" p
 go:H z.gd=some (.dK (gK ts))
def TA'.own (z:TA') (c:Addr):Prop:=c=z.h\/c=z.ra\/c=z.rb\/c=z.gd
section
variable {CH CT CR:Addr} {H H':Hp} {st:Addr} {p:RP} {n:Int} {aw:List Int}
theorem Rn.keep {q:Addr} {b:Bool} {w0 w1 w2:Str} (r:Rn CR H q st b w0 w1 w2 p) (k:∀ o,H q=some o->H' q=some o):Rn CR H' q st b w0 w1 w2 p:=by
 obtain ⟨dx,hx⟩:=r
 exact ⟨dx,k _ hx⟩
theorem Hn.keep {z:HA} (B:Hn CH CR H z st p n aw) (k:∀ c o,z.own c->H c=some o->H' c=some o):Hn CH CR H' z st p n aw:=by
 obtain ⟨dx,hx⟩:=B.ob
 exact ⟨⟨dx,k _ _ (.inl rfl) hx⟩,B.ra.keep λo=>k _ o (.inr (.inl rfl)),B.rb.keep λo=>k _ o (.inr (.inr (.inl rfl))),k _ _ (.inr (.inr (.inr rfl))) B.go⟩
theorem Hn.same {z:HA} (B:Hn CH CR H z st p n aw) (q:Same H H'):Hn CH CR H' z st p n aw:=B.keep λc o _=>q c o
theorem Hn.there {z:HA} (B:Hn CH CR H z st p n aw) {c:Addr} (hc:z.own c):∃ o,H c=some o/\((∃ C dx fs,o=.ins C dx fs)\/∃ kvs,o=.dK kvs):=by
 rcases hc with rfl | rfl | rfl | rfl
 · obtain ⟨dx,hx⟩:=B.ob;exact ⟨_,hx,.inl ⟨_,_,_,rfl⟩⟩
 · obtain ⟨dx,hx⟩:=B.ra;exact ⟨_,hx,.inl ⟨_,_,_,rfl⟩⟩
 · obtain ⟨dx,hx⟩:=B.rb;exact ⟨_,hx,.inl ⟨_,_,_,rfl⟩⟩
 · exact ⟨_,B.go,.inr ⟨_,rfl⟩⟩
theorem Hn.lists {z:HA} {xs:List Addr} (B:Hn CH CR H z st p n aw) (k:Kp xs H H') (hx:∀ c∈xs,(∃ ys,H c=some (.lst ys))\/∃ ee:List DictEntry × Nat,H c=some (DObj c ee.1 ee.2)):Hn CH CR H' z st p n aw :=
 B.keep λc o hc q=>k c o (λm=>by
   obtain ⟨o',e,s⟩:=B.there hc
   rcases hx c m with ⟨ys,e'⟩ | ⟨ee,e'⟩
   · rw [e] at e';cases e'
     rcases s with ⟨_,_,_,s⟩ | ⟨_,s⟩<;>cases s
   · rw [e] at e';cases e'
     rcases s with ⟨_,_,_,s⟩ | ⟨_,s⟩<;>cases s) q
theorem Tn.keep {z:TA'} (B:Tn CT CR H z st p aw) (k:∀ c o,z.own c->H c=some o->H' c=some o):Tn CT CR H' z st p aw:=by
 obtain ⟨dx,hx⟩:=B.ob
 exact ⟨⟨dx,k _ _ (.inl rfl) hx⟩,B.ra.keep λo=>k _ o (.inr (.inl rfl)),B.rb.keep λo=>k _ o (.inr (.inr (.inl rfl))),k _ _ (.inr (.inr (.inr rfl))) B.go⟩
theorem Tn.same {z:TA'} (B:Tn CT CR H z st p aw) (q:Same H H'):Tn CT CR H' z st p aw:=B.keep λc o _=>q c o
theorem Tn.there {z:TA'} (B:Tn CT CR H z st p aw) {c:Addr} (hc:z.own c):∃ o,H c=some o/\((∃ C dx fs,o=.ins C dx fs)\/∃ kvs,o=.dK kvs):=by
 rcases hc with rfl | rfl | rfl | rfl
 · obtain ⟨dx,hx⟩:=B.ob;exact ⟨_,hx,.inl ⟨_,_,_,rfl⟩⟩
 · obtain ⟨dx,hx⟩:=B.ra;exact ⟨_,hx,.inl ⟨_,_,_,rfl⟩⟩
 · obtain ⟨dx,hx⟩:=B.rb;exact ⟨_,hx,.inl ⟨_,_,_,rfl⟩⟩
 · exact ⟨_,B.go,.inr ⟨_,rfl⟩⟩
theorem Tn.lists {z:TA'} {xs:List Addr} (B:Tn CT CR H z st p aw) (k:Kp xs H H') (hx:∀ c∈xs,(∃ ys,H c=some (.lst ys))\/∃ ee:List DictEntry × Nat,H c=some (DObj c ee.1 ee.2)):Tn CT CR H' z st p aw :=
 B.keep λc o hc q=>k c o (λm=>by
   obtain ⟨o',e,s⟩:=B.there hc
   rcases hx c m with ⟨ys,e'⟩ | ⟨ee,e'⟩
   · rw [e] at e';cases e'
     rcases s with ⟨_,_,_,s⟩ | ⟨_,s⟩<;>cases s
   · rw [e] at e';cases e'
     rcases s with ⟨_,_,_,s⟩ | ⟨_,s⟩<;>cases s) q
end
def least (n:Nat) (aw:List Int):Option Int:=(List.range n).map (λ(k:Nat)=>(k:Int)) |>.find? λk=>!aw.contains k
theorem least_some {n i:Nat} {aw:List Int} (hi:i < n) (h:aw.contains (i:Int)=false) (hno:∀ j < i,aw.contains (j:Int)=true):least n aw=some (i:Int):=by
 unfold least
 rw [List.find?_eq_some_iff_getElem]
 refine ⟨by rw [h];rfl,i,by simpa using hi,by simp,λj hj=>?_⟩
 simp only [List.getElem_map,List.getElem_range]
 rw [hno j hj];rfl
theorem least_none {n:Nat} {aw:List Int} (hno:∀ j < n,aw.contains (j:Int)=true):least n aw=none:=by
 unfold least
 rw [List.find?_eq_none]
 intro x hx
 obtain ⟨j,hj,rfl⟩:=List.mem_map.mp hx
 rw [hno j (List.mem_range.mp hj)];decide
theorem least_free {n:Nat} {aw:List Int} {k:Int} (h:least n aw=some k):aw.contains k=false:=by
 unfold least at h
 have:=List.find?_some h
 simpa using this
theorem inV_str (i:Str):∀ ns:List Str,inV (.str i) (ns.map V.str)=ns.contains i
 | []=>rfl
 | n :: ns=>by
   have ih:=inV_str i ns
   unfold inV at ih ⊢
   rw [List.map_cons,List.any_cons,ih,List.contains_cons]
   congr 1
   show eqV (.str n) (.str i)=(i == n)
   simp only [eqV]
   rw [Bool.eq_iff_iff,beq_iff_eq,beq_iff_eq]
   exact eq_comm
theorem strs_flat:∀ ns:List Str,(ns.map V.str).all flatV=true
 | []=>rfl
 | n :: ns=>by rw [List.map_cons,List.all_cons,strs_flat ns];rfl
theorem kS {H:Hp} {t:Str} (h:PyData.strOk t=true):KeyV H (.str t) (.str t):=⟨h,by show 0 <= 8;decide,rfl,.inl ⟨_,rfl⟩⟩
theorem up1 {H:Hp} {a b:Addr} {o:HO} (h:upd H a o b=none):b≠a/\H b=none:=by
 have n:b≠a:=λz=>by rw [z,upd_same] at h;cases h
 exact ⟨n,by rw [upd_ne n] at h;exact h⟩
theorem none_back {H H':Hp} {c:Addr} (e:Same H H') (h:H' c=none):H c=none:=by
 cases z:H c with
 | none=>rfl
 | some o=>rw [e c o z] at h;cases h
theorem none_kp {H H':Hp} {xs:List Addr} {c:Addr} (e:Kp xs H H') (h:H' c=none) (n:∀ x∈xs,H' x≠none):H c=none:=by
 cases z:H c with
 | none=>rfl
 | some o=>rw [e c o (λm=>n c m h) z] at h;cases h
def layRow (p:RP) (w0 w1:Str) (A:Int) (t:V):List (PyData × V) :=
 if p.e then [(.str w1,.int ((A+1) % (p.s * p.R))),(.tuple [.str w0,.int (A % p.s)],t)] else [(.tuple [.str w0,.int (A % p.s)],t),(.str w1,.int ((A+1) % (p.s * p.R)))]
theorem fldE {K:PySem.W.Frag} {H:Hp} {a C:Addr} {fs:List (Str × V)} {v:V} {f:Str} {Q:V->Prop} (hx:∃ dx,H a=some (.ins C dx fs)) (c:Cls K C) (na:NoAttr K C f) (l:fs.lookup f=some v) (q:Q v) :
   ∃ a' C' dx' fs' v',V.ref a=.ref a'/\H a'=some (.ins C' dx' fs')/\Cls K C'/\NoAttr K C' f/\fs'.lookup f=some v'/\Q v':=let ⟨dx,hx⟩:=hx;⟨a,C,dx,fs,v,rfl,hx,c,na,l,q⟩
theorem mthE {H:Hp} {a C:Addr} {fs:List (Str × V)} {m:Str} {q:Prop} (hx:∃ dx,H a=some (.ins C dx fs)) (l:fs.lookup m=none) (h:q) :
   ∃ a' dx' fs',V.ref a=.ref a'/\H a'=some (.ins C dx' fs')/\fs'.lookup m=none/\q:=let ⟨dx,hx⟩:=hx;⟨a,dx,fs,rfl,hx,l,h⟩
structure HB (w:World) (CH CR CS:Addr) (H:Hp) (z:HA) (sa:SA) (p:RP) (n:Int) (aw:List Int) (M:List (PyData × V)) (r:Bool->List (PyData × V)):Prop where
 hn:Hn CH CR H z sa.x p n aw
 so:sa.At w CS H M r
def HB.own (z:HA) (sa:SA) (c:Addr):Prop:=sa.own c\/z.own c
section
variable {w:World} {CH CR CS:Addr} {H H':Hp} {z:HA} {sa:SA} {p:RP} {n:Int} {aw:List Int} {M:List (PyData × V)} {r:Bool->List (PyData × V)}
theorem HB.keep (B:HB w CH CR CS H z sa p n aw M r) (k:∀ c o,HB.own z sa c->H c=some o->H' c=some o) (ht:∀ b vs,H b=some (.tup vs)->H' b=some (.tup vs)):HB w CH CR CS H' z sa p n aw M r :=
 ⟨B.hn.keep λc o hc=>k c o (.inr hc),B.so.keep (λc o hc=>k c o (.inl (own_of hc))) ht⟩
theorem HB.same (B:HB w CH CR CS H z sa p n aw M r) (q:Same H H'):HB w CH CR CS H' z sa p n aw M r:=B.keep (λc o _=>q c o) λb vs=>q b _
theorem HB.there (B:HB w CH CR CS H z sa p n aw M r) {c:Addr} (hc:HB.own z sa c):∃ o,H c=some o/\∀ vs,o≠.tup vs:=by
 rcases hc with hc | hc
 · exact B.so.there hc
 · obtain ⟨o,e,⟨_,_,_,s⟩ | ⟨_,s⟩⟩:=B.hn.there hc
   · exact ⟨o,e,λvs z=>by rw [z] at s;cases s⟩
   · exact ⟨o,e,λvs z=>by rw [z] at s;cases s⟩
theorem HB.kp {xs:List Addr} (B:HB w CH CR CS H z sa p n aw M r) (k:Kp xs H H') (hx:∀ c∈xs,¬ HB.own z sa c) (ht:∀ c∈xs,∀ vs,H c≠some (.tup vs)):HB w CH CR CS H' z sa p n aw M r :=
 B.keep (λc o hc q=>k c o (λz=>hx c z hc) q) λb vs q=>k b _ (λz=>ht b z vs q) q
end
structure TB (w:World) (CT CR CS:Addr) (H:Hp) (z:TA') (sa:SA) (p:RP) (aw:List Int) (M:List (PyData × V)) (r:Bool->List (PyData × V)):Prop where
 tn:Tn CT CR H z sa.x p aw
 so:sa.At w CS H M r
def TB.own (z:TA') (sa:SA) (c:Addr):Prop:=sa.own c\/z.own c
section
variable {w:World} {CT CR CS:Addr} {H H':Hp} {z:TA'} {sa:SA} {p:RP} {aw:List Int} {M:List (PyData × V)} {r:Bool->List (PyData × V)}
theorem TB.keep (B:TB w CT CR CS H z sa p aw M r) (k:∀ c o,TB.own z sa c->H c=some o->H' c=some o) (ht:∀ b vs,H b=some (.tup vs)->H' b=some (.tup vs)):TB w CT CR CS H' z sa p aw M r :=
 ⟨B.tn.keep λc o hc=>k c o (.inr hc),B.so.keep (λc o hc=>k c o (.inl (own_of hc))) ht⟩
theorem TB.same (B:TB w CT CR CS H z sa p aw M r) (q:Same H H'):TB w CT CR CS H' z sa p aw M r:=B.keep (λc o _=>q c o) λb vs=>q b _
theorem TB.there (B:TB w CT CR CS H z sa p aw M r) {c:Addr} (hc:TB.own z sa c):∃ o,H c=some o/\∀ vs,o≠.tup vs:=by
 rcases hc with hc | hc
 · exact B.so.there hc
 · obtain ⟨o,e,⟨_,_,_,s⟩ | ⟨_,s⟩⟩:=B.tn.there hc
   · exact ⟨o,e,λvs z=>by rw [z] at s;cases s⟩
   · exact ⟨o,e,λvs z=>by rw [z] at s;cases s⟩
theorem TB.kp {xs:List Addr} (B:TB w CT CR CS H z sa p aw M r) (k:Kp xs H H') (hx:∀ c∈xs,¬ TB.own z sa c) (ht:∀ c∈xs,∀ vs,H c≠some (.tup vs)):TB w CT CR CS H' z sa p aw M r :=
 B.keep (λc o hc q=>k c o (λz=>hx c z hc) q) λb vs q=>k b _ (λz=>ht b z vs q) q
end
def RD (H:Hp) (p:PyData × V) (d:PyData):Prop:=∃ x,d=.tuple [p.1,x]/\DV H x p.2
theorem rows_dvs {H:Hp}:∀ {es:List (PyData × V)} {ts:List V} {ds:List PyData},Paired (Wt H) es ts->Paired (RD H) es ds->DVs H ds ts
 | _,_,_,.nil,.nil=>rfl
 | _,_,_,.cons ⟨t,cv,e,ht,hk⟩ r,.cons ⟨x,e',dx⟩ r'=>by
   subst e e'
   exact ⟨_,_,rfl,⟨t,_,rfl,ht,_,_,rfl,hk.2.2.1,_,_,rfl,dx,rfl⟩,rows_dvs r r'⟩
theorem keyed_lay0:∀ {ds:List PyData},(∀ d∈ds,MX.kd d=true/\d.depth <= 9)->PyData.canLayAll0 ds=true/\PyData.depthAll ds <= 9
 | [],_=>⟨rfl,Nat.zero_le _⟩
 | d :: ds,h=>by
   obtain ⟨a,b⟩:=keyed_lay0 λu hu=>h u (List.mem_cons_of_mem _ hu)
   have hd:=h d List.mem_cons_self
   refine ⟨?_,?_⟩
   · show (PyData.canLay0 d && PyData.canLayAll0 ds)=true
     rw [MX.kd_lay _ hd.1,a];rfl
   · show max d.depth (PyData.depthAll ds) <= 9
     have:=hd.2
     omega
theorem new_hand {H H':Hp} {h dh:Addr} {C:Addr} (nh:H h=none) (ndh:H dh=none) (kp:Kp [h] (upd (upd H dh (.own h)) h (.ins C dh [])) H'):Same H H':=λc o e=>by
 have y1:=ne_of_none e ndh
 have y2:=ne_of_none e nh
 exact kp c o (λz=>y2 (List.mem_singleton.mp z)) (by rw [upd_ne y2,upd_ne y1];exact e)
theorem len1v {x:V}:[x].length <= sizeLine:=by show 1 <= sizeLine;decide
theorem len0v:([]:List V).length <= sizeLine:=by show 0 <= sizeLine;decide
theorem kx_tt {K:PySem.W.Frag}:PySem.W.kitOne K (.type "tuple") (.type "tuple")=some true:=by rfl
end L2

namespace L2
open PySem PySem.Spec PyProof.Rows
inductive Cn where
 | asked | taken | answered | handed | hs | ts
instance:DecidableEq Cn:=λa b=>by
 cases a<;>cases b<;>first | exact isTrue rfl | exact isFalse (λh=>by cases h)
def Cn.key:Cn->Str
 | .asked=>"asked"
 | .taken=>"taken"
 | .answered=>"answered"
 | .handed=>"handed"
 | .hs=>"hand sleeps"
 | .ts=>"heart sleeps"
def gWord:Bool->Str
 | false=>"ask"
 | true=>"answer"
def pk (g:Bool) (i:Int):PyData:=.tuple [.str (gWord g),.int i]
inductive Wr where
 | c (k:Cn) (i:Int)
 | p (g:Bool) (i nm wt:Int)
def Wr.key:Wr->PyData
 | .c k _=>.str k.key
 | .p g i _ _=>pk g i
def Wr.dat:Wr->PyData
 | .c _ i=>.int i
 | .p _ _ nm wt=>.tuple [.int nm,.int wt]
def Wr.Ok:Wr->Prop
 | .c _ _=>True
 | .p _ i nm _=>(0 <= i/\i < 8)/\0 <= nm/\nm < 9
def Wr.cnt (k:Cn):Wr->Option Int
 | .c k' i=>if k'=k then some i else none
 | .p _ _ _ _=>none
def Wr.plc (g:Bool) (i:Int):Wr->Option (Int × Int)
 | .c _ _=>none
 | .p g' i' nm wt=>if g'=g/\i'=i then some (nm,wt) else none
structure Mem where
 c:Cn->Int
 p:Bool->Int->Option (Int × Int)
def Mem.zero:Mem:=⟨λ_=>0,λ_ _=>none⟩
def Mem.put (m:Mem) (x:Wr):Mem:=⟨λk=>(x.cnt k).getD (m.c k),λg i=>(x.plc g i).or (m.p g i)⟩
def rdC (m:Mem) (row:List Wr) (k:Cn):Int:=(row.reverse.findSome? (Wr.cnt k)).getD (m.c k)
def rdP (m:Mem) (row:List Wr) (g:Bool) (i:Int):Option (Int × Int):=(row.reverse.findSome? (Wr.plc g i)).or (m.p g i)
theorem cn_ok (k:Cn):PyData.strOk k.key=true:=by cases k<;>decide +kernel
theorem gw_ok (g:Bool):PyData.strOk (gWord g)=true:=by cases g<;>decide +kernel
theorem cn_inj {k k':Cn} (h:k.key=k'.key):k=k':=by
 cases k<;>cases k'<;>first | rfl | exact absurd h (by decide +kernel)
theorem gw_inj {g g':Bool} (h:gWord g=gWord g'):g=g':=by
 cases g<;>cases g'<;>first | rfl | exact absurd h (by decide +kernel)
theorem pk_kd (g:Bool) (i:Int):MX.kd (pk g i)=true:=by
 show (PyData.strOk (gWord g) && (true && true))=true
 rw [gw_ok];rfl
theorem cn_kd (k:Cn):MX.kd (.str k.key)=true:=cn_ok k
theorem Wr.key_kd (x:Wr):MX.kd x.key=true:=by
 cases x with
 | c k i=>exact cn_kd k
 | p g i nm wt=>exact pk_kd g i
theorem Wr.dat_kd (x:Wr):MX.kd x.dat=true:=by cases x<;>rfl
theorem pk_inj {g g':Bool} {i i':Int} (h:pk g i=pk g' i'):g=g'/\i=i':=by
 injection h with h
 injection h with h1 h2
 injection h1 with h1
 injection h2 with h2 _
 injection h2 with h2
 exact ⟨gw_inj h1,h2⟩
theorem eqv_key {x:Wr} {d:PyData} (hd:MX.kd d=true):PyData.eqv x.key d=true ↔ x.key=d:=MX.eqv_iff _ _ x.key_kd hd
theorem Wr.cnt_some {x:Wr} {k:Cn} {i:Int} (h:x.cnt k=some i):x=.c k i:=by
 cases x with
 | c k' j =>
   unfold Wr.cnt at h
   dsimp only at h
   split at h
   · rename_i e;cases e;cases h;rfl
   · cases h
 | p=>cases h
theorem Wr.plc_some {x:Wr} {g:Bool} {i nm wt:Int} (h:x.plc g i=some (nm,wt)):x=.p g i nm wt:=by
 cases x with
 | c=>cases h
 | p g' j a b =>
   unfold Wr.plc at h
   dsimp only at h
   split at h
   · rename_i e;obtain ⟨e1,e2⟩:=e;cases e1;cases e2;cases h;rfl
   · cases h
theorem Wr.cnt_none {x:Wr} {k:Cn} (h:x.cnt k=none):x.key≠.str k.key:=by
 intro e
 cases x with
 | c k' j =>
   have:=cn_inj (PyData.str.inj e)
   unfold Wr.cnt at h
   dsimp only at h
   rw [if_pos this] at h;cases h
 | p=>cases e
theorem Wr.plc_none {x:Wr} {g:Bool} {i:Int} (h:x.plc g i=none):x.key≠pk g i:=by
 intro e
 cases x with
 | c=>cases e
 | p g' j a b =>
   have:=pk_inj e
   unfold Wr.plc at h
   dsimp only at h
   rw [if_pos this] at h;cases h
def WrR (H:Hp) (x:Wr) (q:PyData × V):Prop:=x.Ok/\q.1=x.key/\DV H x.dat q.2
theorem WrR.keep {H H':Hp} {x:Wr} {q:PyData × V} (h:WrR H x q) (ht:∀ b vs,H b=some (.tup vs)->H' b=some (.tup vs)):WrR H' x q:=⟨h.1,h.2.1,DV.keep ht _ _ x.dat_kd h.2.2⟩
def allKeys:List PyData:=[.str (Cn.key .asked),.str (Cn.key .taken),.str (Cn.key .answered),.str (Cn.key .handed),.str (Cn.key .hs),.str (Cn.key .ts),
 pk false 0,pk false 1,pk false 2,pk false 3,pk false 4,pk false 5,pk false 6,pk false 7,pk true 0,pk true 1,pk true 2,pk true 3,pk true 4,pk true 5,pk true 6,pk true 7]
theorem Wr.key_all {x:Wr} (h:x.Ok):x.key∈allKeys:=by
 cases x with
 | c k i=>cases k<;>simp [Wr.key,allKeys]
 | p g i a b =>
   have h':0 <= i/\i < 8:=h.1
   have:i=0\/i=1\/i=2\/i=3\/i=4\/i=5\/i=6\/i=7:=by omega
   rcases this with rfl | rfl | rfl | rfl | rfl | rfl | rfl | rfl<;>cases g<;>simp [Wr.key,allKeys]
theorem nodup_le {α:Type} [DecidableEq α]:∀ {l ks:List α},l.Nodup->(∀ a∈l,a∈ks)->l.length <= ks.length
 | [],_,_,_=>Nat.zero_le _
 | a :: l,ks,h,hs=>by
   have ha:=hs a List.mem_cons_self
   have hn:=List.nodup_cons.mp h
   have:=nodup_le (l:=l) (ks:=ks.erase a) hn.2 λb hb=>(List.mem_erase_of_ne (λe=>hn.1 (by rw [← e];exact hb))).mpr (hs b (List.mem_cons_of_mem _ hb))
   rw [List.length_erase_of_mem ha] at this
   have h0:0 < ks.length:=List.length_pos_of_mem ha
   rw [List.length_cons];omega
structure MemR (H:Hp) (M:List (PyData × V)) (m:Mem):Prop where
 c:∀ k:Cn,(lookD M (.str k.key)).getD (.int 0)=.int (m.c k)
 p:∀ g i,(m.p g i=none/\lookD M (pk g i)=none)\/∃ nm wt v,m.p g i=some (nm,wt)/\lookD M (pk g i)=some v/\DV H (.tuple [.int nm,.int wt]) v
 ks:∀ q∈M,q.1∈allKeys
 ok:∀ g i nm wt,m.p g i=some (nm,wt)->0 <= nm/\nm < 9
theorem allKeys_kd:∀ d∈allKeys,MX.kd d=true:=by
 intro d hd
 simp only [allKeys,List.mem_cons,List.not_mem_nil,or_false] at hd
 rcases hd with rfl | rfl | rfl | rfl | rfl | rfl | rfl | rfl | rfl | rfl | rfl | rfl | rfl | rfl | rfl | rfl | rfl | rfl | rfl | rfl | rfl | rfl<;>first | exact cn_kd _ | exact pk_kd _ _
theorem MemR.kk {H:Hp} {M:List (PyData × V)} {m:Mem} (h:MemR H M m):KK M:=λq hq=>allKeys_kd _ (h.ks q hq)
theorem MemR.zero {H:Hp}:MemR H [] Mem.zero:=⟨λ_=>rfl,λ_ _=>.inl ⟨rfl,rfl⟩,λ_ h=>(by cases h),λ_ _ _ _ h=>(by cases h)⟩
theorem MemR.keep {H H':Hp} {M:List (PyData × V)} {m:Mem} (h:MemR H M m) (ht:∀ b vs,H b=some (.tup vs)->H' b=some (.tup vs)):MemR H' M m :=
 ⟨h.c,λg i=>(h.p g i).imp id λ⟨nm,wt,v,a,b,c⟩=>⟨nm,wt,v,a,b,DV.keep ht _ _ rfl c⟩,h.ks,h.ok⟩
theorem put_ks {M:List (PyData × V)} {k:PyData} {v:V} {K:List PyData} (h:∀ q∈M,q.1∈K) (hk:k∈K):∀ q∈putD M k v,q.1∈K:=by
 intro q hq
 unfold putD at hq
 split at hq
 · obtain ⟨p,hp,e⟩:=List.mem_map.mp hq
   have:=h p hp
   rw [← e]
   split<;>exact this
 · rcases List.mem_append.mp hq with z | z
   · exact h q z
   · rw [List.mem_singleton.mp z];exact hk
theorem MemR.put {H:Hp} {M:List (PyData × V)} {m:Mem} {x:Wr} {q:PyData × V} (h:MemR H M m) (hx:WrR H x q):MemR H (putD M q.1 q.2) (m.put x):=by
 obtain ⟨ho,hk,hd⟩:=hx
 refine ⟨λk=>?_,λg i=>?_,put_ks h.ks (by rw [hk];exact Wr.key_all ho),λg i nm wt e=>?_⟩
 · rw [hk,look_put h.kk x.key_kd (cn_kd k)]
   unfold Mem.put
   dsimp only
   cases e:x.cnt k with
   | some i =>
     have ex:=Wr.cnt_some e
     subst ex
     rw [if_pos (show PyData.eqv (Wr.key (.c k i)) (.str k.key)=true from eqv_self (cn_kd k))]
     exact hd
   | none =>
     rw [if_neg λz=>Wr.cnt_none e ((eqv_key (cn_kd k)).mp z)]
     exact h.c k
 · rw [hk,look_put h.kk x.key_kd (pk_kd g i)]
   unfold Mem.put
   dsimp only
   cases e:x.plc g i with
   | some nw =>
     have ex:=Wr.plc_some (nm:=nw.1) (wt:=nw.2) e
     subst ex
     rw [if_pos (show PyData.eqv (Wr.key (.p g i nw.1 nw.2)) (pk g i)=true from eqv_self (pk_kd g i))]
     exact .inr ⟨nw.1,nw.2,q.2,rfl,rfl,hd⟩
   | none =>
     rw [if_neg λz=>Wr.plc_none e ((eqv_key (pk_kd g i)).mp z)]
     exact h.p g i
 · have e':(x.plc g i).or (m.p g i)=some (nm,wt):=e
   cases q:x.plc g i with
   | none=>rw [q] at e';exact h.ok g i nm wt e'
   | some nw =>
     rw [q] at e'
     cases e'
     have ex:=Wr.plc_some q
     subst ex
     exact ho.2
theorem Paired.rev {α β:Type} {F:α->β->Prop}:∀ {xs:List α} {ys:List β},Paired F xs ys->Paired F xs.reverse ys.reverse
 | _,_,.nil=>.nil
 | _,_,.cons r t=>by
   rw [List.reverse_cons,List.reverse_cons]
   exact Paired.snoc (Paired.rev t) r
theorem find_c {H:Hp} {k:Cn}:∀ {row:List Wr} {es:List (PyData × V)},Paired (WrR H) row es ->
   (es.find? λp=>PyData.eqv p.1 (.str k.key)).map (·.2)=(row.findSome? (Wr.cnt k)).map V.int
 | _,_,.nil=>rfl
 | x :: row,q :: es,.cons ⟨_,hk,hd⟩ t=>by
   rw [List.find?_cons,List.findSome?_cons]
   cases e:x.cnt k with
   | some i =>
     have ex:=Wr.cnt_some e
     subst ex
     have:PyData.eqv q.1 (.str k.key)=true:=by rw [hk];exact eqv_self (cn_kd k)
     rw [this]
     show some q.2=some (V.int i)
     exact congrArg some hd
   | none =>
     have:PyData.eqv q.1 (.str k.key)=false:=by
       rw [hk]
       cases z:PyData.eqv x.key (.str k.key) with
       | false=>rfl
       | true=>exact absurd ((eqv_key (cn_kd k)).mp z) (Wr.cnt_none e)
     rw [this]
     exact find_c t
theorem readV_c {H:Hp} {M es:List (PyData × V)} {m:Mem} {row:List Wr} (h:MemR H M m) (r:Paired (WrR H) row es) (k:Cn):readV M es (.str k.key)=.int (rdC m row k):=by
 rw [readV_eq]
 unfold lastW rdC
 rw [find_c (Paired.rev r)]
 cases row.reverse.findSome? (Wr.cnt k) with
 | some i=>rfl
 | none=>exact h.c k
theorem find_ok {H:Hp} {g:Bool} {i nm wt:Int}:∀ {row:List Wr} {es:List (PyData × V)},Paired (WrR H) row es->row.findSome? (Wr.plc g i)=some (nm,wt)->0 <= nm/\nm < 9
 | _,_,.nil,h=>by cases h
 | x :: row,_,.cons hx t,h=>by
   rw [List.findSome?_cons] at h
   cases q:x.plc g i with
   | none=>rw [q] at h;exact find_ok t h
   | some nw =>
     rw [q] at h
     cases h
     have ex:=Wr.plc_some q
     subst ex
     exact hx.1.2
theorem rdP_ok {H:Hp} {M es:List (PyData × V)} {m:Mem} {row:List Wr} (h:MemR H M m) (r:Paired (WrR H) row es) {g:Bool} {i nm wt:Int} (e:rdP m row g i=some (nm,wt)):0 <= nm/\nm < 9:=by
 unfold rdP at e
 cases q:row.reverse.findSome? (Wr.plc g i) with
 | none=>rw [q] at e;exact h.ok g i nm wt e
 | some nw =>
   rw [q] at e
   cases e
   exact find_ok (Paired.rev r) q
def StT (w:World) (C:Addr) (H:Hp) (sa:SA) (m:Mem) (rs:Bool->List Wr):Prop:=∃ M r,sa.At w C H M r/\MemR H M m/\∀ b,Paired (WrR H) (rs b) (r b)
section
variable {w:World} {C:Addr} {H H':Hp} {sa:SA} {m:Mem} {rs:Bool->List Wr}
theorem StT.keep (S:StT w C H sa m rs) (h:∀ c o,sa.own c->H c=some o->H' c=some o) (ht:∀ b vs,H b=some (.tup vs)->H' b=some (.tup vs)):StT w C H' sa m rs:=by
 obtain ⟨M,r,S,R,P⟩:=S
 exact ⟨M,r,S.keep (λc o hc=>h c o (own_of hc)) ht,R.keep ht,λb=>Paired.mapP (P b) λ_ _ q=>q.keep ht⟩
theorem StT.same (S:StT w C H sa m rs) (h:Same H H'):StT w C H' sa m rs:=S.keep (λc o _=>h c o) λb vs=>h b _
theorem StT.there (S:StT w C H sa m rs) {c:Addr} (h:sa.own c):∃ o,H c=some o/\(∀ xs,o≠.tup xs):=by
 obtain ⟨M,r,S,_⟩:=S
 exact S.there h
theorem StT.kp {xs:List Addr} (S:StT w C H sa m rs) (k:Kp xs H H') (h:∀ c∈xs,¬ sa.own c) (ht:∀ c∈xs,∀ vs,H c≠some (.tup vs)):StT w C H' sa m rs :=
 S.keep (λc o hc e=>k c o (λz=>h c z hc) e) λc vs e=>k c _ (λz=>ht c z vs e) e
theorem StT.ob (S:StT w C H sa m rs):∃ dx,H sa.x=some (.ins C dx (stF sa.hd sa.rl)):=by
 obtain ⟨M,r,S,_⟩:=S
 exact S.ob
theorem StT.names (S:StT w C H sa m rs) {b g:Bool} {i nm wt:Int} (e:rdP m (rs b) g i=some (nm,wt)):0 <= nm/\nm < 9:=by
 obtain ⟨M,r,S,R,P⟩:=S
 exact rdP_ok R (P b) e
theorem StT.small {M:List (PyData × V)} {r:Bool->List (PyData × V)} (S:sa.At w C H M r) (R:MemR H M m):M.length <= 22:=by
 obtain ⟨es,ep,_,_,nd,_⟩:=S.me
 have:=@nodup_le PyData (λa b=>Classical.propDecidable (a=b)) _ allKeys nd λd hd=>by
   obtain ⟨q,hq,rfl⟩:=List.mem_map.mp hd
   exact R.ks q hq
 rw [List.length_map] at this
 exact this
end
theorem paired_app {α β:Type} {F:α->β->Prop}:∀ {xs:List α} {ys:List β} {xs':List α} {ys':List β},Paired F xs ys->Paired F xs' ys'->Paired F (xs++xs') (ys++ys')
 | _,_,_,_,.nil,t=>t
 | _,_,_,_,.cons r t,t'=>.cons r (paired_app t t')
def aheadT (p:RP) (m:Mem) (row:List Wr) (a b:Cn):Int:=(rdC m row a - rdC m row b) % (p.s * p.R)
def nextT (p:RP) (m:Mem) (row:List Wr) (a:Cn):Wr:=.c a ((rdC m row a+1) % (p.s * p.R))
def layT (p:RP) (m:Mem) (row:List Wr) (g:Bool) (a:Cn) (nm wt:Int):List Wr :=
 if p.e then [nextT p m row a,.p g (rdC m row a % p.s) nm wt] else [.p g (rdC m row a % p.s) nm wt,nextT p m row a]
end L2

namespace L2
open PySem PySem.Spec PyProof.Rows
def cxComp2 (X:Cx) (scope:Scope) (cl:List (Str × Addr)) (C:Addr) (x x2:Str) (N':List Str) (s₃:Shared) (H₃:Hp) (pins:List (Addr × Obj)) (ex:List Addr) (E':Value->Shared->Prop):Cx :=
 { X with N:=N',s₀:=s₃,H₀:=H₃,env:=compEnvC scope cl C X.env,outer:=X.stack,stack:=X.stack,ex:=ex,fn:=λy=>y == x || y == x2,pn:=X.pn++pins,xe:=E' }
theorem pg_two {X:Cx} {x1 x2:Str} {p1 p2 pos:Pos} {k:Nat} (hc:X.calm=true) (hN:X.N.Nodup) (h0:X.N[0]?=some x1) (h1:X.N[1]?=some x2) (l1:Loc X.env.scope x1) (l2:Loc X.env.scope x2) (f1:X.fn x1=true) (f2:X.fn x2=true) :
   PG X (.Tuple [.Name x1 p1,.Name x2 p2] k pos) (gTup X.K 2 (gCons (gName 0) (gCons (gName 1) gNil))) :=
 pg_tup hc (pgs_cons (pg_name hN h0 l1 (.inl f1)) (pgs_cons (pg_name hN h1 l2 (.inl f2)) pgs_nil))
abbrev testsOf (ifs:List Expr) (env:Env):Sem Bool:=forIn ifs true λc r=>if r=true then do
 let ok ← isTrue c env (eval c env)
 pure (ForInStep.yield ok) else pure (ForInStep.yield r)
theorem loop_any {P:Program} {w:World} {A:Around} {R:Result->Shared->Prop} {s:Shared} {elt tg iter:Expr} {ifs:List Expr} {sc:Scope} {ps:Pos} {it acc:Value} {env:Env} (J:Nat->Shared->Prop)
   (turn:∀ k t,J k t->wpAny (model P w) A (pyNext it) (λo t1=>match o with
     | none=>R (.ok .next) t1
     | some y=>wpAny (model P w) A (letOwnedTupleGo tg it y) (λ_ t2=>wpAny (model P w) A (assign tg env y) (λ_ t3=>wpAny (model P w) A (testsOf ifs env) (λok t4 =>
         if ok=true then wpAny (model P w) A (eval elt env) (λx t5=>wpAny (model P w) A (call (.builtin "list.append") [acc,x]) (λ_ t6=>∃ j,j < k/\J j t6) (notedBy (model P w) A env λe t'=>R (.error e) t') t5) (notedBy (model P w) A env λe t'=>R (.error e) t') t4
         else ∃ j,j < k/\J j t4) (notedBy (model P w) A env λe t'=>R (.error e) t') t3) (notedBy (model P w) A env λe t'=>R (.error e) t') t2) (notedBy (model P w) A env λe t'=>R (.error e) t') t1) (notedBy (model P w) A env λe t'=>R (.error e) t') t)
   (k:Nat) (h:J k s):codeAny (model P w) A (.compLoop (.ListComp elt [⟨tg,iter,ifs,0⟩] sc ps) 0 it acc env) R s:=by
 refine codeAny_loop rfl J (λk t hJ=>?_) k h
 show wpAny _ A (Sem.onRaise (compTurn (.ListComp elt [⟨tg,iter,ifs,0⟩] sc ps) 0 it acc env) (λy=>do noteFrame y env;theTreesLotGoes y)) _ _ t
 refine wpAny_noted ?_
 rw [compTurn_list]
 refine wpAny_bind (wpAny_standAt (wpAny_bind (thn (turn k t hJ) λo t1 h1=>?_)))
 cases o with
 | none=>exact wpAny_pure h1
 | some y =>
   refine wpAny_bind (thn h1 λ_ t2 h2=>wpAny_bind (thn h2 λ_ t3 h3=>wpAny_bind (thn h3 λok t4 h4=>?_)))
   cases ok with
   | false=>exact wpAny_pure ⟨rfl,h4⟩
   | true =>
     rw [if_pos rfl] at h4
     refine wpAny_bind (wpAny_bind (thn h4 λx t5 h5=>wpAny_bind (thn h5 λ_ t6 h6=>?_)))
     exact wpAny_pure (wpAny_pure ⟨rfl,h6⟩)
def tComp2 (wi:TI) (g:TG) (js:List Nat) (tc:TT) (te:TE):TE:=λσ H Q=>wi σ H λJ H1=>∀ D,H1 D=none->∃ W:Nat->Nat->List V->Hp->Prop,(∃ m,W 0 m [] (upd H1 D (.lst []))) /\
 ∀ i m ys H2,W i m ys H2->H2 D=some (.lst ys)/\ys.length < sizeLine/\((J.stop i H2/\Q (.ref D) H2)\/(J.go i H2/\∀ x H3,J.yld i H2 x H3->∀ v0 v1:Option V,
   g x (v0 :: v1 :: capt σ js) H3 λσ' H'=>∃ v0' v1',σ'=v0' :: v1' :: capt σ js/\tc σ' H' λb H4=>if b=true then te σ' H4 λy H5=>H5 D=some (.lst ys)/\∃ m',m' < m/\W (i+1) m' (ys++[y]) (upd H5 D (.lst (ys++[y])))
     else ∃ m',m' < m/\W (i+1) m' ys H4))
section
variable {X:Cx} {scope:Scope} {cl:List (Str × Addr)} {x x2:Str} {N':List Str}
theorem cxComp2_ok {pins:List (Addr × Obj)} {σ:St} {H₃:Hp} {s₃:Shared} {ex:List Addr} {E':Value->Shared->Prop} (O:CompOk X scope cl x) (O2:CompOk X scope cl x2) (I:Inv X pins σ H₃ s₃) (hf:∀ b∈ex,FpOk X pins H₃ b/\b < s₃.heap.objs.size) :
   (cxComp2 X scope cl s₃.heap.objs.size x x2 N' s₃ H₃ pins ex E').Ok where
 mod:=I.ok.mod
 kind:=O.kind
 glob:=I.ok.glob
 blt:=I.ok.blt
 above:=Nat.le_refl _
 inj:=λy z c h1 h2=>I.ok.inj y z c (O.sub _ (mem_of_lookup h1)) (O.sub _ (mem_of_lookup h2))
 has:=λy h=>by
   have h':∃ k,(relabel scope X.env).names.lookup y=some k/\(k=.cell\/k=.free):=by
     rcases h with h | h
     · exact ⟨_,h,.inl rfl⟩
     · exact ⟨_,h,.inr rfl⟩
   obtain ⟨k,e,hk⟩:=h'
   obtain ⟨p,hp,rfl,e2⟩:=relabel_mem e hk O.nocell
   exact O.has p hp e2
 cab:=λy c h1 h2=>by
   have h2':cl.lookup y=some c:=h2
   rcases Bool.or_eq_true_iff.mp h1 with e | e
   · rw [beq_iff_eq.mp e,O.nox] at h2';cases h2'
   · rw [beq_iff_eq.mp e,O2.nox] at h2';cases h2'
 hd:=I.ok.hd
 frames:=I.ok.frames
 stk:=.inl rfl
 exf:=λb hb=>⟨Nat.ne_of_lt (hf b hb).2,λy c e=>(hf b hb).1.2.2.2.2.1 y c (O.sub _ (mem_of_lookup e))⟩
 bs:=I.bs
 bsz:=Nat.le_trans I.ok.bsz I.sz
 noex:=λb o e hb=>by
   obtain ⟨_,_,_,h4,_⟩:=(hf b hb).1
   rcases h4 with z | z
   · exact I.ok.noex b o e z
   · have g1:b < X.base.objs.size:=Heap.lt_size e
     exact absurd (Nat.lt_of_lt_of_le g1 (Nat.le_trans I.ok.bsz z)) (Nat.lt_irrefl _)
 exfs:=λb hb z=>by
   obtain ⟨_,h2,h3,_⟩:=(hf b hb).1
   rcases List.mem_cons.mp (I.stkSub b z) with q | q
   · exact h2 q
   · exact h3 q
 funs:=I.stack
 frf:=I.stkFree
theorem Inv.block2 {pins:List (Addr × Obj)} {σ σ':St} {H₃ H':Hp} {s₃ s':Shared} {ex:List Addr} {E':Value->Shared->Prop} {h':Heap} (I:Inv X pins σ H₃ s₃) (hf:∀ b∈ex,FpOk X pins H₃ b)
   (I':Inv (cxComp2 X scope cl s₃.heap.objs.size x x2 N' s₃ H₃ pins ex E') [] σ' H' s') (hs:Heap.SameBut s₃.heap.objs.size s'.heap h'):Inv X pins σ H' { s' with heap:=h' }:=by
 have ne:∀ b o,s₃.heap.get? b=some o->b≠s₃.heap.objs.size:=λb o e=>Nat.ne_of_lt (Heap.lt_size e)
 have fr:H' s₃.heap.objs.size=none:=I'.free
 have hok:HOk X.prog X.w H' h':=λa o e=>by
   refine (I'.hok a o e).stay (λb u hb q=>(hs.2 b ?_).trans q) (λ_ q=>q) λ_ _ q=>q
   rintro rfl
   rcases hb with z | z
   · rw [← z,fr] at e;cases e
   · rw [fr] at z;cases z
 have u:Un (frs X.stack) ex H₃ H' s₃.heap h':=by
   obtain ⟨k1,k2,k3,k4,k5,k6,k7⟩:=I'.base
   refine ⟨λb o q n hb hx=>(hs.2 b (ne b o q)).trans (k1 b o q n hb hx),λb o q n hb hx=>?_,k3,λb o q hx=>?_,k5,k6,k7⟩
   · obtain ⟨sl,e⟩:=k2 b o q n hb hx
     exact ⟨sl,(hs.2 b (ne b o q)).trans e⟩
   · obtain ⟨o',e⟩:=k4 b o q hx
     exact ⟨o',(hs.2 b (ne b o q)).trans e⟩
 exact I.call' (s':={ s' with heap:=h' }) I'.os u hok I'.bare λb hb=>⟨(hf b hb).2.2.2.1,(hf b hb).2.1,(hf b hb).2.2.2.2.1,(hf b hb).2.2.2.2.2⟩
theorem Inv.enter2 {pins:List (Addr × Obj)} {σ:St} {H₃:Hp} {s₃:Shared} {ex:List Addr} {E':Value->Shared->Prop} {caps:List Str} {js:List Nat} {h₁:Heap} {tk:Nat} (O:CompOk X scope cl x) (O2:CompOk X scope cl x2) (I:Inv X pins σ H₃ s₃)
   (hf:∀ b∈ex,FpOk X pins H₃ b/\b < s₃.heap.objs.size) (hcap:∀ y∈caps,∃ c,cl.lookup y=some c) (hjs:Paired (λ(y:Str) (j:Nat)=>X.N[j]?=some y/\(X.env.scope.names.lookup y=some .cell\/X.env.scope.names.lookup y=some .free)) caps js)
   (hkc:∀ y∈caps,(relabel scope X.env).names.lookup y=some .cell\/(relabel scope X.env).names.lookup y=some .free)
   (hn:h₁.Ns s₃.heap.objs.size λ_=>none) (hk:∀ b o,s₃.heap.get? b=some o->h₁.get? b=some o) :
   Inv (cxComp2 X scope cl s₃.heap.objs.size x x2 (x :: x2 :: caps) s₃ H₃ pins ex E') [] (none :: none :: capt σ js) H₃ { s₃ with heap:=h₁,toks:=tk }:=by
 have hlen:caps.length=js.length:=Paired.length hjs
 obtain ⟨m0,hm0,hl0⟩:=I.loc
 refine ⟨cxComp2_ok O O2 I hf,rfl,I.bare,Un.kept hk,⟨_,hn,λi y v e1 e2 e3=>?_⟩,λy c e=>?_,I.hok.fresh (Nat.le_refl _),λy c e=>I.freeC y c (O.sub _ (mem_of_lookup e)),λp hp=>?_,I.hok.kept hk,?_⟩
 · match i,e1,e2 with
   | 0,_,e2=>cases e2
   | 1,_,e2=>cases e2
   | i+2,e1,e2 =>
     have e1':(x :: x2 :: caps)[i+2]?=some y:=e1
     rw [List.getElem?_cons_succ,List.getElem?_cons_succ] at e1'
     have e2':(none :: none :: capt σ js)[i+2]?=some (some v):=e2
     rw [List.getElem?_cons_succ,List.getElem?_cons_succ] at e2'
     obtain ⟨j,ej,hN,hk1⟩:=MX.f2_get' hjs i y e1'
     unfold capt at e2'
     rw [List.getElem?_map,ej] at e2'
     have e3':(σ[j]?).getD none=some v:=by simpa using e2'
     have e4:σ[j]?=some (some v):=by
       cases q:σ[j]? with
       | none=>rw [q] at e3';cases e3'
       | some z=>rw [q] at e3';rw [show z=some v from e3']
     obtain ⟨u,r,l⟩:=hl0 j y v hN e4 (by rcases hk1 with z | z;exact .inr (.inl z);exact .inr (.inr z))
     obtain ⟨c,hc⟩:=hcap y (List.mem_of_getElem? e1')
     refine ⟨u,r,.inr ⟨hkc y (List.mem_of_getElem? e1'),c,hc,?_⟩⟩
     rcases l with ⟨z,_⟩ | ⟨_,c',z1,o,z2,z3⟩
     · have z':X.env.scope.names.lookup y=some .local:=z
       rcases hk1 with q | q<;>(rw [q] at z';cases z')
     · rw [O.sub _ (mem_of_lookup hc)] at z1
       cases z1
       exact ⟨o,hk _ _ z2,z3⟩
 · obtain ⟨v,o,z2,z3⟩:=I.cell y c (O.sub _ (mem_of_lookup e))
   exact ⟨v,o,hk _ _ z2,z3⟩
 · have hp':p∈X.pn++pins:=by simpa [cxComp2] using hp
   obtain ⟨g1,g2,g3,g4,g5⟩:=I.pin p hp'
   refine ⟨hk _ _ g1,g2,Nat.ne_of_lt (Heap.lt_size g1),λz=>?_,g5⟩
   rcases List.mem_cons.mp (I.stkSub p.1 z) with q | q
   · exact g3 q
   · exact g4 q
 · show (none :: none :: capt σ js).length=(x :: x2 :: caps).length
   unfold capt
   rw [List.length_cons,List.length_cons,List.length_cons,List.length_cons,List.length_map,hlen]
theorem pe_comp2 {pos:Pos} {tg:Expr} {g:TG} {iter elt:Expr} {ifs:List Expr} {caps:List Str} {js:List Nat} {wi:TI} {tc:TT} {te:TE} (hc:X.calm=true) (O:CompOk X scope cl x) (O2:CompOk X scope cl x2) (hg:∀ C s₃ H₃ pins ex E',PG (cxComp2 X scope cl C x x2 (x :: x2 :: caps) s₃ H₃ pins ex E') tg g)
   (hcap:∀ y∈caps,∃ c,cl.lookup y=some c) (hjs:Paired (λ(y:Str) (j:Nat)=>X.N[j]?=some y/\(X.env.scope.names.lookup y=some .cell\/X.env.scope.names.lookup y=some .free)) caps js)
   (hkc:∀ y∈caps,(relabel scope X.env).names.lookup y=some .cell\/(relabel scope X.env).names.lookup y=some .free)
   (hi:PI X tg iter wi) (ht:∀ C s₃ H₃ pins ex E',PTs (cxComp2 X scope cl C x x2 (x :: x2 :: caps) s₃ H₃ pins ex E') ifs tc) (he:∀ C s₃ H₃ pins ex E',PE (cxComp2 X scope cl C x x2 (x :: x2 :: caps) s₃ H₃ pins ex E') elt te)
   (hs:∀ x,foldedSetIterable iter X.env x=pure x:=by intro _;rfl):PE X (.ListComp elt [⟨tg,iter,ifs,0⟩] scope pos) (tComp2 wi g js tc te):=by
 intro pins s σ H Q I h
 rw [eval_ListComp]
 refine wpAny_comprehension_free (use:=none) rfl hs O.clos O.kind O.names (thn (hi pins s σ H _ I h) λv s1 h1=>thn h1 λitv s2 ⟨it,fp,tn,J,H1,e,I2,T,t0,hf,q⟩=>?_)
 subst e
 refine wpAny_newObj_type (wpAny_newFunctionEnv O.nocell (by intro y hy;cases hy) (λh₁ hns₁ hsb₁=>?_) O.kind)
 obtain ⟨W,⟨m0,w0⟩,step⟩:=q s2.heap.objs.size (I2.hok.fresh (Nat.le_refl _))
 have I3:Inv X pins σ (upd H1 s2.heap.objs.size (.lst [])) { s2 with heap:=s2.heap.push { cls:=.type "list",data:=.seq ([]:List Value).toArray } }:=I2.lnew (t':=s2.toks) (its:=[]) .nil (Nat.zero_le _)
 have fpl:∀ b∈fp,b < s2.heap.objs.size:=λb hb=>by
   obtain ⟨o,e,_⟩:=T.obj _ _ t0 b hb
   exact Heap.lt_size e
 have hf3:∀ b∈fp,FpOk X pins (upd H1 s2.heap.objs.size (.lst [])) b:=λb hb=>by
   obtain ⟨f0,f⟩:=hf b hb
   exact ⟨by rw [upd_ne (Nat.ne_of_lt (fpl b hb))];exact f0,f⟩
 generalize hs3:({ s2 with heap:=s2.heap.push { cls:=.type "list",data:=.seq ([]:List Value).toArray } }:Shared)=s₃ at *
 generalize hH3:upd H1 s2.heap.objs.size (.lst [])=H₃ at *
 have hsz:s2.heap.objs.size < s₃.heap.objs.size:=by rw [← hs3];show _ < (s2.heap.push _).objs.size;rw [Heap.size_push];exact Nat.lt_succ_self _
 have hk2:∀ b o,s2.heap.get? b=some o->s₃.heap.get? b=some o:=λb o e=>by rw [← hs3];exact Heap.get?_push_of_some _ e
 have hk3:∀ b o,s₃.heap.get? b=some o->h₁.get? b=some o:=λb o e=>hsb₁.extBut b o (Nat.ne_of_lt (Heap.lt_size e)) (Heap.get?_push_of_some _ e)
 have t3:tn 0 h₁:=T.keep _ _ _ t0 λb _ o e=>hk3 b o (hk2 b o e)
 have loop:∀ (R:Result->Shared->Prop),(∀ f s',(∃ σ' H' i m ys,Inv (cxComp2 X scope cl s₃.heap.objs.size x x2 (x :: x2 :: caps) s₃ H₃ pins fp (notedBy (model X.prog X.w) X.A (compEnvC scope cl s₃.heap.objs.size X.env) λe s'=>R (.error e) s')) [] σ' H' s'/\W i m ys H'/\Q (.ref s2.heap.objs.size) H')->R (.ok f) s') ->
     ∀ tk,codeAny (model X.prog X.w) X.A (.compLoop (.ListComp elt [⟨tg,iter,ifs,0⟩] scope pos) 0 (.ref it) (.ref s2.heap.objs.size) (compEnvC scope cl s₃.heap.objs.size X.env)) R { s₃ with heap:=h₁,toks:=tk }:=by
   intro R hR tk
   have I4:=Inv.enter2 (E':=notedBy (model X.prog X.w) X.A (compEnvC scope cl s₃.heap.objs.size X.env) λe s'=>R (.error e) s') (tk:=tk) O O2 I3 (λb hb=>⟨hf3 b hb,Nat.lt_trans (fpl b hb) hsz⟩) hcap hjs hkc (by simpa using hns₁) hk3
   have stat:∀ {H':Hp},(∀ b∈fp,H' b=none)->∀ b∈fp,FpOk (cxComp2 X scope cl s₃.heap.objs.size x x2 (x :: x2 :: caps) s₃ H₃ pins fp (notedBy (model X.prog X.w) X.A (compEnvC scope cl s₃.heap.objs.size X.env) λe s'=>R (.error e) s')) [] H' b:=λhn b hb=>by
     obtain ⟨f0,f1,f2,f3,f4,f5⟩:=hf3 b hb
     refine ⟨hn b hb,Nat.ne_of_lt (Nat.lt_trans (fpl b hb) hsz),λz=>?_,.inl hb,λy c e=>f4 y c (O.sub _ (mem_of_lookup e)),λp hp=>f5 p (by simpa [cxComp2] using hp)⟩
     rcases List.mem_cons.mp (I3.stkSub b z) with q | q
     · exact f1 q
     · exact f2 q
   refine loop_any (λn s'=>∃ i v0 v1 ys H',Inv (cxComp2 X scope cl s₃.heap.objs.size x x2 (x :: x2 :: caps) s₃ H₃ pins fp (notedBy (model X.prog X.w) X.A (compEnvC scope cl s₃.heap.objs.size X.env) λe s'=>R (.error e) s')) [] (v0 :: v1 :: capt σ js) H' s'/\tn i s'.heap/\(∀ b∈fp,H' b=none)/\W i n ys H') ?_ m0
     ⟨0,none,none,[],H₃,I4,t3,λb hb=>(hf3 b hb).1,w0⟩
   rintro n s4 ⟨i,v0,v1,ys,H4,J4,t4,fr4,w4⟩
   obtain ⟨hD,hlen,hor⟩:=step i n ys H4 w4
   rcases hor with ⟨stop,qn⟩ | ⟨go,hy⟩
   · refine thn (T.done (cxComp2 X scope cl s₃.heap.objs.size x x2 (x :: x2 :: caps) s₃ H₃ pins fp (notedBy (model X.prog X.w) X.A (compEnvC scope cl s₃.heap.objs.size X.env) λe s'=>R (.error e) s')) rfl rfl rfl hc i [] s4 _ H4 _ J4 (stat fr4) t4 stop) λr s5 ⟨hr,J5⟩=>?_
     subst hr
     exact hR _ _ ⟨_,H4,i,n,ys,J5,w4,qn⟩
   · refine thn (T.item (cxComp2 X scope cl s₃.heap.objs.size x x2 (x :: x2 :: caps) s₃ H₃ pins fp (notedBy (model X.prog X.w) X.A (compEnvC scope cl s₃.heap.objs.size X.env) λe s'=>R (.error e) s')) rfl rfl rfl hc i [] s4 _ H4 _ J4 (stat fr4) t4 go) λr s5 ⟨u,hr,h5⟩=>?_
     subst hr
     refine thn h5 λ_ s6 ⟨y,H6,J6,ry,yl,t6,fr6⟩=>?_
     have J6':=J6.pinned (stat fr6) (T.obj _ _ t6)
     have hy6:=hy y H6 yl v0 v1
     refine thn (hg _ _ _ _ _ _ _ s6 _ H6 y u _ J6' ry hy6) λ_ s7 ⟨σ7,H7,J7,v0',v1',e7,hy7⟩=>?_
     subst e7
     refine thn (ht _ _ _ _ _ _ _ s7 _ H7 _ J7 hy7) λok s8 ⟨H8,J8,q8⟩=>?_
     have back:∀ {σ9:St} {H9:Hp} {s9:Shared},Inv (cxComp2 X scope cl s₃.heap.objs.size x x2 (x :: x2 :: caps) s₃ H₃ pins fp (notedBy (model X.prog X.w) X.A (compEnvC scope cl s₃.heap.objs.size X.env) λe s'=>R (.error e) s')) ([]++pinsAt fp s6.heap) σ9 H9 s9->tn (i+1) s9.heap/\∀ b∈fp,H9 b=none:=λJ9=>by
       refine ⟨T.keep _ _ _ t6 λb hb o e=>(J9.pin (b,o) (List.mem_append_right _ (List.mem_append_right _ (mem_pinsAt hb e)))).1,λb hb=>?_⟩
       obtain ⟨o,e,d⟩:=T.obj _ _ t6 b hb
       exact (J9.pin (b,o) (List.mem_append_right _ (List.mem_append_right _ (mem_pinsAt hb e)))).2.1
     cases ok with
     | false =>
       rw [if_neg (by decide)]
       rw [if_neg (by decide)] at q8
       obtain ⟨m',hm,w8⟩:=q8
       obtain ⟨b1,b2⟩:=back J8
       exact ⟨m',hm,i+1,v0',v1',ys,H8,J8.unpinned,b1,b2,w8⟩
     | true =>
       rw [if_pos rfl]
       rw [if_pos rfl] at q8
       refine thn (he _ _ _ _ _ _ _ s8 _ H8 _ J8 q8) λz s9 ⟨vz,H9,J9,rz,hD9,m',hm,w9⟩=>?_
       refine thn (mt_append (X:=cxComp2 X scope cl s₃.heap.objs.size x x2 (x :: x2 :: caps) s₃ H₃ pins fp (notedBy (model X.prog X.w) X.A (compEnvC scope cl s₃.heap.objs.size X.env) λe s'=>R (.error e) s')) _ s9 _ H9 (.ref s2.heap.objs.size) [vz] (.ref s2.heap.objs.size) [z] (λ_ H10=>H10=upd H9 s2.heap.objs.size (.lst (ys++[vz]))) J9 rfl (.cons rz .nil) ⟨_,ys,vz,rfl,rfl,hD9,hlen,rfl⟩) λ_ s10 ⟨v10,H10,J10,r10,e10⟩=>?_
       subst e10
       obtain ⟨b1,b2⟩:=back J10
       exact ⟨m',hm,i+1,v0',v1',ys++[vz],_,J10.unpinned,b1,b2,w9⟩
 have fin:∀ tk,codeAny (model X.prog X.w) X.A (.compLoop (.ListComp elt [⟨tg,iter,ifs,0⟩] scope pos) 0 (.ref it) (.ref s2.heap.objs.size) (compEnvC scope cl s₃.heap.objs.size X.env)) (compPost (model X.prog X.w) X.A X.xe none (EP X pins σ Q) (.ref s2.heap.objs.size) s₃.heap.objs.size) { s₃ with heap:=h₁,toks:=tk }:=λtk=>by
   refine loop _ (λf s' ⟨σ',H',i,m,ys,J',w',qn⟩=>?_) tk
   obtain ⟨mm,hmm,_⟩:=J'.loc
   exact ⟨mm,hmm,λh' hs'=>⟨.ref s2.heap.objs.size,H',Inv.block2 I3 hf3 J' hs',rfl,qn⟩⟩
 exact codeAny_compStart_list (fin _) (T.self _ _ _ _ _ t3 (fin _))
end
end L2

namespace L2
open PySem PySem.Spec PyProof.Rows
structure LA where
 sd:Addr
 md:Addr
 rw:Addr
 l:Bool->Addr
 ud:Addr
 tk:Addr
def lsK (la:LA) (p:RP) (n:Int):List (Key × V):=[(.inr "size",.int p.s),(.inr "rounds",.int p.R),(.inr "names",.int n),(.inr "early",.bl p.e),(.inr "memory",.ref la.md),(.inr "rows",.ref la.rw),(.inr "under",.ref la.ud),(.inr "tasks",.ref la.tk)]
section
variable {H:Hp} {la:LA} {p:RP} {n:Int}
end
def RowT (H:Hp) (l:Addr) (row:List Wr):Prop:=∃ ts es,H l=some (.lst ts)/\Paired (Wt H) es ts/\Paired (WrR H) row es
theorem RowT.keep {H H':Hp} {l:Addr} {row:List Wr} (h:RowT H l row) (hl:∀ o,H l=some o->H' l=some o) (ht:∀ b vs,H b=some (.tup vs)->H' b=some (.tup vs)):RowT H' l row:=by
 obtain ⟨ts,es,a,b,c⟩:=h
 exact ⟨ts,es,hl _ a,Paired.mapP b λ_ _ q=>q.keep ht,Paired.mapP c λ_ _ q=>q.keep ht⟩
theorem RowT.same {H H':Hp} {l:Addr} {row:List Wr} (h:RowT H l row) (s:Same H H'):RowT H' l row:=h.keep (λo=>s _ o) λb vs=>s b _
theorem RowT.data {H:Hp} {l:Addr} {row:List Wr} (h:RowT H l row):DV H (.list (row.map λx=>.tuple [x.key,x.dat])) (.ref l):=by
 obtain ⟨ts,es,a,b,c⟩:=h
 refine ⟨l,ts,rfl,a,rows_dvs b ?_⟩
 clear a b
 induction c with
 | nil=>exact .nil
 | cons hx t ih =>
   obtain ⟨_,hk,hd⟩:=hx
   exact .cons ⟨_,by rw [hk],hd⟩ ih
structure LS (w:World) (H:Hp) (la:LA) (p:RP) (n:Int) (m:Mem) (rs:Bool->List Wr) (un tk:List Int):Prop where
 sd:H la.sd=some (.dK (lsK la p n))
 me:∃ M,MD w H la.md M/\MemR H M m
 ro:H la.rw=some (.lst [.ref (la.l false),.ref (la.l true)])
 rw:∀ b,RowT H (la.l b) (rs b)
 ud:H la.ud=some (.lst (un.map V.int))
 tk:H la.tk=some (.lst (tk.map V.int))
 nl:la.l false≠la.l true
 nr:∀ b,la.l b≠la.rw
 nu:∀ b,la.l b≠la.ud
 nt:∀ b,la.l b≠la.tk
 nut:la.ud≠la.tk
 nru:la.rw≠la.ud
 nrt:la.rw≠la.tk
def LA.own (la:LA) (c:Addr):Prop:=c=la.sd\/c=la.md\/c=la.rw\/c=la.l false\/c=la.l true\/c=la.ud\/c=la.tk
theorem LA.own_l {la:LA} (b:Bool):la.own (la.l b):=by
 cases b
 · exact .inr (.inr (.inr (.inl rfl)))
 · exact .inr (.inr (.inr (.inr (.inl rfl))))
section
variable {w:World} {H H':Hp} {la:LA} {p:RP} {n:Int} {m:Mem} {rs:Bool->List Wr} {un tk:List Int}
theorem LS.keep (L:LS w H la p n m rs un tk) (k:∀ c o,la.own c->H c=some o->H' c=some o) (ht:∀ b vs,H b=some (.tup vs)->H' b=some (.tup vs)):LS w H' la p n m rs un tk:=by
 obtain ⟨M,hM,R⟩:=L.me
 exact ⟨k _ _ (.inl rfl) L.sd,⟨M,hM.keepS (λo=>k _ o (.inr (.inl rfl))) ht,R.keep ht⟩,k _ _ (.inr (.inr (.inl rfl))) L.ro,λb=>(L.rw b).keep (λo=>k _ o (LA.own_l b)) ht,k _ _ (.inr (.inr (.inr (.inr (.inr (.inl rfl)))))) L.ud,k _ _ (.inr (.inr (.inr (.inr (.inr (.inr rfl)))))) L.tk,L.nl,L.nr,L.nu,L.nt,L.nut,L.nru,L.nrt⟩
theorem LS.same (L:LS w H la p n m rs un tk) (s:Same H H'):LS w H' la p n m rs un tk:=L.keep (λc o _=>s c o) λb vs=>s b _
theorem LS.there (L:LS w H la p n m rs un tk) {c:Addr} (h:la.own c):∃ o,H c=some o/\(∀ xs,o≠.tup xs):=by
 rcases h with rfl | rfl | rfl | rfl | rfl | rfl | rfl
 · exact ⟨_,L.sd,λ_ z=>by cases z⟩
 · obtain ⟨M,hM,_⟩:=L.me
   obtain ⟨ee,e⟩:=hM.there
   exact ⟨_,e,λ_ z=>by cases z⟩
 · exact ⟨_,L.ro,λ_ z=>by cases z⟩
 · obtain ⟨ts,_,e,_⟩:=L.rw false;exact ⟨_,e,λ_ z=>by cases z⟩
 · obtain ⟨ts,_,e,_⟩:=L.rw true;exact ⟨_,e,λ_ z=>by cases z⟩
 · exact ⟨_,L.ud,λ_ z=>by cases z⟩
 · exact ⟨_,L.tk,λ_ z=>by cases z⟩
theorem LS.kp {xs:List Addr} (L:LS w H la p n m rs un tk) (k:Kp xs H H') (h:∀ c∈xs,¬ la.own c) (ht:∀ c∈xs,∀ vs,H c≠some (.tup vs)):LS w H' la p n m rs un tk :=
 L.keep (λc o hc e=>k c o (λz=>h c z hc) e) λc vs e=>k c _ (λz=>ht c z vs e) e
theorem LS.names (L:LS w H la p n m rs un tk) {b g:Bool} {i nm wt:Int} (e:rdP m (rs b) g i=some (nm,wt)):0 <= nm/\nm < 9:=by
 obtain ⟨M,_,R⟩:=L.me
 obtain ⟨ts,es,_,_,h2⟩:=L.rw b
 exact rdP_ok R h2 e
theorem LS.mem (L:LS w H la p n m rs un tk) {M:List (PyData × V)} {m':Mem} (g1:∀ c,c≠la.md->H' c=H c) (g2:MD w H' la.md M) (R:MemR H' M m'):LS w H' la p n m' rs un tk:=by
 obtain ⟨M0,hM,_⟩:=L.me
 obtain ⟨ee,hmd⟩:=hM.there
 have up:∀ {c:Addr} {o:HO},H c=some o->(∀ e:List DictEntry × Nat,o≠DObj la.md e.1 e.2)->H' c=some o:=λ{c o} e hn=>by
   rw [g1 c λz=>by rw [z,hmd] at e;exact hn ee (Option.some.inj e).symm];exact e
 have ht:∀ b vs,H b=some (.tup vs)->H' b=some (.tup vs):=λb vs e=>up e λ_ z=>by cases z
 exact ⟨up L.sd λ_ z=>(by cases z),⟨M,g2,R⟩,up L.ro λ_ z=>(by cases z),λb=>(L.rw b).keep (λo q=>by
   obtain ⟨ts,es,e,_⟩:=L.rw b
   rw [e] at q
   cases q
   exact up e λ_ z=>by cases z) ht,up L.ud λ_ z=>(by cases z),up L.tk λ_ z=>(by cases z),L.nl,L.nr,L.nu,L.nt,L.nut,L.nru,L.nrt⟩
theorem up_ne {c x:Addr} {o:HO} {xs ys:List V} (h:H c=some o) (hx:H x=some (.lst xs)) (hn:∀ ys,o≠.lst ys):upd H x (.lst ys) c=some o:=by
 rw [upd_ne λe=>by rw [e,hx] at h;exact hn xs (Option.some.inj h).symm];exact h
theorem LS.tups {x:Addr} {xs ys:List V} (hx:H x=some (.lst xs)):∀ b vs,H b=some (.tup vs)->upd H x (.lst ys) b=some (.tup vs):=λb vs e=>up_ne e hx λys z=>by cases z
theorem LS.row (L:LS w H la p n m rs un tk) (b:Bool) {ts:List V} {es:List (PyData × V)} {row:List Wr} (h1:Paired (Wt H) es ts) (h2:Paired (WrR H) row es):LS w (upd H (la.l b) (.lst ts)) la p n m (setR rs b row) un tk:=by
 obtain ⟨ts0,es0,hl,_⟩:=L.rw b
 have ht:=LS.tups (ys:=ts) hl
 obtain ⟨M,hM,R⟩:=L.me
 obtain ⟨ee,hmd⟩:=hM.there
 refine ⟨up_ne L.sd hl λys z=>(by cases z),⟨M,hM.keepS (λo e=>?_) ht,R.keep ht⟩,by rw [upd_ne λe=>L.nr b e.symm];exact L.ro,λc=>?_,by rw [upd_ne λe=>L.nu b e.symm];exact L.ud,by rw [upd_ne λe=>L.nt b e.symm];exact L.tk,L.nl,L.nr,L.nu,L.nt,L.nut,L.nru,L.nrt⟩
 · rw [hmd] at e
   cases e
   exact up_ne hmd hl λys z=>(by cases z)
 · by_cases e:c=b
   · subst e
     rw [setR_same]
     exact ⟨ts,es,upd_same,Paired.mapP h1 λ_ _ q=>q.keep ht,Paired.mapP h2 λ_ _ q=>q.keep ht⟩
   · rw [setR_ne e]
     refine (L.rw c).keep (λo q=>?_) ht
     rw [upd_ne λz=>?_]
     · exact q
     · cases c<;>cases b
       · exact e rfl
       · exact L.nl z
       · exact L.nl z.symm
       · exact e rfl
end
end L2
namespace L2
open PySem PySem.Spec PyProof.Rows
theorem inV_int (i:Int):∀ ns:List Int,inV (.int i) (ns.map V.int)=ns.contains i
 | []=>rfl
 | n :: ns=>by
   have ih:=inV_int i ns
   unfold inV at ih ⊢
   rw [List.map_cons,List.any_cons,ih,List.contains_cons]
   congr 1
   show eqV (.int n) (.int i)=(i == n)
   simp only [eqV]
   rw [Bool.eq_iff_iff,beq_iff_eq,beq_iff_eq]
   exact eq_comm
theorem atI_zero {α:Type} {x:α} {xs:List α}:atI (x :: xs) 0=some x:=by
 unfold atI ixN
 simp
theorem ints_flat:∀ ns:List Int,(ns.map V.int).all flatV=true
 | []=>rfl
 | n :: ns=>by rw [List.map_cons,List.all_cons,ints_flat ns];rfl
theorem KeyV.lay {H:Hp} {k:PyData} {y:V} (h:KeyV H k y):LayD k:=⟨MX.kd_lay _ h.1,by have:=h.2.1;omega⟩
def freeL (n:Nat) (un:List Int):List Int:=((List.range n).map λ(k:Nat)=>(k:Int)).filter λk=>!un.contains k
theorem paired_at {α β:Type} {F:α->β->Prop}:∀ {xs:List α} {ys:List β} {j:Nat} {y:β},Paired F xs ys->ys[j]?=some y->∃ x,xs[j]?=some x/\F x y
 | _,_,_,_,.nil,e=>by simp at e
 | _,_,0,_,.cons r _,e=>by simp at e;subst e;exact ⟨_,rfl,r⟩
 | _,_,j+1,_,.cons _ t,e=>by
   obtain ⟨x,a,b⟩:=paired_at (j:=j) t (by simpa using e)
   exact ⟨x,by simpa using a,b⟩
end L2

namespace L2
open PySem PySem.Spec PyProof.Rows
def KO (own:Addr->Prop) (H H':Hp):Prop:=∀ c o,¬ own c->H c=some o->H' c=some o
theorem KO.refl (own:Addr->Prop) (H:Hp):KO own H H:=λ_ _ _ e=>e
theorem KO.trans {own own':Addr->Prop} {H H1 H2:Hp} (a:KO own H H1) (b:KO own' H1 H2) (h:∀ c,own' c->own c\/H c=none):KO own H H2:=λc o n e=>b c o (λz=>by
 rcases h c z with y | y
 · exact n y
 · rw [y] at e;cases e) (a c o n e)
theorem KO.mono {own own':Addr->Prop} {H H':Hp} (a:KO own H H') (h:∀ c,own c->own' c):KO own' H H':=λc o n e=>a c o (λz=>n (h c z)) e
theorem lsK_gK {la:LA} {p:RP} {n:Int} {ns:List Int}:(HO.dK (lsK la p n))≠HO.dK (gK ns):=by
 intro h
 injection h with h
 unfold lsK at h
 cases ns with
 | nil=>cases h
 | cons x xs=>cases h
section
variable {w:World} {CH CT CR CS:Addr} {H H':Hp} {z:HA} {zt:TA'} {sa:SA} {la:LA} {p:RP} {n:Int} {m:Mem} {rs:Bool->List Wr} {un tk aw:List Int} {nn:Int} {st:Addr}
theorem Hn.apart (B:Hn CH CR H z st p nn aw) (L:LS w H la p n m rs un tk) {c:Addr} (hc:la.own c):¬ z.own c:=λhz=>by
 obtain ⟨o,e,s⟩:=B.there hz
 rcases hc with rfl | rfl | rfl | rfl | rfl | rfl | rfl
 · rcases hz with y | y | y | y
   · obtain ⟨dx,q⟩:=B.ob;rw [← y,L.sd] at q;cases q
   · obtain ⟨dx,q⟩:=B.ra;rw [← y,L.sd] at q;cases q
   · obtain ⟨dx,q⟩:=B.rb;rw [← y,L.sd] at q;cases q
   · have q:=B.go;rw [← y,L.sd] at q;exact lsK_gK (Option.some.inj q)
 · obtain ⟨M,hM,_⟩:=L.me
   obtain ⟨ee,q⟩:=hM.there
   rw [e] at q;cases q
   rcases s with ⟨_,_,_,s⟩ | ⟨_,s⟩<;>cases s
 · rw [L.ro] at e;cases e
   rcases s with ⟨_,_,_,s⟩ | ⟨_,s⟩<;>cases s
 · obtain ⟨ts,_,q,_⟩:=L.rw false
   rw [q] at e;cases e
   rcases s with ⟨_,_,_,s⟩ | ⟨_,s⟩<;>cases s
 · obtain ⟨ts,_,q,_⟩:=L.rw true
   rw [q] at e;cases e
   rcases s with ⟨_,_,_,s⟩ | ⟨_,s⟩<;>cases s
 · rw [L.ud] at e;cases e
   rcases s with ⟨_,_,_,s⟩ | ⟨_,s⟩<;>cases s
 · rw [L.tk] at e;cases e
   rcases s with ⟨_,_,_,s⟩ | ⟨_,s⟩<;>cases s
theorem Tn.apart (B:Tn CT CR H zt st p aw) (L:LS w H la p n m rs un tk) {c:Addr} (hc:la.own c):¬ zt.own c:=λhz=>by
 obtain ⟨o,e,s⟩:=B.there hz
 rcases hc with rfl | rfl | rfl | rfl | rfl | rfl | rfl
 · rcases hz with y | y | y | y
   · obtain ⟨dx,q⟩:=B.ob;rw [← y,L.sd] at q;cases q
   · obtain ⟨dx,q⟩:=B.ra;rw [← y,L.sd] at q;cases q
   · obtain ⟨dx,q⟩:=B.rb;rw [← y,L.sd] at q;cases q
   · have q:=B.go;rw [← y,L.sd] at q;exact lsK_gK (Option.some.inj q)
 · obtain ⟨M,hM,_⟩:=L.me
   obtain ⟨ee,q⟩:=hM.there
   rw [e] at q;cases q
   rcases s with ⟨_,_,_,s⟩ | ⟨_,s⟩<;>cases s
 · rw [L.ro] at e;cases e
   rcases s with ⟨_,_,_,s⟩ | ⟨_,s⟩<;>cases s
 · obtain ⟨ts,_,q,_⟩:=L.rw false
   rw [q] at e;cases e
   rcases s with ⟨_,_,_,s⟩ | ⟨_,s⟩<;>cases s
 · obtain ⟨ts,_,q,_⟩:=L.rw true
   rw [q] at e;cases e
   rcases s with ⟨_,_,_,s⟩ | ⟨_,s⟩<;>cases s
 · rw [L.ud] at e;cases e
   rcases s with ⟨_,_,_,s⟩ | ⟨_,s⟩<;>cases s
 · rw [L.tk] at e;cases e
   rcases s with ⟨_,_,_,s⟩ | ⟨_,s⟩<;>cases s
end
def scD:PyData->Bool
 | .none=>true
 | .bool _=>true
 | .int _=>true
 | .str _=>true
 | _=>false
def flD:PyData->Bool
 | .tuple ds=>ds.all scD
 | d=>scD d
theorem DV.sc {H H':Hp}:∀ {d:PyData} {v:V},scD d=true->DV H d v->DV H' d v
 | .none,_,_,h=>h
 | .bool _,_,_,h=>h
 | .int _,_,_,h=>h
 | .str _,_,_,h=>h
 | .list _,_,h,_=>by cases h
 | .tuple _,_,h,_=>by cases h
 | .dict _,_,h,_=>by cases h
theorem DVs.sc {H H':Hp}:∀ {ds:List PyData} {vs:List V},ds.all scD=true->DVs H ds vs->DVs H' ds vs
 | [],_,_,h=>h
 | d :: ds,_,h,⟨v,r,e,h1,h2⟩=>by
   rw [List.all_cons,Bool.and_eq_true] at h
   exact ⟨v,r,e,DV.sc h.1 h1,DVs.sc h.2 h2⟩
theorem DV.fl {H H':Hp} (ht:∀ b vs,H b=some (.tup vs)->H' b=some (.tup vs)):∀ {d:PyData} {v:V},flD d=true->DV H d v->DV H' d v
 | .none,_,_,h=>h
 | .bool _,_,_,h=>h
 | .int _,_,_,h=>h
 | .str _,_,_,h=>h
 | .list _,_,h,_=>by cases h
 | .tuple ds,_,h,⟨a,vs,e,ha,hv⟩=>⟨a,vs,e,ht _ _ ha,DVs.sc h hv⟩
 | .dict _,_,h,_=>by cases h
def Nms (k:Int) (ns:List Int):Prop:=ns.Nodup/\∀ x∈ns,0 <= x/\x < k
theorem Nms.nil (k:Int):Nms k []:=⟨List.nodup_nil,λ_ h=>by cases h⟩
theorem Nms.len {k:Int} {ns:List Int} (h:Nms k ns) (hk:k <= 9):ns.length <= 9:=by
 have:=nodup_le (l:=ns) (ks:=[0,1,2,3,4,5,6,7,8]) h.1 λx hx=>by
   have:=h.2 x hx
   have:x=0\/x=1\/x=2\/x=3\/x=4\/x=5\/x=6\/x=7\/x=8:=by omega
   simp only [List.mem_cons,List.not_mem_nil,or_false]
   exact this
 exact this
theorem Nms.snoc {k x:Int} {ns:List Int} (h:Nms k ns) (hx:ns.contains x=false) (hb:0 <= x/\x < k):Nms k (ns++[x]):=by
 refine ⟨?_,λy hy=>?_⟩
 · rw [List.nodup_append]
   refine ⟨h.1,List.nodup_cons.mpr ⟨by simp,List.nodup_nil⟩,λa ha b hb' e=>?_⟩
   rw [List.mem_singleton.mp hb'] at e
   rw [List.contains_eq_mem,decide_eq_false_iff_not] at hx
   exact hx (e ▸ ha)
 · rcases List.mem_append.mp hy with z | z
   · exact h.2 y z
   · rw [List.mem_singleton.mp z];exact hb
theorem Nms.filter {k x:Int} {ns:List Int} (h:Nms k ns):Nms k (ns.filter λy=>decide (y≠x)) :=
 ⟨List.Pairwise.filter _ h.1,λy hy=>h.2 y (List.mem_filter.mp hy).1⟩
theorem Nms.next {k x:Int} {ns:List Int} (h:Nms k ns) (hb:0 <= x/\x < k):Nms k (gNext ns x):=by
 unfold gNext
 cases e:ns.contains x with
 | true=>exact h
 | false=>exact h.snoc e hb
theorem Nms.erase {k x:Int} {ns:List Int} (h:Nms k ns):Nms k (ns.erase x) :=
 ⟨List.Nodup.erase x h.1,λy hy=>h.2 y (List.mem_of_mem_erase hy)⟩
end L2

namespace L2
open PySem PySem.Spec PyProof.Rows
section
variable {X:Cx}
def isBv (k:Bool):Value->Bool
 | .bool b=>b == k
 | _=>false
def rCountB:V->List V->Hp->VK->Prop:=λx vs H Q=>∃ (l:Addr) (bs:List Bool) (k:Bool),x=.ref l/\vs=[.bl k]/\H l=some (.lst (bs.map V.bl))/\Q (.int (bs.count k:Nat)) H
def rIndexB:V->List V->Hp->VK->Prop:=λx vs H Q=>∃ (l:Addr) (bs:List Bool) (k:Bool),x=.ref l/\vs=[.bl k]/\H l=some (.lst (bs.map V.bl))/\k∈bs/\Q (.int (bs.idxOf k:Nat)) H
end
end L2

namespace L2
open PySem PySem.Spec PyProof.Rows
section
variable {X:Cx}
def rngO (x:Addr) (lo hi:Int):HO:=.ext λh=>∃ t u v,IsRange h x lo hi 1 t u v
def rngV (lo:Int) (n:Nat):List V:=(List.range n).map λ(j:Nat)=>V.int (lo+j)
end
end L2

namespace L2
open PySem PySem.Spec PyProof.Rows
def ltS (a b:Str):Prop:=a.cps.toList < b.cps.toList
def leS (a b:Str):Prop:=¬ ltS b a
theorem perm_paired {α β:Type} {R:α->β->Prop}:∀ {bs cs:List β},cs.Perm bs->∀ {as:List α},Paired R as bs->∃ ds,ds.Perm as/\Paired R ds cs:=by
 intro bs cs p
 induction p with
 | nil=>intro as h;exact ⟨as,.refl _,h⟩
 | cons x _ ih =>
   intro as h
   cases h with
   | cons r t =>
     obtain ⟨ds,p1,p2⟩:=ih t
     exact ⟨_ :: ds,p1.cons _,.cons r p2⟩
 | swap x y l =>
   intro as h
   cases h with
   | cons r t =>
     cases t with
     | cons r' t'=>exact ⟨_ :: _ :: _,List.Perm.swap _ _ _,.cons r' (.cons r t')⟩
 | trans _ _ ih1 ih2 =>
   intro as h
   obtain ⟨ds,p1,p2⟩:=ih2 h
   obtain ⟨es,p3,p4⟩:=ih1 p2
   exact ⟨es,p3.trans p1,p4⟩
theorem paired_zip {xs:List V} {its:List Value}:∀ {ks:List Str} {kv:List Value},Paired (λk u=>RelV (.str k) u) ks kv->Vals xs its->ks.length=xs.length->Paired (λ(p:Str × V) (q:Value × Value)=>RelV (.str p.1) q.1/\RelV p.2 q.2) (ks.zip xs) (kv.zip its):=by
 intro ks kv h
 induction h generalizing xs its with
 | nil=>intro _ _;rw [List.zip_nil_left,List.zip_nil_left];exact .nil
 | cons r t ih =>
   intro hv hl
   cases hv with
   | nil=>cases hl
   | cons r' t'=>exact .cons ⟨r,r'⟩ (ih t' (by simpa using hl))
theorem paired_vals {ps:List (Str × V)} {qs:List (Value × Value)} (h:Paired (λ(p:Str × V) (q:Value × Value)=>RelV (.str p.1) q.1/\RelV p.2 q.2) ps qs):Vals (ps.map (·.2)) (qs.map (·.2)):=by
 induction h with
 | nil=>exact .nil
 | cons r _ ih=>exact .cons r.2 ih
theorem Paired.at' {α β:Type} {R:α->β->Prop} {as:List α} {bs:List β} (h:Paired R as bs):∀ {i:Nat} {a:α},as[i]?=some a->∃ b,bs[i]?=some b/\R a b:=by
 induction h with
 | nil=>intro i a e;cases e
 | cons r _ ih =>
   intro i a e
   cases i with
   | zero=>cases e;exact ⟨_,rfl,r⟩
   | succ i=>exact ih (i:=i) e
theorem strsAre_of {ks:List Str} {kv:List Value} (h:Paired (λk u=>RelV (.str k) u) ks kv):StrsAre kv ks:=by
 induction h with
 | nil=>exact .nil
 | cons r _ ih =>
   obtain ⟨t,e⟩:=r
   rw [e];exact .cons _ _ ih
section
variable {X:Cx} {pins:List (Addr × Obj)} {σ:St} {H:Hp} {s:Shared}
def epO (D:Addr) (o:Obj):HO:=.ext λh=>h.get? D=some o
theorem epO_ok {P:Program} {w:World} {H':Hp} {h:Heap} {D:Addr} {o:Obj} (e:h.get? D=some o):ObjOk P w H' h D (epO D o):=⟨e,⟨o,e⟩,λ_ _ e' k=>k _ e'⟩
theorem Inv.epAt {D:Addr} {o:Obj} (I:Inv X pins σ H s) (e:H D=some (epO D o)):s.heap.get? D=some o:=by
 have h:=(show ObjOk X.prog X.w H s.heap D (epO D o) from I.hok D _ e)
 exact h.1
theorem Room.in2 {k:Nat} {A:Around} (r:Room (k+1) A):Room k A.in1.in1:=⟨r.hd,by have:=r.dp;show A.depth+3 * k+5 < _;omega,by have:=r.un;show A.units+1+1+16 * k+200 < _;omega⟩
theorem run_fn2 {k:Nat} {f:Addr} {fd:FuncData} {pn:Str} {sp:Sp} {Q:VK} {x:V} {u:Value} (F:FnOk X.prog X.w X.K X.mg X.base CX0 k f fd [pn] sp) (hr:Room (k+1) X.A) (hb:Binds X.K fd [pn] [])
   (I:Inv X pins σ H s) (r:RelV x u) (h:sp [x] H Q E0):wpAny (model X.prog X.w) X.A.in1.in1 (call (.ref f) [u]) (EP X pins σ Q) (λ_ _=>False) s:=by
 refine wpAny_call (codeAny_mono (F.run X.A.in1.in1 X.stack s H ⟨[u],[]⟩ [u] [x] Q E0 hr.in2 I.env0.in1.in1 (hb s [u] I.kIn rfl) (.cons r .nil) h) λr s' hq=>?_)
 cases r with
 | error e=>exact hq.elim
 | ok fl =>
   cases fl with
   | ret u=>exact I.after hq
   | next=>exact False.elim hq
   | brk=>exact False.elim hq
   | cont=>exact False.elim hq
theorem sortK_run {k:Nat} {f:Addr} {fd:FuncData} {pn:Str} {sp:Sp} {Q:VK} {l:Addr} {xs:List V} {ks:List Str} (F:FnOk X.prog X.w X.K X.mg X.base CX0 k f fd [pn] sp) (hr:Room (k+1) X.A) (hb:Binds X.K fd [pn] [])
   (I:Inv X pins σ H s) (hq:SqL X.K H l xs) (hlen:ks.length=xs.length) (h64:xs.length < 64)
   (turn:∀ (i:Nat) (x:V) (key:Str),xs[i]?=some x->ks[i]?=some key->∀ H',Same H H'->sp [x] H' (λv H''=>v=.str key/\Same H' H'') E0)
   (q:∀ D H' (ps:List (Str × V)),H D=none->Same H H'->H' D=some (.lst (ps.map (·.2)))->ps.Perm (ks.zip xs)->ps.Pairwise (λp q=>leS p.1 q.1)->Q (.ref D) H') :
   wpAny (model X.prog X.w) X.A (call (.builtin "sorted") [.ref l] [(Str.ofString "key",.ref f)]) (EP X pins σ Q) X.xe s:=by
 obtain ⟨its,r',pl,hz⟩:=I.list hq
 have hil:=r'.length
 refine call_function_entry_kw kind_sorted plain_sorted entry_sorted (ksk_s1 _ _) ?_
 unfold Builtin.«sorted»
 refine wpAny_bind (m:=checkCount "sorted" 1 1 _) (wpAny_pure ?_)
 refine wpAny_bind (collect_list pl.isList ?_ (by rw [sizeLine_eq];omega))
 refine wpAny_bind (wpAny_newList ?_ (by rw [sizeLine_eq];omega))
 have hsz:((s.heap.push (seqObj "list" #[] 0)).update s.heap.objs.size (Obj.mapSeq (·++its.toArray))).objs.size=s.heap.objs.size+1:=by
   rw [Heap.size_update,size_push']
 have hoL:(((s.heap.push (seqObj "list" #[] 0)).update s.heap.objs.size (Obj.mapSeq (·++its.toArray))).push (seqObj "list" its.toArray 0)).get? (s.heap.objs.size+1)=some (seqObj "list" its.toArray 0):=by
   rw [← hsz];exact Heap.get?_push_size _ rfl
 have keep:∀ b o,s.heap.get? b=some o->(((s.heap.push (seqObj "list" #[] 0)).update s.heap.objs.size (Obj.mapSeq (·++its.toArray))).push (seqObj "list" its.toArray 0)).get? b=some o:=λb o q=>by
   have hlt:b < s.heap.objs.size:=Heap.lt_size q
   rw [Heap.get?_push_ne _ _ _ (by rw [hsz];exact Nat.ne_of_lt (Nat.lt_succ_of_lt hlt)),Heap.get?_update_ne _ _ _ _ (Nat.ne_of_lt hlt),Heap.get?_push_ne _ _ _ (Nat.ne_of_lt hlt)]
   exact q
 show wpAny _ _ _ _ _ { s with heap:=((s.heap.push (seqObj "list" #[] 0)).update s.heap.objs.size (Obj.mapSeq (·++its.toArray))).push (seqObj "list" its.toArray 0) }
 rw [hsz]
 have hsz2:(((s.heap.push (seqObj "list" #[] 0)).update s.heap.objs.size (Obj.mapSeq (·++its.toArray))).push (seqObj "list" its.toArray 0)).objs.size=s.heap.objs.size+2:=by
   rw [size_push',hsz]
 generalize ((s.heap.push (seqObj "list" #[] 0)).update s.heap.objs.size (Obj.mapSeq (·++its.toArray))).push (seqObj "list" its.toArray 0)=h2 at hoL keep hsz2
 obtain ⟨D,hD⟩:∃ D,D=s.heap.objs.size+1:=⟨_,rfl⟩
 rw [← hD] at hoL ⊢
 refine wpAny_bind (wpAny_holding (wpAny_call_entry_kw slot_list_sort ⟨_,hoL,rfl⟩ entry_list_sort ?body (ksk_l1 _ _)))
 case body =>
   show wpAny (model X.prog X.w) X.A.in1.in1 (Builtin.«list.sort» ⟨[.ref D],[(Str.ofString "key",.ref f)]⟩) _ _ _
   rw [ksk_t1]
   obtain ⟨e1,ho1⟩:∃ e1,(h2.update D (Obj.mapSeq λ_=>(#[]:Array Value))).get? D=some (seqObj "list" #[] e1):=⟨_,get?_update_seq hoL λ_=>#[]⟩
   unfold ksk_tree
   refine wpAny_bind (listItems_at hoL rfl ?_)
   refine wpAny_bind (listUpdate_at hoL rfl ?_ (by rw [List.size_toArray,sizeLine_eq];omega) (Nat.zero_le _))
   refine wpAny_bind (seqEpoch_at ho1 rfl ?_)
   refine wpAny_bind (wpAny_newTuple ?_ (by show its.length <= _;rw [sizeLine_eq];omega))
   refine wpAny_bind (wpAny_newList ?_ (Nat.zero_le _))
   refine wpAny_holding ?_
   have s1:=Heap.SameBut.update h2 D (Obj.mapSeq λ_=>(#[]:Array Value))
   have keep4:∀ b o,s.heap.get? b=some o->((h2.update D (Obj.mapSeq λ_=>(#[]:Array Value))).push (seqObj "tuple" its.toArray 0)).get? b=some o:=λb o q=>by
     have hlt:b < s.heap.objs.size:=Heap.lt_size q
     exact Heap.get?_push_of_some _ ((s1.2 b (by rw [hD];exact Nat.ne_of_lt (Nat.lt_succ_of_lt hlt))).trans (keep b o q))
   have ho4:((h2.update D (Obj.mapSeq λ_=>(#[]:Array Value))).push (seqObj "tuple" its.toArray 0)).get? D=some (seqObj "list" #[] e1):=Heap.get?_push_of_some _ ho1
   have hk4:((h2.update D (Obj.mapSeq λ_=>(#[]:Array Value))).push (seqObj "tuple" its.toArray 0)).objs.size=s.heap.objs.size+3:=by rw [size_push',Heap.size_update,hsz2]
   have fD:H D=none:=I.hok.fresh (by rw [hD];omega)
   have I4:Inv X pins σ (upd H D (epO D (seqObj "list" #[] e1))) { s with heap:=(h2.update D (Obj.mapSeq λ_=>(#[]:Array Value))).push (seqObj "tuple" its.toArray 0) }:=I.laid (t':=s.toks) keep4 (by rw [hD];omega) (epO_ok ho4)
   generalize (h2.update D (Obj.mapSeq λ_=>(#[]:Array Value))).push (seqObj "tuple" its.toArray 0)=h4 at I4 hk4 ho4 keep4 ⊢
   obtain ⟨kS,hkS⟩:∃ kS,kS=h4.objs.size:=⟨_,rfl⟩
   have fK:upd H D (epO D (seqObj "list" #[] e1)) kS=none:=I4.hok.fresh (by rw [hkS];exact Nat.le_refl _)
   have hkD:kS≠D:=by rw [hkS,hk4,hD];omega
   have fKS:H kS=none:=by rw [upd_ne hkD] at fK;exact fK
   have I5:Inv X pins σ (upd (upd H D (epO D (seqObj "list" #[] e1))) kS (.lst [])) { s with heap:=h4.push (seqObj "list" #[] 0) }:=I4.laid (t':=s.toks) (λb o q=>Heap.get?_push_of_some _ q) (by rw [hkS];exact Nat.le_refl _) ⟨Nat.zero_le _,[],0,.nil,by rw [hkS];exact Heap.get?_push_size _ rfl⟩
   show wpAny (model X.prog X.w) X.A.in1.in1 (ksk_rest D (.ref f) false its.toArray e1 (.ref h4.objs.size)) _ _ { s with heap:=h4.push (seqObj "list" #[] 0) }
   rw [← hkS]
   have c5:Same H (upd (upd H D (epO D (seqObj "list" #[] e1))) kS (.lst [])):=(same_new fD).trans (same_new fK)
   have d5:upd (upd H D (epO D (seqObj "list" #[] e1))) kS (.lst []) D=some (epO D (seqObj "list" #[] e1)):=by rw [upd_ne (Ne.symm hkD)];exact upd_same
   have k5:upd (upd H D (epO D (seqObj "list" #[] e1))) kS (.lst []) kS=some (.lst ((ks.take 0).map V.str)):=upd_same
   generalize upd (upd H D (epO D (seqObj "list" #[] e1))) kS (.lst [])=H5 at I5 c5 d5 k5
   generalize ({ s with heap:=h4.push (seqObj "list" #[] 0) }:Shared)=s5 at I5 ⊢
   clear I4 keep4 ho4 hk4 fK hkS keep hoL ho1 s1 hsz hsz2
   unfold ksk_rest
   refine wpAny_bind (wpAny_rule ?_)
   first
     | rw [List.forIn_toArray]
     | (rw [← Array.forIn_toList];simp only [List.toList_toArray])
     | rw [← Array.forIn_toList]
   refine wpAny_bind (ksk_fold (λi s'=>∃ H',Inv X pins σ H' s'/\Same H H'/\H' D=some (epO D (seqObj "list" #[] e1))/\H' kS=some (.lst ((ks.take i).map V.str))) its 0 s5 ⟨H5,I5,c5,d5,k5⟩ ?step ?done)
   case step =>
     rintro j u s' hx ⟨H',I',c',d',k'⟩
     simp only [Nat.zero_add] at k' ⊢
     have hj:j < its.length:=(List.getElem?_eq_some_iff.mp hx).1
     obtain ⟨x,hxx,rx⟩:∃ x,xs[j]?=some x/\RelV x u:=by
       obtain ⟨u',hu',ru⟩:=Vals.get r' (List.getElem?_eq_getElem (show j < xs.length by omega))
       rw [hx] at hu';cases hu'
       exact ⟨_,List.getElem?_eq_getElem (by omega),ru⟩
     obtain ⟨key,hkj⟩:∃ key,ks[j]?=some key:=⟨_,List.getElem?_eq_getElem (by omega)⟩
     refine wpAny_bind (wpAny_attempt (wpAny_mono (run_fn2 F hr hb I' rx (turn j x key hxx hkj H' c')) (λv s'' he=>?_) λ_ _ hF=>hF.elim))
     obtain ⟨v',H'',I'',rv,rfl,c''⟩:=he
     obtain ⟨t2,rfl⟩:=rv
     try dsimp only
     have k'':=c'' _ _ k'
     have d'':=c'' _ _ d'
     obtain ⟨zz,kits,nn,rk,hkl,ek⟩:=I''.lstM k''
     have ek':s''.heap.get? kS=some (seqObj "list" kits.toArray nn):=ek
     have hks:kits.length <= 64:=by rw [← hkl,List.length_map,List.length_take];omega
     refine wpAny_bind (listUpdate_at ek' rfl ?_ (by rw [List.size_toArray,sizeLine_eq];omega) (Nat.le_trans (Nat.le_of_eq (Array.size_push ..)) (by rw [List.size_toArray,sizeLine_eq];omega)))
     refine wpAny_pure ⟨rfl,upd H'' kS (.lst ((ks.take (j+1)).map V.str)),?_,?_,?_,upd_same⟩
     · refine I''.lset (its':=kits++[Value.str key t2]) k'' ek (by simp) ?_ ?_
       · rw [List.take_add_one,hkj,List.map_append]
         exact Vals.append rk (.cons ⟨t2,rfl⟩ .nil)
       · rw [List.length_map,List.length_take,sizeLine_eq];omega
     · intro b o e
       rw [upd_ne (λy=>by rw [y,fKS] at e;cases e)]
       exact c'' _ _ (c' _ _ e)
     · rw [upd_ne (Ne.symm hkD)];exact d''
   case done =>
     rintro s' ⟨H',I',c',d',k'⟩
     rw [Nat.zero_add,List.take_of_length_le (by omega)] at k'
     obtain ⟨zz,kits,nn,rk,hkl,ek⟩:=I'.lstM k'
     have ek':s'.heap.get? kS=some (seqObj "list" kits.toArray nn):=ek
     rw [List.length_map] at hkl
     have eD:=I'.epAt d'
     try dsimp only
     refine wpAny_bind (listItems_at ek' rfl ?_)
     have pk:Paired (λk u=>RelV (.str k) u) ks kits:=by
       have:∀ {ks:List Str} {kits:List Value},Vals (ks.map V.str) kits->Paired (λk u=>RelV (.str k) u) ks kits:=by
         intro ks
         induction ks with
         | nil=>intro kits h;cases h;exact .nil
         | cons k ks ih=>intro kits h;cases h with | cons r t=>exact .cons r (ih t)
       exact this rk
     have hS:=strsAre_of pk
     have hzs:(kits.toArray.zip its.toArray).size=xs.length:=by rw [Array.size_zip,List.size_toArray,List.size_toArray];omega
     have hzl:(kits.toArray.zip its.toArray).toList=kits.zip its:=by rw [ksk_zip]
     have fin:∀ st:SortSt,(arrOf st).Perm (kits.toArray.zip its.toArray)->SortedToK PyProof.Rows.strKind (arrOf st) (arrOf st).size->failedOf st=none ->
         wpAny (model X.prog X.w) X.A.in1.in1 (ksk_tail D false e1 (.ref kS) st) (λfin s'=>∃ v,fin=.done (.ret v)/\wpAny (model X.prog X.w) X.A.in1 (ret (Value.ref D)) (λfin s'=>∃ v,fin=.done (.ret v)/\EP X pins σ Q v s') X.xe s') X.xe s':=by
       intro st hp hs hf
       have hpl:(arrOf st).toList.Perm (kits.zip its):=by rw [← hzl];exact Array.perm_iff_toList_perm.mp hp
       obtain ⟨ps,pp1,pp2⟩:=perm_paired hpl (paired_zip pk r' hlen)
       have hout:((arrOf st).map (·.2)).size=xs.length:=by rw [Array.size_map,hp.size_eq,hzs]
       unfold ksk_tail
       try dsimp only
       refine wpAny_bind (listUpdate_at ek' rfl ?_ (by rw [List.size_toArray,sizeLine_eq];omega) (Nat.zero_le _))
       have I6:=I'.lset (t':=s'.toks) (f:=λ_=>(#[]:Array Value)) (its':=[]) (ys:=[]) k' ek rfl .nil (Nat.zero_le _)
       have eD6:(s'.heap.update kS (Obj.mapSeq λ_=>(#[]:Array Value))).get? D=some (seqObj "list" #[] e1):=((Heap.SameBut.update s'.heap kS (Obj.mapSeq λ_=>(#[]:Array Value))).2 D (Ne.symm hkD)).trans eD
       have d6:upd H' kS (.lst []) D=some (epO D (seqObj "list" #[] e1)):=by rw [upd_ne (Ne.symm hkD)];exact d'
       refine wpAny_bind (wpAny_letGo ?_)
       refine wpAny_bind (seqEpoch_at eD6 rfl ?_)
       refine wpAny_bind (listUpdate_at eD6 rfl ?_ (Nat.zero_le _) (Nat.le_trans (Nat.le_of_eq hout) (by rw [sizeLine_eq];omega)))
       rw [hf]
       simp only [bne_self_eq_false,Bool.false_eq_true,if_false]
       refine wpAny_pure ⟨_,rfl,wpAny_pure ⟨_,rfl,.ref D,upd (upd H' kS (.lst [])) D (.lst (ps.map (·.2))),?_,rfl,q D _ ps fD ?_ upd_same pp1 ?_⟩⟩
       · obtain ⟨c2,hc2⟩:∃ c2,((s'.heap.update kS (Obj.mapSeq λ_=>(#[]:Array Value))).update D (Obj.mapSeq λ_=>(arrOf st).map (·.2))).get? D=some (seqObj "list" ((arrOf st).map (·.2)) c2):=⟨_,get?_update_seq eD6 λ_=>(arrOf st).map (·.2)⟩
         refine I6.write (x:=D) (e:=D) (by rw [d6];exact trivial) (.inl rfl) (λb' u hb hu=>(Heap.get?_update_other _ _ (Ne.symm hb)).trans hu) ⟨_,hc2⟩ ?_
         have vv:=paired_vals pp2
         refine ⟨by rw [vv.length,List.length_map,Array.length_toList];rw [Array.size_map] at hout;rw [hout,sizeLine_eq];omega,((arrOf st).toList.map (·.2)),c2,vv,?_⟩
         rw [hc2]
         congr 3
         rw [← Array.toList_map]
       · intro b o e
         rw [upd_ne (λy=>by rw [y,fD] at e;cases e),upd_ne (λy=>by rw [y,fKS] at e;cases e)]
         exact c' _ _ e
       · rw [List.pairwise_iff_getElem]
         intro i j hi hj hij
         have ei:=List.getElem?_eq_getElem hi
         have ej:=List.getElem?_eq_getElem hj
         obtain ⟨bi,hbi,ri,_⟩:=Paired.at' pp2 ei
         obtain ⟨bj,hbj,rj,_⟩:=Paired.at' pp2 ej
         have hjs:j < (arrOf st).size:=by
           have:=(List.getElem?_eq_some_iff.mp hbj).1
           rw [Array.length_toList] at this;exact this
         have qq:=hs i j (Nat.le_of_lt hij) hjs
         have kki:∀ {m:Nat} {b:Value × Value} {p:Str × V},(arrOf st).toList[m]?=some b->RelV (.str p.1) b.1->PyProof.Rows.KK PyProof.Rows.strKind (arrOf st) m=p.1.cps.toList:=λ{m b p} hb r=>by
           obtain ⟨t,e⟩:=r
           unfold PyProof.Rows.KK
           rw [← Array.getElem?_toList,hb]
           show (PyProof.Rows.strKind.keyOf b.1).getD PyProof.Rows.strKind.dflt=_
           rw [e];rfl
         rw [kki hbi ri,kki hbj rj] at qq
         intro hlt
         have:decide (ps[j].1.cps.toList < ps[i].1.cps.toList)=false:=qq
         rw [decide_eq_false_iff_not] at this
         exact this hlt
     unfold ksk_end
     try dsimp only
     simp only [Bool.false_eq_true,if_false]
     by_cases h2:its.toArray.size < 2
     · rw [if_pos h2,if_pos h2]
       refine wpAny_bind (wpAny_pure ?_)
       rw [StateT.run_pure]
       refine wpAny_bind (wpAny_pure ?_)
       try dsimp only
       refine fin (SortSt.mk' general' (kits.toArray.zip its.toArray) #[] 7 none) (Array.Perm.refl _) ?_ rfl
       intro i j hij hj
       have hj2:j < (kits.toArray.zip its.toArray).size:=hj
       rw [hzs] at hj2
       rw [List.size_toArray] at h2
       have:i=j:=by omega
       subst this
       exact KeyOrd.kle_refl _
     · rw [if_neg h2,if_neg h2]
       rw [List.size_toArray] at h2
       have hkk:keyKind' kits.toArray=pure oneType':=by
         obtain ⟨v₁,v₂,rest,e⟩:∃ v₁ v₂ rest,kits=v₁ :: v₂ :: rest:=by
           have hk2:2 <= kits.length:=by omega
           match kits,hk2 with
           | [],h=>exact absurd h (by simp)
           | [_],h=>exact absurd h (by simp)
           | v₁ :: v₂ :: rest,_=>exact ⟨v₁,v₂,rest,rfl⟩
         rw [e] at hS ⊢
         exact keyKind_strs hS
       rw [hkk]
       refine wpAny_bind (wpAny_pure ?_)
       refine wpAny_bind (wpAny_mono (wpS_sortRunsK (κ:=PyProof.Rows.strKind) strKind_oneLt (a₀:=kits.toArray.zip its.toArray) (st:=SortSt.mk' oneType' (kits.toArray.zip its.toArray) #[] 7 none)
         (Q:=λ_ st'=>(arrOf st').Perm (kits.toArray.zip its.toArray)/\failedOf st'=none/\SortedToK PyProof.Rows.strKind (arrOf st') (kits.toArray.zip its.toArray).size)
         ?_ ⟨Array.Perm.refl _,rfl,rfl,rfl⟩ (by rw [hzs];omega) (by rw [hzs];exact h64) λst' a1 a2 a3=>⟨a1,a2,a3⟩) ?_ λ_ _ e=>e)
       · intro p hp
         rw [hzl] at hp
         obtain ⟨x,t,e⟩:=hS.all _ (List.of_mem_zip hp).1
         exact ⟨x.cps.toList,by rw [e]⟩
       · rintro ⟨⟨⟩,st'⟩ s'' ⟨rfl,hp,hf,hs⟩
         try dsimp only
         exact fin st' hp (by rw [hp.size_eq];exact hs) hf
def tSortK (K:PySem.W.Frag) (sp:Sp) (ta:TE):TE:=λσ H Q=>ta σ H λx H1=>∃ (l:Addr) (xs:List V) (ks:List Str),x=.ref l/\SqL K H1 l xs/\ks.length=xs.length/\xs.length < 64 /\
 (∀ (i:Nat) (x:V) (key:Str),xs[i]?=some x->ks[i]?=some key->∀ H',Same H1 H'->sp [x] H' (λv H''=>v=.str key/\Same H' H'') E0) /\
 ∀ D H' (ps:List (Str × V)),H1 D=none->Same H1 H'->H' D=some (.lst (ps.map (·.2)))->ps.Perm (ks.zip xs)->ps.Pairwise (λp q=>leS p.1 q.1)->Q (.ref D) H'
theorem pe_sortK {k:Nat} {f:Addr} {fd:FuncData} {pn fnm:Str} {sp:Sp} {e:Expr} {ta:TE} {p fp kp pos:Pos} (F:FnOk X.prog X.w X.K X.mg X.base CX0 k f fd [pn] sp) (hr:Room (k+1) X.A) (hb:Binds X.K fd [pn] [])
   (hg:Gl X "sorted") (hm:X.mg "sorted"=none) (hgf:Gl X fnm) (hmf:X.mg fnm=some (.ref f)) (he:PE X e ta) (hdb:(fnm == ("__debug__":Str))=false:=by decide)
   (hst:starEach [e] X.env=[(false,eval e X.env)]:=by rfl) :
   PE X (.Call (.Name "sorted" p) [e] [⟨some "key",.Name fnm fp,kp⟩] pos) (tSortK X.K sp ta):=by
 intro pins s σ H Q I h
 refine wpAny_Call_Name_kw (ld_blt I hg hm bt_sorted ?_ (by decide) (by decide))
 refine callWith_kw ?_ (by rw [hst];rfl) (by rw [hst];rfl)
 refine thn ((pa_cons he pa_nil hst) pos pins s σ H (λvs H1=>match vs with
   | [x]=>∃ (l:Addr) (xs:List V) (ks:List Str),x=.ref l/\SqL X.K H1 l xs/\ks.length=xs.length/\xs.length < 64 /\
     (∀ (i:Nat) (x:V) (key:Str),xs[i]?=some x->ks[i]?=some key->∀ H',Same H1 H'->sp [x] H' (λv H''=>v=.str key/\Same H' H'') E0) /\
     ∀ D H' (ps:List (Str × V)),H1 D=none->Same H1 H'->H' D=some (.lst (ps.map (·.2)))->ps.Perm (ks.zip xs)->ps.Pairwise (λp q=>leS p.1 q.1)->Q (.ref D) H'
   | _=>False) I h) λus s1 ⟨vs,H1,I1,r1,q1⟩=>?_
 match vs,q1,r1 with
 | [x],q1,r1 =>
   obtain ⟨l,xs,ks,rfl,hq,hlen,h64,turn,q⟩:=q1
   obtain ⟨u,rfl,rx⟩:=vals1 r1
   cases rx
   refine kws_cons (ld_glob I1 hgf hmf (kws_nil ?_) hdb)
   exact sortK_run F hr hb I1 hq hlen h64 turn q
 | [],q1,_=>exact q1.elim
 | _ :: _ :: _,q1,_=>exact q1.elim
end
end L2

namespace L2
open PySem PySem.Spec PyProof.Rows
def TabK (K:PySem.W.Frag) (a:Addr) (D:List (Str × Addr)):Prop:=(a == sysModules)=false/\∃ o es ep,K.lookup a=some o/\o.ExactDict/\o.data=.dict es ep/\KTD.Rows (λ(b:Addr) (v:Value)=>v=.ref b) es.toList D
section
variable {X:Cx} {pins:List (Addr × Obj)} {σ:St} {H:Hp} {s:Shared}
theorem dictGet_tab {A:Around} {E:Value->Shared->Prop} {a:Addr} {D:List (Str × Addr)} {k:Str} {tk:Tok} {o:Obj} {es:Array DictEntry} {ep:Nat} {prog:Program} {w:World} {s:Shared} {Q:Option Value->Shared->Prop} (ho:s.heap.get? a=some o) (hd:o.data=.dict es ep) (hr:KTD.Rows (λ(b:Addr) (v:Value)=>v=.ref b) es.toList D)
   (h1:Q ((KTD.datumAt k D).map Value.ref) { s with toks:=s.toks+1 }):wpAny (model prog w) A (dictGet a (.str k tk)) Q E s:=by
 unfold dictGet
 try with_reducible refine wpAny_holding ?_
 refine wpAny_bind (wpAny_pyHash_str (wpAny_bind (KTD.kt_dictFind_strs (s:={ s with toks:=s.toks+1 }) ho hd (by obtain ⟨l⟩:=es;simpa using hr.exact) ?_)))
 have hq:Q (findBy (λk v=>v.isStr k) es k) { s with toks:=s.toks+1 }:=by
   have hf:findBy (λk v=>v.isStr k) es k=(es.toList.find? λe=>e.key.isStr k).map (·.val):=by
     obtain ⟨l⟩:=es
     simp [findBy]
   rw [hf]
   cases hat:KTD.datumAt k D with
   | some d =>
     obtain ⟨v,hv,hfl⟩:=hr.find_some hat
     rw [hv,hfl]
     rw [hat] at h1
     exact h1
   | none =>
     rw [hr.find_none hat]
     rw [hat] at h1
     exact h1
 rw [findBy_of_findIdx?] at hq
 cases hi:es.findIdx? λe=>e.key.isStr k with
 | none=>rw [hi] at hq;exact wpAny_pure hq
 | some i=>rw [hi] at hq;exact wpAny_bind (wpAny_dictEntries (s:={ s with toks:=s.toks+1 }) ho hd (wpAny_pure hq))
def optR:Option Addr->V
 | some b=>.ref b
 | none=>.non
def tTabGet (D:List (Str × Addr)) (ty:TE):TE:=λσ H Q=>ty σ H λy H1=>∃ k,y=.str k/\Q (optR (KTD.datumAt k D)) H1
theorem pe_tabget {T:Str} {a:Addr} {D:List (Str × Addr)} {e:Expr} {ty:TE} {p apos cpos:Pos} (hg:Gl X T) (hm:X.mg T=some (.ref a)) (ht:TabK X.K a D) (he:PE X e ty) (m:M1 X (.Name T p) "get" apos e cpos) (hdb:(T == ("__debug__":Str))=false:=by decide):PE X (.Call (.Attribute (.Name T p) "get" apos) [e] [] cpos) (tTabGet D ty):=by
 intro pins s σ H Q I h
 obtain ⟨hs,o,es,ep,hl,hx,hd,hr⟩:=ht
 have ho:∀ {s':Shared} {H':Hp},Inv X pins σ H' s'->s'.heap.get? a=some o:=λI'=>I'.kIn a o hl
 refine wpAny_Call_method m.base m.few m.line PySem.F.plainAttrs_dict PySem.F.slot_dict_get PySem.F.type_dict_get (ld_glob I hg hm ?_ hdb)
 refine ⟨⟨o,ho I,hx.1⟩,?_,?_⟩
 · intro b q;cases q;exact ⟨o,ho I,hx.2.1⟩
 · rw [m.trees]
   refine Calls.callWith_builtin rfl (Calls.evalArgs_plain (Calls.spliced_cons (thn (he pins s σ H _ I h) λiv s2 ⟨y,H2,I2,ry,k,ey,q2⟩=>Calls.spliced_nil ?_)))
   subst ey
   obtain ⟨t,rfl⟩:=ry
   refine wpAny_call_entry PySem.F.slot_dict_get ⟨o,ho I2,hx.1⟩ PySem.F.entry_dict_get ?_ (PySem.F.args_dict_get_2 _ _)
   show wpAny _ _ (dictGet a (.str k t) >>= _) _ _ s2
   refine wpAny_bind (dictGet_tab (ho I2) hd hr ?_)
   cases hat:KTD.datumAt k D with
   | some b =>
     rw [hat] at q2
     exact wpAny_pure ⟨_,rfl,.ref b,H2,I2.tok _,rfl,q2⟩
   | none =>
     rw [hat] at q2
     show wpAny _ _ (Builtin.Dict.missed a (.str k t) >>= _) _ _ _
     exact wpAny_bind (wpAny_missed_other hs (wpAny_pure ⟨.none,rfl,.non,H2,I2.tok _,rfl,q2⟩))
end
end L2

namespace L2
open PySem PySem.Spec PyProof.Rows
section
variable {X:Cx}
theorem walks_list {prog:Program} {w:World} {A:Around} {I l:Addr} {items:Array Value} (hh:A.handled=none) (hIl:I≠l) :
   Walks prog w A I [I,l] [I] items.size (λi v=>items[i]?=some v) (λi h=>h.IsListIter I l i/\h.IsList l items) where
 sub b hb:=by rw [List.mem_singleton.mp hb];exact List.mem_cons_self
 frame i h h' st k:=by
   obtain ⟨⟨o,ho,r⟩,⟨ol,hol,rl⟩⟩:=st
   exact ⟨⟨o,k I List.mem_cons_self _ ho,r⟩,⟨ol,k l (List.mem_cons_of_mem _ List.mem_cons_self) _ hol,rl⟩⟩
 item i s Q E hi st k:=by
   refine wpAny_pyNext_list_item st.1 st.2 (Array.getElem?_eq_getElem hi) λh' it' sb=>k _ h' s.toks (Array.getElem?_eq_getElem hi) ⟨it',?_⟩ λb o hb e=>(sb.2 b (λy=>hb (by rw [y];exact List.mem_singleton.mpr rfl))).trans e
   obtain ⟨ol,hol,rl⟩:=st.2
   exact ⟨ol,(sb.2 l (Ne.symm hIl)).trans hol,rl⟩
 done s Q E st k:=by
   refine wpAny_pyNext_list_end hh st.1 st.2 (by rw [Array.getElem?_eq_none_iff];exact Nat.le_refl _) λh' eb=>k h' s.toks λb o hb e=>?_
   exact eb b o (λy=>hb (by rw [y];exact List.mem_singleton.mpr rfl)) e
 self i s Q E st k:=wpAny_pyIter_listiter st.1 k
theorem bools_of2:∀ {bs:List Bool} {us:List Value},Vals (bs.map V.bl) us->us=bs.map Value.bool
 | [],_,.nil=>rfl
 | b :: bs,_,.cons r t=>by
   have r':_=Value.bool b:=r
   rw [r',bools_of2 t];rfl
theorem bt_all:bootBuiltins "all"=some (.builtin "all"):=by decide +kernel
theorem call_all (hc:X.calm=true):CallR X (.builtin "all") (λxs H Q=>∃ (p:Addr) (bs:List Bool),xs=[.ref p]/\SqL X.K H p (bs.map V.bl)/\Q (.bl (bs.all id)) H):=by
 intro pins s σ H xs us Q I r h
 obtain ⟨p,bs,rfl,hq,q⟩:=h
 obtain ⟨u,rfl,rx⟩:=vals1 r
 cases rx
 obtain ⟨its,r',pl,hz⟩:=I.list hq
 have hb:=bools_of2 r'
 have il:=pl.isList
 refine call_all_walk (wpAny_pyIter_list il ⟨s.heap.objs.size,_,_,_,_,_,λi=>bs.getD i true,rfl,walks_list (I:=s.heap.objs.size) (l:=p) (items:=its.toArray) (I.ok.hd hc) ?_,⟨⟨_,Heap.get?_push_size _ rfl,rfl,rfl⟩,?_⟩,?_,?_⟩)
 · obtain ⟨o,ho,_⟩:=il
   exact Ne.symm (Nat.ne_of_lt (Heap.lt_size ho))
 · obtain ⟨o,ho,rr⟩:=il
   exact ⟨o,Heap.get?_push_of_some _ ho,rr⟩
 · intro i v s' Q' E' hv hq'
   have hv':its[i]?=some v:=by rw [← hv];simp
   rw [hb,List.getElem?_map] at hv'
   obtain ⟨b,hbi,rfl⟩:=Option.map_eq_some_iff.mp hv'
   have:bs.getD i true=b:=by rw [List.getD_eq_getElem?_getD,hbi];rfl
   have hq2:Q' (bs.getD i true) s':=hq'
   rw [this] at hq2
   exact wpAny_truthy_bool hq2
 · intro h' tk k
   have e:((List.range its.toArray.size).all λi=>bs.getD i true)=bs.all id:=by
     have hl:its.toArray.size=bs.length:=by rw [List.size_toArray,hb,List.length_map]
     rw [hl,Bool.eq_iff_iff,List.all_eq_true,List.all_eq_true]
     constructor
     · intro h x hx
       obtain ⟨i,hi,rfl⟩:=List.getElem_of_mem hx
       have:=h i (List.mem_range.mpr hi)
       rw [List.getD_eq_getElem?_getD,List.getElem?_eq_getElem hi] at this
       exact this
     · intro h i hi
       have hi':=List.mem_range.mp hi
       rw [List.getD_eq_getElem?_getD,List.getElem?_eq_getElem hi']
       exact h _ (List.getElem_mem hi')
   rw [e]
   refine ⟨.bl (bs.all id),H,I.kept λb o hb=>k b o (λy=>?_) (Heap.get?_push_of_some _ hb),rfl,q⟩
   rw [List.mem_singleton] at y
   have:=Heap.lt_size hb
   rw [y] at this
   exact Nat.lt_irrefl _ this
end
end L2

namespace L2
open PySem PySem.Spec PyProof.Rows
section
variable {X:Cx}
def rJoin (K:PySem.W.Frag):V->List V->Hp->VK->Prop:=λx vs H Q=>∃ (sep:Str) (p:Addr) (ys:List Str),x=.str sep/\vs=[.ref p]/\SqL K H p (ys.map V.str)/\(ys.map (·.length)).sum+ys.length * sep.length <= 16777216/\Q (.str (Txt.join sep ys)) H
theorem strs_are:∀ {ys:List Str} {us:List Value},Vals (ys.map V.str) us->StrsAre us ys
 | [],_,.nil=>.nil
 | y :: ys,_,.cons r t=>by
   obtain ⟨tk,e⟩:=r
   rw [e];exact .cons _ _ (strs_are t)
theorem mt_join:MtR X "str.join" (rJoin X.K):=by
 intro pins s σ H x vs v us Q I rx rv h
 obtain ⟨sep,p,ys,rfl,rfl,hq,hl,q⟩:=h
 obtain ⟨t,rfl⟩:=rx
 obtain ⟨u,rfl,ru⟩:=rv.one
 cases ru
 obtain ⟨its,r',pl,hz⟩:=I.list hq
 exact join_list pl.isList (strs_are r') hl λt' k=>⟨.str (Txt.join sep ys),H,I.tok k,⟨t',rfl⟩,q⟩
theorem call_str:CallR X (.type "str") (λxs H Q=>(∃ i:Int,xs=[.int i]/\i.natAbs.log2 < 1920/\Q (.str (toString i)) H)\/∃ t,xs=[.str t]/\Q (.str t) H):=by
 intro pins s σ H xs us Q I r h
 rcases h with ⟨i,rfl,hz,q⟩ | ⟨x,rfl,q⟩
 · obtain ⟨u,rfl,t,rfl⟩:=vals1 r
   exact PySem.P.str_of_int hz ⟨.str _,H,I.tok _,⟨_,rfl⟩,q⟩
 · obtain ⟨u,rfl,t,rfl⟩:=vals1 r
   exact PySem.P.str_of_str ⟨.str x,H,I,⟨t,rfl⟩,q⟩
end
end L2
namespace L2
open PySem PySem.Spec PyProof.Rows
theorem pe_globI {X:Cx} {x:Str} {i:Int} {p:Pos} (hg:Gl X x) (hm:∃ t,X.mg x=some (.int i t)) (hdb:(x == ("__debug__":Str))=false:=by decide):PE X (.Name x p) (tC (.int i)):=by
 obtain ⟨t,hm⟩:=hm
 intro pins s σ H Q I h
 exact ld_glob I hg hm ⟨.int i,H,I,⟨t,rfl⟩,h⟩ hdb
end L2

namespace L2
open PySem PySem.Spec PyProof.Rows
def own5 (z:HA) (zt:TA') (sa:SA) (c:Addr):Prop:=z.own c\/zt.own c\/sa.own c
def own6 (z:HA) (zt:TA') (sa:SA) (g:Addr) (c:Addr):Prop:=own5 z zt sa c\/c=g
structure X5 (w:World) (CH CT CR CS:Addr) (H:Hp) (z:HA) (zt:TA') (sa:SA) (p:RP) (n:Nat) (m:Mem) (rs:Bool->List Wr) (un tk:List Int):Prop where
 hn:Hn CH CR H z sa.x p n un
 tn:Tn CT CR H zt sa.x p tk
 st:StT w CS H sa m rs
 dz:∀ c,z.own c->¬ zt.own c
section
variable {w:World} {CH CT CR CS:Addr} {H H':Hp} {z:HA} {zt:TA'} {sa:SA} {p:RP} {n:Nat} {m m':Mem} {rs rs':Bool->List Wr} {un tk un' tk':List Int}
theorem X5.keep (W:X5 w CH CT CR CS H z zt sa p n m rs un tk) (k:∀ c o,own5 z zt sa c->H c=some o->H' c=some o) (ht:∀ b vs,H b=some (.tup vs)->H' b=some (.tup vs)):X5 w CH CT CR CS H' z zt sa p n m rs un tk :=
 ⟨W.hn.keep λc o h=>k c o (.inl h),W.tn.keep λc o h=>k c o (.inr (.inl h)),W.st.keep (λc o h=>k c o (.inr (.inr h))) ht,W.dz⟩
theorem X5.same (W:X5 w CH CT CR CS H z zt sa p n m rs un tk) (s':Same H H'):X5 w CH CT CR CS H' z zt sa p n m rs un tk:=W.keep (λc o _=>s' c o) λb vs=>s' b _
theorem X5.there (W:X5 w CH CT CR CS H z zt sa p n m rs un tk) {c:Addr} (h:own5 z zt sa c):∃ o,H c=some o/\∀ vs,o≠.tup vs:=by
 rcases h with h | h | h
 · obtain ⟨o,e,⟨_,_,_,s⟩ | ⟨_,s⟩⟩:=W.hn.there h
   · exact ⟨o,e,λvs y=>by rw [y] at s;cases s⟩
   · exact ⟨o,e,λvs y=>by rw [y] at s;cases s⟩
 · obtain ⟨o,e,⟨_,_,_,s⟩ | ⟨_,s⟩⟩:=W.tn.there h
   · exact ⟨o,e,λvs y=>by rw [y] at s;cases s⟩
   · exact ⟨o,e,λvs y=>by rw [y] at s;cases s⟩
 · exact W.st.there h
theorem hn_l5 {p:RP} {st:Addr} {nn:Int} {aw:List Int} (B:Hn CH CR H z st p nn aw) (S:StT w CS H sa m rs) (b:Bool):¬ z.own (sa.l b):=λhc=>by
 obtain ⟨o1,q1,s1⟩:=B.there hc
 obtain ⟨M,r,S',_⟩:=S
 obtain ⟨ts,e,_⟩:=S'.rw b
 rw [e] at q1
 cases q1
 rcases s1 with ⟨_,_,_,s⟩ | ⟨_,s⟩<;>cases s
theorem tn_l5 {p:RP} {st:Addr} {aw:List Int} (B:Tn CT CR H zt st p aw) (S:StT w CS H sa m rs) (b:Bool):¬ zt.own (sa.l b):=λhc=>by
 obtain ⟨o1,q1,s1⟩:=B.there hc
 obtain ⟨M,r,S',_⟩:=S
 obtain ⟨ts,e,_⟩:=S'.rw b
 rw [e] at q1
 cases q1
 rcases s1 with ⟨_,_,_,s⟩ | ⟨_,s⟩<;>cases s
theorem X5.tups (W:X5 w CH CT CR CS H z zt sa p n m rs un tk) {xs:List Addr} (kp:Kp xs H H') (h:∀ c∈xs,own5 z zt sa c):∀ b vs,H b=some (.tup vs)->H' b=some (.tup vs):=λb vs e=>kp b _ (λmm=>by
 obtain ⟨o,e',nn⟩:=W.there (h b mm)
 rw [e'] at e;exact nn vs (Option.some.inj e)) e
theorem X5.hand (W:X5 w CH CT CR CS H z zt sa p n m rs un tk) (hn':Hn CH CR H' z sa.x p n un') (st':StT w CS H' sa m' rs') (kp:Kp [z.gd,sa.l false] H H'):X5 w CH CT CR CS H' z zt sa p n m' rs' un' tk:=by
 refine ⟨hn',W.tn.keep λc o hc e=>kp c o (λmm=>?_) e,st',W.dz⟩
 rcases List.mem_cons.mp mm with y | y
 · exact W.dz c (by rw [y];exact .inr (.inr (.inr rfl))) hc
 · exact tn_l5 W.tn W.st false (by rw [← List.mem_singleton.mp y];exact hc)
theorem X5.heart (W:X5 w CH CT CR CS H z zt sa p n m rs un tk) (tn':Tn CT CR H' zt sa.x p tk') (st':StT w CS H' sa m' rs') (kp:Kp [zt.gd,sa.l true] H H'):X5 w CH CT CR CS H' z zt sa p n m' rs' un tk':=by
 refine ⟨W.hn.keep λc o hc e=>kp c o (λmm=>?_) e,tn',st',W.dz⟩
 rcases List.mem_cons.mp mm with y | y
 · exact W.dz c hc (by rw [y];exact .inr (.inr (.inr rfl)))
 · exact hn_l5 W.hn W.st true (by rw [← List.mem_singleton.mp y];exact hc)
theorem X5.store (W:X5 w CH CT CR CS H z zt sa p n m rs un tk) {b:Bool} (st':StT w CS H' sa m' rs') (kp:Kp [sa.l b,sa.hd] H H'):X5 w CH CT CR CS H' z zt sa p n m' rs' un tk:=by
 have hx:∀ c∈[sa.l b,sa.hd],(∃ ys,H c=some (.lst ys))\/∃ ee:List DictEntry × Nat,H c=some (DObj c ee.1 ee.2):=λc hc=>by
   obtain ⟨M,r,S,_⟩:=W.st
   rcases List.mem_cons.mp hc with y | y
   · obtain ⟨ts,e,_⟩:=S.rw b
     exact .inl ⟨ts,by rw [y];exact e⟩
   · obtain ⟨ee,e⟩:=S.me.there
     exact .inr ⟨ee,by rw [List.mem_singleton.mp y];exact e⟩
 exact ⟨W.hn.lists kp hx,W.tn.lists kp hx,st',W.dz⟩
end
theorem DV2 {H:Hp} {c:Addr} {x y:Int} (h:H c=some (.tup [.int x,.int y])):DV H (.tuple [.int x,.int y]) (.ref c):=⟨c,_,rfl,h,_,_,rfl,rfl,_,_,rfl,rfl,rfl⟩
theorem dvs_len {H:Hp}:∀ {ds:List PyData} {ts:List V},DVs H ds ts->ts.length=ds.length
 | [],_,h=>by cases h;rfl
 | d :: ds,_,⟨v,r,h,h1,h2⟩=>by subst h;rw [List.length_cons,List.length_cons,dvs_len h2]
theorem atI_at {xs:List V} {j:Nat} {v:V} (h:xs[j]?=some v):atI xs (j:Int)=some v:=by
 unfold atI ixN
 have hl:=(List.getElem?_eq_some_iff.mp h).1
 rw [if_pos (by omega),if_pos (by omega)]
 exact h
end L2

namespace L2
open PySem PySem.Spec PyProof.Rows
inductive Bd where
 | up | lies | asleep
instance:DecidableEq Bd:=λa b=>by
 cases a<;>cases b<;>first | exact isTrue rfl | exact isFalse (λh=>by cases h)
def Bd.key:Bd->Str
 | .up=>"up"
 | .lies=>"lies"
 | .asleep=>"asleep"
theorem bd_inj {a b:Bd} (h:a.key=b.key):a=b:=by
 cases a<;>cases b<;>first | rfl | exact absurd h (by decide +kernel)
structure YP where
 p:RP
 n:Nat
 fb:Bool
 fl:Bool
 fk:Bool
structure YP.Ok (q:YP):Prop where
 ok:q.p.Ok
 n9:q.n <= 9
structure YA where
 y:Addr
 ft:Addr
 sa:SA
 z:HA
 zt:TA'
 sl:Addr
 qu:Addr
 hp:Addr
structure YS where
 m:Mem
 rs:Bool->List Wr
 un:List Int
 tk:List Int
 bd:Bool->Bd
 qt:Bool->Bool
 hs:List PyData
def YS.zero:YS:=⟨Mem.zero,λ_=>[],[],[],λ_=>.up,λ_=>true,[]⟩
def yF (a:YA) (q:YP):List (Str × V):=putF "happened" (.ref a.hp) (putF "quiet" (.ref a.qu) (putF "sleepers" (.ref a.sl) (putF "look_sees" (.bl q.fk) (putF "lie_fences" (.bl q.fl) (putF "bell_fences" (.bl q.fb) (putF "heart" (.ref a.zt.h) (putF "hand" (.ref a.z.h) (putF "shelf" (.ref a.sa.x) (putF "faults" (.ref a.ft) (putF "rounds" (.int q.p.R) (putF "size" (.int q.p.s) [])))))))))))
section
variable {a:YA} {q:YP}
theorem yF_size:(yF a q).lookup ("size":Str)=some (.int q.p.s):=by unfold yF;repeat (first | rw [lookup_putF,if_pos rfl] | rw [lookup_putF,if_neg (by decide +kernel)]);try rfl
theorem yF_rounds:(yF a q).lookup ("rounds":Str)=some (.int q.p.R):=by unfold yF;repeat (first | rw [lookup_putF,if_pos rfl] | rw [lookup_putF,if_neg (by decide +kernel)]);try rfl
theorem yF_shelf:(yF a q).lookup ("shelf":Str)=some (.ref a.sa.x):=by unfold yF;repeat (first | rw [lookup_putF,if_pos rfl] | rw [lookup_putF,if_neg (by decide +kernel)]);try rfl
theorem yF_hand:(yF a q).lookup ("hand":Str)=some (.ref a.z.h):=by unfold yF;repeat (first | rw [lookup_putF,if_pos rfl] | rw [lookup_putF,if_neg (by decide +kernel)]);try rfl
theorem yF_heart:(yF a q).lookup ("heart":Str)=some (.ref a.zt.h):=by unfold yF;repeat (first | rw [lookup_putF,if_pos rfl] | rw [lookup_putF,if_neg (by decide +kernel)]);try rfl
theorem yF_sleepers:(yF a q).lookup ("sleepers":Str)=some (.ref a.sl):=by unfold yF;repeat (first | rw [lookup_putF,if_pos rfl] | rw [lookup_putF,if_neg (by decide +kernel)]);try rfl
theorem yF_quiet:(yF a q).lookup ("quiet":Str)=some (.ref a.qu):=by unfold yF;repeat (first | rw [lookup_putF,if_pos rfl] | rw [lookup_putF,if_neg (by decide +kernel)]);try rfl
theorem yF_happened:(yF a q).lookup ("happened":Str)=some (.ref a.hp):=by unfold yF;repeat (first | rw [lookup_putF,if_pos rfl] | rw [lookup_putF,if_neg (by decide +kernel)]);try rfl
theorem yF_no {f:Str} (h:f ∉ (["size","rounds","faults","shelf","hand","heart","bell_fences","lie_fences","look_sees","sleepers","quiet","happened"]:List Str)):(yF a q).lookup f=none:=by
 simp only [List.mem_cons,List.not_mem_nil,or_false,not_or] at h
 obtain ⟨h1,h2,h3,h4,h5,h6,h7,h8,h9,h10,h11,h12⟩:=h
 unfold yF
 rw [lookup_putF,if_neg h12,lookup_putF,if_neg h11,lookup_putF,if_neg h10,lookup_putF,if_neg h9,lookup_putF,if_neg h8,lookup_putF,if_neg h7,lookup_putF,if_neg h6,lookup_putF,if_neg h5,lookup_putF,if_neg h4,lookup_putF,if_neg h3,lookup_putF,if_neg h2,lookup_putF,if_neg h1]
 rfl
end
def YA.lists (a:YA) (c:Addr):Prop:=c=a.sl\/c=a.qu\/c=a.hp
def YA.own (a:YA) (c:Addr):Prop:=c=a.y\/own5 a.z a.zt a.sa c\/a.lists c
structure Yn (w:World) (CY CH CT CR CS:Addr) (H:Hp) (a:YA) (q:YP) (S:YS):Prop where
 ob:∃ dx,H a.y=some (.ins CY dx (yF a q))
 x:X5 w CH CT CR CS H a.z a.zt a.sa q.p q.n S.m S.rs S.un S.tk
 sl:H a.sl=some (.lst [.str (S.bd false).key,.str (S.bd true).key])
 qu:H a.qu=some (.lst [.bl (S.qt false),.bl (S.qt true)])
 hp:∃ ts,H a.hp=some (.lst ts)/\DVs H S.hs ts
 fl:∀ d∈S.hs,flD d=true
 d1:∀ c,a.lists c->¬ own5 a.z a.zt a.sa c
 d2:a.sl≠a.qu/\a.sl≠a.hp/\a.qu≠a.hp
 d3:¬ own5 a.z a.zt a.sa a.y
theorem DVs.fl {H H':Hp} (ht:∀ b vs,H b=some (.tup vs)->H' b=some (.tup vs)):∀ {ds:List PyData} {vs:List V},(∀ d∈ds,flD d=true)->DVs H ds vs->DVs H' ds vs
 | [],_,_,h=>h
 | d :: ds,_,hf,⟨v,r,e,h1,h2⟩=>⟨v,r,e,DV.fl ht (hf d List.mem_cons_self) h1,DVs.fl ht (λx hx=>hf x (List.mem_cons_of_mem _ hx)) h2⟩
section
variable {w:World} {CY CH CT CR CS:Addr} {H H':Hp} {a:YA} {q:YP} {S:YS}
theorem Yn.keep (Y:Yn w CY CH CT CR CS H a q S) (k:∀ c o,a.own c->H c=some o->H' c=some o) (ht:∀ b vs,H b=some (.tup vs)->H' b=some (.tup vs)):Yn w CY CH CT CR CS H' a q S:=by
 obtain ⟨dx,hx⟩:=Y.ob
 obtain ⟨ts,h1,h2⟩:=Y.hp
 exact ⟨⟨dx,k _ _ (.inl rfl) hx⟩,Y.x.keep (λc o h=>k c o (.inr (.inl h))) ht,k _ _ (.inr (.inr (.inl rfl))) Y.sl,k _ _ (.inr (.inr (.inr (.inl rfl)))) Y.qu,⟨ts,k _ _ (.inr (.inr (.inr (.inr rfl)))) h1,DVs.fl ht Y.fl h2⟩,Y.fl,Y.d1,Y.d2,Y.d3⟩
theorem Yn.same (Y:Yn w CY CH CT CR CS H a q S) (s:Same H H'):Yn w CY CH CT CR CS H' a q S:=Y.keep (λc o _=>s c o) λb vs=>s b _
theorem Yn.list (Y:Yn w CY CH CT CR CS H a q S) {c:Addr} (h:a.lists c):∃ ys,H c=some (.lst ys):=by
 rcases h with rfl | rfl | rfl
 · exact ⟨_,Y.sl⟩
 · exact ⟨_,Y.qu⟩
 · obtain ⟨ts,e,_⟩:=Y.hp;exact ⟨_,e⟩
theorem Yn.there (Y:Yn w CY CH CT CR CS H a q S) {c:Addr} (h:a.own c):∃ o,H c=some o/\∀ vs,o≠.tup vs:=by
 rcases h with rfl | h | h
 · obtain ⟨dx,e⟩:=Y.ob;exact ⟨_,e,λ_ z=>by cases z⟩
 · exact Y.x.there h
 · obtain ⟨ys,e⟩:=Y.list h;exact ⟨_,e,λ_ z=>by cases z⟩
theorem Yn.tups (Y:Yn w CY CH CT CR CS H a q S) {xs:List Addr} (kp:Kp xs H H') (h:∀ c∈xs,a.own c):∀ b vs,H b=some (.tup vs)->H' b=some (.tup vs):=λb vs e=>kp b _ (λmm=>by
 obtain ⟨o,e',nn⟩:=Y.there (h b mm)
 rw [e'] at e;exact nn vs (Option.some.inj e)) e
end
inductive Dd where
 | ask (wt:Int) | collect | take | answer (nm wt:Int) | bell (b:Bool) | lie (b:Bool) | look (b:Bool) | drain (b:Bool)
def Dd.vs:Dd->List V
 | .ask wt=>[.str "ask",.int wt]
 | .collect=>[.str "collect"]
 | .take=>[.str "take"]
 | .answer nm wt=>[.str "answer",.int nm,.int wt]
 | .bell b=>[.str "bell",.int (sdI b)]
 | .lie b=>[.str "lie",.int (sdI b)]
 | .look b=>[.str "look",.int (sdI b)]
 | .drain b=>[.str "drain",.int (sdI b)]
def Dd.dat:Dd->PyData
 | .ask wt=>.tuple [.str "ask",.int wt]
 | .collect=>.tuple [.str "collect"]
 | .take=>.tuple [.str "take"]
 | .answer nm wt=>.tuple [.str "answer",.int nm,.int wt]
 | .bell b=>.tuple [.str "bell",.int (sdI b)]
 | .lie b=>.tuple [.str "lie",.int (sdI b)]
 | .look b=>.tuple [.str "look",.int (sdI b)]
 | .drain b=>.tuple [.str "drain",.int (sdI b)]
def Dd.Ok:Dd->Prop
 | .ask wt=>-1000000000 <= wt/\wt <= 1000000000
 | .answer _ wt=>-1000000000 <= wt/\wt <= 1000000000
 | _=>True
inductive Rf where
 | deed | full | name | task
def Dd.chk (q:YP) (S:YS):Dd->Option Rf
 | .drain b=>if S.rs b=[] then some .deed else none
 | .look b=>if S.bd b=.lies then none else some .deed
 | .bell b=>if S.bd b=.up then none else some .deed
 | .lie b=>if S.bd b=.up then none else some .deed
 | .collect=>if S.bd false=.up then none else some .deed
 | .take=>if S.bd true=.up then none else some .deed
 | .ask _=>if S.bd false=.up then (if aheadT q.p S.m (S.rs false) .asked .taken=q.p.s then some .full else match least q.n S.un with | none=>some .name | some _=>none) else some .deed
 | .answer nm _=>if S.bd true=.up then (if S.tk.contains nm=false then some .task else if aheadT q.p S.m (S.rs true) .answered .handed=q.p.s then some .full else none) else some .deed
theorem Dd.dv {H:Hp} {t:Addr} (d:Dd) (h:H t=some (.tup d.vs)):DV H d.dat (.ref t):=by
 cases d<;>first
   | exact ⟨t,_,rfl,h,_,_,rfl,rfl,rfl⟩
   | exact ⟨t,_,rfl,h,_,_,rfl,rfl,_,_,rfl,rfl,rfl⟩
   | exact ⟨t,_,rfl,h,_,_,rfl,rfl,_,_,rfl,rfl,_,_,rfl,rfl,rfl⟩
end L2
namespace L2
open PySem PySem.Spec PyProof.Rows
section
variable {K:PySem.W.Frag}
theorem kx_ii:PySem.W.kitOne K (.type "int") (.type "int")=some true:=by rfl
theorem kx_ib:PySem.W.kitOne K (.type "int") (.type "bool")=some false:=by rfl
theorem kx_ss:PySem.W.kitOne K (.type "str") (.type "str")=some true:=by rfl
theorem kx_st:PySem.W.kitOne K (.type "str") (.type "tuple")=some false:=by rfl
end
end L2
namespace L2
open PySem PySem.Spec PyProof.Rows
def partOk (x:Int) (k:Str):Bool:=if k="worth" then decide (-1000000000 <= x) && decide (x <= 1000000000) else if k="side" then decide (x=0) || decide (x=1) else true
def Dd.word:Dd->Str
 | .ask _=>"ask"
 | .collect=>"collect"
 | .take=>"take"
 | .answer _ _=>"answer"
 | .bell _=>"bell"
 | .lie _=>"lie"
 | .look _=>"look"
 | .drain _=>"drain"
def Dd.args:Dd->List Int
 | .ask wt=>[wt]
 | .collect=>[]
 | .take=>[]
 | .answer nm wt=>[nm,wt]
 | .bell b=>[sdI b]
 | .lie b=>[sdI b]
 | .look b=>[sdI b]
 | .drain b=>[sdI b]
def Dd.ks:Dd->List Str
 | .ask _=>["worth"]
 | .collect=>[]
 | .take=>[]
 | .answer _ _=>["name","worth"]
 | _=>["side"]
def Dd.side:Dd->Bool
 | .ask _=>false
 | .collect=>false
 | .take=>true
 | .answer _ _=>true
 | .bell b=>b
 | .lie b=>b
 | .look b=>b
 | .drain b=>b
theorem Dd.vs_eq (x:Dd):x.vs=.str x.word :: x.args.map V.int:=by cases x<;>rfl
theorem Dd.len (x:Dd):x.args.length=x.ks.length/\x.args.length <= 2:=by cases x<;>exact ⟨rfl,by simp [Dd.args]⟩
theorem sdI_part (b:Bool):partOk (sdI b) "side"=true:=by cases b<;>decide +kernel
theorem Dd.part {x:Dd} (h:x.Ok):∀ (i:Nat) (y:Int) (k:Str),x.args[i]?=some y->x.ks[i]?=some k->partOk y k=true:=by
 intro i y k hy hk
 have wk:∀ {wt:Int},(-1000000000 <= wt/\wt <= 1000000000)->partOk wt "worth"=true:=λ{wt} h=>by
   unfold partOk
   rw [if_pos rfl,decide_eq_true h.1,decide_eq_true h.2];rfl
 have nmk:∀ {nm:Int},partOk nm "name"=true:=λ{nm}=>by
   unfold partOk
   rw [if_neg (by decide +kernel),if_neg (by decide +kernel)]
 cases x with
 | ask wt =>
   match i,hy,hk with
   | 0,hy,hk=>cases hy;cases hk;exact wk h
   | _+1,hy,_=>cases hy
 | collect=>cases hy
 | take=>cases hy
 | answer nm wt =>
   match i,hy,hk with
   | 0,hy,hk=>cases hy;cases hk;exact nmk
   | 1,hy,hk=>cases hy;cases hk;exact wk h
   | _+2,hy,_=>cases hy
 | bell b =>
   match i,hy,hk with
   | 0,hy,hk=>cases hy;cases hk;exact sdI_part b
   | _+1,hy,_=>cases hy
 | lie b =>
   match i,hy,hk with
   | 0,hy,hk=>cases hy;cases hk;exact sdI_part b
   | _+1,hy,_=>cases hy
 | look b =>
   match i,hy,hk with
   | 0,hy,hk=>cases hy;cases hk;exact sdI_part b
   | _+1,hy,_=>cases hy
 | drain b =>
   match i,hy,hk with
   | 0,hy,hk=>cases hy;cases hk;exact sdI_part b
   | _+1,hy,_=>cases hy
end L2
namespace L2
open PySem PySem.Spec PyProof.Rows
theorem cutV_fromY (xs:List V) (k:Nat):cutV xs (some (k:Int)) none=xs.drop k:=by
 unfold cutV
 rw [HT.sIx_nat,show HT.sIx xs.length xs.length none=xs.length from rfl]
 by_cases h:k <= xs.length
 · rw [Nat.min_eq_left h,List.take_of_length_le (by rw [List.length_drop];exact Nat.le_refl _)]
 · rw [Nat.min_eq_right (by omega),List.drop_of_length_le (Nat.le_refl _),List.drop_of_length_le (by omega),List.take_nil]
end L2
namespace L2
theorem Dd.grp (x:Dd):((x.word="ask"\/x.word="collect")/\x.side=false)\/((x.word="take"\/x.word="answer")/\x.side=true)\/((x.word="bell"\/x.word="lie"\/x.word="look"\/x.word="drain")/\x.args=[sdI x.side]):=by
 cases x
 · exact .inl ⟨.inl rfl,rfl⟩
 · exact .inl ⟨.inr rfl,rfl⟩
 · exact .inr (.inl ⟨.inl rfl,rfl⟩)
 · exact .inr (.inl ⟨.inr rfl,rfl⟩)
 · exact .inr (.inr ⟨.inl rfl,rfl⟩)
 · exact .inr (.inr ⟨.inr (.inl rfl),rfl⟩)
 · exact .inr (.inr ⟨.inr (.inr (.inl rfl)),rfl⟩)
 · exact .inr (.inr ⟨.inr (.inr (.inr rfl)),rfl⟩)
end L2
namespace L2
open PySem
def Dd.need:Dd->Bd
 | .look _=>.lies
 | _=>.up
theorem Dd.chk_bed {q:YP} {S:YS} {x:Dd} (hd:∀ b,x≠.drain b) (h:S.bd x.side≠x.need):x.chk q S=some .deed:=by
 cases x
 · exact if_neg h
 · exact if_neg h
 · exact if_neg h
 · exact if_neg h
 · exact if_neg h
 · exact if_neg h
 · exact if_neg h
 · exact absurd rfl (hd _)
theorem Dd.word_drain (x:Dd):x.word="drain" ↔ ∃ b,x=.drain b:=by
 constructor
 · intro h
   cases x with
   | drain b=>exact ⟨b,rfl⟩
   | ask wt=>exact absurd (show ("ask":Str)="drain" from h) (by decide +kernel)
   | collect=>exact absurd (show ("collect":Str)="drain" from h) (by decide +kernel)
   | take=>exact absurd (show ("take":Str)="drain" from h) (by decide +kernel)
   | answer nm wt=>exact absurd (show ("answer":Str)="drain" from h) (by decide +kernel)
   | bell b=>exact absurd (show ("bell":Str)="drain" from h) (by decide +kernel)
   | lie b=>exact absurd (show ("lie":Str)="drain" from h) (by decide +kernel)
   | look b=>exact absurd (show ("look":Str)="drain" from h) (by decide +kernel)
 · rintro ⟨b,rfl⟩;rfl
theorem Dd.word_look (x:Dd):(x.word="look"/\x.need=.lies/\∃ b,x=.look b)\/(x.word≠"look"/\x.need=.up):=by
 cases x with
 | look b=>exact .inl ⟨rfl,rfl,b,rfl⟩
 | ask wt=>exact .inr ⟨show ¬ ("ask":Str)="look" by decide +kernel,rfl⟩
 | collect=>exact .inr ⟨show ¬ ("collect":Str)="look" by decide +kernel,rfl⟩
 | take=>exact .inr ⟨show ¬ ("take":Str)="look" by decide +kernel,rfl⟩
 | answer nm wt=>exact .inr ⟨show ¬ ("answer":Str)="look" by decide +kernel,rfl⟩
 | bell b=>exact .inr ⟨show ¬ ("bell":Str)="look" by decide +kernel,rfl⟩
 | lie b=>exact .inr ⟨show ¬ ("lie":Str)="look" by decide +kernel,rfl⟩
 | drain b=>exact .inr ⟨show ¬ ("drain":Str)="look" by decide +kernel,rfl⟩
theorem Dd.word_aa (x:Dd):(∃ wt,x=.ask wt)\/(∃ nm wt,x=.answer nm wt)\/(x.word≠"ask"/\x.word≠"answer"/\∀ (q:YP) (S:YS),(∀ b,x≠.drain b)->S.bd x.side=x.need->x.chk q S=none):=by
 cases x with
 | ask wt=>exact .inl ⟨_,rfl⟩
 | answer nm wt=>exact .inr (.inl ⟨_,_,rfl⟩)
 | collect=>exact .inr (.inr ⟨show ¬ ("collect":Str)="ask" by decide +kernel,show ¬ ("collect":Str)="answer" by decide +kernel,λq S _ h=>if_pos h⟩)
 | take=>exact .inr (.inr ⟨show ¬ ("take":Str)="ask" by decide +kernel,show ¬ ("take":Str)="answer" by decide +kernel,λq S _ h=>if_pos h⟩)
 | bell b=>exact .inr (.inr ⟨show ¬ ("bell":Str)="ask" by decide +kernel,show ¬ ("bell":Str)="answer" by decide +kernel,λq S _ h=>if_pos h⟩)
 | lie b=>exact .inr (.inr ⟨show ¬ ("lie":Str)="ask" by decide +kernel,show ¬ ("lie":Str)="answer" by decide +kernel,λq S _ h=>if_pos h⟩)
 | look b=>exact .inr (.inr ⟨show ¬ ("look":Str)="ask" by decide +kernel,show ¬ ("look":Str)="answer" by decide +kernel,λq S _ h=>if_pos h⟩)
 | drain b=>exact .inr (.inr ⟨show ¬ ("drain":Str)="ask" by decide +kernel,show ¬ ("drain":Str)="answer" by decide +kernel,λq S h _=>absurd rfl (h b)⟩)
theorem bd_ne {a b:Bd} (h:a≠b):V.str a.key≠V.str b.key:=λy=>h (bd_inj (by injection y))
end L2
namespace L2
open PySem PySem.Spec PyProof.Rows
theorem call_isinstO {X:Cx}:CallR X (.builtin "isinstance") (λxs H Q=>∃ x C t b,xs=[x,V.ref C]/\TyOf X.K H x t/\PySem.W.kitOne X.K t (.ref C)=some b/\Q (.bl b) H):=by
 intro pins s σ H xs us Q I r h
 obtain ⟨x,C,t,b,rfl,ty,e,q⟩:=h
 obtain ⟨u,w',rfl,ru,rw⟩:=vals2 r
 cases rw
 exact isinst_ok I ru ty e λtk=>⟨.bl b,H,I.tok _,rfl,q⟩
end L2

namespace L2
open PySem PySem.Spec PyProof.Rows
def txtD:PyData->Str
 | .str t=>t
 | .tuple [.str t,.int i]=>Txt.join " " [t,toString i]
 | _=>""
inductive Ck where
 | c (k:Cn)
 | p (g:Bool) (i:Int)
def Ck.key:Ck->PyData
 | .c k=>.str k.key
 | .p g i=>pk g i
def ckAll:List Ck:=[.p true 0,.p true 1,.p true 2,.p true 3,.p true 4,.p true 5,.p true 6,.p true 7,.c .answered,.p false 0,.p false 1,.p false 2,.p false 3,.p false 4,.p false 5,.p false 6,.p false 7,.c .asked,.c .hs,.c .handed,.c .ts,.c .taken]
instance (a b:Str):Decidable (ltS a b):=inferInstanceAs (Decidable (a.cps.toList < b.cps.toList))
theorem ck_sorted:(ckAll.map λc=>txtD c.key).Pairwise ltS:=by decide +kernel
theorem ck_all:∀ k∈allKeys,∃ c∈ckAll,c.key=k:=by
 intro k hk
 simp only [allKeys,List.mem_cons,List.not_mem_nil,or_false] at hk
 rcases hk with rfl | rfl | rfl | rfl | rfl | rfl | rfl | rfl | rfl | rfl | rfl | rfl | rfl | rfl | rfl | rfl | rfl | rfl | rfl | rfl | rfl | rfl
 · exact ⟨.c .asked,by simp [ckAll],rfl⟩
 · exact ⟨.c .taken,by simp [ckAll],rfl⟩
 · exact ⟨.c .answered,by simp [ckAll],rfl⟩
 · exact ⟨.c .handed,by simp [ckAll],rfl⟩
 · exact ⟨.c .hs,by simp [ckAll],rfl⟩
 · exact ⟨.c .ts,by simp [ckAll],rfl⟩
 · exact ⟨.p false 0,by simp [ckAll],rfl⟩
 · exact ⟨.p false 1,by simp [ckAll],rfl⟩
 · exact ⟨.p false 2,by simp [ckAll],rfl⟩
 · exact ⟨.p false 3,by simp [ckAll],rfl⟩
 · exact ⟨.p false 4,by simp [ckAll],rfl⟩
 · exact ⟨.p false 5,by simp [ckAll],rfl⟩
 · exact ⟨.p false 6,by simp [ckAll],rfl⟩
 · exact ⟨.p false 7,by simp [ckAll],rfl⟩
 · exact ⟨.p true 0,by simp [ckAll],rfl⟩
 · exact ⟨.p true 1,by simp [ckAll],rfl⟩
 · exact ⟨.p true 2,by simp [ckAll],rfl⟩
 · exact ⟨.p true 3,by simp [ckAll],rfl⟩
 · exact ⟨.p true 4,by simp [ckAll],rfl⟩
 · exact ⟨.p true 5,by simp [ckAll],rfl⟩
 · exact ⟨.p true 6,by simp [ckAll],rfl⟩
 · exact ⟨.p true 7,by simp [ckAll],rfl⟩
def Mem.wd (m:Mem):Ck->Option PyData
 | .c k=>if m.c k=0 then none else some (.int (m.c k))
 | .p g i=>(m.p g i).map λnw=>.tuple [.int nw.1,.int nw.2]
def cellsD (m:Mem):List (PyData × PyData):=ckAll.filterMap λc=>(m.wd c).map λd=>(c.key,d)
def nzY (p:PyData × V):Bool:=decide (p.2≠.int 0)
theorem lt_irr (a:Str):¬ ltS a a:=λh=>List.lt_irrefl _ h
theorem cells_lt (m:Mem):(cellsD m).Pairwise λa b=>ltS (txtD a.1) (txtD b.1):=by
 unfold cellsD
 have h:=ck_sorted
 rw [List.pairwise_map] at h
 rw [List.pairwise_filterMap]
 refine List.Pairwise.imp ?_ h
 intro a b hab x hx y hy
 obtain ⟨d1,_,rfl⟩:=Option.map_eq_some_iff.mp hx
 obtain ⟨d2,_,rfl⟩:=Option.map_eq_some_iff.mp hy
 exact hab
theorem look_of {M:List (PyData × V)} (hn:(M.map (·.1)).Nodup) (hk:∀ q∈M,MX.kd q.1=true) {k:PyData} {v:V} (h:(k,v)∈M):lookD M k=some v:=by
 induction M with
 | nil=>cases h
 | cons q M ih =>
   unfold lookD
   rw [List.find?_cons]
   rw [List.map_cons,List.nodup_cons] at hn
   rcases List.mem_cons.mp h with e | e
   · rw [← e]
     rw [show PyData.eqv k k=true from eqv_self (by have:=hk q List.mem_cons_self;rw [← e] at this;exact this)]
     rfl
   · have hne:PyData.eqv q.1 k=false:=by
       cases z:PyData.eqv q.1 k with
       | false=>rfl
       | true =>
         have:=(MX.eqv_iff _ _ (hk q List.mem_cons_self) (hk (k,v) (List.mem_cons_of_mem _ e))).mp z
         exact absurd (by rw [this];exact List.mem_map.mpr ⟨(k,v),e,rfl⟩) hn.1
     rw [hne]
     exact ih hn.2 (λq hq=>hk q (List.mem_cons_of_mem _ hq)) e
theorem mem_of_look {M:List (PyData × V)} (hk:∀ q∈M,MX.kd q.1=true) {k:PyData} (hkk:MX.kd k=true) {v:V} (h:lookD M k=some v):(k,v)∈M:=by
 unfold lookD at h
 obtain ⟨q,hq,rfl⟩:=Option.map_eq_some_iff.mp h
 have h1:=List.find?_some hq
 have h2:=List.mem_of_find?_eq_some hq
 have:=(MX.eqv_iff _ _ (hk q h2) hkk).mp h1
 rw [← this]
 exact h2
theorem wd_of {H:Hp} {M:List (PyData × V)} {m:Mem} (R:MemR H M m) (hn:(M.map (·.1)).Nodup) (c:Ck):(m.wd c=none/\∀ v,(c.key,v)∈M->v=.int 0)\/∃ d v,m.wd c=some d/\(c.key,v)∈M/\v≠.int 0/\DV H d v:=by
 have hk:∀ q∈M,MX.kd q.1=true:=R.kk
 cases c with
 | c k =>
   have hc:=R.c k
   by_cases h0:m.c k=0
   · refine .inl ⟨if_pos h0,λv hv=>?_⟩
     rw [show lookD M (.str k.key)=some v from look_of hn hk hv] at hc
     rw [h0] at hc
     exact hc
   · refine .inr ⟨.int (m.c k),.int (m.c k),if_neg h0,?_,λy=>h0 (by injection y),rfl⟩
     cases hl:lookD M (.str k.key) with
     | none =>
       rw [hl] at hc
       have:V.int 0=V.int (m.c k):=hc
       exact absurd (by injection this with this;exact this.symm) h0
     | some v =>
       rw [hl] at hc
       have:v=.int (m.c k):=hc
       rw [← this]
       exact mem_of_look hk (cn_kd k) hl
 | p g i =>
   rcases R.p g i with ⟨a,b⟩ | ⟨nm,wt,v,a,b,d⟩
   · refine .inl ⟨by show (m.p g i).map _=none;rw [a];rfl,λv hv=>?_⟩
     rw [show lookD M (pk g i)=some v from look_of hn hk hv] at b
     cases b
   · refine .inr ⟨.tuple [.int nm,.int wt],v,by show (m.p g i).map _=_;rw [a];rfl,mem_of_look hk (pk_kd g i) b,λy=>?_,d⟩
     rw [y] at d
     obtain ⟨_,_,e,_⟩:=d
     cases e
theorem cells_one {H:Hp} {M qs:List (PyData × V)} {m:Mem} (R:MemR H M m) (hn:(M.map (·.1)).Nodup) (hp:qs.Perm (M.filter nzY)) (hs:qs.Pairwise λa b=>leS (txtD a.1) (txtD b.1)) :
   Paired (λ(kv:PyData × V) (p:PyData × PyData)=>kv.1=p.1/\DV H p.2 kv.2) qs (cellsD m):=by
 have hqn:(qs.map (·.1)).Nodup:=by
   have h1:((M.filter nzY).map (·.1)).Nodup:=hn.sublist ((List.filter_sublist).map _)
   exact (hp.map _).nodup_iff.mpr h1
 have hcl:=cells_lt m
 have hcn:((cellsD m).map (·.1)).Nodup:=by
   unfold List.Nodup
   rw [List.pairwise_map]
   exact List.Pairwise.imp (λ{a b} (h:ltS (txtD a.1) (txtD b.1)) (e:a.1=b.1)=>lt_irr (txtD b.1) (by rw [e] at h;exact h)) hcl
 have mem1:∀ k,k∈qs.map (·.1)->k∈(cellsD m).map (·.1):=λk hk=>by
   obtain ⟨⟨k',v⟩,hq,rfl⟩:=List.mem_map.mp hk
   have hm:=List.mem_filter.mp (hp.mem_iff.mp hq)
   obtain ⟨c,hc,ek⟩:=ck_all _ (R.ks _ hm.1)
   rcases wd_of R hn c with ⟨_,z⟩ | ⟨d,v',e,_,_,_⟩
   · rw [ek] at z
     have:=z v hm.1
     rw [this] at hm
     exact absurd hm.2 (by unfold nzY;simp)
   · exact List.mem_map.mpr ⟨(c.key,d),List.mem_filterMap.mpr ⟨c,hc,by rw [e];rfl⟩,ek⟩
 have mem2:∀ p∈cellsD m,∃ v,(p.1,v)∈M.filter nzY/\DV H p.2 v:=λp hp'=>by
   obtain ⟨c,hc,e⟩:=List.mem_filterMap.mp hp'
   obtain ⟨d,hd,rfl⟩:=Option.map_eq_some_iff.mp e
   rcases wd_of R hn c with ⟨z,_⟩ | ⟨d',v,e',hv,nv,dv⟩
   · rw [z] at hd;cases hd
   · rw [hd] at e';cases e'
     exact ⟨v,List.mem_filter.mpr ⟨hv,decide_eq_true nv⟩,dv⟩
 have pm:(qs.map (·.1)).Perm ((cellsD m).map (·.1)):=by
   rw [List.perm_ext_iff_of_nodup hqn hcn]
   intro k
   refine ⟨mem1 k,λhk=>?_⟩
   obtain ⟨p,hp',rfl⟩:=List.mem_map.mp hk
   obtain ⟨v,hv,_⟩:=mem2 p hp'
   exact List.mem_map.mpr ⟨(p.1,v),hp.mem_iff.mpr hv,rfl⟩
 have s1:(qs.map (·.1)).Pairwise λa b=>leS (txtD a) (txtD b):=by rw [List.pairwise_map];exact hs
 have s2:((cellsD m).map (·.1)).Pairwise λa b=>ltS (txtD a) (txtD b):=by rw [List.pairwise_map];exact hcl
 have inj:∀ a∈(cellsD m).map (·.1),∀ b∈(cellsD m).map (·.1),txtD a=txtD b->a=b:=by
   intro a ha b hb e
   obtain ⟨i,hi,rfl⟩:=List.getElem_of_mem ha
   obtain ⟨j,hj,rfl⟩:=List.getElem_of_mem hb
   rw [List.pairwise_iff_getElem] at s2
   rcases Nat.lt_trichotomy i j with h | h | h
   · exact absurd (s2 i j hi hj h) (by rw [e];exact lt_irr _)
   · subst h;rfl
   · exact absurd (s2 j i hj hi h) (by rw [e];exact lt_irr _)
 have eqk:qs.map (·.1)=(cellsD m).map (·.1):=by
   refine List.Perm.eq_of_pairwise (le:=λa b=>leS (txtD a) (txtD b)) ?_ s1 (List.Pairwise.imp (λh h'=>List.lt_asymm h h') s2) pm
   intro a b ha hb h1 h2
   exact inj a (pm.mem_iff.mp ha) b hb (by
     have:(txtD a).cps.toList=(txtD b).cps.toList:=List.le_antisymm (List.not_lt.mp h1) (List.not_lt.mp h2)
     cases ha':txtD a;cases hb':txtD b
     rw [ha',hb'] at this
     congr 1
     exact Array.toList_inj.mp this)
 have go:∀ {qs:List (PyData × V)} {cs:List (PyData × PyData)},qs.map (·.1)=cs.map (·.1)->(∀ kv∈qs,kv∈M)->(∀ p∈cs,∃ v,(p.1,v)∈M.filter nzY/\DV H p.2 v)->Paired (λ(kv:PyData × V) (p:PyData × PyData)=>kv.1=p.1/\DV H p.2 kv.2) qs cs:=by
   intro qs
   induction qs with
   | nil =>
     intro cs e _ _
     cases cs with
     | nil=>exact .nil
     | cons=>cases e
   | cons kv qs ih =>
     intro cs e h1 h2
     cases cs with
     | nil=>cases e
     | cons p cs =>
       rw [List.map_cons,List.map_cons] at e
       injection e with e1 e2
       refine .cons ⟨e1,?_⟩ (ih e2 (λx hx=>h1 x (List.mem_cons_of_mem _ hx)) λx hx=>h2 x (List.mem_cons_of_mem _ hx))
       obtain ⟨v,hv,dv⟩:=h2 p List.mem_cons_self
       have hv':=(List.mem_filter.mp hv).1
       have a1:=look_of hn R.kk hv'
       have a2:=look_of hn R.kk (show (p.1,kv.2)∈M by rw [← e1];exact h1 kv List.mem_cons_self)
       rw [a1] at a2
       cases a2
       exact dv
 exact go eqk (λkv hkv=>(List.mem_filter.mp (hp.mem_iff.mp hkv)).1) mem2
end L2

set_option maxHeartbeats 4000000
namespace My
open PySem L2
def top (i:Nat):Stmt:=PySem.Challenge.pw_askring_k19_yards_begin.main.body.getD i (.Pass ⟨0,0,0,0⟩)
abbrev s_wall:Stmt:=top 0
abbrev s_next_counter:Stmt:=top 8
abbrev s_place_of:Stmt:=top 9
abbrev s_ahead_by:Stmt:=top 10
abbrev s_rounds_with:Stmt:=top 14
abbrev s_Ring__init:Stmt:=inClass (top 15) 0
abbrev s_Ring_filled:Stmt:=inClass (top 15) 1
abbrev s_Ring_is_full:Stmt:=inClass (top 15) 2
abbrev s_Ring_place_at:Stmt:=inClass (top 15) 3
abbrev s_Ring_write_further:Stmt:=inClass (top 15) 4
abbrev s_Ring_lay:Stmt:=inClass (top 15) 5
abbrev s_Ring_fetch:Stmt:=inClass (top 15) 6
abbrev s_Hand__init:Stmt:=inClass (top 17) 0
abbrev s_Hand_become:Stmt:=inClass (top 17) 1
abbrev s_Hand_least_free:Stmt:=inClass (top 17) 2
abbrev s_Hand_check_ask:Stmt:=inClass (top 17) 3
abbrev s_Hand_ask:Stmt:=inClass (top 17) 4
abbrev s_Hand_collect:Stmt:=inClass (top 17) 5
abbrev s_Hand_under_way:Stmt:=inClass (top 17) 6
abbrev s_Hand_something_waits:Stmt:=inClass (top 17) 7
abbrev s_Heart__init:Stmt:=inClass (top 19) 0
abbrev s_Heart_become:Stmt:=inClass (top 19) 1
abbrev s_Heart_take:Stmt:=inClass (top 19) 2
abbrev s_Heart_check_answer:Stmt:=inClass (top 19) 3
abbrev s_Heart_answer:Stmt:=inClass (top 19) 4
abbrev s_Heart_tasks:Stmt:=inClass (top 19) 5
abbrev s_Heart_something_waits:Stmt:=inClass (top 19) 6
abbrev s_Store__init:Stmt:=inClass (top 21) 0
abbrev s_Store_become:Stmt:=inClass (top 21) 1
abbrev s_Store_write:Stmt:=inClass (top 21) 2
abbrev s_Store_drain:Stmt:=inClass (top 21) 3
abbrev s_Store_fence:Stmt:=inClass (top 21) 4
abbrev s_Store_read:Stmt:=inClass (top 21) 5
abbrev s_Store_memory:Stmt:=inClass (top 21) 6
abbrev s_Store_waits:Stmt:=inClass (top 21) 7
abbrev s_Store_cells:Stmt:=inClass (top 21) 8
abbrev s_is_whole:Stmt:=top 26
abbrev s_is_part:Stmt:=top 27
abbrev s_is_deed:Stmt:=top 28
abbrev s_side_of:Stmt:=top 29
abbrev s_text_of:Stmt:=top 30
abbrev s_Yard__init:Stmt:=inClass (top 31) 0
abbrev s_Yard_deed:Stmt:=inClass (top 31) 1
abbrev s_Yard_can_be_done:Stmt:=inClass (top 31) 2
abbrev s_Yard_story:Stmt:=inClass (top 31) 3
abbrev s_Yard_state:Stmt:=inClass (top 31) 4
abbrev s_Yard_sleeper:Stmt:=inClass (top 31) 5
abbrev s_Yard_is_quiet:Stmt:=inClass (top 31) 6
abbrev s_Yard_made:Stmt:=inClass (top 31) 7
abbrev s_Yard_store:Stmt:=inClass (top 31) 8
abbrev s_Yard_twin:Stmt:=inClass (top 31) 9
abbrev s_Yard_become:Stmt:=inClass (top 31) 10
abbrev s_Yard_check:Stmt:=inClass (top 31) 11
abbrev s_Yard_is_allowed:Stmt:=inClass (top 31) 12
abbrev s_Yard_thinkable:Stmt:=inClass (top 31) 13
abbrev s_Yard_do_ask:Stmt:=inClass (top 31) 14
abbrev s_Yard_do_answer:Stmt:=inClass (top 31) 15
abbrev s_Yard_tell_fetched:Stmt:=inClass (top 31) 16
abbrev s_Yard_do_bell:Stmt:=inClass (top 31) 17
abbrev s_Yard_do_lie:Stmt:=inClass (top 31) 18
abbrev s_Yard_do_look:Stmt:=inClass (top 31) 19
abbrev s_Yard_something_waits:Stmt:=inClass (top 31) 20
abbrev s_law_cell_at:Stmt:=top 33
abbrev s_law_make:Stmt:=top 34
abbrev s_law_same:Stmt:=top 35
abbrev s_law_worths:Stmt:=top 36
abbrev s_law_can:Stmt:=top 37
abbrev s_law_told:Stmt:=top 38
abbrev s_law:Stmt:=top 39
theorem sc_ahead_by:FnScope ["one","other","size","rounds"] ["one","other","size","rounds"] (defScope s_ahead_by):=⟨rfl,rfl,rfl,by decide +kernel,rfl,by decide +kernel,by decide +kernel⟩
theorem sc_rounds_with:FnScope ["rounds","faults"] ["rounds","faults"] (defScope s_rounds_with):=⟨rfl,rfl,rfl,by decide +kernel,rfl,by decide +kernel,by decide +kernel⟩
theorem sc_Ring__init:FnScope ["self","store","side","words","size","rounds","faults"] ["self","store","side","words","size","rounds","faults"] (defScope s_Ring__init):=⟨rfl,rfl,rfl,by decide +kernel,rfl,by decide +kernel,by decide +kernel⟩
theorem sc_Ring_filled:FnScope ["self","laid","fetched"] ["self"] (defScope s_Ring_filled):=⟨rfl,rfl,rfl,by decide +kernel,rfl,by decide +kernel,by decide +kernel⟩
theorem sc_Ring_is_full:FnScope ["self"] ["self"] (defScope s_Ring_is_full):=⟨rfl,rfl,rfl,by decide +kernel,rfl,by decide +kernel,by decide +kernel⟩
theorem sc_Hand__init:FnScope ["self","store","size","rounds","names","faults"] ["self","store","size","rounds","names","faults"] (defScope s_Hand__init):=⟨rfl,rfl,rfl,by decide +kernel,rfl,by decide +kernel,by decide +kernel⟩
theorem sc_Hand_least_free:FnScope ["self","name"] ["self"] (defScope s_Hand_least_free):=⟨rfl,rfl,rfl,by decide +kernel,rfl,by decide +kernel,by decide +kernel⟩
theorem sc_Hand_check_ask:FnScope ["self"] ["self"] (defScope s_Hand_check_ask):=⟨rfl,rfl,rfl,by decide +kernel,rfl,by decide +kernel,by decide +kernel⟩
theorem sc_Hand_under_way:FnScope ["self"] ["self"] (defScope s_Hand_under_way):=⟨rfl,rfl,rfl,by decide +kernel,rfl,by decide +kernel,by decide +kernel⟩
theorem sc_Heart__init:FnScope ["self","store","size","rounds","faults"] ["self","store","size","rounds","faults"] (defScope s_Heart__init):=⟨rfl,rfl,rfl,by decide +kernel,rfl,by decide +kernel,by decide +kernel⟩
theorem sc_Heart_check_answer:FnScope ["self","name"] ["self","name"] (defScope s_Heart_check_answer):=⟨rfl,rfl,rfl,by decide +kernel,rfl,by decide +kernel,by decide +kernel⟩
theorem sc_Heart_tasks:FnScope ["self"] ["self"] (defScope s_Heart_tasks):=⟨rfl,rfl,rfl,by decide +kernel,rfl,by decide +kernel,by decide +kernel⟩
theorem sc_Store__init:FnScope ["self"] ["self"] (defScope s_Store__init):=⟨rfl,rfl,rfl,by decide +kernel,rfl,by decide +kernel,by decide +kernel⟩
theorem sc_Store_read:FnScope ["self","side","cell","waiting"] ["self","side","cell"] (defScope s_Store_read):=⟨rfl,rfl,rfl,by decide +kernel,rfl,by decide +kernel,by decide +kernel⟩
theorem sc_Store_memory:FnScope ["self","cell"] ["self","cell"] (defScope s_Store_memory):=⟨rfl,rfl,rfl,by decide +kernel,rfl,by decide +kernel,by decide +kernel⟩
theorem sc_Store_waits:FnScope ["self","side"] ["self","side"] (defScope s_Store_waits):=⟨rfl,rfl,rfl,by decide +kernel,rfl,by decide +kernel,by decide +kernel⟩
theorem sc_Store_cells:FnScope ["self"] ["self"] (defScope s_Store_cells):=⟨rfl,rfl,rfl,by decide +kernel,rfl,by decide +kernel,by decide +kernel⟩
theorem sc_is_whole:FnScope ["value"] ["value"] (defScope s_is_whole):=⟨rfl,rfl,rfl,by decide +kernel,rfl,by decide +kernel,by decide +kernel⟩
theorem sc_is_part:FnScope ["value","kind"] ["value","kind"] (defScope s_is_part):=⟨rfl,rfl,rfl,by decide +kernel,rfl,by decide +kernel,by decide +kernel⟩
theorem sc_is_deed:FnScope ["some","kinds"] ["some"] (defScope s_is_deed):=⟨rfl,rfl,rfl,by decide +kernel,rfl,by decide +kernel,by decide +kernel⟩
theorem sc_side_of:FnScope ["some"] ["some"] (defScope s_side_of):=⟨rfl,rfl,rfl,by decide +kernel,rfl,by decide +kernel,by decide +kernel⟩
theorem sc_text_of:FnScope ["cell"] ["cell"] (defScope s_text_of):=⟨rfl,rfl,rfl,by decide +kernel,rfl,by decide +kernel,by decide +kernel⟩
theorem sc_Yard__init:FnScope ["self","size","rounds","names","faults"] ["self","size","rounds","names","faults"] (defScope s_Yard__init):=⟨rfl,rfl,rfl,by decide +kernel,rfl,by decide +kernel,by decide +kernel⟩
theorem sc_Yard_can_be_done:FnScope ["self","worths"] ["self","worths"] (defScope s_Yard_can_be_done):=⟨rfl,rfl,rfl,by decide +kernel,rfl,by decide +kernel,by decide +kernel⟩
theorem sc_Yard_story:FnScope ["self"] ["self"] (defScope s_Yard_story):=⟨rfl,rfl,rfl,by decide +kernel,rfl,by decide +kernel,by decide +kernel⟩
theorem sc_Yard_state:FnScope ["self","cells"] ["self"] (defScope s_Yard_state):=⟨rfl,rfl,rfl,by decide +kernel,rfl,by decide +kernel,by decide +kernel⟩
theorem sc_Yard_sleeper:FnScope ["self","side"] ["self","side"] (defScope s_Yard_sleeper):=⟨rfl,rfl,rfl,by decide +kernel,rfl,by decide +kernel,by decide +kernel⟩
theorem sc_Yard_is_quiet:FnScope ["self","side"] ["self","side"] (defScope s_Yard_is_quiet):=⟨rfl,rfl,rfl,by decide +kernel,rfl,by decide +kernel,by decide +kernel⟩
theorem sc_Yard_made:FnScope ["self"] ["self"] (defScope s_Yard_made):=⟨rfl,rfl,rfl,by decide +kernel,rfl,by decide +kernel,by decide +kernel⟩
theorem sc_Yard_store:FnScope ["self"] ["self"] (defScope s_Yard_store):=⟨rfl,rfl,rfl,by decide +kernel,rfl,by decide +kernel,by decide +kernel⟩
theorem sc_Yard_check:FnScope ["self","some"] ["self","some"] (defScope s_Yard_check):=⟨rfl,rfl,rfl,by decide +kernel,rfl,by decide +kernel,by decide +kernel⟩
theorem sc_Yard_is_allowed:FnScope ["self","some"] ["self","some"] (defScope s_Yard_is_allowed):=⟨rfl,rfl,rfl,by decide +kernel,rfl,by decide +kernel,by decide +kernel⟩
theorem sc_Yard_thinkable:FnScope ["self","worths","deeds","name","word"] ["self","worths"] (defScope s_Yard_thinkable):=⟨rfl,rfl,rfl,by decide +kernel,rfl,by decide +kernel,by decide +kernel⟩
theorem sc_law_cell_at:FnScope ["script","k"] ["script","k"] (defScope s_law_cell_at):=⟨rfl,rfl,rfl,by decide +kernel,rfl,by decide +kernel,by decide +kernel⟩
theorem sc_law_make:FnScope ["cell","drawn","size","faults","bits","word"] ["cell"] (defScope s_law_make):=⟨rfl,rfl,rfl,by decide +kernel,rfl,by decide +kernel,by decide +kernel⟩
theorem sc_law_same:FnScope ["found","due","k"] ["found","due"] (defScope s_law_same):=⟨rfl,rfl,rfl,by decide +kernel,rfl,by decide +kernel,by decide +kernel⟩
theorem sc_law_worths:FnScope ["cells","found","cell","worth"] ["cells"] (defScope s_law_worths):=⟨rfl,rfl,rfl,by decide +kernel,rfl,by decide +kernel,by decide +kernel⟩
theorem sc_law_can:FnScope ["yard","worths","handed","found","due","good"] ["yard","worths"] (defScope s_law_can):=⟨rfl,rfl,rfl,by decide +kernel,rfl,by decide +kernel,by decide +kernel⟩
theorem sc_law_told:FnScope ["yard","make","rounds","story","side","store"] ["yard","make"] (defScope s_law_told):=⟨rfl,rfl,rfl,by decide +kernel,rfl,by decide +kernel,by decide +kernel⟩
theorem sc_law:FnScope ["script","makes","yards","worths","step","k"] ["script"] (defScope s_law):=⟨rfl,rfl,rfl,by decide +kernel,rfl,by decide +kernel,by decide +kernel⟩
structure Ad where
 wall:Addr
 next_counter:Addr
 place_of:Addr
 ahead_by:Addr
 rounds_with:Addr
 Ring__init:Addr
 Ring_filled:Addr
 Ring_is_full:Addr
 Ring_place_at:Addr
 Ring_write_further:Addr
 Ring_lay:Addr
 Ring_fetch:Addr
 Hand__init:Addr
 Hand_become:Addr
 Hand_least_free:Addr
 Hand_check_ask:Addr
 Hand_ask:Addr
 Hand_collect:Addr
 Hand_under_way:Addr
 Hand_something_waits:Addr
 Heart__init:Addr
 Heart_become:Addr
 Heart_take:Addr
 Heart_check_answer:Addr
 Heart_answer:Addr
 Heart_tasks:Addr
 Heart_something_waits:Addr
 Store__init:Addr
 Store_become:Addr
 Store_write:Addr
 Store_drain:Addr
 Store_fence:Addr
 Store_read:Addr
 Store_memory:Addr
 Store_waits:Addr
 Store_cells:Addr
 is_whole:Addr
 is_part:Addr
 is_deed:Addr
 side_of:Addr
 text_of:Addr
 Yard__init:Addr
 Yard_deed:Addr
 Yard_can_be_done:Addr
 Yard_story:Addr
 Yard_state:Addr
 Yard_sleeper:Addr
 Yard_is_quiet:Addr
 Yard_made:Addr
 Yard_store:Addr
 Yard_twin:Addr
 Yard_become:Addr
 Yard_check:Addr
 Yard_is_allowed:Addr
 Yard_thinkable:Addr
 Yard_do_ask:Addr
 Yard_do_answer:Addr
 Yard_tell_fetched:Addr
 Yard_do_bell:Addr
 Yard_do_lie:Addr
 Yard_do_look:Addr
 Yard_something_waits:Addr
 law_cell_at:Addr
 law_make:Addr
 law_same:Addr
 law_worths:Addr
 law_can:Addr
 law_told:Addr
 law:Addr
 Ring:Addr
 Hand:Addr
 Heart:Addr
 Store:Addr
 Yard:Addr
 RingError:Addr
 Full:Addr
 NoName:Addr
 NoTask:Addr
 NoDeed:Addr
 T_ASKS:Addr
 T_ANSWERS:Addr
 T_SLEEP_CELLS:Addr
 T_FORMS:Addr
 V_FORMS_0:Addr
 V_FORMS_1:Addr
 V_FORMS_2:Addr
 V_FORMS_3:Addr
 V_FORMS_4:Addr
 V_FORMS_5:Addr
 V_FORMS_6:Addr
 V_FORMS_7:Addr
structure Fd where
 wall:FuncData
 next_counter:FuncData
 place_of:FuncData
 ahead_by:FuncData
 rounds_with:FuncData
 Ring__init:FuncData
 Ring_filled:FuncData
 Ring_is_full:FuncData
 Ring_place_at:FuncData
 Ring_write_further:FuncData
 Ring_lay:FuncData
 Ring_fetch:FuncData
 Hand__init:FuncData
 Hand_become:FuncData
 Hand_least_free:FuncData
 Hand_check_ask:FuncData
 Hand_ask:FuncData
 Hand_collect:FuncData
 Hand_under_way:FuncData
 Hand_something_waits:FuncData
 Heart__init:FuncData
 Heart_become:FuncData
 Heart_take:FuncData
 Heart_check_answer:FuncData
 Heart_answer:FuncData
 Heart_tasks:FuncData
 Heart_something_waits:FuncData
 Store__init:FuncData
 Store_become:FuncData
 Store_write:FuncData
 Store_drain:FuncData
 Store_fence:FuncData
 Store_read:FuncData
 Store_memory:FuncData
 Store_waits:FuncData
 Store_cells:FuncData
 is_whole:FuncData
 is_part:FuncData
 is_deed:FuncData
 side_of:FuncData
 text_of:FuncData
 Yard__init:FuncData
 Yard_deed:FuncData
 Yard_can_be_done:FuncData
 Yard_story:FuncData
 Yard_state:FuncData
 Yard_sleeper:FuncData
 Yard_is_quiet:FuncData
 Yard_made:FuncData
 Yard_store:FuncData
 Yard_twin:FuncData
 Yard_become:FuncData
 Yard_check:FuncData
 Yard_is_allowed:FuncData
 Yard_thinkable:FuncData
 Yard_do_ask:FuncData
 Yard_do_answer:FuncData
 Yard_tell_fetched:FuncData
 Yard_do_bell:FuncData
 Yard_do_lie:FuncData
 Yard_do_look:FuncData
 Yard_something_waits:FuncData
 law_cell_at:FuncData
 law_make:FuncData
 law_same:FuncData
 law_worths:FuncData
 law_can:FuncData
 law_told:FuncData
 law:FuncData
structure Gs (K:PySem.W.Frag) (mg:Str->Option Value) (a:Ad) (d:Fd):Prop where
 f_wall:Fun K "_wall" "_wall" s_wall a.wall d.wall
 b_wall:Binds K d.wall ["k"] []
 m_wall:mg "_wall"=some (.ref a.wall)
 f_next_counter:Fun K "next_counter" "next_counter" s_next_counter a.next_counter d.next_counter
 b_next_counter:Binds K d.next_counter ["counter","size","rounds"] []
 m_next_counter:mg "next_counter"=some (.ref a.next_counter)
 f_place_of:Fun K "place_of" "place_of" s_place_of a.place_of d.place_of
 b_place_of:Binds K d.place_of ["counter","size"] []
 m_place_of:mg "place_of"=some (.ref a.place_of)
 f_ahead_by:Fun K "ahead_by" "ahead_by" s_ahead_by a.ahead_by d.ahead_by
 b_ahead_by:Binds K d.ahead_by ["one","other","size","rounds"] []
 m_ahead_by:mg "ahead_by"=some (.ref a.ahead_by)
 f_rounds_with:Fun K "rounds_with" "rounds_with" s_rounds_with a.rounds_with d.rounds_with
 b_rounds_with:Binds K d.rounds_with ["rounds","faults"] []
 m_rounds_with:mg "rounds_with"=some (.ref a.rounds_with)
 f_Ring__init:Fun K "__init__" "Ring.__init__" s_Ring__init a.Ring__init d.Ring__init
 b_Ring__init:Binds K d.Ring__init ["self","store","side","words","size","rounds","faults"] []
 f_Ring_filled:Fun K "filled" "Ring.filled" s_Ring_filled a.Ring_filled d.Ring_filled
 b_Ring_filled:Binds K d.Ring_filled ["self"] []
 mt_Ring_filled:Meth K a.Ring "filled" a.Ring_filled
 f_Ring_is_full:Fun K "is_full" "Ring.is_full" s_Ring_is_full a.Ring_is_full d.Ring_is_full
 b_Ring_is_full:Binds K d.Ring_is_full ["self"] []
 mt_Ring_is_full:Meth K a.Ring "is_full" a.Ring_is_full
 f_Ring_place_at:Fun K "place_at" "Ring.place_at" s_Ring_place_at a.Ring_place_at d.Ring_place_at
 b_Ring_place_at:Binds K d.Ring_place_at ["self","counter"] []
 mt_Ring_place_at:Meth K a.Ring "place_at" a.Ring_place_at
 f_Ring_write_further:Fun K "write_further" "Ring.write_further" s_Ring_write_further a.Ring_write_further d.Ring_write_further
 b_Ring_write_further:Binds K d.Ring_write_further ["self","cell","counter"] []
 mt_Ring_write_further:Meth K a.Ring "write_further" a.Ring_write_further
 f_Ring_lay:Fun K "lay" "Ring.lay" s_Ring_lay a.Ring_lay d.Ring_lay
 b_Ring_lay:Binds K d.Ring_lay ["self","name","worth"] []
 mt_Ring_lay:Meth K a.Ring "lay" a.Ring_lay
 f_Ring_fetch:Fun K "fetch" "Ring.fetch" s_Ring_fetch a.Ring_fetch d.Ring_fetch
 b_Ring_fetch:Binds K d.Ring_fetch ["self"] []
 mt_Ring_fetch:Meth K a.Ring "fetch" a.Ring_fetch
 f_Hand__init:Fun K "__init__" "Hand.__init__" s_Hand__init a.Hand__init d.Hand__init
 b_Hand__init:Binds K d.Hand__init ["self","store","size","rounds","names","faults"] []
 f_Hand_become:Fun K "become" "Hand.become" s_Hand_become a.Hand_become d.Hand_become
 b_Hand_become:Binds K d.Hand_become ["self","one"] []
 mt_Hand_become:Meth K a.Hand "become" a.Hand_become
 f_Hand_least_free:Fun K "least_free" "Hand.least_free" s_Hand_least_free a.Hand_least_free d.Hand_least_free
 b_Hand_least_free:Binds K d.Hand_least_free ["self"] []
 mt_Hand_least_free:Meth K a.Hand "least_free" a.Hand_least_free
 f_Hand_check_ask:Fun K "check_ask" "Hand.check_ask" s_Hand_check_ask a.Hand_check_ask d.Hand_check_ask
 b_Hand_check_ask:Binds K d.Hand_check_ask ["self"] []
 mt_Hand_check_ask:Meth K a.Hand "check_ask" a.Hand_check_ask
 f_Hand_ask:Fun K "ask" "Hand.ask" s_Hand_ask a.Hand_ask d.Hand_ask
 b_Hand_ask:Binds K d.Hand_ask ["self","worth"] []
 mt_Hand_ask:Meth K a.Hand "ask" a.Hand_ask
 f_Hand_collect:Fun K "collect" "Hand.collect" s_Hand_collect a.Hand_collect d.Hand_collect
 b_Hand_collect:Binds K d.Hand_collect ["self"] []
 mt_Hand_collect:Meth K a.Hand "collect" a.Hand_collect
 f_Hand_under_way:Fun K "under_way" "Hand.under_way" s_Hand_under_way a.Hand_under_way d.Hand_under_way
 b_Hand_under_way:Binds K d.Hand_under_way ["self"] []
 mt_Hand_under_way:Meth K a.Hand "under_way" a.Hand_under_way
 f_Hand_something_waits:Fun K "something_waits" "Hand.something_waits" s_Hand_something_waits a.Hand_something_waits d.Hand_something_waits
 b_Hand_something_waits:Binds K d.Hand_something_waits ["self"] []
 mt_Hand_something_waits:Meth K a.Hand "something_waits" a.Hand_something_waits
 f_Heart__init:Fun K "__init__" "Heart.__init__" s_Heart__init a.Heart__init d.Heart__init
 b_Heart__init:Binds K d.Heart__init ["self","store","size","rounds","faults"] []
 f_Heart_become:Fun K "become" "Heart.become" s_Heart_become a.Heart_become d.Heart_become
 b_Heart_become:Binds K d.Heart_become ["self","one"] []
 mt_Heart_become:Meth K a.Heart "become" a.Heart_become
 f_Heart_take:Fun K "take" "Heart.take" s_Heart_take a.Heart_take d.Heart_take
 b_Heart_take:Binds K d.Heart_take ["self"] []
 mt_Heart_take:Meth K a.Heart "take" a.Heart_take
 f_Heart_check_answer:Fun K "check_answer" "Heart.check_answer" s_Heart_check_answer a.Heart_check_answer d.Heart_check_answer
 b_Heart_check_answer:Binds K d.Heart_check_answer ["self","name"] []
 mt_Heart_check_answer:Meth K a.Heart "check_answer" a.Heart_check_answer
 f_Heart_answer:Fun K "answer" "Heart.answer" s_Heart_answer a.Heart_answer d.Heart_answer
 b_Heart_answer:Binds K d.Heart_answer ["self","name","worth"] []
 mt_Heart_answer:Meth K a.Heart "answer" a.Heart_answer
 f_Heart_tasks:Fun K "tasks" "Heart.tasks" s_Heart_tasks a.Heart_tasks d.Heart_tasks
 b_Heart_tasks:Binds K d.Heart_tasks ["self"] []
 mt_Heart_tasks:Meth K a.Heart "tasks" a.Heart_tasks
 f_Heart_something_waits:Fun K "something_waits" "Heart.something_waits" s_Heart_something_waits a.Heart_something_waits d.Heart_something_waits
 b_Heart_something_waits:Binds K d.Heart_something_waits ["self"] []
 mt_Heart_something_waits:Meth K a.Heart "something_waits" a.Heart_something_waits
 f_Store__init:Fun K "__init__" "Store.__init__" s_Store__init a.Store__init d.Store__init
 b_Store__init:Binds K d.Store__init ["self"] []
 f_Store_become:Fun K "become" "Store.become" s_Store_become a.Store_become d.Store_become
 b_Store_become:Binds K d.Store_become ["self","one"] []
 mt_Store_become:Meth K a.Store "become" a.Store_become
 f_Store_write:Fun K "write" "Store.write" s_Store_write a.Store_write d.Store_write
 b_Store_write:Binds K d.Store_write ["self","side","cell","worth"] []
 mt_Store_write:Meth K a.Store "write" a.Store_write
 f_Store_drain:Fun K "drain" "Store.drain" s_Store_drain a.Store_drain d.Store_drain
 b_Store_drain:Binds K d.Store_drain ["self","side"] []
 mt_Store_drain:Meth K a.Store "drain" a.Store_drain
 f_Store_fence:Fun K "fence" "Store.fence" s_Store_fence a.Store_fence d.Store_fence
 b_Store_fence:Binds K d.Store_fence ["self","side"] []
 mt_Store_fence:Meth K a.Store "fence" a.Store_fence
 f_Store_read:Fun K "read" "Store.read" s_Store_read a.Store_read d.Store_read
 b_Store_read:Binds K d.Store_read ["self","side","cell"] []
 mt_Store_read:Meth K a.Store "read" a.Store_read
 f_Store_memory:Fun K "memory" "Store.memory" s_Store_memory a.Store_memory d.Store_memory
 b_Store_memory:Binds K d.Store_memory ["self","cell"] []
 mt_Store_memory:Meth K a.Store "memory" a.Store_memory
 f_Store_waits:Fun K "waits" "Store.waits" s_Store_waits a.Store_waits d.Store_waits
 b_Store_waits:Binds K d.Store_waits ["self","side"] []
 mt_Store_waits:Meth K a.Store "waits" a.Store_waits
 f_Store_cells:Fun K "cells" "Store.cells" s_Store_cells a.Store_cells d.Store_cells
 b_Store_cells:Binds K d.Store_cells ["self"] []
 mt_Store_cells:Meth K a.Store "cells" a.Store_cells
 f_is_whole:Fun K "is_whole" "is_whole" s_is_whole a.is_whole d.is_whole
 b_is_whole:Binds K d.is_whole ["value"] []
 m_is_whole:mg "is_whole"=some (.ref a.is_whole)
 f_is_part:Fun K "is_part" "is_part" s_is_part a.is_part d.is_part
 b_is_part:Binds K d.is_part ["value","kind"] []
 m_is_part:mg "is_part"=some (.ref a.is_part)
 f_is_deed:Fun K "is_deed" "is_deed" s_is_deed a.is_deed d.is_deed
 b_is_deed:Binds K d.is_deed ["some"] []
 m_is_deed:mg "is_deed"=some (.ref a.is_deed)
 f_side_of:Fun K "side_of" "side_of" s_side_of a.side_of d.side_of
 b_side_of:Binds K d.side_of ["some"] []
 m_side_of:mg "side_of"=some (.ref a.side_of)
 f_text_of:Fun K "text_of" "text_of" s_text_of a.text_of d.text_of
 b_text_of:Binds K d.text_of ["cell"] []
 m_text_of:mg "text_of"=some (.ref a.text_of)
 f_Yard__init:Fun K "__init__" "Yard.__init__" s_Yard__init a.Yard__init d.Yard__init
 b_Yard__init:Binds K d.Yard__init ["self","size","rounds","names","faults"] []
 f_Yard_deed:Fun K "deed" "Yard.deed" s_Yard_deed a.Yard_deed d.Yard_deed
 b_Yard_deed:Binds K d.Yard_deed ["self","some"] []
 mt_Yard_deed:Meth K a.Yard "deed" a.Yard_deed
 f_Yard_can_be_done:Fun K "can_be_done" "Yard.can_be_done" s_Yard_can_be_done a.Yard_can_be_done d.Yard_can_be_done
 b_Yard_can_be_done:Binds K d.Yard_can_be_done ["self","worths"] []
 mt_Yard_can_be_done:Meth K a.Yard "can_be_done" a.Yard_can_be_done
 f_Yard_story:Fun K "story" "Yard.story" s_Yard_story a.Yard_story d.Yard_story
 b_Yard_story:Binds K d.Yard_story ["self"] []
 mt_Yard_story:Meth K a.Yard "story" a.Yard_story
 f_Yard_state:Fun K "state" "Yard.state" s_Yard_state a.Yard_state d.Yard_state
 b_Yard_state:Binds K d.Yard_state ["self"] []
 mt_Yard_state:Meth K a.Yard "state" a.Yard_state
 f_Yard_sleeper:Fun K "sleeper" "Yard.sleeper" s_Yard_sleeper a.Yard_sleeper d.Yard_sleeper
 b_Yard_sleeper:Binds K d.Yard_sleeper ["self","side"] []
 mt_Yard_sleeper:Meth K a.Yard "sleeper" a.Yard_sleeper
 f_Yard_is_quiet:Fun K "is_quiet" "Yard.is_quiet" s_Yard_is_quiet a.Yard_is_quiet d.Yard_is_quiet
 b_Yard_is_quiet:Binds K d.Yard_is_quiet ["self","side"] []
 mt_Yard_is_quiet:Meth K a.Yard "is_quiet" a.Yard_is_quiet
 f_Yard_made:Fun K "made" "Yard.made" s_Yard_made a.Yard_made d.Yard_made
 b_Yard_made:Binds K d.Yard_made ["self"] []
 mt_Yard_made:Meth K a.Yard "made" a.Yard_made
 f_Yard_store:Fun K "store" "Yard.store" s_Yard_store a.Yard_store d.Yard_store
 b_Yard_store:Binds K d.Yard_store ["self"] []
 mt_Yard_store:Meth K a.Yard "store" a.Yard_store
 f_Yard_twin:Fun K "twin" "Yard.twin" s_Yard_twin a.Yard_twin d.Yard_twin
 b_Yard_twin:Binds K d.Yard_twin ["self"] []
 mt_Yard_twin:Meth K a.Yard "twin" a.Yard_twin
 f_Yard_become:Fun K "become" "Yard.become" s_Yard_become a.Yard_become d.Yard_become
 b_Yard_become:Binds K d.Yard_become ["self","one"] []
 mt_Yard_become:Meth K a.Yard "become" a.Yard_become
 f_Yard_check:Fun K "check" "Yard.check" s_Yard_check a.Yard_check d.Yard_check
 b_Yard_check:Binds K d.Yard_check ["self","some"] []
 mt_Yard_check:Meth K a.Yard "check" a.Yard_check
 f_Yard_is_allowed:Fun K "is_allowed" "Yard.is_allowed" s_Yard_is_allowed a.Yard_is_allowed d.Yard_is_allowed
 b_Yard_is_allowed:Binds K d.Yard_is_allowed ["self","some"] []
 mt_Yard_is_allowed:Meth K a.Yard "is_allowed" a.Yard_is_allowed
 f_Yard_thinkable:Fun K "thinkable" "Yard.thinkable" s_Yard_thinkable a.Yard_thinkable d.Yard_thinkable
 b_Yard_thinkable:Binds K d.Yard_thinkable ["self","worths"] []
 mt_Yard_thinkable:Meth K a.Yard "thinkable" a.Yard_thinkable
 f_Yard_do_ask:Fun K "do_ask" "Yard.do_ask" s_Yard_do_ask a.Yard_do_ask d.Yard_do_ask
 b_Yard_do_ask:Binds K d.Yard_do_ask ["self","worth"] []
 mt_Yard_do_ask:Meth K a.Yard "do_ask" a.Yard_do_ask
 f_Yard_do_answer:Fun K "do_answer" "Yard.do_answer" s_Yard_do_answer a.Yard_do_answer d.Yard_do_answer
 b_Yard_do_answer:Binds K d.Yard_do_answer ["self","name","worth"] []
 mt_Yard_do_answer:Meth K a.Yard "do_answer" a.Yard_do_answer
 f_Yard_tell_fetched:Fun K "tell_fetched" "Yard.tell_fetched" s_Yard_tell_fetched a.Yard_tell_fetched d.Yard_tell_fetched
 b_Yard_tell_fetched:Binds K d.Yard_tell_fetched ["self","word","told"] []
 mt_Yard_tell_fetched:Meth K a.Yard "tell_fetched" a.Yard_tell_fetched
 f_Yard_do_bell:Fun K "do_bell" "Yard.do_bell" s_Yard_do_bell a.Yard_do_bell d.Yard_do_bell
 b_Yard_do_bell:Binds K d.Yard_do_bell ["self","side"] []
 mt_Yard_do_bell:Meth K a.Yard "do_bell" a.Yard_do_bell
 f_Yard_do_lie:Fun K "do_lie" "Yard.do_lie" s_Yard_do_lie a.Yard_do_lie d.Yard_do_lie
 b_Yard_do_lie:Binds K d.Yard_do_lie ["self","side"] []
 mt_Yard_do_lie:Meth K a.Yard "do_lie" a.Yard_do_lie
 f_Yard_do_look:Fun K "do_look" "Yard.do_look" s_Yard_do_look a.Yard_do_look d.Yard_do_look
 b_Yard_do_look:Binds K d.Yard_do_look ["self","side"] []
 mt_Yard_do_look:Meth K a.Yard "do_look" a.Yard_do_look
 f_Yard_something_waits:Fun K "something_waits" "Yard.something_waits" s_Yard_something_waits a.Yard_something_waits d.Yard_something_waits
 b_Yard_something_waits:Binds K d.Yard_something_waits ["self","side"] []
 mt_Yard_something_waits:Meth K a.Yard "something_waits" a.Yard_something_waits
 f_law_cell_at:Fun K "_law_cell_at" "_law_cell_at" s_law_cell_at a.law_cell_at d.law_cell_at
 b_law_cell_at:Binds K d.law_cell_at ["script","k"] []
 m_law_cell_at:mg "_law_cell_at"=some (.ref a.law_cell_at)
 f_law_make:Fun K "_law_make" "_law_make" s_law_make a.law_make d.law_make
 b_law_make:Binds K d.law_make ["cell"] []
 m_law_make:mg "_law_make"=some (.ref a.law_make)
 f_law_same:Fun K "_law_same" "_law_same" s_law_same a.law_same d.law_same
 b_law_same:Binds K d.law_same ["found","due"] []
 m_law_same:mg "_law_same"=some (.ref a.law_same)
 f_law_worths:Fun K "_law_worths" "_law_worths" s_law_worths a.law_worths d.law_worths
 b_law_worths:Binds K d.law_worths ["cells"] []
 m_law_worths:mg "_law_worths"=some (.ref a.law_worths)
 f_law_can:Fun K "_law_can" "_law_can" s_law_can a.law_can d.law_can
 b_law_can:Binds K d.law_can ["yard","worths"] []
 m_law_can:mg "_law_can"=some (.ref a.law_can)
 f_law_told:Fun K "_law_told" "_law_told" s_law_told a.law_told d.law_told
 b_law_told:Binds K d.law_told ["yard","make"] []
 m_law_told:mg "_law_told"=some (.ref a.law_told)
 f_law:Fun K "law" "law" s_law a.law d.law
 b_law:Binds K d.law ["script"] []
 m_law:mg "law"=some (.ref a.law)
 cl_Ring:Cls K a.Ring
 m_Ring:mg "Ring"=some (.ref a.Ring)
 k_Ring:Mk K a.Ring a.Ring__init
 na_Ring_shelf:NoAttr K a.Ring "shelf"
 na_Ring_side:NoAttr K a.Ring "side"
 na_Ring_word:NoAttr K a.Ring "word"
 na_Ring_laid:NoAttr K a.Ring "laid"
 na_Ring_fetched:NoAttr K a.Ring "fetched"
 na_Ring_size:NoAttr K a.Ring "size"
 na_Ring_rounds:NoAttr K a.Ring "rounds"
 na_Ring_counter_first:NoAttr K a.Ring "counter_first"
 cl_Hand:Cls K a.Hand
 m_Hand:mg "Hand"=some (.ref a.Hand)
 k_Hand:Mk K a.Hand a.Hand__init
 na_Hand_asks:NoAttr K a.Hand "asks"
 na_Hand_answers:NoAttr K a.Hand "answers"
 na_Hand_names:NoAttr K a.Hand "names"
 na_Hand_going:NoAttr K a.Hand "going"
 cl_Heart:Cls K a.Heart
 m_Heart:mg "Heart"=some (.ref a.Heart)
 k_Heart:Mk K a.Heart a.Heart__init
 na_Heart_asks:NoAttr K a.Heart "asks"
 na_Heart_answers:NoAttr K a.Heart "answers"
 na_Heart_doing:NoAttr K a.Heart "doing"
 cl_Store:Cls K a.Store
 m_Store:mg "Store"=some (.ref a.Store)
 k_Store:Mk K a.Store a.Store__init
 na_Store_held:NoAttr K a.Store "held"
 na_Store_rows:NoAttr K a.Store "rows"
 cl_Yard:Cls K a.Yard
 m_Yard:mg "Yard"=some (.ref a.Yard)
 k_Yard:Mk K a.Yard a.Yard__init
 na_Yard_size:NoAttr K a.Yard "size"
 na_Yard_rounds:NoAttr K a.Yard "rounds"
 na_Yard_faults:NoAttr K a.Yard "faults"
 na_Yard_shelf:NoAttr K a.Yard "shelf"
 na_Yard_hand:NoAttr K a.Yard "hand"
 na_Yard_heart:NoAttr K a.Yard "heart"
 na_Yard_bell_fences:NoAttr K a.Yard "bell_fences"
 na_Yard_lie_fences:NoAttr K a.Yard "lie_fences"
 na_Yard_look_sees:NoAttr K a.Yard "look_sees"
 na_Yard_sleepers:NoAttr K a.Yard "sleepers"
 na_Yard_quiet:NoAttr K a.Yard "quiet"
 na_Yard_happened:NoAttr K a.Yard "happened"
 n_all:mg "all"=none
 n_bool:mg "bool"=none
 n_int:mg "int"=none
 n_isinstance:mg "isinstance"=none
 n_len:mg "len"=none
 n_list:mg "list"=none
 n_range:mg "range"=none
 n_reversed:mg "reversed"=none
 n_sorted:mg "sorted"=none
 n_str:mg "str"=none
 n_tuple:mg "tuple"=none
 n_zip:mg "zip"=none
 m_RingError:mg "RingError"=some (.ref a.RingError)
 m_Full:mg "Full"=some (.ref a.Full)
 m_NoName:mg "NoName"=some (.ref a.NoName)
 m_NoTask:mg "NoTask"=some (.ref a.NoTask)
 m_NoDeed:mg "NoDeed"=some (.ref a.NoDeed)
 m_ASKS:mg "ASKS"=some (.ref a.T_ASKS)
 t_ASKS:∀ H,SqT K H a.T_ASKS [.str "ask",.str "asked",.str "taken"]
 m_ANSWERS:mg "ANSWERS"=some (.ref a.T_ANSWERS)
 t_ANSWERS:∀ H,SqT K H a.T_ANSWERS [.str "answer",.str "answered",.str "handed"]
 m_SLEEP_CELLS:mg "SLEEP_CELLS"=some (.ref a.T_SLEEP_CELLS)
 t_SLEEP_CELLS:∀ H,SqT K H a.T_SLEEP_CELLS [.str "hand sleeps",.str "heart sleeps"]
 m_MOST_WORTH:∃ t,mg "MOST_WORTH"=some (.int 1000000000 t)
 m_FORMS:mg "FORMS"=some (.ref a.T_FORMS)
 f_FORMS:TabK K a.T_FORMS [("ask",a.V_FORMS_0),("collect",a.V_FORMS_1),("take",a.V_FORMS_2),("answer",a.V_FORMS_3),("bell",a.V_FORMS_4),("lie",a.V_FORMS_5),("look",a.V_FORMS_6),("drain",a.V_FORMS_7)]
 v_FORMS_0:∀ H,SqT K H a.V_FORMS_0 [.str "worth"]
 v_FORMS_1:∀ H,SqT K H a.V_FORMS_1 []
 v_FORMS_2:∀ H,SqT K H a.V_FORMS_2 []
 v_FORMS_3:∀ H,SqT K H a.V_FORMS_3 [.str "name",.str "worth"]
 v_FORMS_4:∀ H,SqT K H a.V_FORMS_4 [.str "side"]
 v_FORMS_5:∀ H,SqT K H a.V_FORMS_5 [.str "side"]
 v_FORMS_6:∀ H,SqT K H a.V_FORMS_6 [.str "side"]
 v_FORMS_7:∀ H,SqT K H a.V_FORMS_7 [.str "side"]
 xc_Full:PySem.W.excIn K a.Full veB "ValueError.__new__"=true
 xc_NoName:PySem.W.excIn K a.NoName veB "ValueError.__new__"=true
 xc_NoTask:PySem.W.excIn K a.NoTask veB "ValueError.__new__"=true
 xc_NoDeed:PySem.W.excIn K a.NoDeed veB "ValueError.__new__"=true
 em_f:PySem.W.exmOne K (.ref a.Full) (.ref a.RingError)=some true
 em_n:PySem.W.exmOne K (.ref a.NoName) (.ref a.RingError)=some true
 em_t:PySem.W.exmOne K (.ref a.NoTask) (.ref a.RingError)=some true
 ty_1:PySem.W.findIn K (.ref a.Store) "__class__"=some (some (.builtin "object.__class__"))
 ty_2:PySem.W.specialIn K (.builtin "object.__class__") "__get__"=some (some (.builtin "getset_descriptor.__get__"))
 ty_3:PySem.W.takesIn K (.builtin "object.__class__")=some true
 ty_4:PySem.W.mroIn K a.Store (.type "object")=some true
 ty_5:PySem.W.kitOne K (.ref a.Store) (.ref a.Store)=some true
 em_d:PySem.W.exmOne K (.ref a.NoDeed) (.ref a.RingError)=some true
theorem iteDF {c A B:Prop} [Decidable c] (hc:¬ c) (h:B):if decide c=true then A else B:=by
 rw [decide_eq_false hc];exact iteF h
theorem iteDT {c A B:Prop} [Decidable c] (hc:c) (h:A):if decide c=true then A else B:=by
 rw [decide_eq_true hc];exact iteT h
theorem vint_inj {i j:Int} (h:V.int i=V.int j):i=j:=by injection h
theorem sne {a b:Str} (h:a≠b):¬ V.str a=V.str b:=λy=>h (by injection y)
theorem l3 {x y z:V}:[x,y,z].length <= sizeLine:=by show 3 <= sizeLine;decide
def sp_init (w:World) (C:Addr):Sp:=λvs H Q _=>∃ x dx,vs=[.ref x]/\H x=some (.ins C dx []) /\
 ∀ (hd rl:Addr) (l:Bool->Addr) (H':Hp),H hd=none->H rl=none->(∀ b,H (l b)=none)->Sto w C H' x hd rl l [] (λ_=>[])->Kp [x] H H'->Q .non H'
def sp_write (w:World) (C:Addr):Sp:=λvs H Q _=>∃ (x hd rl:Addr) (l:Bool->Addr) (M:List (PyData × V)) (r:Bool->List (PyData × V)) (b:Bool) (cv wv:V) (k:PyData),vs=[.ref x,.int (sdI b),cv,wv]/\Sto w C H x hd rl l M r/\(r b).length < 100000/\KeyV H k cv /\
 ∀ H',Sto w C H' x hd rl l M (setR r b (r b++[(k,wv)]))->Kp [l b] H H'->Q .non H'
def sp_drain (w:World) (C:Addr):Sp:=λvs H Q _=>∃ (x hd rl:Addr) (l:Bool->Addr) (M:List (PyData × V)) (r:Bool->List (PyData × V)) (b:Bool) (k:PyData) (v:V) (rest:List (PyData × V)),vs=[.ref x,.int (sdI b)]/\Sto w C H x hd rl l M r/\r b=(k,v) :: rest/\M.length < 100000 /\
 ∀ H',Sto w C H' x hd rl l (putD M k v) (setR r b rest)->Kp [l b,hd] H H'->Q .non H'
def sp_fence (w:World) (C:Addr):Sp:=λvs H Q _=>∃ (x hd rl:Addr) (l:Bool->Addr) (M:List (PyData × V)) (r:Bool->List (PyData × V)) (b:Bool),vs=[.ref x,.int (sdI b)]/\Sto w C H x hd rl l M r/\M.length+(r b).length < 100000 /\
 ∀ H',Sto w C H' x hd rl l (drainAll M (r b)) (setR r b [])->Kp [l b,hd] H H'->Q .non H'
def sp_read (w:World) (C:Addr):Sp:=λvs H Q _=>∃ (x hd rl:Addr) (l:Bool->Addr) (M:List (PyData × V)) (r:Bool->List (PyData × V)) (b:Bool) (cv:V) (k:PyData),vs=[.ref x,.int (sdI b),cv]/\Sto w C H x hd rl l M r/\KeyV H k cv/\Q (readV M (r b) k) H
def sp_memory (w:World) (C:Addr):Sp:=λvs H Q _=>∃ (x hd rl:Addr) (l:Bool->Addr) (M:List (PyData × V)) (r:Bool->List (PyData × V)) (cv:V) (k:PyData),vs=[.ref x,cv]/\Sto w C H x hd rl l M r/\KeyV H k cv/\Q ((lookD M k).getD (.int 0)) H
def sp_waits (w:World) (C:Addr):Sp:=λvs H Q _=>∃ (x hd rl:Addr) (l:Bool->Addr) (M:List (PyData × V)) (r:Bool->List (PyData × V)) (b:Bool),vs=[.ref x,.int (sdI b)]/\Sto w C H x hd rl l M r /\
 ∀ (p:Addr) (ts:List V),H p=none->Paired (Wt H) (r b) ts->Q (.ref p) (upd H p (.lst ts))
theorem many:100000 <= sizeLine:=by decide
theorem l2 {x y:V}:[x,y].length <= sizeLine:=by show 2 <= sizeLine;decide
section
variable {P:Program} {w:World} {K:PySem.W.Frag} {mg:Str->Option Value} {base:Heap} {a:Ad} {d:Fd}
theorem ok_init (G:Gs K mg a d):FnOk P w K mg base CX0 1 a.Store__init d.Store__init ["self"] (sp_init w a.Store):=by
 refine G.f_Store__init.ok sc_Store__init (λvs H Q E h=>?_) (λcdv A outer s H vs Q E hr h=>?_)
 · obtain ⟨x,dx,rfl,_⟩:=h
   rfl
 · obtain ⟨x,dx,rfl,hx,k⟩:=h
   refine ⟨_,(@pss_cons _ _ _ _ _ (ps_fld (pv 0) pe_mnew rfl)
     (@pss_one _ _ _ (ps_fld (pv 0) (@pe_lst _ _ _ _ (@pa_cons _ _ _ _ _ (@pe_lst _ _ _ _ pa_nil) (@pa_cons _ _ _ _ _ (@pe_lst _ _ _ _ pa_nil) pa_nil (by rfl)) (by rfl))) rfl))),?_⟩
   intro hd hhd
   have n0:x≠hd:=ne_of_none hx hhd
   refine ⟨_,rfl,x,a.Store,dx,[],rfl,(by rw [upd_ne n0];exact hx),G.cl_Store,G.na_Store_held,(by show 0 < 1000;decide),?_⟩
   refine ⟨by show 0 <= sizeLine;decide,λl0 h0=>⟨by show 0 <= sizeLine;decide,λl1 h1=>⟨l2,λrl hrl=>⟨_,rfl,x,a.Store,dx,putF "held" (.ref hd) [],rfl,?_,G.cl_Store,G.na_Store_rows,by show 1 < 1000;decide,?_⟩⟩⟩⟩
   all_goals
     have m0:x≠l0:=ne_of_none upd_same h0
     have m1:x≠l1:=ne_of_none (o:=.ins a.Store dx (putF "held" (.ref hd) [])) (by rw [upd_ne m0];exact upd_same) h1
     have m2:x≠rl:=ne_of_none (o:=.ins a.Store dx (putF "held" (.ref hd) [])) (by rw [upd_ne m1,upd_ne m0];exact upd_same) hrl
   · rw [upd_ne m2,upd_ne m1,upd_ne m0];exact upd_same
   · have q0:hd≠l0:=ne_of_none (o:=DObj hd [] 0) (by rw [upd_ne n0.symm];exact upd_same) h0
     have q1:hd≠l1:=ne_of_none (o:=DObj hd [] 0) (by rw [upd_ne q0,upd_ne n0.symm];exact upd_same) h1
     have q2:hd≠rl:=ne_of_none (o:=DObj hd [] 0) (by rw [upd_ne q1,upd_ne q0,upd_ne n0.symm];exact upd_same) hrl
     have r1:l0≠l1:=ne_of_none upd_same h1
     have r2:l0≠rl:=ne_of_none (o:=.lst []) (by rw [upd_ne r1];exact upd_same) hrl
     have r3:l1≠rl:=ne_of_none upd_same hrl
     have e0:∀ c o,H c=some o->c≠hd:=λc o e=>ne_of_none e hhd
     have f0:H l0=none:=by
       cases z:H l0 with
       | none=>rfl
       | some o=>rw [upd_ne m0.symm,upd_ne q0.symm,z] at h0;cases h0
     have f1:H l1=none:=by
       cases z:H l1 with
       | none=>rfl
       | some o=>rw [upd_ne r1.symm,upd_ne m1.symm,upd_ne q1.symm,z] at h1;cases h1
     have f2:H rl=none:=by
       cases z:H rl with
       | none=>rfl
       | some o=>rw [upd_ne r3.symm,upd_ne r2.symm,upd_ne m2.symm,upd_ne q2.symm,z] at hrl;cases hrl
     refine k hd rl (λb=>if b then l1 else l0) _ hhd f2 (λb=>by cases b;exact f0;exact f1) ⟨⟨dx,upd_same⟩,⟨[],0,by rw [upd_ne n0.symm,upd_ne q2,upd_ne q1,upd_ne q0,upd_ne n0.symm,upd_same],.nil,List.nodup_nil,Nat.zero_le _⟩,by rw [upd_ne m2.symm,upd_same];rfl,λb=>⟨[],?_,.nil⟩,r1,λb=>by cases b;exact r2;exact r3⟩ λc o n e=>?_
     · cases b
       · show upd _ x _ l0=_
         rw [upd_ne m0.symm,upd_ne r2,upd_ne r1,upd_same]
       · show upd _ x _ l1=_
         rw [upd_ne m1.symm,upd_ne r3,upd_same]
     · have c0:c≠x:=λz=>n (List.mem_singleton.mpr z)
       rw [upd_ne c0,upd_ne (ne_of_none e f2),upd_ne (ne_of_none e f1),upd_ne (ne_of_none e f0),upd_ne c0,upd_ne (e0 c o e)]
       exact e
theorem ok_memory (G:Gs K mg a d):FnOk P w K mg base CX0 1 a.Store_memory d.Store_memory ["self","cell"] (sp_memory w a.Store):=by
 refine G.f_Store_memory.ok sc_Store_memory (λvs H Q E h=>?_) (λcdv A outer s H vs Q E hr h=>?_)
 · obtain ⟨x,hd,rl,l,M,r,cv,k,rfl,_⟩:=h
   rfl
 · obtain ⟨x,hd,rl,l,M,r,cv,k,rfl,S,hk,q⟩:=h
   refine ⟨_,(@pss_one _ _ _ (@ps_ret _ _ _ _ (pe_mget2 hr.units (pe_fld (pv 0) rfl) (pv 1) pe_int ⟨rfl,rfl,rfl,rfl⟩))),?_⟩
   obtain ⟨dx,hx⟩:=S.ob
   exact ⟨_,rfl,x,a.Store,dx,_,_,rfl,hx,G.cl_Store,G.na_Store_held,stF_held,hd,rfl,⟨_,S.me⟩,_,rfl,M,k,S.me,hk,q⟩
theorem ok_waits (G:Gs K mg a d):FnOk P w K mg base CX0 1 a.Store_waits d.Store_waits ["self","side"] (sp_waits w a.Store):=by
 refine G.f_Store_waits.ok sc_Store_waits (λvs H Q E h=>?_) (λcdv A outer s H vs Q E hr h=>?_)
 · obtain ⟨x,hd,rl,l,M,r,b,rfl,_⟩:=h
   rfl
 · obtain ⟨x,hd,rl,l,M,r,b,rfl,S,q⟩:=h
   refine ⟨_,(@pss_one _ _ _ (@ps_ret _ _ _ _ (pe_callTy call_list_of (by rfl) G.n_list bt_list (@pa_cons _ _ _ _ _ (@pe_ix _ _ _ _ _ _ _ ix_list (pe_fld (pv 0) rfl) (pv 1) (λ_ _=>rfl)) pa_nil (by rfl))))),?_⟩
   obtain ⟨dx,hx⟩:=S.ob
   obtain ⟨ts,hl,hp⟩:=S.rw b
   exact ⟨_,rfl,x,a.Store,dx,_,_,rfl,hx,G.cl_Store,G.na_Store_rows,stF_rows,_,rfl,rl,_,_,_,rfl,rfl,SqL.of S.ro,sdI_at b,l b,ts,rfl,.inl (SqL.of hl),λp hp'=>q p ts hp' hp⟩
theorem ok_read (G:Gs K mg a d):FnOk P w K mg base CX0 2 a.Store_read d.Store_read ["self","side","cell"] (sp_read w a.Store):=by
 have c_Store_memory:FnOk P w K mg base CX0 1 _ _ _ _:=ok_memory G
 refine G.f_Store_read.ok sc_Store_read (λvs H Q E h=>?_) (λcdv A outer s H vs Q E hr h=>?_)
 · obtain ⟨x,hd,rl,l,M,r,b,cv,k,rfl,_⟩:=h
   rfl
 · obtain ⟨x,hd,rl,l,M,r,b,cv,k,rfl,S,hk,q⟩:=h
   refine ⟨_,(@pss_cons _ _ _ _ _ (ps_for PassesOwn.never rfl (pi_rev (by rfl) G.n_reversed (@pa_cons _ _ _ _ _ (@pe_ix _ _ _ _ _ _ _ ix_list (pe_fld (pv 0) rfl) (pv 1) (λ_ _=>rfl)) pa_nil (by rfl))) (pg_name (i:=3) sc_Store_read.nd rfl (Or.inl rfl)) (@pss_one _ _ _ (ps_if (pt_cmpR (op_eqD hr.units) (@pe_ix _ _ _ _ _ _ _ ix_tup (pv 3) pe_int (λ_ _=>rfl)) (pv 2) (nomark _)) (@pss_one _ _ _ (@ps_ret _ _ _ _ (@pe_ix _ _ _ _ _ _ _ ix_tup (pv 3) pe_int (λ_ _=>rfl)))) pss_nil)))
     (@pss_one _ _ _ (@ps_ret _ _ _ _ (pe_meth (pv 0) G.cl_Store G.mt_Store_memory c_Store_memory (hr.mono (by decide)) G.b_Store_memory .nil pass0 (@pa_cons _ _ _ _ _ (pv 2) pa_nil (by rfl)))))),?_⟩
   obtain ⟨dx,hx⟩:=S.ob
   obtain ⟨ts,hl,hp⟩:=S.rw b
   have hn:=pairedLen hp
   refine ⟨_,rfl,x,a.Store,dx,_,_,rfl,hx,G.cl_Store,G.na_Store_rows,stF_rows,_,rfl,rl,_,_,_,rfl,rfl,SqL.of S.ro,sdI_at b,l b,ts,rfl,SqL.of hl,?_⟩
   refine for_rev (K:=K) (a:=l b) (xs:=ts) (λi σ H'=>(∃ v,σ=[some (.ref x),some (.int (sdI b)),some cv,v])/\H'=H/\∀ p∈((r b).reverse.take i),PyData.eqv p.1 k=false)
     ⟨⟨_,rfl⟩,rfl,λp hp=>by cases hp⟩ (λ_ _ _ _ z=>by rw [z.2.1];exact SqL.of hl) ?_ ?_
   · rintro i y σ H' hi hy ⟨⟨v,rfl⟩,rfl,hno⟩
     obtain ⟨p,e1,t,tc,rfl,ht,hc⟩:=MX.f2_get hp _ _ hy
     have hrev:(r b).reverse[i]?=some p:=by
       rw [List.getElem?_reverse (by omega)]
       rw [hn];exact e1
     refine ⟨_,rfl,t,_,_,_,rfl,rfl,SqT.of ht,rfl,_,rfl,p.1,k,hc.2.2.1,hk.2.2.1,LayD.key hc.1 hc.2.1,LayD.key hk.1 hk.2.1,_,rfl,?_⟩
     simp only [Bool.false_eq_true,if_false]
     refine ite2 (λhe=>?_) (λhe=>?_)
     · refine ⟨_,rfl,t,_,_,_,rfl,rfl,SqT.of ht,rfl,?_⟩
       have e:readV M (r b) k=p.2:=by
         unfold readV
         have hfind:(r b).reverse.find? (λp=>PyData.eqv p.1 k)=some p:=by
           rw [List.find?_eq_some_iff_getElem]
           refine ⟨he,i,(List.getElem?_eq_some_iff.mp hrev).1,(List.getElem?_eq_some_iff.mp hrev).2,λj hj=>?_⟩
           rw [hno _ (List.mem_of_getElem? (by rw [List.getElem?_take,if_pos hj];exact List.getElem?_eq_getElem _))]
           rfl
         rw [hfind]
       rw [e] at q
       exact q
     · refine ⟨⟨_,rfl⟩,rfl,λp' hp'=>?_⟩
       rw [List.take_succ,hrev] at hp'
       rcases List.mem_append.mp hp' with z | z
       · exact hno p' z
       · rw [show p'=p by simpa using z]
         cases w':PyData.eqv p.1 k with
         | false=>rfl
         | true=>exact absurd w' he
   · rintro σ H' ⟨⟨v,rfl⟩,rfl,hno⟩
     refine ⟨_,rfl,x,dx,_,rfl,hx,stF_no (by decide +kernel) (by decide +kernel),_,rfl,x,hd,rl,l,M,r,cv,k,rfl,S,hk,?_⟩
     have e:readV M (r b) k=(lookD M k).getD (.int 0):=by
       unfold readV
       have hfind:(r b).reverse.find? (λp=>PyData.eqv p.1 k)=none:=by
         rw [List.find?_eq_none]
         intro p hp'
         rw [hno p (by rw [List.take_of_length_le (by rw [List.length_reverse];omega)];exact hp')]
         decide
       rw [hfind]
     rw [e] at q
     exact q
end

def WV (H:Hp) (v:V):Prop:=∃ d,MX.kd d=true/\d.depth <= 8/\DV H d v
theorem WV.zero {H:Hp} {v:V} {d:PyData} (h:MX.kd d=true) (hv:DV H d v):(PyData.eqv d (.int 0)=true ↔ v=.int 0):=by
 rw [MX.eqv_iff d _ h rfl]
 constructor
 · rintro rfl;exact hv
 · rintro rfl
   cases d with
   | int i =>
     have:V.int 0=V.int i:=hv
     rw [vint_inj this]
   | str t=>cases (show V.int 0=V.str t from hv)
   | tuple ds=>obtain ⟨_,_,e,_⟩:=hv;cases e
   | none=>cases h
   | bool=>cases h
   | list=>cases h
   | dict=>cases h

def nz (p:PyData × V):Bool:=decide (p.2≠.int 0)
def sp_cells (w:World) (C:Addr):Sp:=λvs H Q _=>∃ (x hd rl:Addr) (l:Bool->Addr) (M:List (PyData × V)) (r:Bool->List (PyData × V)),vs=[.ref x]/\Sto w C H x hd rl l M r/\TopK M/\M.length < 100000/\(∀ p∈M,WV H p.2) /\
 ∀ (p:Addr) (ts:List V),H p=none->Paired (λ(kv:PyData × V) t=>KeyV H kv.1 t) (M.filter nz) ts->Q (.ref p) (upd H p (.lst ts))
section
variable {P:Program} {w:World} {K:PySem.W.Frag} {mg:Str->Option Value} {base:Heap} {a:Ad} {d:Fd}
theorem ok_cells (G:Gs K mg a d):FnOk P w K mg base CX0 1 a.Store_cells d.Store_cells ["self"] (sp_cells w a.Store):=by
 refine G.f_Store_cells.ok sc_Store_cells (λvs H Q E h=>?_) (λcdv A outer s H vs Q E hr h=>?_)
 · obtain ⟨x,hd,rl,l,M,r,rfl,_⟩:=h
   rfl
 · obtain ⟨x,hd,rl,l,M,r,rfl,S,top,hlen,hW,q⟩:=h
   refine ⟨_,(@pss_one _ _ _ (@ps_ret _ _ _ _ (by exact pe_comp (tc:=tTest (tOp (rEqD true) (tMItem w (tFld K (tVar 1) "held") (tVar 0)) (tC (.int 0)))) (te:=tVar 0) (caps:=["self"]) (js:=[0]) rfl (compOk rfl rfl (by decide +kernel) (by decide +kernel) rfl ⟨rfl,trivial⟩ rfl rfl) (by decide +kernel) (λy hy=>by simp only [List.mem_cons,List.not_mem_nil,or_false] at hy;rcases hy with rfl<;>exact ⟨_,rfl⟩) (.cons ⟨rfl,.inl rfl⟩ .nil) (λy hy=>by simp only [List.mem_cons,List.not_mem_nil,or_false] at hy;rcases hy with rfl<;>exact Or.inl rfl) (pi_keys (pe_fld (pv 0) rfl)) (λC s₃ H₃ pins ex E'=>by exact pts_one (pt_cmpR (op_neD hr.units) (by exact pe_mitem hr.units (pe_fld (pv 1) rfl) (pv 0) (λ_ _=>rfl)) pe_int (nomark _))) (λC s₃ H₃ pins ex E'=>by exact (pv 0))))),?_⟩
   obtain ⟨dx,hx⟩:=S.ob
   obtain ⟨es,ep,h1,h2,h3,h4⟩:=id S.me
   refine ⟨_,rfl,x,a.Store,dx,_,_,rfl,hx,G.cl_Store,G.na_Store_held,stF_held,hd,es,ep,M,rfl,h1,h2,top,λD hD=>?_⟩
   have e0:∀ ys,Same H (upd H D (.lst ys)):=λys=>same_new hD
   refine ⟨λi m ys H2=>i <= M.length/\m=M.length - i/\H2=upd H D (.lst ys)/\Paired (λ(kv:PyData × V) t=>KeyV H kv.1 t) ((M.take i).filter nz) ys,⟨_,Nat.zero_le _,rfl,rfl,.nil⟩,?_⟩
   rintro i m ys H2 ⟨hi,rfl,rfl,hp⟩
   have hyl:ys.length <= M.length:=by
     rw [← pairedLen hp]
     refine Nat.le_trans (List.length_filter_le _ _) ?_
     rw [List.length_take];omega
   refine ⟨upd_same,Nat.lt_of_lt_of_le (Nat.lt_of_le_of_lt hyl hlen) many,?_⟩
   by_cases z:i=M.length
   · refine .inl ⟨⟨e0 ys _ _ h1,Paired.keys h2,by omega⟩,?_⟩
     rw [z,List.take_length] at hp
     exact q D ys hD hp
   · have hlt:i < M.length:=by omega
     refine .inr ⟨⟨e0 ys _ _ h1,Paired.mapP h2 λ_ _ q=>q.keep λb vs e=>e0 ys _ _ e,hlt⟩,?_⟩
     rintro y H3 ⟨rfl,k,v,hkv,hk⟩
     obtain ⟨dv,w1,w2,w3⟩:=hW _ (List.mem_of_getElem? hkv)
     have hl:lookD M k=some v:=by
       have kk:=KK.of h2
       obtain ⟨v',g1,g2⟩:=lookD_at (kk _ (List.mem_of_getElem? hkv)) kk h3 (j:=i) (by rw [List.getElem?_map,hkv];rfl)
       rw [hkv] at g1;cases g1
       exact g2
     have S':=S.same (e0 ys)
     have hkH:KeyV H k y:=by
       obtain ⟨e,he,k1,k2,k3,⟨x',rx,dx'⟩,k5⟩:=MX.f2_get' h2 i _ hkv
       obtain ⟨c1,c2,c3,c4⟩:=hk
       refine ⟨c1,c2,?_,c4⟩
       exact keyBack hD (by
         intro xs z;cases z) c1 c3
     refine ⟨_,rfl,x,a.Store,dx,_,_,rfl,e0 ys _ _ hx,G.cl_Store,G.na_Store_held,stF_held,_,rfl,hd,M,k,v,rfl,S'.me,hk,hl,dv,.int 0,DV.keep (λb vs e=>e0 ys _ _ e) _ _ w1 w3,rfl,LayD.key w1 w2,LayD.int 0,_,rfl,?_⟩
     have zz:=WV.zero w1 w3
     have et:M.take (i+1)=M.take i++[(k,v)]:=by rw [List.take_succ,hkv];rfl
     simp only [if_true]
     refine ite2 (λhne=>?_) (λhne=>?_)
     · have hv:v≠.int 0:=λy=>by rw [zz.mpr y] at hne;cases hne
       refine ⟨_,rfl,upd_same,M.length - (i+1),by omega,hlt,rfl,by rw [upd_upd],?_⟩
       rw [et,List.filter_append]
       have ef:[(k,v)].filter nz=[(k,v)]:=by
         rw [List.filter_cons,if_pos (show nz (k,v)=true from decide_eq_true hv)];rfl
       rw [ef]
       exact Paired.snoc hp hkH
     · have hv:v=.int 0:=zz.mp (by
         cases y:PyData.eqv dv (.int 0) with
         | true=>rfl
         | false=>exact absurd (by rw [y];rfl) hne)
       refine ⟨M.length - (i+1),by omega,hlt,rfl,trivial,?_⟩
       rw [et,List.filter_append]
       have ef:[(k,v)].filter nz=[]:=by
         rw [List.filter_cons,if_neg (show ¬ nz (k,v)=true from λy=>(of_decide_eq_true y) hv)];rfl
       rw [ef,List.append_nil]
       exact hp
end

def sp_next:Sp:=λvs H Q _=>∃ c s r:Int,vs=[.int c,.int s,.int r]/\0 < s/\s <= 8/\0 < s * r/\Q (.int ((c+1) % (s * r))) H
def sp_place:Sp:=λvs H Q _=>∃ c s:Int,vs=[.int c,.int s]/\0 < s/\Q (.int (c % s)) H
def sp_ahead:Sp:=λvs H Q _=>∃ o b s r:Int,vs=[.int o,.int b,.int s,.int r]/\0 < s/\s <= 8/\0 < s * r/\Q (.int ((o - b) % (s * r))) H
section
variable {P:Program} {w:World} {K:PySem.W.Frag} {mg:Str->Option Value} {base:Heap} {a:Ad} {d:Fd}
theorem ok_ahead (G:Gs K mg a d):FnOk P w K mg base CX0 1 a.ahead_by d.ahead_by ["one","other","size","rounds"] sp_ahead:=by
 refine G.f_ahead_by.ok sc_ahead_by (λvs H Q E h=>?_) (λcdv A outer st H vs Q E hr h=>?_)
 · obtain ⟨o,b,s,r,rfl,_⟩:=h
   rfl
 · obtain ⟨o,b,s,r,rfl,h0,h1,h2,k⟩:=h
   refine ⟨_,(@pss_one _ _ _ (@ps_ret _ _ _ _ (@pe_op _ _ _ _ _ _ _ _ op_mod (@pe_op _ _ _ _ _ _ _ _ op_sub (pv 0) (pv 1)) (@pe_op _ _ _ _ _ _ _ _ op_mul (pv 2) (pv 3))))),?_⟩
   exact ⟨_,rfl,_,rfl,_,_,rfl,rfl,_,rfl,_,rfl,_,_,rfl,rfl,cmul_nn (by omega) (by omega),_,_,rfl,rfl,h2,k⟩
end

def sp_rwith:Sp:=λvs H Q _=>∃ (R:Int) (ft:Addr) (fs:List Str),vs=[.int R,.ref ft]/\H ft=some (.tup (fs.map V.str))/\Q (.int (if fs.contains "round" then 1 else R)) H
def sp_rinit (K:PySem.W.Frag) (CR:Addr):Sp:=λvs H Q _=>∃ (q dx st wa ft:Addr) (b:Bool) (w0 w1 w2:Str) (s R:Int) (fs:List Str),vs=[.ref q,.ref st,.int (sdI b),.ref wa,.int s,.int R,.ref ft]/\H q=some (.ins CR dx [])/\(∀ H,SqT K H wa [.str w0,.str w1,.str w2])/\H ft=some (.tup (fs.map V.str)) /\
 ∀ H',Rn CR H' q st b w0 w1 w2 ⟨s,if fs.contains "round" then 1 else R,fs.contains "counter"⟩->Kp [q] H H'->Q .non H'
def sp_filled (w:World) (CR CS:Addr):Sp:=λvs H Q _=>∃ (q:Addr) (z:SA) (b:Bool) (w0 w1 w2:Str) (p:RP) (M:List (PyData × V)) (r:Bool->List (PyData × V)) (A T:Int),vs=[.ref q]/\Rn CR H q z.x b w0 w1 w2 p/\z.At w CS H M r/\p.Ok/\PyData.strOk w1=true/\PyData.strOk w2=true /\
 readV M (r b) (.str w1)=.int A/\readV M (r b) (.str w2)=.int T/\Q (.int ((A - T) % (p.s * p.R))) H
def sp_full (w:World) (CR CS:Addr):Sp:=λvs H Q _=>∃ (q:Addr) (z:SA) (b:Bool) (w0 w1 w2:Str) (p:RP) (M:List (PyData × V)) (r:Bool->List (PyData × V)) (A T:Int),vs=[.ref q]/\Rn CR H q z.x b w0 w1 w2 p/\z.At w CS H M r/\p.Ok/\PyData.strOk w1=true/\PyData.strOk w2=true /\
 readV M (r b) (.str w1)=.int A/\readV M (r b) (.str w2)=.int T/\Q (.bl (decide ((A - T) % (p.s * p.R)=p.s))) H
def sp_placeat (CR:Addr):Sp:=λvs H Q _=>∃ (q st:Addr) (b:Bool) (w0 w1 w2:Str) (p:RP) (A:Int),vs=[.ref q,.int A]/\Rn CR H q st b w0 w1 w2 p/\p.Ok/\∀ t,H t=none->Q (.ref t) (upd H t (.tup [.str w0,.int (A % p.s)]))
def sp_further (w:World) (CR CS:Addr):Sp:=λvs H Q _=>∃ (q:Addr) (z:SA) (b:Bool) (w0 w1 w2:Str) (p:RP) (M:List (PyData × V)) (r:Bool->List (PyData × V)) (A:Int) (cv:V) (k:PyData),vs=[.ref q,cv,.int A]/\Rn CR H q z.x b w0 w1 w2 p/\z.At w CS H M r/\p.Ok/\(r b).length < 100000/\KeyV H k cv /\
 ∀ H',z.At w CS H' M (setR r b (r b++[(k,.int ((A+1) % (p.s * p.R)))]))->Kp [z.l b] H H'->Q .non H'
def sp_lay (w:World) (CR CS:Addr):Sp:=λvs H Q _=>∃ (q:Addr) (z:SA) (b:Bool) (w0 w1 w2:Str) (p:RP) (M:List (PyData × V)) (r:Bool->List (PyData × V)) (A:Int) (nm wv:V),vs=[.ref q,nm,wv]/\Rn CR H q z.x b w0 w1 w2 p/\z.At w CS H M r/\p.Ok/\PyData.strOk w0=true/\PyData.strOk w1=true/\(r b).length < 99999 /\
 readV M (r b) (.str w1)=.int A/\∀ t H',H t=none->H' t=some (.tup [nm,wv])->z.At w CS H' M (setR r b (r b++layRow p w0 w1 A (.ref t)))->Kp [z.l b] H H'->Q .non H'
def sp_fetch (w:World) (CR CS:Addr):Sp:=λvs H Q _=>∃ (q:Addr) (z:SA) (b:Bool) (w0 w1 w2:Str) (p:RP) (M:List (PyData × V)) (r:Bool->List (PyData × V)) (A T:Int),vs=[.ref q]/\Rn CR H q z.x b w0 w1 w2 p/\z.At w CS H M r/\p.Ok/\PyData.strOk w0=true/\PyData.strOk w1=true/\PyData.strOk w2=true/\(r b).length < 100000 /\
 readV M (r b) (.str w1)=.int A/\readV M (r b) (.str w2)=.int T/\(if (A - T) % (p.s * p.R)=0 then Q .non H else
   (∃ c vs,readV M (r b) (.tuple [.str w0,.int (T % p.s)])=.ref c/\H c=some (.tup vs)/\∀ H',z.At w CS H' M (setR r b (r b++[(.str w2,.int ((T+1) % (p.s * p.R)))]))->Kp [z.l b] H H'->Q (.ref c) H') \/
   ∃ i,readV M (r b) (.tuple [.str w0,.int (T % p.s)])=.int i/\∀ t H',H t=none->H' t=some (.tup [.non,.non])->z.At w CS H' M (setR r b (r b++[(.str w2,.int ((T+1) % (p.s * p.R)))]))->Kp [z.l b] H H'->Q (.ref t) H')
section
variable {P:Program} {w:World} {K:PySem.W.Frag} {mg:Str->Option Value} {base:Heap} {a:Ad} {d:Fd}
theorem ok_rwith (G:Gs K mg a d):FnOk P w K mg base CX0 1 a.rounds_with d.rounds_with ["rounds","faults"] sp_rwith:=by
 refine G.f_rounds_with.ok sc_rounds_with (λvs H Q E h=>?_) (λcdv A outer s H vs Q E hr h=>?_)
 · obtain ⟨R,ft,fs,rfl,_⟩:=h
   rfl
 · obtain ⟨R,ft,fs,rfl,hf,k⟩:=h
   refine ⟨_,(@pss_one _ _ _ (@ps_ret _ _ _ _ (pe_ifExp (pt_cmpR op_in_seq pe_str (pv 1) (by with_unfolding_all rfl)) pe_int (pv 0)))),?_⟩
   refine ⟨_,rfl,ft,_,rfl,.inr (SqT.of hf),rfl,strs_flat fs,_,rfl,?_⟩
   simp only [Bool.false_eq_true,if_false]
   rw [inV_str]
   by_cases hb:fs.contains "round"=true
   · rw [if_pos hb] at k ⊢
     exact k
   · rw [if_neg hb] at k ⊢
     exact ⟨_,rfl,k⟩
theorem ok_rinit (G:Gs K mg a d):FnOk P w K mg base CX0 2 a.Ring__init d.Ring__init ["self","store","side","words","size","rounds","faults"] (sp_rinit K a.Ring):=by
 have c_rounds_with:FnOk P w K mg base CX0 1 _ _ _ _:=ok_rwith G
 refine G.f_Ring__init.ok sc_Ring__init (λvs H Q E h=>?_) (λcdv A outer s H vs Q E hr h=>?_)
 · obtain ⟨q,dx,st,wa,ft,b,w0,w1,w2,s,R,fs,rfl,_⟩:=h
   rfl
 · obtain ⟨q,dx,st,wa,ft,b,w0,w1,w2,s,R,fs,rfl,hx,hw,hf,k⟩:=h
   refine ⟨_,(@pss_cons _ _ _ _ _ (ps_fld (pv 0) (pv 1) rfl)
     (@pss_cons _ _ _ _ _ (ps_fld (pv 0) (pv 2) rfl)
     (@pss_cons _ _ _ _ _ (ps_fld (pv 0) (@pe_ix _ _ _ _ _ _ _ ix_tup (pv 3) pe_int (λ_ _=>rfl)) rfl)
     (@pss_cons _ _ _ _ _ (ps_fld (pv 0) (@pe_ix _ _ _ _ _ _ _ ix_tup (pv 3) pe_int (λ_ _=>rfl)) rfl)
     (@pss_cons _ _ _ _ _ (ps_fld (pv 0) (@pe_ix _ _ _ _ _ _ _ ix_tup (pv 3) pe_int (λ_ _=>rfl)) rfl)
     (@pss_cons _ _ _ _ _ (ps_fld (pv 0) (pv 4) rfl)
     (@pss_cons _ _ _ _ _ (ps_fld (pv 0) (pe_call c_rounds_with (hr.mono (by decide)) (by rfl) G.m_rounds_with G.f_rounds_with.kp G.b_rounds_with .nil pass0 (@pa_cons _ _ _ _ _ (pv 5) (@pa_cons _ _ _ _ _ (pv 6) pa_nil (by rfl)) (by rfl))) rfl)
     (@pss_one _ _ _ (ps_fld (pv 0) (pe_cmpR op_in_seq pe_str (pv 6) (by with_unfolding_all rfl)) rfl))))))))),?_⟩
   have nf:ft≠q:=ne_of hf hx (by intro z;cases z)
   have ft':∀ o,upd H q o ft=some (.tup (fs.map V.str)):=λo=>by rw [upd_ne nf];exact hf
   refine ⟨_,rfl,_,rfl,q,a.Ring,dx,[],rfl,hx,G.cl_Ring,G.na_Ring_shelf,by decide,?_⟩
   refine ⟨_,rfl,_,rfl,q,a.Ring,dx,_,rfl,upd_same,G.cl_Ring,G.na_Ring_side,by show 1 < 1000;decide,?_⟩
   rw [upd_upd]
   refine ⟨_,rfl,wa,_,_,_,rfl,rfl,hw _,rfl,_,rfl,q,a.Ring,dx,_,rfl,upd_same,G.cl_Ring,G.na_Ring_word,by show 2 < 1000;decide,?_⟩
   rw [upd_upd]
   refine ⟨_,rfl,wa,_,_,_,rfl,rfl,hw _,rfl,_,rfl,q,a.Ring,dx,_,rfl,upd_same,G.cl_Ring,G.na_Ring_laid,by show 3 < 1000;decide,?_⟩
   rw [upd_upd]
   refine ⟨_,rfl,wa,_,_,_,rfl,rfl,hw _,rfl,_,rfl,q,a.Ring,dx,_,rfl,upd_same,G.cl_Ring,G.na_Ring_fetched,by show 4 < 1000;decide,?_⟩
   rw [upd_upd]
   refine ⟨_,rfl,_,rfl,q,a.Ring,dx,_,rfl,upd_same,G.cl_Ring,G.na_Ring_size,by show 5 < 1000;decide,?_⟩
   rw [upd_upd]
   refine ⟨_,rfl,_,rfl,R,ft,fs,rfl,ft' _,_,rfl,q,a.Ring,dx,_,rfl,upd_same,G.cl_Ring,G.na_Ring_rounds,by show 6 < 1000;decide,?_⟩
   rw [upd_upd]
   refine ⟨_,rfl,ft,_,rfl,.inr (SqT.of (ft' _)),rfl,strs_flat fs,_,rfl,q,a.Ring,dx,_,rfl,upd_same,G.cl_Ring,G.na_Ring_counter_first,by show 7 < 1000;decide,?_⟩
   rw [upd_upd]
   simp only [Bool.false_eq_true,if_false]
   rw [inV_str]
   refine k _ ⟨dx,upd_same⟩ λc o nc ec=>?_
   rw [upd_ne λz=>nc (List.mem_singleton.mpr z)]
   exact ec
theorem ok_filled (G:Gs K mg a d):FnOk P w K mg base CX0 3 a.Ring_filled d.Ring_filled ["self"] (sp_filled w a.Ring a.Store):=by
 have c_Store_read:FnOk P w K mg base CX0 2 _ _ _ _:=ok_read G
 have c_ahead_by:FnOk P w K mg base CX0 1 _ _ _ _:=ok_ahead G
 refine G.f_Ring_filled.ok sc_Ring_filled (λvs H Q E h=>?_) (λcdv A' outer s H vs Q E hr h=>?_)
 · obtain ⟨q,z,b,w0,w1,w2,p,M,r,A,T,rfl,_⟩:=h
   rfl
 · obtain ⟨q,z,b,w0,w1,w2,p,M,r,A,T,rfl,⟨dx,hx⟩,S,hp,o1,o2,hA,hT,k⟩:=h
   refine ⟨_,(@pss_cons _ _ _ _ _ (@ps_set _ _ 1 _ _ _ _ sc_Ring_filled.nd rfl (Or.inl rfl) (pe_meth (pe_fld (pv 0) rfl) G.cl_Store G.mt_Store_read c_Store_read (hr.mono (by decide)) G.b_Store_read .nil pass0 (@pa_cons _ _ _ _ _ (pe_fld (pv 0) rfl) (@pa_cons _ _ _ _ _ (pe_fld (pv 0) rfl) pa_nil (by rfl)) (by rfl))) (by rfl) (by first | exact .inl rfl | exact .inr rfl | assumption))
     (@pss_cons _ _ _ _ _ (@ps_set _ _ 2 _ _ _ _ sc_Ring_filled.nd rfl (Or.inl rfl) (pe_meth (pe_fld (pv 0) rfl) G.cl_Store G.mt_Store_read c_Store_read (hr.mono (by decide)) G.b_Store_read .nil pass0 (@pa_cons _ _ _ _ _ (pe_fld (pv 0) rfl) (@pa_cons _ _ _ _ _ (pe_fld (pv 0) rfl) pa_nil (by rfl)) (by rfl))) (by rfl) (by first | exact .inl rfl | exact .inr rfl | assumption))
     (@pss_one _ _ _ (@ps_ret _ _ _ _ (pe_call c_ahead_by (hr.mono (by decide)) (by rfl) G.m_ahead_by G.f_ahead_by.kp G.b_ahead_by .nil pass0 (@pa_cons _ _ _ _ _ (pv 1) (@pa_cons _ _ _ _ _ (pv 2) (@pa_cons _ _ _ _ _ (pe_fld (pv 0) rfl) (@pa_cons _ _ _ _ _ (pe_fld (pv 0) rfl) pa_nil (by rfl)) (by rfl)) (by rfl)) (by rfl))))))),?_⟩
   obtain ⟨dxs,hxs⟩:=S.ob
   refine ⟨_,rfl,fld hx G.cl_Ring G.na_Ring_shelf rF_shelf ⟨z.x,dxs,_,rfl,hxs,stF_no (by decide +kernel) (by decide +kernel),_,rfl,fld hx G.cl_Ring G.na_Ring_side rF_side ⟨_,rfl,fld hx G.cl_Ring G.na_Ring_laid rF_laid ⟨z.x,z.hd,z.rl,z.l,M,r,b,.str w1,.str w1,rfl,S,kS o1,?_⟩⟩⟩⟩
   rw [hA]
   refine ⟨_,rfl,fld hx G.cl_Ring G.na_Ring_shelf rF_shelf ⟨z.x,dxs,_,rfl,hxs,stF_no (by decide +kernel) (by decide +kernel),_,rfl,fld hx G.cl_Ring G.na_Ring_side rF_side ⟨_,rfl,fld hx G.cl_Ring G.na_Ring_fetched rF_fetched ⟨z.x,z.hd,z.rl,z.l,M,r,b,.str w2,.str w2,rfl,S,kS o2,?_⟩⟩⟩⟩
   rw [hT]
   exact ⟨_,rfl,_,rfl,_,rfl,fld hx G.cl_Ring G.na_Ring_size rF_size ⟨_,rfl,fld hx G.cl_Ring G.na_Ring_rounds rF_rounds ⟨A,T,p.s,p.R,rfl,hp.s0,hp.s8,hp.sR,k⟩⟩⟩
theorem ok_full (G:Gs K mg a d):FnOk P w K mg base CX0 4 a.Ring_is_full d.Ring_is_full ["self"] (sp_full w a.Ring a.Store):=by
 have c_Ring_filled:FnOk P w K mg base CX0 3 _ _ _ _:=ok_filled G
 refine G.f_Ring_is_full.ok sc_Ring_is_full (λvs H Q E h=>?_) (λcdv A' outer s H vs Q E hr h=>?_)
 · obtain ⟨q,z,b,w0,w1,w2,p,M,r,A,T,rfl,_⟩:=h
   rfl
 · obtain ⟨q,z,b,w0,w1,w2,p,M,r,A,T,rfl,⟨dx,hx⟩,S,hp,o1,o2,hA,hT,k⟩:=h
   refine ⟨_,(@pss_one _ _ _ (@ps_ret _ _ _ _ (pe_cmpR op_eq (pe_meth0 (pv 0) G.cl_Ring G.mt_Ring_filled c_Ring_filled (hr.mono (by decide)) G.b_Ring_filled .nil pass0) (pe_fld (pv 0) rfl) (nomark _)))),?_⟩
   refine ⟨_,rfl,q,dx,_,rfl,hx,rF_filled,q,z,b,w0,w1,w2,p,M,r,A,T,rfl,⟨dx,hx⟩,S,hp,o1,o2,hA,hT,_,rfl,fld hx G.cl_Ring G.na_Ring_size rF_size ⟨rfl,?_⟩⟩
   have e:decide (V.int ((A - T) % (p.s * p.R))=V.int p.s)=decide ((A - T) % (p.s * p.R)=p.s):=by
     rw [decide_eq_decide];exact ⟨vint_inj,λz=>by rw [z]⟩
   rw [e]
   exact k
end

def sp_hinit (CH CR:Addr):Sp:=λvs H Q _=>∃ (h dx st ft:Addr) (s R n:Int) (fs:List Str),vs=[.ref h,.ref st,.int s,.int R,.int n,.ref ft]/\H h=some (.ins CH dx [])/\H ft=some (.tup (fs.map V.str)) /\
 ∀ (z:HA) (H':Hp),z.h=h->H z.ra=none->H z.rb=none->H z.gd=none->Hn CH CR H' z st ⟨s,if fs.contains "round" then 1 else R,fs.contains "counter"⟩ n []->Kp [h] H H'->Q .non H'
def sp_least (CH CR:Addr):Sp:=λvs H Q _=>∃ (z:HA) (st:Addr) (p:RP) (n:Nat) (aw:List Int),vs=[.ref z.h]/\Hn CH CR H z st p n aw/\n <= 9/\Q (match least n aw with | some k=>.int k | none=>.non) H
def sp_check (w:World) (CH CR CS F N:Addr):Sp:=λvs H Q E=>∃ (z:HA) (sa:SA) (p:RP) (n:Nat) (aw:List Int) (M:List (PyData × V)) (r:Bool->List (PyData × V)) (A T:Int),vs=[.ref z.h]/\Hn CH CR H z sa.x p n aw/\sa.At w CS H M r/\p.Ok/\n <= 9 /\
 readV M (r false) (.str "asked")=.int A/\readV M (r false) (.str "taken")=.int T/\if (A - T) % (p.s * p.R)=p.s then E (.ref F) none H else match least n aw with | none=>E (.ref N) none H | some _=>Q .non H
def sp_ask (w:World) (CH CR CS F N:Addr):Sp:=λvs H Q E=>∃ (z:HA) (sa:SA) (p:RP) (n:Nat) (aw:List Int) (M:List (PyData × V)) (r:Bool->List (PyData × V)) (wv:V) (A T:Int),vs=[.ref z.h,wv]/\Hn CH CR H z sa.x p n aw/\sa.At w CS H M r/\p.Ok/\n <= 9/\aw.length < 1000/\(r false).length < 99999 /\
 readV M (r false) (.str "asked")=.int A/\readV M (r false) (.str "taken")=.int T/\if (A - T) % (p.s * p.R)=p.s then E (.ref F) none H else match least n aw with
   | none=>E (.ref N) none H
   | some nm=>∀ t H',H t=none->H' t=some (.tup [.int nm,wv])->Hn CH CR H' z sa.x p n (aw++[nm])->sa.At w CS H' M (setR r false (r false++layRow p "ask" "asked" A (.ref t)))->Kp [z.gd,sa.l false] H H'->Q (.int nm) H'
def sp_under (CH CR:Addr):Sp:=λvs H Q _=>∃ (z:HA) (st:Addr) (p:RP) (n:Int) (aw:List Int),vs=[.ref z.h]/\Hn CH CR H z st p n aw/\aw.length < 64/\∀ (l:Addr) (ns:List Int),H l=none->ns.Perm aw->ns.Pairwise (· <= ·)->Q (.ref l) (upd H l (.lst (ns.map V.int)))
def sp_collect (w:World) (CH CR CS:Addr):Sp:=λvs H Q _=>∃ (z:HA) (sa:SA) (p:RP) (n:Int) (aw:List Int) (M:List (PyData × V)) (r:Bool->List (PyData × V)) (A T:Int),vs=[.ref z.h]/\Hn CH CR H z sa.x p n aw/\sa.At w CS H M r/\p.Ok/\(r false).length < 100000 /\
 readV M (r false) (.str "answered")=.int A/\readV M (r false) (.str "handed")=.int T/\(if (A - T) % (p.s * p.R)=0 then Q .non H else
   (∃ c nm wv,readV M (r false) (.tuple [.str "answer",.int (T % p.s)])=.ref c/\H c=some (.tup [.int nm,wv])/\∀ H',Hn CH CR H' z sa.x p n (aw.filter λk=>decide (k≠nm))->sa.At w CS H' M (setR r false (r false++[(.str "handed",.int ((T+1) % (p.s * p.R)))]))->Kp [z.gd,sa.l false] H H'->Q (.ref c) H') \/
   ∃ i,readV M (r false) (.tuple [.str "answer",.int (T % p.s)])=.int i/\∀ t H',H t=none->H' t=some (.tup [.non,.non])->Hn CH CR H' z sa.x p n aw->sa.At w CS H' M (setR r false (r false++[(.str "handed",.int ((T+1) % (p.s * p.R)))]))->Kp [sa.l false] H H'->Q (.ref t) H')
section
variable {P:Program} {w:World} {K:PySem.W.Frag} {mg:Str->Option Value} {base:Heap} {a:Ad} {d:Fd}
theorem ok_hinit (G:Gs K mg a d):FnOk P w K mg base CX0 4 a.Hand__init d.Hand__init ["self","store","size","rounds","names","faults"] (sp_hinit a.Hand a.Ring):=by
 have c_Ring__init:FnOk P w K mg base CX0 2 _ _ _ _:=ok_rinit G
 refine G.f_Hand__init.ok sc_Hand__init (λvs H Q E h=>?_) (λcdv A outer s H vs Q E hr h=>?_)
 · obtain ⟨h,dx,st,ft,s,R,n,fs,rfl,_⟩:=h
   rfl
 · obtain ⟨h,dx,st,ft,s,R,n,fs,rfl,hx,hf,k⟩:=h
   refine ⟨_,(@pss_cons _ _ _ _ _ (ps_fld (pv 0) (pe_make G.k_Ring c_Ring__init (hr.mono (by decide)) (by rfl) G.m_Ring G.b_Ring__init .nil pass0 (@pa_cons _ _ _ _ _ (pv 1) (@pa_cons _ _ _ _ _ pe_int (@pa_cons _ _ _ _ _ (pe_glob (v:=.ref a.T_ASKS) (by rfl) G.m_ASKS rfl) (@pa_cons _ _ _ _ _ (pv 2) (@pa_cons _ _ _ _ _ (pv 3) (@pa_cons _ _ _ _ _ (pv 5) pa_nil (by rfl)) (by rfl)) (by rfl)) (by rfl)) (by rfl)) (by rfl))) rfl)
     (@pss_cons _ _ _ _ _ (ps_fld (pv 0) (pe_make G.k_Ring c_Ring__init (hr.mono (by decide)) (by rfl) G.m_Ring G.b_Ring__init .nil pass0 (@pa_cons _ _ _ _ _ (pv 1) (@pa_cons _ _ _ _ _ pe_int (@pa_cons _ _ _ _ _ (pe_glob (v:=.ref a.T_ANSWERS) (by rfl) G.m_ANSWERS rfl) (@pa_cons _ _ _ _ _ (pv 2) (@pa_cons _ _ _ _ _ (pv 3) (@pa_cons _ _ _ _ _ (pv 5) pa_nil (by rfl)) (by rfl)) (by rfl)) (by rfl)) (by rfl)) (by rfl))) rfl)
     (@pss_cons _ _ _ _ _ (ps_fld (pv 0) (pv 4) rfl)
     (@pss_one _ _ _ (ps_fld (pv 0) pe_dnewK rfl))))),?_⟩
   refine ⟨_,rfl,_,rfl,_,rfl,_,rfl,λra da na nda nea=>?_⟩
   refine ⟨ra,da,st,a.T_ASKS,ft,false,"ask","asked","taken",s,R,fs,rfl,upd_same,G.t_ASKS,?_,λH1 r1 kp1=>?_⟩
   · rw [upd_ne (ne_of_none hf na),upd_ne (ne_of_none hf nda)];exact hf
   have e1:Same H H1:=λc o e=>kp1 c o (λz=>ne_of_none e na (List.mem_singleton.mp z)) (by rw [upd_ne (ne_of_none e na),upd_ne (ne_of_none e nda)];exact e)
   clear kp1
   refine ⟨rfl,_,rfl,h,a.Hand,dx,[],rfl,e1 _ _ hx,G.cl_Hand,G.na_Hand_asks,by decide,?_⟩
   have n1:ra≠h:=λz=>by rw [z,hx] at na;cases na
   have hx1:=e1 _ _ hx
   have kp2:Kp [h] H (upd H1 h (.ins a.Hand dx (putF "asks" (.ref ra) []))):=λc o n e=>by rw [upd_ne λz=>n (List.mem_singleton.mpr z)];exact e1 _ _ e
   have hx2:upd H1 h (.ins a.Hand dx (putF "asks" (.ref ra) [])) h=some (.ins a.Hand dx (putF "asks" (.ref ra) [])):=upd_same
   have r2:=r1.keep (H':=upd H1 h (.ins a.Hand dx (putF "asks" (.ref ra) []))) λo e=>by rw [upd_ne n1];exact e
   have hf2:upd H1 h (.ins a.Hand dx (putF "asks" (.ref ra) [])) ft=some (.tup (fs.map V.str)):=by
     rw [upd_ne (ne_of (e1 _ _ hf) hx1 (by intro z;cases z))];exact e1 _ _ hf
   generalize upd H1 h (.ins a.Hand dx (putF "asks" (.ref ra) []))=H2 at kp2 hx2 r2 hf2 ⊢
   refine ⟨_,rfl,_,rfl,_,rfl,_,rfl,λrb db nb ndb neb=>?_⟩
   refine ⟨rb,db,st,a.T_ANSWERS,ft,false,"answer","answered","handed",s,R,fs,rfl,upd_same,G.t_ANSWERS,?_,λH3 r3 kp3=>?_⟩
   · rw [upd_ne (ne_of_none hf2 nb),upd_ne (ne_of_none hf2 ndb)];exact hf2
   have e3:Same H2 H3:=λc o e=>kp3 c o (λz=>ne_of_none e nb (List.mem_singleton.mp z)) (by rw [upd_ne (ne_of_none e nb),upd_ne (ne_of_none e ndb)];exact e)
   clear kp3
   have nbH:H rb=none:=none_kp kp2 nb λx m=>by rw [List.mem_singleton.mp m,hx2];intro z;cases z
   have n3:rb≠h:=λz=>by rw [z,hx2] at nb;cases nb
   refine ⟨rfl,_,rfl,h,a.Hand,dx,_,rfl,e3 _ _ hx2,G.cl_Hand,G.na_Hand_answers,by show 1 < 1000;decide,?_⟩
   refine ⟨_,rfl,_,rfl,h,a.Hand,dx,_,rfl,upd_same,G.cl_Hand,G.na_Hand_names,by show 2 < 1000;decide,?_⟩
   rw [upd_upd]
   refine λgd hg=>⟨_,rfl,h,a.Hand,dx,_,rfl,(by rw [upd_ne (ne_of_none upd_same hg)];exact upd_same),G.cl_Hand,G.na_Hand_going,by show 3 < 1000;decide,?_⟩
   obtain ⟨ng,hg3⟩:=up1 hg
   have gdH:H gd=none:=none_kp kp2 (none_back e3 hg3) λx m=>by rw [List.mem_singleton.mp m,hx2];intro z;cases z
   refine k ⟨h,ra,rb,gd⟩ _ rfl na nbH gdH ⟨⟨dx,upd_same⟩,(r2.keep λo e=>e3 _ _ e).keep λo e=>?_,r3.keep λo e=>?_,?_⟩ λc o nc ec=>?_
   · rw [upd_ne n1,upd_ne (ne_of_none e hg3),upd_ne n1];exact e
   · rw [upd_ne n3,upd_ne (ne_of_none e hg3),upd_ne n3];exact e
   · rw [upd_ne ng,upd_same];rfl
   · have c1:c≠h:=λz=>nc (List.mem_singleton.mpr z)
     have e4:=e3 _ _ (kp2 c o nc ec)
     rw [upd_ne c1,upd_ne (ne_of_none e4 hg3),upd_ne c1];exact e4
theorem ok_least (G:Gs K mg a d):FnOk P w K mg base CX0 1 a.Hand_least_free d.Hand_least_free ["self"] (sp_least a.Hand a.Ring):=by
 refine G.f_Hand_least_free.ok sc_Hand_least_free (λvs H Q E h=>?_) (λcdv A outer s H vs Q E hr h=>?_)
 · obtain ⟨z,st,p,n,aw,rfl,_⟩:=h
   rfl
 · obtain ⟨z,st,p,n,aw,rfl,hn,hn9,k⟩:=h
   have hu:=hu_of hr
   refine ⟨_,(@pss_cons _ _ _ _ _ (ps_for PassesOwn.never rfl (pi_range1 (by rfl) G.n_range (@pa_cons _ _ _ _ _ (pe_fld (pv 0) rfl) pa_nil (by rfl))) (pg_name (i:=1) sc_Hand_least_free.nd rfl (Or.inl rfl)) (@pss_one _ _ _ (ps_if (pt_cmp (pc_dnotin hu (pv 1) (pe_fld (pv 0) rfl))) (@pss_one _ _ _ (@ps_ret _ _ _ _ (pv 1))) pss_nil)))
     (@pss_one _ _ _ (@ps_ret _ _ _ _ pe_non))),?_⟩
   obtain ⟨dx,hx⟩:=hn.ob
   refine ⟨_,rfl,fld hx G.cl_Hand G.na_Hand_names hF_names ⟨n,rfl,by omega,by omega,?_⟩⟩
   refine for_range (n:=((n:Nat):Int).toNat) (λi σ H'=>(∃ v,σ=[some (.ref z.h),v])/\H'=H/\∀ j < i,aw.contains (j:Int)=true) ⟨⟨_,rfl⟩,rfl,λj hj=>absurd hj (by omega)⟩ ?_ ?_
   · rintro i σ H' hi ⟨⟨v,rfl⟩,rfl,hno⟩
     rw [Int.zero_add]
     refine ⟨_,rfl,_,rfl,fld hx G.cl_Hand G.na_Hand_going hF_going ⟨z.gd,_,rfl,DGet.k (k:=.inl (i:Int)) hn.go,_,rfl,?_⟩⟩
     rw [gK_val]
     cases hc:aw.contains (i:Int) with
     | false =>
       rw [least_some (by omega) hc hno] at k
       exact iteT ⟨_,rfl,k⟩
     | true =>
       refine iteF ⟨⟨_,rfl⟩,rfl,λj hj=>?_⟩
       by_cases hji:j < i
       · exact hno j hji
       · have e:j=i:=by omega
         rw [e];exact hc
   · rintro σ H' ⟨⟨v,rfl⟩,rfl,hno⟩
     rw [least_none λj hj=>hno j (by omega)] at k
     exact k
theorem ok_check (G:Gs K mg a d):FnOk P w K mg base (CXv P w) 6 a.Hand_check_ask d.Hand_check_ask ["self"] (sp_check w a.Hand a.Ring a.Store a.Full a.NoName):=by
 have c_Ring_is_full:FnOk P w K mg base CX0 4 _ _ _ _:=ok_full G
 have c_Hand_least_free:FnOk P w K mg base CX0 1 _ _ _ _:=ok_least G
 refine G.f_Hand_check_ask.okX (k:=5) sc_Hand_check_ask (λvs H Q E h=>?_) (λcdv A' outer s' H vs Q E hr hR h=>?_)
 · obtain ⟨z,sa,p,n,aw,M,r,A,T,rfl,_⟩:=h
   rfl
 · obtain ⟨z,sa,p,n,aw,M,r,A,T,rfl,hn,S,hp,n9,hA,hT,k⟩:=h
   refine ⟨_,(@pss_cons _ _ _ _ _ (ps_if (pt_val (pe_meth0 (pe_fld (pv 0) rfl) G.cl_Ring G.mt_Ring_is_full c_Ring_is_full (hr.mono (by decide)) G.b_Ring_is_full .nil pass0)) (@pss_one _ _ _ (ps_raise hR hr.hd (by rfl) G.m_Full G.xc_Full (@pa_cons _ _ _ _ _ pe_str pa_nil (by rfl)))) pss_nil)
     (@pss_one _ _ _ (ps_if (pt_cmpR op_isN (pe_meth0 (pv 0) G.cl_Hand G.mt_Hand_least_free c_Hand_least_free (hr.mono (by decide)) G.b_Hand_least_free .nil pass0) pe_non (nomark _)) (@pss_one _ _ _ (ps_raise hR hr.hd (by rfl) G.m_NoName G.xc_NoName (@pa_cons _ _ _ _ _ pe_str pa_nil (by rfl)))) pss_nil))),?_⟩
   obtain ⟨dx,hx⟩:=hn.ob
   obtain ⟨dr,hra⟩:=hn.ra
   refine ⟨_,rfl,fld hx G.cl_Hand G.na_Hand_asks hF_asks ⟨z.ra,dr,_,rfl,hra,rF_full,z.ra,sa,false,"ask","asked","taken",p,M,r,A,T,rfl,⟨dr,hra⟩,S,hp,by decide +kernel,by decide +kernel,hA,hT,_,rfl,?_⟩⟩
   by_cases hc:(A - T) % (p.s * p.R)=p.s
   · rw [if_pos hc] at k
     exact iteDT hc ⟨by show 1 <= sizeLine;decide,k⟩
   rw [if_neg hc] at k
   refine iteDF hc ?_
   refine ⟨_,rfl,z.h,dx,_,rfl,hx,hF_least,z,sa.x,p,n,aw,rfl,hn,n9,rfl,_,rfl,?_⟩
   cases hle:least n aw with
   | none =>
     rw [hle] at k
     exact iteDT rfl ⟨by show 1 <= sizeLine;decide,k⟩
   | some nm =>
     rw [hle] at k
     exact iteDF (by intro z;cases z) k
theorem ok_under (G:Gs K mg a d):FnOk P w K mg base CX0 1 a.Hand_under_way d.Hand_under_way ["self"] (sp_under a.Hand a.Ring):=by
 refine G.f_Hand_under_way.ok sc_Hand_under_way (λvs H Q E h=>?_) (λcdv A outer s H vs Q E hr h=>?_)
 · obtain ⟨z,st,p,n,aw,rfl,_⟩:=h
   rfl
 · obtain ⟨z,st,p,n,aw,rfl,hn,hl,k⟩:=h
   refine ⟨_,(@pss_one _ _ _ (@ps_ret _ _ _ _ (pe_callB (call_sortedD rfl) (by rfl) G.n_sorted bt_sorted (@pa_cons _ _ _ _ _ (pe_fld (pv 0) rfl) pa_nil (by rfl))))),?_⟩
   obtain ⟨dx,hx⟩:=hn.ob
   exact ⟨_,rfl,fld hx G.cl_Hand G.na_Hand_going hF_going ⟨z.gd,_,aw,rfl,hn.go,by unfold gK;rw [List.map_map];rfl,hl,λp ns hp h1 h2=>k p ns hp h1 h2⟩⟩
end

def sp_tinit (CT CR:Addr):Sp:=λvs H Q _=>∃ (h dx st ft:Addr) (s R:Int) (fs:List Str),vs=[.ref h,.ref st,.int s,.int R,.ref ft]/\H h=some (.ins CT dx [])/\H ft=some (.tup (fs.map V.str)) /\
 ∀ (z:TA') (H':Hp),z.h=h->H z.ra=none->H z.rb=none->H z.gd=none->Tn CT CR H' z st ⟨s,if fs.contains "round" then 1 else R,fs.contains "counter"⟩ []->Kp [h] H H'->Q .non H'
def sp_taske (w:World) (CT CR CS:Addr):Sp:=λvs H Q _=>∃ (z:TA') (sa:SA) (p:RP) (ts:List Int) (M:List (PyData × V)) (r:Bool->List (PyData × V)) (A T:Int),vs=[.ref z.h]/\Tn CT CR H z sa.x p ts/\sa.At w CS H M r/\p.Ok/\ts.length < 1000/\(r true).length < 100000 /\
 readV M (r true) (.str "asked")=.int A/\readV M (r true) (.str "taken")=.int T/\(if (A - T) % (p.s * p.R)=0 then Q .non H else
   (∃ c nm wv,readV M (r true) (.tuple [.str "ask",.int (T % p.s)])=.ref c/\H c=some (.tup [.int nm,wv])/\∀ H',Tn CT CR H' z sa.x p (gNext ts nm)->sa.At w CS H' M (setR r true (r true++[(.str "taken",.int ((T+1) % (p.s * p.R)))]))->Kp [z.gd,sa.l true] H H'->Q (.ref c) H') \/
   ∃ i,readV M (r true) (.tuple [.str "ask",.int (T % p.s)])=.int i/\∀ t H',H t=none->H' t=some (.tup [.non,.non])->Tn CT CR H' z sa.x p ts->sa.At w CS H' M (setR r true (r true++[(.str "taken",.int ((T+1) % (p.s * p.R)))]))->Kp [sa.l true] H H'->Q (.ref t) H')
def sp_checka (w:World) (CT CR CS F N:Addr):Sp:=λvs H Q E=>∃ (z:TA') (sa:SA) (p:RP) (ts:List Int) (M:List (PyData × V)) (r:Bool->List (PyData × V)) (A T nm:Int),vs=[.ref z.h,.int nm]/\Tn CT CR H z sa.x p ts/\sa.At w CS H M r/\p.Ok /\
 readV M (r true) (.str "answered")=.int A/\readV M (r true) (.str "handed")=.int T/\if ts.contains nm=false then E (.ref N) none H else if (A - T) % (p.s * p.R)=p.s then E (.ref F) none H else Q .non H
def sp_answer (w:World) (CT CR CS F N:Addr):Sp:=λvs H Q E=>∃ (z:TA') (sa:SA) (p:RP) (ts:List Int) (M:List (PyData × V)) (r:Bool->List (PyData × V)) (A T nm:Int) (wv:V),vs=[.ref z.h,.int nm,wv]/\Tn CT CR H z sa.x p ts/\sa.At w CS H M r/\p.Ok/\(r true).length < 99999 /\
 readV M (r true) (.str "answered")=.int A/\readV M (r true) (.str "handed")=.int T/\if ts.contains nm=false then E (.ref N) none H else if (A - T) % (p.s * p.R)=p.s then E (.ref F) none H else
   ∀ t H',H t=none->H' t=some (.tup [.int nm,wv])->Tn CT CR H' z sa.x p (ts.filter λk=>decide (k≠nm))->sa.At w CS H' M (setR r true (r true++layRow p "answer" "answered" A (.ref t)))->Kp [z.gd,sa.l true] H H'->Q .non H'
def sp_tasks (CT CR:Addr):Sp:=λvs H Q _=>∃ (z:TA') (st:Addr) (p:RP) (ts:List Int),vs=[.ref z.h]/\Tn CT CR H z st p ts/\ts.length < 64/\∀ (l:Addr) (ns:List Int),H l=none->ns.Perm ts->ns.Pairwise (· <= ·)->Q (.ref l) (upd H l (.lst (ns.map V.int)))
section
variable {P:Program} {w:World} {K:PySem.W.Frag} {mg:Str->Option Value} {base:Heap} {a:Ad} {d:Fd}
theorem ok_tinit (G:Gs K mg a d):FnOk P w K mg base CX0 4 a.Heart__init d.Heart__init ["self","store","size","rounds","faults"] (sp_tinit a.Heart a.Ring):=by
 have c_Ring__init:FnOk P w K mg base CX0 2 _ _ _ _:=ok_rinit G
 refine G.f_Heart__init.ok sc_Heart__init (λvs H Q E h=>?_) (λcdv A outer s H vs Q E hr h=>?_)
 · obtain ⟨h,dx,st,ft,s,R,fs,rfl,_⟩:=h
   rfl
 · obtain ⟨h,dx,st,ft,s,R,fs,rfl,hx,hf,k⟩:=h
   refine ⟨_,(@pss_cons _ _ _ _ _ (ps_fld (pv 0) (pe_make G.k_Ring c_Ring__init (hr.mono (by decide)) (by rfl) G.m_Ring G.b_Ring__init .nil pass0 (@pa_cons _ _ _ _ _ (pv 1) (@pa_cons _ _ _ _ _ pe_int (@pa_cons _ _ _ _ _ (pe_glob (v:=.ref a.T_ASKS) (by rfl) G.m_ASKS rfl) (@pa_cons _ _ _ _ _ (pv 2) (@pa_cons _ _ _ _ _ (pv 3) (@pa_cons _ _ _ _ _ (pv 4) pa_nil (by rfl)) (by rfl)) (by rfl)) (by rfl)) (by rfl)) (by rfl))) rfl)
     (@pss_cons _ _ _ _ _ (ps_fld (pv 0) (pe_make G.k_Ring c_Ring__init (hr.mono (by decide)) (by rfl) G.m_Ring G.b_Ring__init .nil pass0 (@pa_cons _ _ _ _ _ (pv 1) (@pa_cons _ _ _ _ _ pe_int (@pa_cons _ _ _ _ _ (pe_glob (v:=.ref a.T_ANSWERS) (by rfl) G.m_ANSWERS rfl) (@pa_cons _ _ _ _ _ (pv 2) (@pa_cons _ _ _ _ _ (pv 3) (@pa_cons _ _ _ _ _ (pv 4) pa_nil (by rfl)) (by rfl)) (by rfl)) (by rfl)) (by rfl)) (by rfl))) rfl)
     (@pss_one _ _ _ (ps_fld (pv 0) pe_dnewK rfl)))),?_⟩
   refine ⟨_,rfl,_,rfl,_,rfl,_,rfl,λra da na nda nea=>?_⟩
   refine ⟨ra,da,st,a.T_ASKS,ft,true,"ask","asked","taken",s,R,fs,rfl,upd_same,G.t_ASKS,?_,λH1 r1 kp1=>?_⟩
   · rw [upd_ne (ne_of_none hf na),upd_ne (ne_of_none hf nda)];exact hf
   have e1:Same H H1:=λc o e=>kp1 c o (λz=>ne_of_none e na (List.mem_singleton.mp z)) (by rw [upd_ne (ne_of_none e na),upd_ne (ne_of_none e nda)];exact e)
   clear kp1
   refine ⟨rfl,_,rfl,h,a.Heart,dx,[],rfl,e1 _ _ hx,G.cl_Heart,G.na_Heart_asks,by decide,?_⟩
   have n1:ra≠h:=λz=>by rw [z,hx] at na;cases na
   have hx1:=e1 _ _ hx
   have kp2:Kp [h] H (upd H1 h (.ins a.Heart dx (putF "asks" (.ref ra) []))):=λc o n e=>by rw [upd_ne λz=>n (List.mem_singleton.mpr z)];exact e1 _ _ e
   have hx2:upd H1 h (.ins a.Heart dx (putF "asks" (.ref ra) [])) h=some (.ins a.Heart dx (putF "asks" (.ref ra) [])):=upd_same
   have r2:=r1.keep (H':=upd H1 h (.ins a.Heart dx (putF "asks" (.ref ra) []))) λo e=>by rw [upd_ne n1];exact e
   have hf2:upd H1 h (.ins a.Heart dx (putF "asks" (.ref ra) [])) ft=some (.tup (fs.map V.str)):=by
     rw [upd_ne (ne_of (e1 _ _ hf) hx1 (by intro z;cases z))];exact e1 _ _ hf
   generalize upd H1 h (.ins a.Heart dx (putF "asks" (.ref ra) []))=H2 at kp2 hx2 r2 hf2 ⊢
   refine ⟨_,rfl,_,rfl,_,rfl,_,rfl,λrb db nb ndb neb=>?_⟩
   refine ⟨rb,db,st,a.T_ANSWERS,ft,true,"answer","answered","handed",s,R,fs,rfl,upd_same,G.t_ANSWERS,?_,λH3 r3 kp3=>?_⟩
   · rw [upd_ne (ne_of_none hf2 nb),upd_ne (ne_of_none hf2 ndb)];exact hf2
   have e3:Same H2 H3:=λc o e=>kp3 c o (λz=>ne_of_none e nb (List.mem_singleton.mp z)) (by rw [upd_ne (ne_of_none e nb),upd_ne (ne_of_none e ndb)];exact e)
   clear kp3
   have nbH:H rb=none:=none_kp kp2 nb λx m=>by rw [List.mem_singleton.mp m,hx2];intro z;cases z
   have n3:rb≠h:=λz=>by rw [z,hx2] at nb;cases nb
   refine ⟨rfl,_,rfl,h,a.Heart,dx,_,rfl,e3 _ _ hx2,G.cl_Heart,G.na_Heart_answers,by show 1 < 1000;decide,?_⟩
   refine λgd hg=>⟨_,rfl,h,a.Heart,dx,_,rfl,(by rw [upd_ne (ne_of_none upd_same hg)];exact upd_same),G.cl_Heart,G.na_Heart_doing,by show 2 < 1000;decide,?_⟩
   obtain ⟨ng,hg3⟩:=up1 hg
   have gdH:H gd=none:=none_kp kp2 (none_back e3 hg3) λx m=>by rw [List.mem_singleton.mp m,hx2];intro z;cases z
   refine k ⟨h,ra,rb,gd⟩ _ rfl na nbH gdH ⟨⟨dx,upd_same⟩,(r2.keep λo e=>e3 _ _ e).keep λo e=>?_,r3.keep λo e=>?_,?_⟩ λc o nc ec=>?_
   · rw [upd_ne n1,upd_ne (ne_of_none e hg3),upd_ne n1];exact e
   · rw [upd_ne n3,upd_ne (ne_of_none e hg3),upd_ne n3];exact e
   · rw [upd_ne ng,upd_same];rfl
   · have c1:c≠h:=λz=>nc (List.mem_singleton.mpr z)
     have e4:=e3 _ _ (kp2 c o nc ec)
     rw [upd_ne c1,upd_ne (ne_of_none e4 hg3),upd_ne c1];exact e4
theorem ok_checka (G:Gs K mg a d):FnOk P w K mg base (CXv P w) 6 a.Heart_check_answer d.Heart_check_answer ["self","name"] (sp_checka w a.Heart a.Ring a.Store a.Full a.NoTask):=by
 have c_Ring_is_full:FnOk P w K mg base CX0 4 _ _ _ _:=ok_full G
 refine G.f_Heart_check_answer.okX (k:=5) sc_Heart_check_answer (λvs H Q E h=>?_) (λcdv A' outer s' H vs Q E hr hR h=>?_)
 · obtain ⟨z,sa,p,ts,M,r,A,T,nm,rfl,_⟩:=h
   rfl
 · obtain ⟨z,sa,p,ts,M,r,A,T,nm,rfl,hn,S,hp,hA,hT,k⟩:=h
   have hu:=hu_of hr
   refine ⟨_,(@pss_cons _ _ _ _ _ (ps_if (pt_cmp (pc_dnotin hu (pv 1) (pe_fld (pv 0) rfl))) (@pss_one _ _ _ (ps_raise hR hr.hd (by rfl) G.m_NoTask G.xc_NoTask (@pa_cons _ _ _ _ _ pe_str pa_nil (by rfl)))) pss_nil)
     (@pss_one _ _ _ (ps_if (pt_val (pe_meth0 (pe_fld (pv 0) rfl) G.cl_Ring G.mt_Ring_is_full c_Ring_is_full (hr.mono (by decide)) G.b_Ring_is_full .nil pass0)) (@pss_one _ _ _ (ps_raise hR hr.hd (by rfl) G.m_Full G.xc_Full (@pa_cons _ _ _ _ _ pe_str pa_nil (by rfl)))) pss_nil))),?_⟩
   obtain ⟨dx,hx⟩:=hn.ob
   obtain ⟨dr,hrb⟩:=hn.rb
   refine ⟨_,rfl,_,rfl,fld hx G.cl_Heart G.na_Heart_doing tF_doing ⟨z.gd,_,rfl,DGet.k (k:=.inl nm) hn.go,_,rfl,?_⟩⟩
   rw [gK_val]
   cases hc:ts.contains nm with
   | false =>
     rw [if_pos hc] at k
     exact iteT ⟨by show 1 <= sizeLine;decide,k⟩
   | true =>
     rw [if_neg (by rw [hc];decide)] at k
     refine iteF ?_
     refine ⟨_,rfl,fld hx G.cl_Heart G.na_Heart_answers tF_answers ⟨z.rb,dr,_,rfl,hrb,rF_full,z.rb,sa,true,"answer","answered","handed",p,M,r,A,T,rfl,⟨dr,hrb⟩,S,hp,by decide +kernel,by decide +kernel,hA,hT,_,rfl,?_⟩⟩
     by_cases hf:(A - T) % (p.s * p.R)=p.s
     · rw [if_pos hf] at k
       exact iteDT hf ⟨by show 1 <= sizeLine;decide,k⟩
     · rw [if_neg hf] at k
       exact iteDF hf k
theorem ok_tasks (G:Gs K mg a d):FnOk P w K mg base CX0 1 a.Heart_tasks d.Heart_tasks ["self"] (sp_tasks a.Heart a.Ring):=by
 refine G.f_Heart_tasks.ok sc_Heart_tasks (λvs H Q E h=>?_) (λcdv A outer s H vs Q E hr h=>?_)
 · obtain ⟨z,st,p,ts,rfl,_⟩:=h
   rfl
 · obtain ⟨z,st,p,ts,rfl,hn,hl,k⟩:=h
   refine ⟨_,(@pss_one _ _ _ (@ps_ret _ _ _ _ (pe_callB (call_sortedD rfl) (by rfl) G.n_sorted bt_sorted (@pa_cons _ _ _ _ _ (pe_fld (pv 0) rfl) pa_nil (by rfl))))),?_⟩
   obtain ⟨dx,hx⟩:=hn.ob
   exact ⟨_,rfl,fld hx G.cl_Heart G.na_Heart_doing tF_doing ⟨z.gd,_,ts,rfl,hn.go,by unfold gK;rw [List.map_map];rfl,hl,λp ns hp h1 h2=>k p ns hp h1 h2⟩⟩
end

def sp_initT (w:World) (C:Addr):Sp:=λvs H Q _=>∃ x dx,vs=[.ref x]/\H x=some (.ins C dx []) /\
 ∀ (sa:SA) (H':Hp),sa.x=x->(∀ c,sa.own c->c≠x->H c=none)->StT w C H' sa Mem.zero (λ_=>[])->Kp [x] H H'->Q .non H'
def sp_writeT (w:World) (C:Addr):Sp:=λvs H Q _=>∃ (sa:SA) (m:Mem) (rs:Bool->List Wr) (b:Bool) (cv wv:V) (x:Wr),vs=[.ref sa.x,.int (sdI b),cv,wv]/\StT w C H sa m rs/\(rs b).length < 99990/\KeyV H x.key cv/\DV H x.dat wv/\x.Ok /\
 ∀ H',StT w C H' sa m (setR rs b (rs b++[x]))->Kp [sa.l b] H H'->Q .non H'
def sp_drainT (w:World) (C:Addr):Sp:=λvs H Q _=>∃ (sa:SA) (m:Mem) (rs:Bool->List Wr) (b:Bool) (x:Wr) (rest:List Wr),vs=[.ref sa.x,.int (sdI b)]/\StT w C H sa m rs/\rs b=x :: rest /\
 ∀ H',StT w C H' sa (m.put x) (setR rs b rest)->Kp [sa.l b,sa.hd] H H'->Q .non H'
def wrD (x:Wr):PyData:=.tuple [x.key,x.dat]
def sp_waitsT (w:World) (C:Addr):Sp:=λvs H Q _=>∃ (sa:SA) (m:Mem) (rs:Bool->List Wr) (b:Bool),vs=[.ref sa.x,.int (sdI b)]/\StT w C H sa m rs /\
 ∀ (p:Addr) (ts:List V),H p=none->DVs H ((rs b).map wrD) ts->Q (.ref p) (upd H p (.lst ts))
theorem wrD_rows {H:Hp}:∀ {row:List Wr} {es:List (PyData × V)},Paired (WrR H) row es->Paired (RD H) es (row.map wrD)
 | _,_,.nil=>.nil
 | x :: _,_,.cons ⟨_,hk,hd⟩ t=>.cons ⟨x.dat,by rw [hk];rfl,hd⟩ (wrD_rows t)
theorem initT {w:World} {C:Addr} {vs:List V} {H:Hp} {Q:VK} {E:XK} (h:sp_initT w C vs H Q E):sp_init w C vs H Q E:=by
 obtain ⟨x,dx,rfl,hx,k⟩:=h
 refine ⟨x,dx,rfl,hx,λhd rl l H' f1 f2 f3 S kp=>k ⟨x,hd,rl,l⟩ H' rfl (λc hc n=>?_) ⟨[],_,S,MemR.zero,λ_=>.nil⟩ kp⟩
 rcases hc with y | y | y | y | y
 · exact absurd y n
 · rw [y];exact f1
 · rw [y];exact f2
 · rw [y];exact f3 _
 · rw [y];exact f3 _
theorem waitsT {w:World} {C:Addr} {vs:List V} {H:Hp} {Q:VK} {E:XK} (h:sp_waitsT w C vs H Q E):sp_waits w C vs H Q E:=by
 obtain ⟨sa,m,rs,b,rfl,⟨M,r,S,R,P⟩,k⟩:=h
 exact ⟨sa.x,sa.hd,sa.rl,sa.l,M,r,b,rfl,S,λp ts hp pr=>k p ts hp (rows_dvs pr (wrD_rows (P b)))⟩
def sp_askT (w:World) (CH CR CS F N:Addr):Sp:=λvs H Q E=>∃ (z:HA) (sa:SA) (p:RP) (n:Nat) (aw:List Int) (m:Mem) (rs:Bool->List Wr) (wt:Int),vs=[.ref z.h,.int wt]/\Hn CH CR H z sa.x p n aw/\StT w CS H sa m rs/\p.Ok/\n <= 9/\aw.length < 1000/\(rs false).length < 99990 /\
 if aheadT p m (rs false) .asked .taken=p.s then E (.ref F) none H else match least n aw with
   | none=>E (.ref N) none H
   | some nm=>∀ H',Hn CH CR H' z sa.x p n (aw++[nm])->StT w CS H' sa m (setR rs false (rs false++layT p m (rs false) false .asked nm wt))->Kp [z.gd,sa.l false] H H'->Q (.int nm) H'
def sp_collectT (w:World) (CH CR CS:Addr):Sp:=λvs H Q _=>∃ (z:HA) (sa:SA) (p:RP) (n:Int) (aw:List Int) (m:Mem) (rs:Bool->List Wr),vs=[.ref z.h]/\Hn CH CR H z sa.x p n aw/\StT w CS H sa m rs/\p.Ok/\(rs false).length < 99990 /\
 (if aheadT p m (rs false) .answered .handed=0 then Q .non H else match rdP m (rs false) true (rdC m (rs false) .handed % p.s) with
   | some nw=>∀ c H',H' c=some (.tup [.int nw.1,.int nw.2])->Hn CH CR H' z sa.x p n (aw.filter λk=>decide (k≠nw.1))->StT w CS H' sa m (setR rs false (rs false++[nextT p m (rs false) .handed]))->Kp [z.gd,sa.l false] H H'->Q (.ref c) H'
   | none=>∀ c H',H' c=some (.tup [.non,.non])->Hn CH CR H' z sa.x p n aw->StT w CS H' sa m (setR rs false (rs false++[nextT p m (rs false) .handed]))->Kp [z.gd,sa.l false] H H'->Q (.ref c) H')
def sp_takeT (w:World) (CT CR CS:Addr):Sp:=λvs H Q _=>∃ (z:TA') (sa:SA) (p:RP) (ts:List Int) (m:Mem) (rs:Bool->List Wr),vs=[.ref z.h]/\Tn CT CR H z sa.x p ts/\StT w CS H sa m rs/\p.Ok/\ts.length < 1000/\(rs true).length < 99990 /\
 (if aheadT p m (rs true) .asked .taken=0 then Q .non H else match rdP m (rs true) false (rdC m (rs true) .taken % p.s) with
   | some nw=>∀ c H',H' c=some (.tup [.int nw.1,.int nw.2])->Tn CT CR H' z sa.x p (gNext ts nw.1)->StT w CS H' sa m (setR rs true (rs true++[nextT p m (rs true) .taken]))->Kp [z.gd,sa.l true] H H'->Q (.ref c) H'
   | none=>∀ c H',H' c=some (.tup [.non,.non])->Tn CT CR H' z sa.x p ts->StT w CS H' sa m (setR rs true (rs true++[nextT p m (rs true) .taken]))->Kp [z.gd,sa.l true] H H'->Q (.ref c) H')
def sp_answerT (w:World) (CT CR CS F N:Addr):Sp:=λvs H Q E=>∃ (z:TA') (sa:SA) (p:RP) (ts:List Int) (m:Mem) (rs:Bool->List Wr) (nm wt:Int),vs=[.ref z.h,.int nm,.int wt]/\Tn CT CR H z sa.x p ts/\StT w CS H sa m rs/\p.Ok/\(rs true).length < 99990/\(∀ x∈ts,0 <= x/\x < 9) /\
 if ts.contains nm=false then E (.ref N) none H else if aheadT p m (rs true) .answered .handed=p.s then E (.ref F) none H else
   ∀ H',Tn CT CR H' z sa.x p (ts.filter λk=>decide (k≠nm))->StT w CS H' sa m (setR rs true (rs true++layT p m (rs true) true .answered nm wt))->Kp [z.gd,sa.l true] H H'->Q .non H'
def sp_whole:Sp:=λvs H Q _=>∃ i:Int,vs=[.int i]/\Q (.bl true) H
def sp_part:Sp:=λvs H Q _=>∃ (i:Int) (k:Str),vs=[.int i,.str k]/\∀ H',Same H H'->Q (.bl (partOk i k)) H'
def sp_isdeed:Sp:=λvs H Q _=>∃ (t:Addr) (x:Dd),vs=[.ref t]/\H t=some (.tup x.vs)/\x.Ok/\∀ H',Same H H'->Q (.bl true) H'
def sp_side:Sp:=λvs H Q _=>∃ (t:Addr) (x:Dd),vs=[.ref t]/\H t=some (.tup x.vs)/\∀ H',Same H H'->Q (.int (sdI x.side)) H'
section
variable {P:Program} {w:World} {K:PySem.W.Frag} {mg:Str->Option Value} {base:Heap} {a:Ad} {d:Fd}
theorem ok_whole (G:Gs K mg a d):FnOk P w K mg base CX0 1 a.is_whole d.is_whole ["value"] sp_whole:=by
 refine G.f_is_whole.ok sc_is_whole (λvs H Q E h=>?_) (λcdv A' outer s' H vs Q E hr h=>?_)
 · obtain ⟨i,rfl,_⟩:=h
   rfl
 · obtain ⟨i,rfl,k⟩:=h
   refine ⟨_,(@pss_one _ _ _ (@ps_ret _ _ _ _ (pe_and (pe_callB call_isinst (by rfl) G.n_isinstance bt_isinstance (@pa_cons _ _ _ _ _ (pv 0) (@pa_cons _ _ _ _ _ (pe_bltn (v:=.ty "int") (by rfl) G.n_int bt_int rfl) pa_nil (by rfl)) (by rfl))) (pe_one (pe_not (pe_callB call_isinst (by rfl) G.n_isinstance bt_isinstance (@pa_cons _ _ _ _ _ (pv 0) (@pa_cons _ _ _ _ _ (pe_bltn (v:=.ty "bool") (by rfl) G.n_bool bt_bool rfl) pa_nil (by rfl)) (by rfl)))))))),?_⟩
   exact ⟨_,rfl,_,_,.type "int",true,rfl,.int i,kx_ii,_,rfl,iteT ⟨_,rfl,_,_,.type "int",false,rfl,.int i,kx_ib,_,rfl,k⟩⟩
theorem ok_part (G:Gs K mg a d):FnOk P w K mg base CX0 2 a.is_part d.is_part ["value","kind"] sp_part:=by
 have c_is_whole:FnOk P w K mg base CX0 1 _ _ _ _:=ok_whole G
 refine G.f_is_part.ok sc_is_part (λvs H Q E h=>?_) (λcdv A' outer s' H vs Q E hr h=>?_)
 · obtain ⟨i,k,rfl,_⟩:=h
   rfl
 · obtain ⟨i,kd,rfl,k⟩:=h
   refine ⟨_,(@pss_cons _ _ _ _ _ (ps_if (pt_not (pt_val (pe_call c_is_whole (hr.mono (by decide)) (by rfl) G.m_is_whole G.f_is_whole.kp G.b_is_whole .nil pass0 (@pa_cons _ _ _ _ _ (pv 0) pa_nil (by rfl))))) (@pss_one _ _ _ (@ps_ret _ _ _ _ pe_bl)) pss_nil)
     (@pss_cons _ _ _ _ _ (ps_if (pt_cmpR op_eq (pv 1) pe_str (nomark _)) (@pss_one _ _ _ (@ps_ret _ _ _ _ (pe_chain op_le op_le (pe_un un_neg (pe_globI (by rfl) G.m_MOST_WORTH)) (pv 0) (pe_globI (by rfl) G.m_MOST_WORTH)))) pss_nil)
     (@pss_cons _ _ _ _ _ (ps_if (pt_cmpR op_eq (pv 1) pe_str (nomark _)) (@pss_one _ _ _ (@ps_ret _ _ _ _ (pe_cmpR op_in_seq (pv 0) (@pe_tup _ _ _ _ _ (@pa_cons _ _ _ _ _ pe_int (@pa_cons _ _ _ _ _ pe_int pa_nil (by rfl)) (by rfl))) (by with_unfolding_all rfl)))) pss_nil)
     (@pss_one _ _ _ (@ps_ret _ _ _ _ pe_bl))))),?_⟩
   refine ⟨_,rfl,i,rfl,_,rfl,iteF ?_⟩
   refine ⟨_,rfl,rfl,_,rfl,?_⟩
   by_cases h1:kd="worth"
   · refine iteC (decide_eq_true (by rw [h1])) ?_
     have e:partOk i kd=(decide (-1000000000 <= i) && decide (i <= 1000000000)):=by unfold partOk;rw [if_pos h1]
     refine ⟨_,rfl,_,rfl,_,_,rfl,rfl,_,rfl,?_⟩
     by_cases hb:-1000000000 <= i
     · refine iteC (decide_eq_true hb) ⟨_,_,rfl,rfl,?_⟩
       rw [decide_eq_true hb,Bool.true_and] at e
       show Q (.bl (decide (i <= 1000000000))) H
       rw [← e];exact k _ λ_ _ z=>z
     · refine iteN (by rw [decide_eq_true_eq];exact hb) ?_
       rw [decide_eq_false hb,Bool.false_and] at e
       show Q (.bl false) H
       rw [← e];exact k _ λ_ _ z=>z
   · refine iteN (by rw [decide_eq_true_eq];exact sne h1) ?_
     refine ⟨_,rfl,rfl,_,rfl,?_⟩
     by_cases h2:kd="side"
     · refine iteC (decide_eq_true (by rw [h2])) ?_
       have e:partOk i kd=(decide (i=0) || decide (i=1)):=by unfold partOk;rw [if_neg h1,if_pos h2]
       refine ⟨_,rfl,l2,λt ht=>⟨t,_,rfl,.inr (SqT.of upd_same),rfl,rfl,?_⟩⟩
       simp only [Bool.false_eq_true,if_false]
       have e2:inV (.int i) [V.int 0,V.int 1]=partOk i kd:=by
         have:=inV_int i [0,1]
         show inV (.int i) (([0,1]:List Int).map V.int)=_
         rw [this,e,List.contains_eq_mem,Bool.eq_iff_iff,decide_eq_true_eq,Bool.or_eq_true,decide_eq_true_eq,decide_eq_true_eq]
         simp
       rw [e2]
       exact k _ (same_new ht)
     · refine iteN (by rw [decide_eq_true_eq];exact sne h2) ?_
       have e:partOk i kd=true:=by unfold partOk;rw [if_neg h1,if_neg h2]
       show Q (.bl true) H
       rw [← e]
       exact k _ λ_ _ z=>z
theorem forms_at (x:Dd):∃ b,PyProof.Rows.KTD.datumAt x.word [("ask",a.V_FORMS_0),("collect",a.V_FORMS_1),("take",a.V_FORMS_2),("answer",a.V_FORMS_3),("bell",a.V_FORMS_4),("lie",a.V_FORMS_5),("look",a.V_FORMS_6),("drain",a.V_FORMS_7)]=some b/\(∀ (G:Gs K mg a d) (H:Hp),SqT K H b (x.ks.map V.str)):=by
 cases x
 · exact ⟨_,rfl,λG=>G.v_FORMS_0⟩
 · exact ⟨_,rfl,λG=>G.v_FORMS_1⟩
 · exact ⟨_,rfl,λG=>G.v_FORMS_2⟩
 · exact ⟨_,rfl,λG=>G.v_FORMS_3⟩
 · exact ⟨_,rfl,λG=>G.v_FORMS_4⟩
 · exact ⟨_,rfl,λG=>G.v_FORMS_5⟩
 · exact ⟨_,rfl,λG=>G.v_FORMS_6⟩
 · exact ⟨_,rfl,λG=>G.v_FORMS_7⟩
theorem ok_isdeed (G:Gs K mg a d):FnOk P w K mg base CX0 3 a.is_deed d.is_deed ["some"] sp_isdeed:=by
 have c_is_part:FnOk P w K mg base CX0 2 _ _ _ _:=ok_part G
 refine G.f_is_deed.ok sc_is_deed (λvs H Q E h=>?_) (λcdv A' outer s' H vs Q E hr h=>?_)
 · obtain ⟨t,x,rfl,_⟩:=h
   rfl
 · obtain ⟨t,x,rfl,ht,hx,k⟩:=h
   have hu:=hu_of hr
   refine ⟨_,(@pss_cons _ _ _ _ _ (ps_if ((pw_or (pt_not (pt_val (pe_callB call_isinst (by rfl) G.n_isinstance bt_isinstance (@pa_cons _ _ _ _ _ (pv 0) (@pa_cons _ _ _ _ _ (pe_bltn (v:=.ty "tuple") (by rfl) G.n_tuple bt_tuple rfl) pa_nil (by rfl)) (by rfl))))) (pw_or (pt_cmpR op_eq (pe_callB call_len_seq (by rfl) G.n_len bt_len (@pa_cons _ _ _ _ _ (pv 0) pa_nil (by rfl))) pe_int (nomark _)) (pw_or1 (pt_not (pt_val (pe_callB call_isinst (by rfl) G.n_isinstance bt_isinstance (@pa_cons _ _ _ _ _ (@pe_ix _ _ _ _ _ _ _ ix_tup (pv 0) pe_int (λ_ _=>rfl)) (@pa_cons _ _ _ _ _ (pe_bltn (v:=.ty "str") (by rfl) G.n_str bt_str rfl) pa_nil (by rfl)) (by rfl))))))))).pt (@pss_one _ _ _ (@ps_ret _ _ _ _ pe_bl)) pss_nil)
     (@pss_cons _ _ _ _ _ (@ps_set _ _ 1 _ _ _ _ sc_is_deed.nd rfl (Or.inl rfl) (pe_tabget (by rfl) G.m_FORMS G.f_FORMS (@pe_ix _ _ _ _ _ _ _ ix_tup (pv 0) pe_int (λ_ _=>rfl)) ⟨rfl,rfl,rfl,rfl⟩) (by rfl) (by first | exact .inl rfl | exact .inr rfl | assumption))
     (@pss_cons _ _ _ _ _ (ps_if ((pw_or (pt_cmpR op_isN (pv 1) pe_non (nomark _)) (pw_or1 (pt_cmpR op_ne (pe_callB call_len_seq (by rfl) G.n_len bt_len (@pa_cons _ _ _ _ _ (pv 0) pa_nil (by rfl))) (@pe_op _ _ _ _ _ _ _ _ op_add (pe_callB call_len_seq (by rfl) G.n_len bt_len (@pa_cons _ _ _ _ _ (pv 1) pa_nil (by rfl))) pe_int) (nomark _))))).pt (@pss_one _ _ _ (@ps_ret _ _ _ _ pe_bl)) pss_nil)
     (@pss_one _ _ _ (@ps_ret _ _ _ _ (pe_callB (call_all rfl) (by rfl) G.n_all bt_all (@pa_cons _ _ _ _ _ (by exact pe_comp2 (x:="value") (x2:="kind") (g:=gTup K 2 (gCons (gName 0) (gCons (gName 1) gNil))) (tc:=λ_ H Q=>Q true H) (te:=tCall sp_part [] E0 (tCons (tVar 0) (tCons (tVar 1) tNil))) (caps:=[]) (js:=[]) rfl (compOk rfl rfl (by decide +kernel) (by decide +kernel) rfl trivial rfl rfl) (compOk rfl rfl (by decide +kernel) (by decide +kernel) rfl trivial rfl rfl) (λC s₃ H₃ pins ex E'=>by exact pg_two rfl (show (["value","kind"]:List Str).Nodup from by decide +kernel) rfl rfl (.inl (lookup_relabel_local rfl)) (.inl (lookup_relabel_local rfl)) rfl rfl) (λy hy=>by cases hy) .nil (λy hy=>by cases hy) (pi_zip (by rfl) G.n_zip (@pa_cons _ _ _ _ _ (pe_slice sl_tup (pv 0) (po_some pe_int) po_none) (@pa_cons _ _ _ _ _ (pv 1) pa_nil (by rfl)) (by rfl))) (λC s₃ H₃ pins ex E'=>by exact pts_none) (λC s₃ H₃ pins ex E'=>by exact (pe_call c_is_part (hr.mono (by decide)) (by rfl) G.m_is_part G.f_is_part.kp G.b_is_part .nil pass0 (@pa_cons _ _ _ _ _ (pv 0) (@pa_cons _ _ _ _ _ (pv 1) pa_nil (by rfl)) (by rfl))))) pa_nil (by rfl)))))))),?_⟩
   obtain ⟨b,hb,hs⟩:=forms_at (K:=K) (mg:=mg) (d:=d) (a:=a) x
   have hs:=hs G
   obtain ⟨l1,l2'⟩:=x.len
   have ht':H t=some (.tup (.str x.word :: x.args.map V.int)):=by rw [← x.vs_eq];exact ht
   refine ⟨_,rfl,_,_,.type "tuple",true,rfl,.tup ht',kx_tt,_,rfl,iteF ?_⟩
   refine ⟨_,rfl,t,_,rfl,.inr (SqT.of ht'),rfl,_,rfl,iteN (by rw [decide_eq_true_eq];exact λy=>by have:=vint_inj y;rw [List.length_cons] at this;omega) ?_⟩
   refine ⟨_,rfl,t,_,_,_,rfl,rfl,SqT.of ht',atI_zero,_,_,.type "str",true,rfl,.str _,kx_ss,_,rfl,iteF ?_⟩
   refine ⟨_,rfl,t,_,_,_,rfl,rfl,SqT.of ht',atI_zero,x.word,rfl,?_⟩
   rw [hb]
   refine ⟨_,rfl,rfl,_,rfl,iteF ?_⟩
   refine ⟨_,rfl,t,_,rfl,.inr (SqT.of ht'),_,rfl,b,_,rfl,.inr (hs H),_,_,rfl,rfl,rfl,_,rfl,iteN ?_ ?_⟩
   · rw [Bool.not_eq_true',decide_eq_false_iff_not,Decidable.not_not]
     refine congrArg V.int ?_
     rw [List.length_cons,List.length_map,List.length_map,l1];rfl
   refine ⟨_,rfl,_,rfl,t,_,rfl,SqT.of ht',?_,λp1 hp1=>⟨_,rfl,true,p1,b,_,_,rfl,SqT.of upd_same,hs _,?_⟩⟩
   · rintro ⟨y,_⟩
     rw [show (some (1:Int))=some ((1:Nat):Int) from rfl,HT.sIx_nat,List.length_cons] at y
     omega
   have e1:=same_new (o:=.tup (cutV (V.str x.word :: x.args.map V.int) (some 1) none)) hp1
   rw [show (some (1:Int))=some ((1:Nat):Int) from rfl,cutV_fromY,show List.drop 1 (V.str x.word :: x.args.map V.int)=x.args.map V.int from rfl] at e1 ⊢
   have v1:upd H p1 (.tup (x.args.map V.int)) p1=some (.tup (x.args.map V.int)):=upd_same
   intro D hD
   generalize upd H p1 (.tup (x.args.map V.int))=H1 at e1 v1 hD ⊢
   refine ⟨λi mm ys H'=>i <= x.args.length/\mm=x.args.length - i/\ys=(List.replicate i true).map V.bl/\H' D=some (.lst ys)/\∀ c o,c≠D->H1 c=some o->H' c=some o,⟨_,Nat.zero_le _,rfl,rfl,upd_same,λc o n e=>by rw [upd_ne n];exact e⟩,?_⟩
   rintro i mm ys H2 ⟨hi,rfl,rfl,hD2,k2⟩
   have e2:Same H1 H2:=λc o e=>k2 c o (λy=>by rw [y,hD] at e;cases e) e
   refine ⟨hD2,Nat.lt_of_lt_of_le (show _ < 1000 by rw [List.length_map,List.length_replicate];omega) (by decide),?_⟩
   by_cases hii:i=x.args.length
   · refine .inl ⟨⟨_,SqT.of (e2 _ _ v1),by rw [List.length_map];omega⟩,D,List.replicate i true,rfl,SqL.of hD2,?_⟩
     have:(List.replicate i true).all id=true:=by
       rw [List.all_eq_true]
       intro y hy
       rw [(List.mem_replicate.mp hy).2];rfl
     rw [this]
     exact k _ (e1.trans e2)
   · have hlt:i < x.args.length:=by omega
     have hlt2:i < x.ks.length:=by omega
     refine .inr ⟨⟨_,_,_,_,SqT.of (e2 _ _ v1),hs _,by rw [List.getElem?_map,List.getElem?_eq_getElem hlt];rfl,by rw [List.getElem?_map,List.getElem?_eq_getElem hlt2];rfl⟩,?_⟩
     rintro v H3 ⟨T,xv,yv,hT,rfl,rfl,hxv,hyv⟩ v0 v1'
     have hxv:=hxv _ (SqT.of (e2 _ _ v1))
     have hyv:=hyv _ (hs _)
     rw [List.getElem?_map,List.getElem?_eq_getElem hlt] at hxv
     rw [List.getElem?_map,List.getElem?_eq_getElem hlt2] at hyv
     cases hxv
     cases hyv
     refine ⟨T,_,rfl,SqT.of upd_same,rfl,_,_,rfl,_,_,rfl,rfl,_,_,rfl,?_⟩
     refine iteT ⟨_,rfl,_,rfl,_,_,rfl,λH4 e4=>?_⟩
     have hp:=Dd.part hx i _ _ (List.getElem?_eq_getElem hlt) (List.getElem?_eq_getElem hlt2)
     rw [hp]
     have nD:D≠T:=λy=>by rw [← y,hD2] at hT;cases hT
     refine ⟨e4 _ _ (by rw [upd_ne nD];exact hD2),x.args.length - (i+1),by omega,by omega,rfl,by rw [List.replicate_succ',List.map_append];rfl,upd_same,λc o n e=>?_⟩
     rw [upd_ne n]
     exact e4 _ _ (same_new hT _ _ (k2 c o n e))
theorem ok_side (G:Gs K mg a d):FnOk P w K mg base CX0 1 a.side_of d.side_of ["some"] sp_side:=by
 refine G.f_side_of.ok sc_side_of (λvs H Q E h=>?_) (λcdv A' outer s' H vs Q E hr h=>?_)
 · obtain ⟨t,x,rfl,_⟩:=h
   rfl
 · obtain ⟨t,x,rfl,ht,k⟩:=h
   have hu:=hu_of hr
   refine ⟨_,(@pss_cons _ _ _ _ _ (ps_if (pt_cmpR op_in_seq (@pe_ix _ _ _ _ _ _ _ ix_tup (pv 0) pe_int (λ_ _=>rfl)) (@pe_tup _ _ _ _ _ (@pa_cons _ _ _ _ _ pe_str (@pa_cons _ _ _ _ _ pe_str pa_nil (by rfl)) (by rfl))) (by with_unfolding_all rfl)) (@pss_one _ _ _ (@ps_ret _ _ _ _ pe_int)) pss_nil)
     (@pss_cons _ _ _ _ _ (ps_if (pt_cmpR op_in_seq (@pe_ix _ _ _ _ _ _ _ ix_tup (pv 0) pe_int (λ_ _=>rfl)) (@pe_tup _ _ _ _ _ (@pa_cons _ _ _ _ _ pe_str (@pa_cons _ _ _ _ _ pe_str pa_nil (by rfl)) (by rfl))) (by with_unfolding_all rfl)) (@pss_one _ _ _ (@ps_ret _ _ _ _ pe_int)) pss_nil)
     (@pss_one _ _ _ (@ps_ret _ _ _ _ (@pe_ix _ _ _ _ _ _ _ ix_tup (pv 0) pe_int (λ_ _=>rfl)))))),?_⟩
   have ht':H t=some (.tup (.str x.word :: x.args.map V.int)):=by rw [← x.vs_eq];exact ht
   refine ⟨_,rfl,t,_,_,_,rfl,rfl,SqT.of ht',atI_zero,l2,λt1 h1=>⟨t1,_,rfl,.inr (SqT.of upd_same),rfl,rfl,_,rfl,?_⟩⟩
   have e1:=same_new (o:=.tup [V.str "ask",V.str "collect"]) h1
   generalize upd H t1 (.tup [V.str "ask",V.str "collect"])=H1 at e1 ⊢
   rcases x.grp with ⟨c1,hsd⟩ | ⟨c1,hsd⟩ | ⟨c1,hsd⟩
   · refine iteC ?_ ?_
     · rcases c1 with y | y<;>(rw [y];decide +kernel)
     · rw [hsd] at k
       exact k H1 e1
   · refine iteN ?_ ?_
     · rcases c1 with y | y<;>(rw [y];decide +kernel)
     refine ⟨_,rfl,t,_,_,_,rfl,rfl,SqT.of (e1 _ _ ht'),atI_zero,l2,λt2 h2=>⟨t2,_,rfl,.inr (SqT.of upd_same),rfl,rfl,_,rfl,iteC ?_ ?_⟩⟩
     · rcases c1 with y | y<;>(rw [y];decide +kernel)
     · rw [hsd] at k
       exact k _ (e1.trans (same_new h2))
   · refine iteN ?_ ?_
     · rcases c1 with y | y | y | y<;>(rw [y];decide +kernel)
     refine ⟨_,rfl,t,_,_,_,rfl,rfl,SqT.of (e1 _ _ ht'),atI_zero,l2,λt2 h2=>⟨t2,_,rfl,.inr (SqT.of upd_same),rfl,rfl,_,rfl,iteN ?_ ?_⟩⟩
     · rcases c1 with y | y | y | y<;>(rw [y];decide +kernel)
     rw [hsd] at ht'
     exact ⟨_,rfl,t,_,_,_,rfl,rfl,SqT.of ((e1.trans (same_new h2)) _ _ ht'),rfl,k _ (e1.trans (same_new h2))⟩
end

def sp_hcheckT (w:World) (CH CR CS F N:Addr):Sp:=λvs H Q E=>∃ (z:HA) (sa:SA) (p:RP) (n:Nat) (aw:List Int) (m:Mem) (rs:Bool->List Wr),vs=[.ref z.h]/\Hn CH CR H z sa.x p n aw/\StT w CS H sa m rs/\p.Ok/\n <= 9 /\
 if aheadT p m (rs false) .asked .taken=p.s then E (.ref F) none H else match least n aw with | none=>E (.ref N) none H | some _=>Q .non H
def sp_tcheckT (w:World) (CT CR CS F N:Addr):Sp:=λvs H Q E=>∃ (z:TA') (sa:SA) (p:RP) (ts:List Int) (m:Mem) (rs:Bool->List Wr) (nm:Int),vs=[.ref z.h,.int nm]/\Tn CT CR H z sa.x p ts/\StT w CS H sa m rs/\p.Ok /\
 if ts.contains nm=false then E (.ref N) none H else if aheadT p m (rs true) .answered .handed=p.s then E (.ref F) none H else Q .non H
theorem hcheckT {w:World} {CH CR CS F N:Addr} {vs:List V} {H:Hp} {Q:VK} {E:XK} (h:sp_hcheckT w CH CR CS F N vs H Q E):sp_check w CH CR CS F N vs H Q E:=by
 obtain ⟨z,sa,p,n,aw,m,rs,rfl,hn,⟨M,r,S,R,P⟩,hp,n9,k⟩:=h
 exact ⟨z,sa,p,n,aw,M,r,rdC m (rs false) .asked,rdC m (rs false) .taken,rfl,hn,S,hp,n9,readV_c R (P false) .asked,readV_c R (P false) .taken,k⟩
theorem tcheckT {w:World} {CT CR CS F N:Addr} {vs:List V} {H:Hp} {Q:VK} {E:XK} (h:sp_tcheckT w CT CR CS F N vs H Q E):sp_checka w CT CR CS F N vs H Q E:=by
 obtain ⟨z,sa,p,ts,m,rs,nm,rfl,hn,⟨M,r,S,R,P⟩,hp,k⟩:=h
 exact ⟨z,sa,p,ts,M,r,rdC m (rs true) .answered,rdC m (rs true) .handed,nm,rfl,hn,S,hp,readV_c R (P true) .answered,readV_c R (P true) .handed,k⟩
def rfC (a:Ad):Rf->Addr
 | .deed=>a.NoDeed
 | .full=>a.Full
 | .name=>a.NoName
 | .task=>a.NoTask
def sp_ycheck (w:World) (ad:Ad):Sp:=λvs H Q E=>∃ (a:YA) (q:YP) (S:YS) (x:Dd) (t:Addr),vs=[.ref a.y,.ref t]/\Yn w ad.Yard ad.Hand ad.Heart ad.Ring ad.Store H a q S/\q.Ok/\H t=some (.tup x.vs)/\x.Ok /\
 ∀ H',Same H H'->match x.chk q S with | none=>Q .non H' | some r=>E (.ref (rfC ad r)) none H'
def sp_yallow (w:World) (ad:Ad):Sp:=λvs H Q _=>∃ (a:YA) (q:YP) (S:YS) (x:Dd) (t:Addr),vs=[.ref a.y,.ref t]/\Yn w ad.Yard ad.Hand ad.Heart ad.Ring ad.Store H a q S/\q.Ok/\H t=some (.tup x.vs)/\x.Ok /\
 ∀ H',Same H H'->Q (.bl (x.chk q S).isNone) H'
theorem bd_at {f:Bool->Bd} (b:Bool):atI [V.str (f false).key,V.str (f true).key] (sdI b)=some (.str (f b).key):=by cases b<;>rfl
theorem qt_at {f:Bool->Bool} (b:Bool):atI [V.bl (f false),V.bl (f true)] (sdI b)=some (.bl (f b)):=by cases b<;>rfl
section
variable {P:Program} {w:World} {K:PySem.W.Frag} {mg:Str->Option Value} {base:Heap} {a:Ad} {d:Fd}
theorem ok_ycheck (G:Gs K mg a d):FnOk P w K mg base (CXv P w) 8 a.Yard_check d.Yard_check ["self","some"] (sp_ycheck w a):=by
 have c_is_deed:FnOk P w K mg base CX0 3 _ _ _ _:=ok_isdeed G
 have c_side_of:FnOk P w K mg base CX0 1 _ _ _ _:=ok_side G
 have c_Store_waits:FnOk P w K mg base CX0 1 _ _ _ _:=(ok_waits G).imp λvs H Q E=>waitsT
 have cx_Hand_check_ask:FnOk P w K mg base (CXv P w) 6 _ _ _ _:=(ok_check G).imp λvs H Q E=>hcheckT
 have cx_Heart_check_answer:FnOk P w K mg base (CXv P w) 6 _ _ _ _:=(ok_checka G).imp λvs H Q E=>tcheckT
 refine G.f_Yard_check.okX (k:=7) sc_Yard_check (λvs H Q E h=>?_) (λcdv A' outer s' H vs Q E hr hR h=>?_)
 · obtain ⟨y,q,S,x,t,rfl,_⟩:=h
   rfl
 · obtain ⟨y,q,S,x,t,rfl,Y,qo,ht,hx,k⟩:=h
   have hu:=hu_of hr
   refine ⟨_,(@pss_cons _ _ _ _ _ (ps_if (pt_not (pt_val (pe_call c_is_deed (hr.mono (by decide)) (by rfl) G.m_is_deed G.f_is_deed.kp G.b_is_deed .nil pass0 (@pa_cons _ _ _ _ _ (pv 1) pa_nil (by rfl))))) (@pss_one _ _ _ (ps_raise hR hr.hd (by rfl) G.m_NoDeed G.xc_NoDeed (@pa_cons _ _ _ _ _ pe_str pa_nil (by rfl)))) pss_nil)
     (@pss_cons _ _ _ _ _ (ps_if (pt_cmpR op_eq (@pe_ix _ _ _ _ _ _ _ ix_tup (pv 1) pe_int (λ_ _=>rfl)) pe_str (nomark _)) (@pss_cons _ _ _ _ _ (ps_if (pt_not (pt_truth (pe_meth (pe_fld (pv 0) rfl) G.cl_Store G.mt_Store_waits c_Store_waits (hr.mono (by decide)) G.b_Store_waits .nil pass0 (@pa_cons _ _ _ _ _ (@pe_ix _ _ _ _ _ _ _ ix_tup (pv 1) pe_int (λ_ _=>rfl)) pa_nil (by rfl))) (λ_=>rfl))) (@pss_one _ _ _ (ps_raise hR hr.hd (by rfl) G.m_NoDeed G.xc_NoDeed (@pa_cons _ _ _ _ _ pe_str pa_nil (by rfl)))) pss_nil)
     (@pss_one _ _ _ ps_retN)) pss_nil)
     (@pss_cons _ _ _ _ _ (ps_if (pt_cmpR op_ne (@pe_ix _ _ _ _ _ _ _ ix_list (pe_fld (pv 0) rfl) (pe_call c_side_of (hr.mono (by decide)) (by rfl) G.m_side_of G.f_side_of.kp G.b_side_of .nil pass0 (@pa_cons _ _ _ _ _ (pv 1) pa_nil (by rfl))) (λ_ _=>rfl)) (pe_ifExp (pt_cmpR op_eq (@pe_ix _ _ _ _ _ _ _ ix_tup (pv 1) pe_int (λ_ _=>rfl)) pe_str (nomark _)) pe_str pe_str) (nomark _)) (@pss_one _ _ _ (ps_raise hR hr.hd (by rfl) G.m_NoDeed G.xc_NoDeed (@pa_cons _ _ _ _ _ pe_str pa_nil (by rfl)))) pss_nil)
     (@pss_cons _ _ _ _ _ (ps_if (pt_cmpR op_eq (@pe_ix _ _ _ _ _ _ _ ix_tup (pv 1) pe_int (λ_ _=>rfl)) pe_str (nomark _)) (@pss_one _ _ _ (@ps_expr _ _ _ _ (pe_meth0 (pe_fld (pv 0) rfl) G.cl_Hand G.mt_Hand_check_ask cx_Hand_check_ask (hr.mono (by decide)) G.b_Hand_check_ask .nil hR.passes) (by rfl))) pss_nil)
     (@pss_one _ _ _ (ps_if (pt_cmpR op_eq (@pe_ix _ _ _ _ _ _ _ ix_tup (pv 1) pe_int (λ_ _=>rfl)) pe_str (nomark _)) (@pss_one _ _ _ (@ps_expr _ _ _ _ (pe_meth (pe_fld (pv 0) rfl) G.cl_Heart G.mt_Heart_check_answer cx_Heart_check_answer (hr.mono (by decide)) G.b_Heart_check_answer .nil hR.passes (@pa_cons _ _ _ _ _ (@pe_ix _ _ _ _ _ _ _ ix_tup (pv 1) pe_int (λ_ _=>rfl)) pa_nil (by rfl))) (by rfl))) pss_nil)))))),?_⟩
   have ht':H t=some (.tup (.str x.word :: x.args.map V.int)):=by rw [← x.vs_eq];exact ht
   refine ⟨_,rfl,t,x,rfl,ht,hx,λH1 e1=>⟨_,rfl,iteF ?_⟩⟩
   have Y1:=Y.same e1
   have ht1:=e1 _ _ ht'
   refine ⟨_,rfl,t,_,_,_,rfl,rfl,SqT.of ht1,atI_zero,rfl,_,rfl,?_⟩
   by_cases hd:∃ b,x=.drain b
   · obtain ⟨b,rfl⟩:=hd
     refine iteC (decide_eq_true rfl) ?_
     refine ⟨_,rfl,fldE Y1.ob G.cl_Yard G.na_Yard_shelf yF_shelf (mthE Y1.x.st.ob (stF_no (by decide +kernel) (by decide +kernel)) ?_)⟩
     refine ⟨_,rfl,t,_,_,_,rfl,rfl,SqT.of ht1,rfl,y.sa,S.m,S.rs,b,rfl,Y1.x.st,λp2 ts hp2 dv=>?_⟩
     have e2:=same_new (o:=.lst ts) hp2
     have hl:=dvs_len dv
     rw [List.length_map] at hl
     refine ⟨!ts.isEmpty,.inl ⟨_,SqL.of upd_same,rfl⟩,?_⟩
     have k2:=k _ (e1.trans e2)
     cases hrs:S.rs b with
     | nil =>
       rw [hrs] at hl
       have:ts=[]:=List.length_eq_zero_iff.mp hl
       subst this
       rw [show (Dd.drain b).chk q S=some .deed from if_pos hrs] at k2
       exact iteT ⟨by show 1 <= sizeLine;decide,k2⟩
     | cons r rest =>
       rw [hrs] at hl
       have:ts.isEmpty=false:=by cases ts with | nil=>cases hl | cons=>rfl
       rw [this]
       rw [show (Dd.drain b).chk q S=none from if_neg (by rw [hrs];exact λy=>by cases y)] at k2
       exact iteF k2
   · have hnd:∀ b,x≠.drain b:=λb e=>hd ⟨b,e⟩
     refine iteN (by rw [decide_eq_true_eq];exact sne λy=>hd ((x.word_drain).mp y)) ?_
     refine ⟨_,rfl,fldE Y1.ob G.cl_Yard G.na_Yard_sleepers yF_sleepers ?_⟩
     refine ⟨_,rfl,t,x,rfl,e1 _ _ ht,λH2 e2=>?_⟩
     have Y2:=Y1.same e2
     have ht2:=e2 _ _ ht1
     refine ⟨y.sl,_,_,_,rfl,rfl,SqL.of Y2.sl,bd_at x.side,?_⟩
     refine ⟨_,rfl,t,_,_,_,rfl,rfl,SqT.of ht2,atI_zero,rfl,_,rfl,?_⟩
     have e3:=e1.trans e2
     have bad:∀ {X:Prop},S.bd x.side≠x.need->E (.ref a.NoDeed) none H2:=λ{X} hb=>by
       have k2:=k H2 e3
       rw [Dd.chk_bed hnd hb] at k2
       exact k2
     rcases x.word_look with ⟨hw,hn,b,rfl⟩ | ⟨hw,hn⟩
     · refine iteC (decide_eq_true (by rw [hw])) ⟨rfl,_,rfl,?_⟩
       by_cases hb:S.bd (Dd.look b).side=(Dd.look b).need
       · refine iteN (by rw [hb,hn];decide +kernel) ?_
         refine ⟨_,rfl,t,_,_,_,rfl,rfl,SqT.of ht2,atI_zero,rfl,_,rfl,iteN (by rw [decide_eq_true_eq];exact sne (show ¬ (("look":Str)="ask") by decide +kernel)) ?_⟩
         refine ⟨_,rfl,t,_,_,_,rfl,rfl,SqT.of ht2,atI_zero,rfl,_,rfl,iteN (by rw [decide_eq_true_eq];exact sne (show ¬ (("look":Str)="answer") by decide +kernel)) ?_⟩
         have k2:=k H2 e3
         rw [show (Dd.look b).chk q S=none from if_pos hb] at k2
         exact k2
       · refine iteC ?_ ⟨by show 1 <= sizeLine;decide,bad (X:=True) hb⟩
         have:=bd_ne hb
         rw [hn] at this
         rw [Bool.not_eq_true',decide_eq_false_iff_not]
         exact this
     · refine iteN (by rw [decide_eq_true_eq];exact sne hw) ⟨rfl,_,rfl,?_⟩
       by_cases hb:S.bd x.side=x.need
       · refine iteN (by rw [hb,hn];decide +kernel) ?_
         rcases x.word_aa with ⟨wt,rfl⟩ | ⟨nm,wt,rfl⟩ | ⟨h1,h2,h3⟩
         · refine ⟨_,rfl,t,_,_,_,rfl,rfl,SqT.of ht2,atI_zero,rfl,_,rfl,iteC (decide_eq_true rfl) ?_⟩
           refine ⟨_,rfl,fldE Y2.ob G.cl_Yard G.na_Yard_hand yF_hand (mthE Y2.x.hn.ob hF_check ⟨y.z,y.sa,q.p,q.n,S.un,S.m,S.rs,rfl,Y2.x.hn,Y2.x.st,qo.ok,qo.n9,?_⟩)⟩
           have k2:=k H2 e3
           rw [show (Dd.ask wt).chk q S=_ from if_pos hb] at k2
           by_cases hc:aheadT q.p S.m (S.rs false) .asked .taken=q.p.s
           · rw [if_pos hc] at k2 ⊢
             exact k2
           · rw [if_neg hc] at k2 ⊢
             cases hl:least q.n S.un with
             | none=>rw [hl] at k2;exact k2
             | some nm =>
               rw [hl] at k2
               exact ⟨_,rfl,t,_,_,_,rfl,rfl,SqT.of ht2,atI_zero,rfl,_,rfl,iteN (by rw [decide_eq_true_eq];exact sne (show ¬ (("ask":Str)="answer") by decide +kernel)) k2⟩
         · refine ⟨_,rfl,t,_,_,_,rfl,rfl,SqT.of ht2,atI_zero,rfl,_,rfl,iteN (by rw [decide_eq_true_eq];exact sne (show ¬ (("answer":Str)="ask") by decide +kernel)) ?_⟩
           refine ⟨_,rfl,t,_,_,_,rfl,rfl,SqT.of ht2,atI_zero,rfl,_,rfl,iteC (decide_eq_true rfl) ?_⟩
           refine ⟨_,rfl,fldE Y2.ob G.cl_Yard G.na_Yard_heart yF_heart (mthE Y2.x.tn.ob tF_check ⟨_,rfl,t,_,_,_,rfl,rfl,SqT.of ht2,rfl,y.zt,y.sa,q.p,S.tk,S.m,S.rs,nm,rfl,Y2.x.tn,Y2.x.st,qo.ok,?_⟩)⟩
           have k2:=k H2 e3
           rw [show (Dd.answer nm wt).chk q S=_ from if_pos hb] at k2
           by_cases h0:S.tk.contains nm=false
           · rw [if_pos h0] at k2 ⊢
             exact k2
           · rw [if_neg h0] at k2 ⊢
             by_cases hc:aheadT q.p S.m (S.rs true) .answered .handed=q.p.s
             · rw [if_pos hc] at k2 ⊢
               exact k2
             · rw [if_neg hc] at k2 ⊢
               exact k2
         · refine ⟨_,rfl,t,_,_,_,rfl,rfl,SqT.of ht2,atI_zero,rfl,_,rfl,iteN (by rw [decide_eq_true_eq];exact sne h1) ?_⟩
           refine ⟨_,rfl,t,_,_,_,rfl,rfl,SqT.of ht2,atI_zero,rfl,_,rfl,iteN (by rw [decide_eq_true_eq];exact sne h2) ?_⟩
           have k2:=k H2 e3
           rw [h3 q S hnd hb] at k2
           exact k2
       · refine iteC ?_ ⟨by show 1 <= sizeLine;decide,bad (X:=True) hb⟩
         have:=bd_ne hb
         rw [hn] at this
         rw [Bool.not_eq_true',decide_eq_false_iff_not]
         exact this
theorem ok_yallow (G:Gs K mg a d):FnOk P w K mg base CX0 10 a.Yard_is_allowed d.Yard_is_allowed ["self","some"] (sp_yallow w a):=by
 have cx_Yard_check:FnOk P w K mg base (CXv P w) 8 _ _ _ _:=ok_ycheck G
 refine G.f_Yard_is_allowed.ok sc_Yard_is_allowed (λvs H Q E h=>?_) (λcdv A' outer s' H vs Q E hr h=>?_)
 · obtain ⟨y,q,S,x,t,rfl,_⟩:=h
   rfl
 · obtain ⟨y,q,S,x,t,rfl,Y,qo,ht,hx,k⟩:=h
   have hu:=hu_of hr
   refine ⟨_,(@pss_cons _ _ _ _ _ (ps_try ⟨rfl,rfl,rfl⟩ (λpins R=>by exact (@pss_one _ _ _ (@ps_expr _ _ _ _ (pe_methX rfl (pv 0) G.cl_Yard G.mt_Yard_check cx_Yard_check (hr.mono (by decide)) G.b_Yard_check .nil (@pa_cons _ _ _ _ _ (pv 1) pa_nil (by rfl))) (by rfl)))) (ph_cons ⟨rfl,rfl,rfl⟩ (by rfl) G.m_RingError (λe=>by exact (@pss_one _ _ _ (@ps_ret _ _ _ _ pe_bl))) ph_nil))
     (@pss_one _ _ _ (@ps_ret _ _ _ _ pe_bl))),?_⟩
   refine ⟨λσ' cls H'=>Same H H'/\x.chk q S≠none/\PySem.W.exmOne K cls (.ref a.RingError)=some true,?_,?_⟩
   · refine ⟨_,rfl,mthE Y.ob (yF_no (by decide +kernel)) ⟨_,rfl,y,q,S,x,t,rfl,Y,qo,ht,hx,λH1 e1=>?_⟩⟩
     cases hc:x.chk q S with
     | none =>
       have k1:=k H1 e1
       rw [hc] at k1
       exact k1
     | some r =>
       refine ⟨e1,(λy=>by cases y),?_⟩
       cases r
       · exact G.em_d
       · exact G.em_f
       · exact G.em_n
       · exact G.em_t
   · rintro σ' cls H' ⟨e1,hc,em⟩
     have k1:=k H' e1
     cases hc':x.chk q S with
     | none=>exact absurd hc' hc
     | some r =>
       rw [hc'] at k1
       exact ⟨true,em,k1⟩
end

def ypOf (s R:Int) (n:Nat) (fs:List Str):YP:=⟨⟨s,if fs.contains "round" then 1 else R,fs.contains "counter"⟩,n,!fs.contains "bell",!fs.contains "lie",!fs.contains "look"⟩
def sp_yinit (w:World) (ad:Ad):Sp:=λvs H Q _=>∃ (y dx ft:Addr) (s R:Int) (n:Nat) (fs:List Str),vs=[.ref y,.int s,.int R,.int n,.ref ft]/\H y=some (.ins ad.Yard dx [])/\H ft=some (.tup (fs.map V.str)) /\
 ∀ (a:YA) (H':Hp),a.y=y->(∀ c,a.own c->c≠y->H c=none)->Yn w ad.Yard ad.Hand ad.Heart ad.Ring ad.Store H' a (ypOf s R n fs) YS.zero->Kp [y] H H'->Q .non H'
def sp_made (w:World) (ad:Ad):Sp:=λvs H Q _=>∃ (a:YA) (q:YP) (S:YS),vs=[.ref a.y]/\Yn w ad.Yard ad.Hand ad.Heart ad.Ring ad.Store H a q S/\∀ t,H t=none->Q (.ref t) (upd H t (.tup [.int q.p.s,.int q.p.R]))
def sp_story (w:World) (ad:Ad):Sp:=λvs H Q _=>∃ (a:YA) (q:YP) (S:YS),vs=[.ref a.y]/\Yn w ad.Yard ad.Hand ad.Heart ad.Ring ad.Store H a q S/\∀ l ts,H l=none->DVs H S.hs ts->Q (.ref l) (upd H l (.lst ts))
def sp_sleeper (w:World) (ad:Ad):Sp:=λvs H Q _=>∃ (a:YA) (q:YP) (S:YS) (b:Bool),vs=[.ref a.y,.int (sdI b)]/\Yn w ad.Yard ad.Hand ad.Heart ad.Ring ad.Store H a q S/\Q (.str (S.bd b).key) H
def sp_isquiet (w:World) (ad:Ad):Sp:=λvs H Q _=>∃ (a:YA) (q:YP) (S:YS) (b:Bool),vs=[.ref a.y,.int (sdI b)]/\Yn w ad.Yard ad.Hand ad.Heart ad.Ring ad.Store H a q S/\Q (.bl (S.qt b)) H
def sp_ystore (w:World) (ad:Ad):Sp:=λvs H Q _=>∃ (a:YA) (q:YP) (S:YS),vs=[.ref a.y]/\Yn w ad.Yard ad.Hand ad.Heart ad.Ring ad.Store H a q S/\Q (.ref a.sa.x) H
section
variable {P:Program} {w:World} {K:PySem.W.Frag} {mg:Str->Option Value} {base:Heap} {a:Ad} {d:Fd}
theorem ok_made (G:Gs K mg a d):FnOk P w K mg base CX0 1 a.Yard_made d.Yard_made ["self"] (sp_made w a):=by
 refine G.f_Yard_made.ok sc_Yard_made (λvs H Q E h=>?_) (λcdv A' outer s' H vs Q E hr h=>?_)
 · obtain ⟨y,q,S,rfl,_⟩:=h
   rfl
 · obtain ⟨y,q,S,rfl,Y,k⟩:=h
   refine ⟨_,(@pss_one _ _ _ (@ps_ret _ _ _ _ (@pe_tup _ _ _ _ _ (@pa_cons _ _ _ _ _ (pe_fld (pv 0) rfl) (@pa_cons _ _ _ _ _ (pe_fld (pv 0) rfl) pa_nil (by rfl)) (by rfl))))),?_⟩
   exact ⟨_,rfl,fldE Y.ob G.cl_Yard G.na_Yard_size yF_size ⟨_,rfl,fldE Y.ob G.cl_Yard G.na_Yard_rounds yF_rounds ⟨l2,λt ht=>k t ht⟩⟩⟩
theorem ok_story (G:Gs K mg a d):FnOk P w K mg base CX0 1 a.Yard_story d.Yard_story ["self"] (sp_story w a):=by
 refine G.f_Yard_story.ok sc_Yard_story (λvs H Q E h=>?_) (λcdv A' outer s' H vs Q E hr h=>?_)
 · obtain ⟨y,q,S,rfl,_⟩:=h
   rfl
 · obtain ⟨y,q,S,rfl,Y,k⟩:=h
   refine ⟨_,(@pss_one _ _ _ (@ps_ret _ _ _ _ (pe_callTy call_list_of (by rfl) G.n_list bt_list (@pa_cons _ _ _ _ _ (pe_fld (pv 0) rfl) pa_nil (by rfl))))),?_⟩
   obtain ⟨ts,h1,h2⟩:=Y.hp
   exact ⟨_,rfl,fldE Y.ob G.cl_Yard G.na_Yard_happened yF_happened ⟨y.hp,ts,rfl,.inl (SqL.of h1),λl hl=>k l ts hl h2⟩⟩
theorem ok_sleeper (G:Gs K mg a d):FnOk P w K mg base CX0 1 a.Yard_sleeper d.Yard_sleeper ["self","side"] (sp_sleeper w a):=by
 refine G.f_Yard_sleeper.ok sc_Yard_sleeper (λvs H Q E h=>?_) (λcdv A' outer s' H vs Q E hr h=>?_)
 · obtain ⟨y,q,S,b,rfl,_⟩:=h
   rfl
 · obtain ⟨y,q,S,b,rfl,Y,k⟩:=h
   refine ⟨_,(@pss_one _ _ _ (@ps_ret _ _ _ _ (@pe_ix _ _ _ _ _ _ _ ix_list (pe_fld (pv 0) rfl) (pv 1) (λ_ _=>rfl)))),?_⟩
   exact ⟨_,rfl,fldE Y.ob G.cl_Yard G.na_Yard_sleepers yF_sleepers ⟨_,rfl,y.sl,_,_,_,rfl,rfl,SqL.of Y.sl,bd_at b,k⟩⟩
theorem ok_isquiet (G:Gs K mg a d):FnOk P w K mg base CX0 1 a.Yard_is_quiet d.Yard_is_quiet ["self","side"] (sp_isquiet w a):=by
 refine G.f_Yard_is_quiet.ok sc_Yard_is_quiet (λvs H Q E h=>?_) (λcdv A' outer s' H vs Q E hr h=>?_)
 · obtain ⟨y,q,S,b,rfl,_⟩:=h
   rfl
 · obtain ⟨y,q,S,b,rfl,Y,k⟩:=h
   refine ⟨_,(@pss_one _ _ _ (@ps_ret _ _ _ _ (@pe_ix _ _ _ _ _ _ _ ix_list (pe_fld (pv 0) rfl) (pv 1) (λ_ _=>rfl)))),?_⟩
   exact ⟨_,rfl,fldE Y.ob G.cl_Yard G.na_Yard_quiet yF_quiet ⟨_,rfl,y.qu,_,_,_,rfl,rfl,SqL.of Y.qu,qt_at b,k⟩⟩
theorem ok_ystore (G:Gs K mg a d):FnOk P w K mg base CX0 1 a.Yard_store d.Yard_store ["self"] (sp_ystore w a):=by
 refine G.f_Yard_store.ok sc_Yard_store (λvs H Q E h=>?_) (λcdv A' outer s' H vs Q E hr h=>?_)
 · obtain ⟨y,q,S,rfl,_⟩:=h
   rfl
 · obtain ⟨y,q,S,rfl,Y,k⟩:=h
   refine ⟨_,(@pss_one _ _ _ (@ps_ret _ _ _ _ (pe_fld (pv 0) rfl))),?_⟩
   exact ⟨_,rfl,fldE Y.ob G.cl_Yard G.na_Yard_shelf yF_shelf k⟩
theorem ok_yinit (G:Gs K mg a d):FnOk P w K mg base CX0 6 a.Yard__init d.Yard__init ["self","size","rounds","names","faults"] (sp_yinit w a):=by
 have c_rounds_with:FnOk P w K mg base CX0 1 _ _ _ _:=ok_rwith G
 have c_Store__init:FnOk P w K mg base CX0 1 _ _ _ _:=(ok_init G).imp λvs H Q E=>initT
 have c_Hand__init:FnOk P w K mg base CX0 4 _ _ _ _:=ok_hinit G
 have c_Heart__init:FnOk P w K mg base CX0 4 _ _ _ _:=ok_tinit G
 refine G.f_Yard__init.ok sc_Yard__init (λvs H Q E h=>?_) (λcdv A' outer s' H vs Q E hr h=>?_)
 · obtain ⟨y,dx,ft,s,R,n,fs,rfl,_⟩:=h
   rfl
 · obtain ⟨y,dx,ft,s,R,n,fs,rfl,hx,hf,k⟩:=h
   have hu:=hu_of hr
   refine ⟨_,(@pss_cons _ _ _ _ _ (ps_fld (pv 0) (pv 1) rfl)
     (@pss_cons _ _ _ _ _ (ps_fld (pv 0) (pe_call c_rounds_with (hr.mono (by decide)) (by rfl) G.m_rounds_with G.f_rounds_with.kp G.b_rounds_with .nil pass0 (@pa_cons _ _ _ _ _ (pv 2) (@pa_cons _ _ _ _ _ (pv 4) pa_nil (by rfl)) (by rfl))) rfl)
     (@pss_cons _ _ _ _ _ (ps_fld (pv 0) (pe_callTy call_tuple_of (by rfl) G.n_tuple bt_tuple (@pa_cons _ _ _ _ _ (pv 4) pa_nil (by rfl))) rfl)
     (@pss_cons _ _ _ _ _ (ps_fld (pv 0) (pe_make0 G.k_Store c_Store__init (hr.mono (by decide)) (by rfl) G.m_Store G.b_Store__init .nil pass0) rfl)
     (@pss_cons _ _ _ _ _ (ps_fld (pv 0) (pe_make G.k_Hand c_Hand__init (hr.mono (by decide)) (by rfl) G.m_Hand G.b_Hand__init .nil pass0 (@pa_cons _ _ _ _ _ (pe_fld (pv 0) rfl) (@pa_cons _ _ _ _ _ (pv 1) (@pa_cons _ _ _ _ _ (pv 2) (@pa_cons _ _ _ _ _ (pv 3) (@pa_cons _ _ _ _ _ (pv 4) pa_nil (by rfl)) (by rfl)) (by rfl)) (by rfl)) (by rfl))) rfl)
     (@pss_cons _ _ _ _ _ (ps_fld (pv 0) (pe_make G.k_Heart c_Heart__init (hr.mono (by decide)) (by rfl) G.m_Heart G.b_Heart__init .nil pass0 (@pa_cons _ _ _ _ _ (pe_fld (pv 0) rfl) (@pa_cons _ _ _ _ _ (pv 1) (@pa_cons _ _ _ _ _ (pv 2) (@pa_cons _ _ _ _ _ (pv 4) pa_nil (by rfl)) (by rfl)) (by rfl)) (by rfl))) rfl)
     (@pss_cons _ _ _ _ _ (ps_fld (pv 0) (pe_cmpR op_notIn_seq pe_str (pv 4) (by with_unfolding_all rfl)) rfl)
     (@pss_cons _ _ _ _ _ (ps_fld (pv 0) (pe_cmpR op_notIn_seq pe_str (pv 4) (by with_unfolding_all rfl)) rfl)
     (@pss_cons _ _ _ _ _ (ps_fld (pv 0) (pe_cmpR op_notIn_seq pe_str (pv 4) (by with_unfolding_all rfl)) rfl)
     (@pss_cons _ _ _ _ _ (ps_fld (pv 0) (@pe_lst _ _ _ _ (@pa_cons _ _ _ _ _ pe_str (@pa_cons _ _ _ _ _ pe_str pa_nil (by rfl)) (by rfl))) rfl)
     (@pss_cons _ _ _ _ _ (ps_fld (pv 0) (@pe_lst _ _ _ _ (@pa_cons _ _ _ _ _ pe_bl (@pa_cons _ _ _ _ _ pe_bl pa_nil (by rfl)) (by rfl))) rfl)
     (@pss_one _ _ _ (ps_fld (pv 0) (@pe_lst _ _ _ _ pa_nil) rfl))))))))))))),?_⟩
   refine ⟨_,rfl,_,rfl,y,a.Yard,dx,[],rfl,hx,G.cl_Yard,G.na_Yard_size,by decide,?_⟩
   have fy:ft≠y:=λz=>by rw [z,hx] at hf;cases hf
   refine ⟨_,rfl,_,rfl,R,ft,fs,rfl,by rw [upd_ne fy];exact hf,_,rfl,y,a.Yard,dx,_,rfl,upd_same,G.cl_Yard,G.na_Yard_rounds,by show 1 < 1000;decide,?_⟩
   rw [upd_upd]
   refine ⟨_,rfl,ft,_,rfl,.inr ⟨SqT.of (by rw [upd_ne fy];exact hf),?_⟩⟩
   refine ⟨_,rfl,y,a.Yard,dx,_,rfl,upd_same,G.cl_Yard,G.na_Yard_faults,by show 2 < 1000;decide,?_⟩
   rw [upd_upd]
   generalize hF3:putF "faults" (.ref ft) (putF "rounds" (.int (if fs.contains "round" then 1 else R)) (putF "size" (.int s) []))=F3
   have hl3:F3.length=3:=by rw [← hF3];rfl
   have kp3:Kp [y] H (upd H y (.ins a.Yard dx F3)):=Kp.one
   have hx3:upd H y (.ins a.Yard dx F3) y=some (.ins a.Yard dx F3):=upd_same
   have hf3:upd H y (.ins a.Yard dx F3) ft=some (.tup (fs.map V.str)):=by rw [upd_ne fy];exact hf
   generalize upd H y (.ins a.Yard dx F3)=H3 at kp3 hx3 hf3 ⊢
   have up:∀ {Hi:Hp} {F:List (Str × V)} {c:Addr} {o:HO},c≠y->Hi c=some o->upd Hi y (.ins a.Yard dx F) c=some o:=λn e=>by rw [upd_ne n];exact e
   have nn:∀ {Hi:Hp} {F:List (Str × V)} {c:Addr},Hi y=some (.ins a.Yard dx F)->Hi c=none->c≠y:=λe h z=>by rw [z,e] at h;cases h
   intro x dxs nx ndx nex
   refine ⟨x,dxs,rfl,upd_same,λsa H4 hsx fsa S4 kp4=>⟨rfl,?_⟩⟩
   have e4:=new_hand nx ndx kp4
   have fs4:∀ c,sa.own c->H3 c=none:=λc hc=>by
     by_cases z:c=x
     · rw [z];exact nx
     · exact (up1 (up1 (fsa c hc z)).2).2
   subst hsx
   refine ⟨_,rfl,y,a.Yard,dx,F3,rfl,e4 _ _ hx3,G.cl_Yard,G.na_Yard_shelf,by rw [hl3];decide,?_⟩
   clear kp4 nx ndx nex fsa
   have S5:StT w a.Store (upd H4 y (.ins a.Yard dx (putF "shelf" (.ref sa.x) F3))) sa Mem.zero λ_=>[]:=S4.keep (λc o hc e=>up (nn hx3 (fs4 c hc)) e) λb vs e=>up (λz=>by rw [z,e4 _ _ hx3] at e;cases e) e
   have kp5:Kp [y] H3 (upd H4 y (.ins a.Yard dx (putF "shelf" (.ref sa.x) F3))):=λc o n e=>up (λz=>n (List.mem_singleton.mpr z)) (e4 _ _ e)
   have hx5:upd H4 y (.ins a.Yard dx (putF "shelf" (.ref sa.x) F3)) y=some (.ins a.Yard dx (putF "shelf" (.ref sa.x) F3)):=upd_same
   have hf5:upd H4 y (.ins a.Yard dx (putF "shelf" (.ref sa.x) F3)) ft=some (.tup (fs.map V.str)):=up fy (e4 _ _ hf3)
   generalize upd H4 y (.ins a.Yard dx (putF "shelf" (.ref sa.x) F3))=H5 at S5 kp5 hx5 hf5 ⊢
   clear S4 e4
   refine ⟨_,rfl,fldE ⟨dx,hx5⟩ G.cl_Yard G.na_Yard_shelf (v:=.ref sa.x) (by rw [lookup_putF,if_pos rfl]) ⟨_,rfl,_,rfl,_,rfl,_,rfl,?_⟩⟩
   intro h dh nh ndh neh
   refine ⟨h,dh,sa.x,ft,s,R,n,fs,rfl,upd_same,?_,λz H6 hz g1 g2 g3 hn6 kp6=>⟨rfl,?_⟩⟩
   · rw [upd_ne (ne_of_none hf5 nh),upd_ne (ne_of_none hf5 ndh)];exact hf5
   have e6:=new_hand nh ndh kp6
   have fz:∀ c,z.own c->H5 c=none:=λc h2=>by
     rcases h2 with y | y | y | y
     · rw [y,hz];exact nh
     · rw [y];exact (up1 (up1 g1).2).2
     · rw [y];exact (up1 (up1 g2).2).2
     · rw [y];exact (up1 (up1 g3).2).2
   subst hz
   refine ⟨_,rfl,y,a.Yard,dx,_,rfl,e6 _ _ hx5,G.cl_Yard,G.na_Yard_hand,?_,?_⟩
   · rw [← hF3];show 4 < 1000;decide
   generalize hF7:putF "hand" (.ref z.h) (putF "shelf" (.ref sa.x) F3)=F7
   have S7:StT w a.Store (upd H6 y (.ins a.Yard dx F7)) sa Mem.zero λ_=>[]:=(S5.same e6).keep (λc o hc e=>up (nn hx3 (fs4 c hc)) e) λb vs e=>up (λz=>by rw [z,e6 _ _ hx5] at e;cases e) e
   have hn7:Hn a.Hand a.Ring (upd H6 y (.ins a.Yard dx F7)) z sa.x ⟨s,if fs.contains "round" then 1 else R,fs.contains "counter"⟩ n []:=hn6.keep λc o hc e=>up (nn hx5 (fz c hc)) e
   have kp7:Kp [y] H5 (upd H6 y (.ins a.Yard dx F7)):=λc o n e=>up (λz=>n (List.mem_singleton.mpr z)) (e6 _ _ e)
   have hx7:upd H6 y (.ins a.Yard dx F7) y=some (.ins a.Yard dx F7):=upd_same
   have hf7:upd H6 y (.ins a.Yard dx F7) ft=some (.tup (fs.map V.str)):=up fy (e6 _ _ hf5)
   generalize upd H6 y (.ins a.Yard dx F7)=H7 at S7 hn7 kp7 hx7 hf7 ⊢
   clear kp6 nh ndh neh g1 g2 g3 S5 hn6 e6
   refine ⟨_,rfl,fldE ⟨dx,hx7⟩ G.cl_Yard G.na_Yard_shelf (v:=.ref sa.x) (by rw [← hF7,lookup_putF,if_neg (by decide +kernel),lookup_putF,if_pos rfl]) ⟨_,rfl,_,rfl,_,rfl,?_⟩⟩
   intro h dh nh ndh neh
   refine ⟨h,dh,sa.x,ft,s,R,fs,rfl,upd_same,?_,λzt H8 hz g1 g2 g3 tn8 kp8=>⟨rfl,?_⟩⟩
   · rw [upd_ne (ne_of_none hf7 nh),upd_ne (ne_of_none hf7 ndh)];exact hf7
   have e8:=new_hand nh ndh kp8
   have fzt:∀ c,zt.own c->H7 c=none:=λc h2=>by
     rcases h2 with y | y | y | y
     · rw [y,hz];exact nh
     · rw [y];exact (up1 (up1 g1).2).2
     · rw [y];exact (up1 (up1 g2).2).2
     · rw [y];exact (up1 (up1 g3).2).2
   subst hz
   have dz:∀ c,z.own c->¬ zt.own c:=λc h1 h2=>by
     obtain ⟨o,e,_⟩:=hn7.there h1
     rw [fzt c h2] at e;cases e
   refine ⟨_,rfl,y,a.Yard,dx,_,rfl,e8 _ _ hx7,G.cl_Yard,G.na_Yard_heart,?_,?_⟩
   · rw [← hF7,← hF3];show 5 < 1000;decide
   have hf9:∀ F,upd H8 y (.ins a.Yard dx F) ft=some (.tup (fs.map V.str)):=λF=>up fy (e8 _ _ hf7)
   refine ⟨_,rfl,ft,_,rfl,.inr (SqT.of (hf9 _)),rfl,strs_flat fs,?_⟩
   refine ⟨_,rfl,y,a.Yard,dx,_,rfl,upd_same,G.cl_Yard,G.na_Yard_bell_fences,?_,?_⟩
   · rw [← hF7,← hF3];show 6 < 1000;decide
   rw [upd_upd]
   refine ⟨_,rfl,ft,_,rfl,.inr (SqT.of (hf9 _)),rfl,strs_flat fs,?_⟩
   refine ⟨_,rfl,y,a.Yard,dx,_,rfl,upd_same,G.cl_Yard,G.na_Yard_lie_fences,?_,?_⟩
   · rw [← hF7,← hF3];show 7 < 1000;decide
   rw [upd_upd]
   refine ⟨_,rfl,ft,_,rfl,.inr (SqT.of (hf9 _)),rfl,strs_flat fs,?_⟩
   refine ⟨_,rfl,y,a.Yard,dx,_,rfl,upd_same,G.cl_Yard,G.na_Yard_look_sees,?_,?_⟩
   · rw [← hF7,← hF3];show 8 < 1000;decide
   rw [upd_upd]
   simp only [if_true,inV_str]
   generalize hF9:putF "look_sees" (V.bl (!fs.contains "look")) (putF "lie_fences" (V.bl (!fs.contains "lie")) (putF "bell_fences" (V.bl (!fs.contains "bell")) (putF "heart" (V.ref zt.h) F7)))=F9
   have hl9:F9.length=9:=by rw [← hF9,← hF7,← hF3];rfl
   have S9:StT w a.Store (upd H8 y (.ins a.Yard dx F9)) sa Mem.zero λ_=>[]:=(S7.same e8).keep (λc o hc e=>up (nn hx3 (fs4 c hc)) e) λb vs e=>up (λz=>by rw [z,e8 _ _ hx7] at e;cases e) e
   have hn9:=(hn7.same e8).keep (H':=upd H8 y (.ins a.Yard dx F9)) λc o hc e=>up (nn hx5 (fz c hc)) e
   have tn9:=Tn.keep (H':=upd H8 y (.ins a.Yard dx F9)) tn8 λc o hc e=>up (nn hx7 (fzt c hc)) e
   have kp9:Kp [y] H7 (upd H8 y (.ins a.Yard dx F9)):=λc o n e=>up (λz=>n (List.mem_singleton.mpr z)) (e8 _ _ e)
   have hx9:upd H8 y (.ins a.Yard dx F9) y=some (.ins a.Yard dx F9):=upd_same
   generalize upd H8 y (.ins a.Yard dx F9)=H9 at S9 hn9 tn9 kp9 hx9 ⊢
   clear kp8 nh ndh neh g1 g2 g3 S7 hn7 e8 tn8 hf9
   have X9:X5 w a.Hand a.Heart a.Ring a.Store H9 z zt sa ⟨s,if fs.contains "round" then 1 else R,fs.contains "counter"⟩ n Mem.zero (λ_=>[]) [] []:=⟨hn9,tn9,S9,dz⟩
   clear S9 hn9 tn9
   have kpA:Kp [y] H H9:=kp3.trans (kp5.trans (kp7.trans kp9))
   have ow:∀ c,own5 z zt sa c->H3 c=none:=λc hc=>by
     rcases hc with hc | hc | hc
     · exact none_kp kp5 (fz c hc) λx mx=>by rw [List.mem_singleton.mp mx,hx5];exact λz=>by cases z
     · exact none_kp (kp5.trans kp7) (fzt c hc) λx mx=>by rw [List.mem_singleton.mp mx,hx7];exact λz=>by cases z
     · exact fs4 c hc
   have owH:∀ c,own5 z zt sa c->H c=none:=λc hc=>none_kp kp3 (ow c hc) λx mx=>by rw [List.mem_singleton.mp mx,hx3];exact λz=>by cases z
   have owy:¬ own5 z zt sa y:=λhc=>by have:=ow y hc;rw [hx3] at this;cases this
   clear kp3 kp5 kp7 kp9 fs4 fz fzt
   have stp:∀ {Hi:Hp} {Fi F':List (Str × V)} {l:Addr} {o:HO},Hi y=some (.ins a.Yard dx Fi)->Hi l=none->(∀ c u,c≠y->Hi c=some u->upd (upd Hi l o) y (.ins a.Yard dx F') c=some u)/\upd (upd Hi l o) y (.ins a.Yard dx F') l=some o/\upd (upd Hi l o) y (.ins a.Yard dx F') y=some (.ins a.Yard dx F'):=λ{Hi Fi F' l o} hy hl =>
     ⟨λc u n e=>up n (by rw [upd_ne (ne_of_none e hl)];exact e),up (nn hy hl) upd_same,upd_same⟩
   have kx:∀ {Hi Hj:Hp},(∀ c u,c≠y->Hi c=some u->Hj c=some u)->(∃ F,Hi y=some (.ins a.Yard dx F))->X5 w a.Hand a.Heart a.Ring a.Store Hi z zt sa ⟨s,if fs.contains "round" then 1 else R,fs.contains "counter"⟩ n Mem.zero (λ_=>[]) [] []->X5 w a.Hand a.Heart a.Ring a.Store Hj z zt sa ⟨s,if fs.contains "round" then 1 else R,fs.contains "counter"⟩ n Mem.zero (λ_=>[]) [] []:=λ{Hi Hj} kk ⟨F,hy⟩ X=>X.keep (λc o hc e=>kk c o (λy'=>owy (by rw [← y'];exact hc)) e) λb vs e=>kk b _ (λy'=>by rw [y',hy] at e;cases e) e
   refine ⟨l2,λsl hsl=>⟨_,rfl,y,a.Yard,dx,F9,rfl,(by rw [upd_ne (ne_of_none hx9 hsl)];exact hx9),G.cl_Yard,G.na_Yard_sleepers,by rw [hl9];decide,?_⟩⟩
   obtain ⟨a1,a2,a3⟩:=stp (F':=putF "sleepers" (.ref sl) F9) (o:=.lst [V.str "up",V.str "up"]) hx9 hsl
   generalize upd (upd H9 sl (.lst [V.str "up",V.str "up"])) y (.ins a.Yard dx (putF "sleepers" (.ref sl) F9))=H10 at a1 a2 a3 ⊢
   have X10:=kx a1 ⟨_,hx9⟩ X9
   refine ⟨l2,λqu hqu=>⟨_,rfl,y,a.Yard,dx,_,rfl,(by rw [upd_ne (ne_of_none a3 hqu)];exact a3),G.cl_Yard,G.na_Yard_quiet,?_,?_⟩⟩
   · rw [← hF9,← hF7,← hF3];show 10 < 1000;decide
   obtain ⟨b1,b2,b3⟩:=stp (F':=putF "quiet" (.ref qu) (putF "sleepers" (.ref sl) F9)) (o:=.lst [V.bl true,V.bl true]) a3 hqu
   generalize upd (upd H10 qu (.lst [V.bl true,V.bl true])) y (.ins a.Yard dx (putF "quiet" (.ref qu) (putF "sleepers" (.ref sl) F9)))=H11 at b1 b2 b3 ⊢
   have X11:=kx b1 ⟨_,a3⟩ X10
   have b4:=b1 _ _ (nn hx9 hsl) a2
   refine ⟨len0v,λhp hhp=>⟨_,rfl,y,a.Yard,dx,_,rfl,(by rw [upd_ne (ne_of_none b3 hhp)];exact b3),G.cl_Yard,G.na_Yard_happened,?_,?_⟩⟩
   · rw [← hF9,← hF7,← hF3];show 11 < 1000;decide
   obtain ⟨c1,c2,c3⟩:=stp (F':=putF "happened" (.ref hp) (putF "quiet" (.ref qu) (putF "sleepers" (.ref sl) F9))) (o:=.lst []) b3 hhp
   generalize upd (upd H11 hp (.lst [])) y (.ins a.Yard dx (putF "happened" (.ref hp) (putF "quiet" (.ref qu) (putF "sleepers" (.ref sl) F9))))=H12 at c1 c2 c3 ⊢
   have X12:=kx c1 ⟨_,b3⟩ X11
   have c4:=c1 _ _ (nn hx9 hsl) b4
   have c5:=c1 _ _ (nn a3 hqu) b2
   have n1:sl≠qu:=ne_of_none a2 hqu
   have n2:sl≠hp:=ne_of_none b4 hhp
   have n3:qu≠hp:=ne_of_none b2 hhp
   have kpB:Kp [y] H H12:=λc o n e=>c1 c o (λz=>n (List.mem_singleton.mpr z)) (b1 c o (λz=>n (List.mem_singleton.mpr z)) (a1 c o (λz=>n (List.mem_singleton.mpr z)) (kpA c o n e)))
   have nH:∀ {Hi:Hp} {c:Addr},Kp [y] H Hi->(∃ F,Hi y=some (.ins a.Yard dx F))->Hi c=none->H c=none:=λkk ⟨F,e⟩ h=>none_kp kk h λx mx=>by rw [List.mem_singleton.mp mx,e];exact λz=>by cases z
   have kp10:Kp [y] H H10:=λc o n e=>a1 c o (λz=>n (List.mem_singleton.mpr z)) (kpA c o n e)
   have kp11:Kp [y] H H11:=λc o n e=>b1 c o (λz=>n (List.mem_singleton.mpr z)) (kp10 c o n e)
   refine k ⟨y,ft,sa,z,zt,sl,qu,hp⟩ H12 rfl (λc hc ny=>?_) ⟨⟨dx,?_⟩,X12,c4,c5,⟨[],c2,rfl⟩,λ_ h=>(by cases h),λc hc h5=>?_,⟨n1,n2,n3⟩,owy⟩ kpB
   · rcases hc with y' | hc | y' | y' | y'
     · exact absurd y' ny
     · exact owH c hc
     · rw [y'];exact nH kpA ⟨_,hx9⟩ hsl
     · rw [y'];exact nH kp10 ⟨_,a3⟩ hqu
     · rw [y'];exact nH kp11 ⟨_,b3⟩ hhp
   · rw [c3,← hF9,← hF7,← hF3];rfl
   · rcases hc with y' | y' | y'
     · obtain ⟨o,e,_⟩:=X9.there h5
       rw [y',hsl] at e;cases e
     · obtain ⟨o,e,_⟩:=X10.there h5
       rw [y',hqu] at e;cases e
     · obtain ⟨o,e,_⟩:=X11.there h5
       rw [y',hhp] at e;cases e
end

def TD (H:Hp) (x:Dd) (v:V):Prop:=∃ t,v=.ref t/\H t=some (.tup x.vs)
theorem TD.keep {H H':Hp} (ht:∀ b vs,H b=some (.tup vs)->H' b=some (.tup vs)) {x:Dd} {v:V} (h:TD H x v):TD H' x v:=by
 obtain ⟨t,e,h⟩:=h
 exact ⟨t,e,ht _ _ h⟩
theorem td_keep {H H':Hp} (ht:∀ b vs,H b=some (.tup vs)->H' b=some (.tup vs)) {xs:List Dd} {vs:List V} (h:Paired (TD H) xs vs):Paired (TD H') xs vs:=Paired.mapP h λ_ _ q=>q.keep ht
def thinkA (ws:List Int):List Dd:=ws.map Dd.ask++[.collect,.take]
def thinkB (ws ks:List Int):List Dd:=thinkA ws++ks.flatMap λnm=>ws.map (Dd.answer nm)
def endD:List Dd:=[.bell false,.bell true,.lie false,.lie true,.look false,.look true,.drain false,.drain true]
def thinkL (ws ks:List Int):List Dd:=thinkB ws ks++endD
def sp_think (w:World) (ad:Ad) (K:PySem.W.Frag):Sp:=λvs H Q _=>∃ (a:YA) (q:YP) (S:YS) (wl:Addr) (ws:List Int),vs=[.ref a.y,.ref wl]/\Yn w ad.Yard ad.Hand ad.Heart ad.Ring ad.Store H a q S/\H wl=some (.lst (ws.map V.int))/\ws.length <= 60/\S.tk.length < 64 /\
 ∀ (l:Addr) (ks:List Int) (ts:List V) (H':Hp),ks.Perm S.tk->ks.Pairwise (· <= ·)->H l=none->Same H H'->H' l=some (.lst ts)->Paired (TD H') (thinkL ws ks) ts->Q (.ref l) H'
theorem paired_app {α β:Type} {R:α->β->Prop}:∀ {a:List α} {b:List β} {c:List α} {d:List β},Paired R a b->Paired R c d->Paired R (a++c) (b++d)
 | _,_,_,_,.nil,h=>h
 | _,_,_,_,.cons r t,h=>.cons r (paired_app t h)
theorem flat_len (ws:List Int):∀ ks:List Int,(ks.flatMap λnm=>ws.map (Dd.answer nm)).length=ks.length * ws.length
 | []=>by simp
 | k :: ks=>by
   rw [List.flatMap_cons,List.length_append,flat_len ws ks,List.length_map,List.length_cons,Nat.succ_mul];omega
def endW:List V:=[.str "bell",.str "lie",.str "look",.str "drain"]
theorem end_at {j:Nat} {v:V} (h:endW[j]?=some v):∃ x0 x1 wd,v=.str wd/\x0.vs=[.str wd,.int 0]/\x1.vs=[.str wd,.int 1]/\endD.take (2 * (j+1))=endD.take (2 * j)++[x0,x1]:=by
 match j,h with
 | 0,h=>cases h;exact ⟨.bell false,.bell true,_,rfl,rfl,rfl,rfl⟩
 | 1,h=>cases h;exact ⟨.lie false,.lie true,_,rfl,rfl,rfl,rfl⟩
 | 2,h=>cases h;exact ⟨.look false,.look true,_,rfl,rfl,rfl,rfl⟩
 | 3,h=>cases h;exact ⟨.drain false,.drain true,_,rfl,rfl,rfl,rfl⟩
 | _+4,h=>cases h
structure Gr (H H':Hp) (D:Addr) (xs:List Dd) (ts:List V):Prop where
 kp:∀ c o,c≠D->H c=some o->H' c=some o
 at_:H' D=some (.lst ts)
 td:Paired (TD H') xs ts
 new:H D=none
section
variable {H H' H'':Hp} {D:Addr} {xs es:List Dd} {ts zs:List V}
theorem Gr.same (g:Gr H H' D xs ts) (s:Same H' H''):Gr H H'' D xs ts:=⟨λc o n e=>s _ _ (g.kp c o n e),s _ _ g.at_,td_keep (λb vs=>s b _) g.td,g.new⟩
theorem Gr.sm (g:Gr H H' D xs ts):Same H H':=λc o e=>g.kp c o (λy=>by rw [y,g.new] at e;cases e) e
theorem Gr.len (g:Gr H H' D xs ts):ts.length=xs.length:=(pairedLen g.td).symm
theorem Gr.ext (g:Gr H H' D xs ts) (h:Paired (TD H') es zs):Gr H (upd H' D (.lst (ts++zs))) D (xs++es) (ts++zs):=by
 have tu:∀ b vs,H' b=some (.tup vs)->upd H' D (.lst (ts++zs)) b=some (.tup vs):=λb vs e=>by
   rw [upd_ne (λz=>by rw [z,g.at_] at e;cases e)];exact e
 exact ⟨λc o n e=>by rw [upd_ne n];exact g.kp c o n e,upd_same,paired_app (td_keep tu g.td) (td_keep tu h),g.new⟩
end
section
variable {P:Program} {w:World} {K:PySem.W.Frag} {mg:Str->Option Value} {base:Heap} {a:Ad} {d:Fd}
theorem ok_think (G:Gs K mg a d):FnOk P w K mg base CX0 2 a.Yard_thinkable d.Yard_thinkable ["self","worths"] (sp_think w a K):=by
 have c_Heart_tasks:FnOk P w K mg base CX0 1 _ _ _ _:=ok_tasks G
 refine G.f_Yard_thinkable.ok sc_Yard_thinkable (λvs H Q E h=>?_) (λcdv A' outer s' H vs Q E hr h=>?_)
 · obtain ⟨y,q,S,wl,ws,rfl,_⟩:=h
   rfl
 · obtain ⟨y,q,S,wl,ws,rfl,Y,hw,wlen,tlen,k⟩:=h
   have hu:=hu_of hr
   refine ⟨_,(@pss_cons _ _ _ _ _ (by exact ps_compset (iN:=2) (caps:=[]) (js:=[]) sc_Yard_thinkable.nd rfl (Or.inl rfl) (by rfl) rfl (compOk rfl rfl (by decide +kernel) (by decide +kernel) rfl trivial rfl rfl) (by decide +kernel) (λy hy=>by cases hy) .nil (λy hy=>by cases hy) (pi_list (pv 1)) (λC s₃ H₃ pins ex E'=>by exact pts_none) (λC s₃ H₃ pins ex E'=>by exact (@pe_tup _ _ _ _ _ (@pa_cons _ _ _ _ _ pe_str (@pa_cons _ _ _ _ _ (pv 0) pa_nil (by rfl)) (by rfl)))))
     (@pss_cons _ _ _ _ _ (@ps_expr _ _ _ _ (@pe_bm _ _ _ _ _ _ _ _ _ _ _ _ PySem.F.plainAttrs_list PySem.F.slot_list_extend PySem.F.type_list_extend mt_extend (pv 2) (@pa_cons _ _ _ _ _ (@pe_lst _ _ _ _ (@pa_cons _ _ _ _ _ (@pe_tup _ _ _ _ _ (@pa_cons _ _ _ _ _ pe_str pa_nil (by rfl))) (@pa_cons _ _ _ _ _ (@pe_tup _ _ _ _ _ (@pa_cons _ _ _ _ _ pe_str pa_nil (by rfl))) pa_nil (by rfl)) (by rfl))) pa_nil (by rfl)) (by rfl) (by rfl) (by rfl) (by rfl) (by rfl)) (by rfl))
     (@pss_cons _ _ _ _ _ (ps_for PassesOwn.never rfl (pi_list (pe_meth0 (pe_fld (pv 0) rfl) G.cl_Heart G.mt_Heart_tasks c_Heart_tasks (hr.mono (by decide)) G.b_Heart_tasks .nil pass0)) (pg_name (i:=3) sc_Yard_thinkable.nd rfl (Or.inr rfl)) (@pss_one _ _ _ (@ps_expr _ _ _ _ (@pe_bm _ _ _ _ _ _ _ _ _ _ _ _ PySem.F.plainAttrs_list PySem.F.slot_list_extend PySem.F.type_list_extend mt_extend (pv 2) (@pa_cons _ _ _ _ _ (by exact pe_comp (caps:=["name"]) (js:=[3]) rfl (compOk rfl rfl (by decide +kernel) (by decide +kernel) rfl ⟨rfl,trivial⟩ rfl rfl) (by decide +kernel) (λy hy=>by simp only [List.mem_cons,List.not_mem_nil,or_false] at hy;rcases hy with rfl<;>exact ⟨_,rfl⟩) (.cons ⟨rfl,.inl rfl⟩ .nil) (λy hy=>by simp only [List.mem_cons,List.not_mem_nil,or_false] at hy;rcases hy with rfl<;>exact Or.inl rfl) (pi_list (pv 1)) (λC s₃ H₃ pins ex E'=>by exact pts_none) (λC s₃ H₃ pins ex E'=>by exact (@pe_tup _ _ _ _ _ (@pa_cons _ _ _ _ _ pe_str (@pa_cons _ _ _ _ _ (pv 1) (@pa_cons _ _ _ _ _ (pv 0) pa_nil (by rfl)) (by rfl)) (by rfl))))) pa_nil (by rfl)) (by rfl) (by rfl) (by rfl) (by rfl) (by rfl)) (by rfl))))
     (@pss_cons _ _ _ _ _ (ps_for PassesOwn.never rfl (pi_tup (@pe_tup _ _ _ _ _ (@pa_cons _ _ _ _ _ pe_str (@pa_cons _ _ _ _ _ pe_str (@pa_cons _ _ _ _ _ pe_str (@pa_cons _ _ _ _ _ pe_str pa_nil (by rfl)) (by rfl)) (by rfl)) (by rfl)))) (pg_name (i:=4) sc_Yard_thinkable.nd rfl (Or.inl rfl)) (@pss_one _ _ _ (@ps_expr _ _ _ _ (@pe_bm _ _ _ _ _ _ _ _ _ _ _ _ PySem.F.plainAttrs_list PySem.F.slot_list_extend PySem.F.type_list_extend mt_extend (pv 2) (@pa_cons _ _ _ _ _ (@pe_lst _ _ _ _ (@pa_cons _ _ _ _ _ (@pe_tup _ _ _ _ _ (@pa_cons _ _ _ _ _ (pv 4) (@pa_cons _ _ _ _ _ pe_int pa_nil (by rfl)) (by rfl))) (@pa_cons _ _ _ _ _ (@pe_tup _ _ _ _ _ (@pa_cons _ _ _ _ _ (pv 4) (@pa_cons _ _ _ _ _ pe_int pa_nil (by rfl)) (by rfl))) pa_nil (by rfl)) (by rfl))) pa_nil (by rfl)) (by rfl) (by rfl) (by rfl) (by rfl) (by rfl)) (by rfl))))
     (@pss_one _ _ _ (@ps_ret _ _ _ _ (pv 2))))))),?_⟩
   refine ⟨_,rfl,wl,rfl,⟨_,SqL.of hw⟩,λD hD=>?_⟩
   refine ⟨λi mm ys H'=>i <= ws.length/\mm=ws.length - i/\Gr H H' D ((ws.take i).map Dd.ask) ys,⟨_,Nat.zero_le _,rfl,λc o n e=>(by rw [upd_ne n];exact e),upd_same,.nil,hD⟩,?_⟩
   rintro i mm ys H1 ⟨hi,rfl,g1⟩
   have hyl:=g1.len
   rw [List.length_map,List.length_take] at hyl
   refine ⟨g1.at_,Nat.lt_of_lt_of_le (show _ < 1000 by omega) (by decide),?_⟩
   by_cases hii:i=ws.length
   rotate_left
   · have hlt:i < ws.length:=by omega
     refine .inr ⟨⟨_,_,SqL.of (g1.sm _ _ hw),by rw [List.getElem?_map,List.getElem?_eq_getElem hlt];rfl⟩,?_⟩
     rintro v H2 ⟨rfl,hv⟩
     have hv:=hv _ (SqL.of (g1.sm _ _ hw))
     rw [List.getElem?_map,List.getElem?_eq_getElem hlt] at hv
     cases hv
     refine iteT ⟨_,rfl,l2,λt ht=>?_⟩
     have g2:=g1.same (same_new (o:=.tup [V.str "ask",V.int ws[i]]) ht)
     refine ⟨g2.at_,ws.length - (i+1),by omega,by omega,rfl,?_⟩
     rw [List.take_add_one,List.getElem?_eq_getElem hlt,List.map_append]
     exact g2.ext (.cons ⟨t,rfl,upd_same⟩ .nil)
   refine .inl ⟨⟨_,SqL.of (g1.sm _ _ hw),by rw [List.length_map];omega⟩,?_⟩
   rw [hii,List.take_length] at g1
   rw [hii,Nat.min_self] at hyl
   refine ⟨_,rfl,.inl ⟨rfl,_,SqL.of g1.at_⟩,len1v,λt1 h1=>⟨len1v,λt2 h2=>⟨l2,λlq h3=>?_⟩⟩⟩
   have s1:=same_new (o:=.tup [V.str "collect"]) h1
   have s2:=same_new (o:=.tup [V.str "take"]) h2
   have s3:=same_new (o:=.lst [V.ref t1,V.ref t2]) h3
   have g3:=((g1.same s1).same s2).same s3
   have p3:Paired (TD (upd (upd (upd H1 t1 (.tup [V.str "collect"])) t2 (.tup [V.str "take"])) lq (.lst [V.ref t1,V.ref t2]))) [Dd.collect,Dd.take] [V.ref t1,V.ref t2]:=.cons ⟨t1,rfl,s3 _ _ (s2 _ _ upd_same)⟩ (.cons ⟨t2,rfl,s3 _ _ upd_same⟩ .nil)
   refine ⟨D,lq,ys,_,rfl,rfl,g3.at_,upd_same,Nat.le_trans (show _ <= 1000 by show _+2 <= 1000;omega) (by decide),?_⟩
   have g4:=g3.ext p3
   have gA:Gr H (upd (upd (upd (upd H1 t1 (.tup [V.str "collect"])) t2 (.tup [V.str "take"])) lq (.lst [V.ref t1,V.ref t2])) D (.lst (ys++[V.ref t1,V.ref t2]))) D (thinkA ws) (ys++[V.ref t1,V.ref t2]):=g4
   clear g3 g4 p3 s1 s2 s3 g1 hii
   generalize upd (upd (upd (upd H1 t1 (.tup [V.str "collect"])) t2 (.tup [V.str "take"])) lq (.lst [V.ref t1,V.ref t2])) D (.lst (ys++[V.ref t1,V.ref t2]))=H4 at gA ⊢
   have Y4:=Y.same gA.sm
   refine ⟨_,rfl,fldE Y4.ob G.cl_Yard G.na_Yard_heart yF_heart (mthE Y4.x.tn.ob tF_tasks ⟨y.zt,y.sa.x,q.p,S.tk,rfl,Y4.x.tn,tlen,λlk ks hk pmk pwk=>⟨lk,rfl,⟨_,SqL.of upd_same⟩,?_⟩⟩)⟩
   have gB:=gA.same (same_new (o:=.lst (ks.map V.int)) hk)
   have vk:upd H4 lk (.lst (ks.map V.int)) lk=some (.lst (ks.map V.int)):=upd_same
   have nkD:lk≠D:=λz=>by rw [z,gA.at_] at hk;cases hk
   generalize upd H4 lk (.lst (ks.map V.int))=H5 at gB vk ⊢
   clear gA Y4 hk
   have hks:ks.length < 64:=by rw [pmk.length_eq];exact tlen
   refine for_list (K:=K) (a:=lk) (xs:=ks.map V.int) (λj σ H'=>∃ ts,(∃ v3 v4,σ=[some (.ref y.y),some (.ref wl),some (.ref D),v3,v4])/\Gr H H' D (thinkB ws (ks.take j)) ts/\H' lk=some (.lst (ks.map V.int)))
     ⟨_,⟨_,_,rfl⟩,by rw [List.take_zero];show Gr H H5 D (thinkA ws++[]) _;rw [List.append_nil];exact gB,vk⟩ (λ_ _ _ _ ⟨_,_,_,y⟩=>SqL.of y) ?_ ?_
   · clear gB vk
     rintro j v σ H6 hj ⟨ts,⟨v3,v4,rfl⟩,g6,vk⟩
     rw [List.getElem?_map] at hj
     obtain ⟨nm,hnm,rfl⟩:=Option.map_eq_some_iff.mp hj
     have hjl:=(List.getElem?_eq_some_iff.mp hnm).1
     refine ⟨_,rfl,.inl ⟨rfl,_,SqL.of g6.at_⟩,?_⟩
     refine ⟨_,rfl,wl,rfl,⟨_,SqL.of (g6.sm _ _ hw)⟩,λD2 hD2=>?_⟩
     refine ⟨λi mm ys H'=>i <= ws.length/\mm=ws.length - i/\Gr H6 H' D2 ((ws.take i).map (Dd.answer nm)) ys,⟨_,Nat.zero_le _,rfl,λc o n e=>(by rw [upd_ne n];exact e),upd_same,.nil,hD2⟩,?_⟩
     rintro i mm ys2 H7 ⟨hi,rfl,g7⟩
     have hyl:=g7.len
     rw [List.length_map,List.length_take] at hyl
     refine ⟨g7.at_,Nat.lt_of_lt_of_le (show _ < 1000 by omega) (by decide),?_⟩
     by_cases hii:i=ws.length
     rotate_left
     · have hlt:i < ws.length:=by omega
       refine .inr ⟨⟨_,_,SqL.of (g7.sm _ _ (g6.sm _ _ hw)),by rw [List.getElem?_map,List.getElem?_eq_getElem hlt];rfl⟩,?_⟩
       rintro v H8 ⟨rfl,hv⟩
       have hv:=hv _ (SqL.of (g7.sm _ _ (g6.sm _ _ hw)))
       rw [List.getElem?_map,List.getElem?_eq_getElem hlt] at hv
       cases hv
       refine iteT ⟨_,rfl,_,rfl,l3,λt ht=>?_⟩
       have g8:=g7.same (same_new (o:=.tup [V.str "answer",V.int nm,V.int ws[i]]) ht)
       refine ⟨g8.at_,ws.length - (i+1),by omega,by omega,rfl,?_⟩
       rw [List.take_add_one,List.getElem?_eq_getElem hlt,List.map_append]
       exact g8.ext (.cons ⟨t,rfl,upd_same⟩ .nil)
     refine .inl ⟨⟨_,SqL.of (g7.sm _ _ (g6.sm _ _ hw)),by rw [List.length_map];omega⟩,?_⟩
     rw [hii,List.take_length] at g7
     have g8:=g6.same g7.sm
     have hl8:=g6.len
     have hlb:(thinkB ws (ks.take j)).length <= 10000:=by
       unfold thinkB thinkA
       rw [List.length_append,List.length_append,List.length_map,flat_len,List.length_take]
       have h2:min j ks.length * ws.length <= 64 * 60:=Nat.mul_le_mul (by omega) wlen
       show ws.length+2+_ <= _
       omega
     refine ⟨D,D2,ts,ys2,rfl,rfl,g8.at_,g7.at_,Nat.le_trans (show _ <= 20000 by omega) (by decide),?_⟩
     have g9:=g8.ext g7.td
     refine ⟨ts++ys2,⟨_,_,rfl⟩,?_,by rw [upd_ne nkD];exact g7.sm _ _ vk⟩
     have:thinkB ws (ks.take (j+1))=thinkB ws (ks.take j)++ws.map (Dd.answer nm):=by
       unfold thinkB
       rw [List.take_add_one,hnm,Option.toList_some,List.flatMap_append,← List.append_assoc]
       congr 1
       simp
     rw [this]
     exact g9
   · clear gB vk
     rintro σ H6 ⟨ts,⟨v3,v4,rfl⟩,g6,vk⟩
     rw [List.length_map,List.take_length] at g6
     have hlb:(thinkB ws ks).length <= 10000:=by
       unfold thinkB thinkA
       rw [List.length_append,List.length_append,List.length_map,flat_len]
       have h2:ks.length * ws.length <= 64 * 60:=Nat.mul_le_mul (by omega) wlen
       show ws.length+2+_ <= _
       omega
     refine ⟨by show 4 <= sizeLine;decide,λtw htw=>⟨tw,rfl,⟨_,SqT.of upd_same⟩,?_⟩⟩
     have g7:=g6.same (same_new (o:=.tup endW) htw)
     have vw:upd H6 tw (.tup endW) tw=some (.tup endW):=upd_same
     change ∃ W:Nat->Nat->St->Hp->Prop,(∃ m,W 0 m [some (V.ref y.y),some (V.ref wl),some (V.ref D),v3,v4] (upd H6 tw (.tup endW)))/\_
     generalize upd H6 tw (.tup endW)=H7 at g7 vw ⊢
     refine for_tup (K:=K) (a:=tw) (xs:=endW) (λj σ H'=>∃ ts,(∃ v3 v4,σ=[some (.ref y.y),some (.ref wl),some (.ref D),v3,v4])/\Gr H H' D (thinkB ws ks++endD.take (2 * j)) ts/\H' tw=some (.tup endW))
       ⟨_,⟨_,_,rfl⟩,by rw [Nat.mul_zero,List.take_zero,List.append_nil];exact g7,vw⟩ (λ_ _ _ _ ⟨_,_,_,y⟩=>SqT.of y) ?_ ?_
     · clear g7 vw g6
       rintro j v σ H8 hj ⟨ts,⟨v3,v4,rfl⟩,g8,vw⟩
       obtain ⟨x0,x1,wd,rfl,h0,h1,ht⟩:=end_at hj
       have hj4:j < 4:=(List.getElem?_eq_some_iff.mp hj).1
       refine ⟨_,rfl,.inl ⟨rfl,_,SqL.of g8.at_⟩,_,rfl,l2,λt1 h1'=>⟨_,rfl,l2,λt2 h2=>⟨l2,λlq h3=>?_⟩⟩⟩
       have s1:=same_new (o:=.tup [V.str wd,V.int 0]) h1'
       have s2:=same_new (o:=.tup [V.str wd,V.int 1]) h2
       have s3:=same_new (o:=.lst [V.ref t1,V.ref t2]) h3
       have g9:=((g8.same s1).same s2).same s3
       have p3:Paired (TD (upd (upd (upd H8 t1 (.tup [V.str wd,V.int 0])) t2 (.tup [V.str wd,V.int 1])) lq (.lst [V.ref t1,V.ref t2]))) [x0,x1] [V.ref t1,V.ref t2]:=.cons ⟨t1,rfl,by rw [h0];exact s3 _ _ (s2 _ _ upd_same)⟩ (.cons ⟨t2,rfl,by rw [h1];exact s3 _ _ upd_same⟩ .nil)
       have hl8:=g8.len
       rw [List.length_append,List.length_take] at hl8
       refine ⟨D,lq,ts,_,rfl,rfl,g9.at_,upd_same,Nat.le_trans (show _ <= 20000 by show _+2 <= _;omega) (by decide),?_⟩
       have nwD:tw≠D:=λz=>by rw [z,g8.at_] at vw;cases vw
       refine ⟨ts++[V.ref t1,V.ref t2],⟨_,_,rfl⟩,?_,by rw [upd_ne nwD];exact s3 _ _ (s2 _ _ (s1 _ _ vw))⟩
       rw [ht,← List.append_assoc]
       exact g9.ext p3
     · rintro σ H8 ⟨ts,⟨v3,v4,rfl⟩,g8,vw⟩
       exact ⟨_,rfl,k D ks ts H8 pmk pwk g8.new g8.sm g8.at_ g8.td⟩
def sp_can (w:World) (ad:Ad) (K:PySem.W.Frag):Sp:=λvs H Q _=>∃ (a:YA) (q:YP) (S:YS) (wl:Addr) (ws:List Int),vs=[.ref a.y,.ref wl]/\Yn w ad.Yard ad.Hand ad.Heart ad.Ring ad.Store H a q S/\q.Ok/\H wl=some (.lst (ws.map V.int))/\ws.length <= 60/\(∀ x∈ws,-1000000000 <= x/\x <= 1000000000)/\S.tk.length < 64 /\
 ∀ (l:Addr) (ks:List Int) (ts:List V) (H':Hp),ks.Perm S.tk->ks.Pairwise (· <= ·)->H l=none->Same H H'->H' l=some (.lst ts)->Paired (TD H') ((thinkL ws ks).filter λx=>(x.chk q S).isNone) ts->Q (.ref l) H'
theorem think_ok {ws ks:List Int} (h:∀ x∈ws,-1000000000 <= x/\x <= 1000000000):∀ x∈thinkL ws ks,x.Ok:=by
 intro x hx
 unfold thinkL thinkB thinkA at hx
 rcases List.mem_append.mp hx with hx | hx
 · rcases List.mem_append.mp hx with hx | hx
   · rcases List.mem_append.mp hx with hx | hx
     · obtain ⟨wt,hw,rfl⟩:=List.mem_map.mp hx
       exact h wt hw
     · simp only [List.mem_cons,List.not_mem_nil,or_false] at hx
       rcases hx with rfl | rfl<;>exact trivial
   · obtain ⟨nm,_,hx⟩:=List.mem_flatMap.mp hx
     obtain ⟨wt,hw,rfl⟩:=List.mem_map.mp hx
     exact h wt hw
 · simp only [endD,List.mem_cons,List.not_mem_nil,or_false] at hx
   rcases hx with rfl | rfl | rfl | rfl | rfl | rfl | rfl | rfl<;>exact trivial
theorem ok_can (G:Gs K mg a d):FnOk P w K mg base CX0 12 a.Yard_can_be_done d.Yard_can_be_done ["self","worths"] (sp_can w a K):=by
 have c_Yard_thinkable:FnOk P w K mg base CX0 2 _ _ _ _:=ok_think G
 have c_Yard_is_allowed:FnOk P w K mg base CX0 10 _ _ _ _:=ok_yallow G
 refine G.f_Yard_can_be_done.ok sc_Yard_can_be_done (λvs H Q E h=>?_) (λcdv A' outer s' H vs Q E hr h=>?_)
 · obtain ⟨y,q,S,wl,ws,rfl,_⟩:=h
   rfl
 · obtain ⟨y,q,S,wl,ws,rfl,Y,qo,hw,wlen,wok,tlen,k⟩:=h
   have hu:=hu_of hr
   refine ⟨_,(@pss_one _ _ _ (@ps_ret _ _ _ _ (by exact pe_comp (caps:=["self"]) (js:=[0]) rfl (compOk rfl rfl (by decide +kernel) (by decide +kernel) rfl ⟨rfl,trivial⟩ rfl rfl) (by decide +kernel) (λy hy=>by simp only [List.mem_cons,List.not_mem_nil,or_false] at hy;rcases hy with rfl<;>exact ⟨_,rfl⟩) (.cons ⟨rfl,.inl rfl⟩ .nil) (λy hy=>by simp only [List.mem_cons,List.not_mem_nil,or_false] at hy;rcases hy with rfl<;>exact Or.inl rfl) (pi_list (pe_meth (pv 0) G.cl_Yard G.mt_Yard_thinkable c_Yard_thinkable (hr.mono (by decide)) G.b_Yard_thinkable .nil pass0 (@pa_cons _ _ _ _ _ (pv 1) pa_nil (by rfl)))) (λC s₃ H₃ pins ex E'=>by exact pts_one (pt_val (pe_meth (pv 1) G.cl_Yard G.mt_Yard_is_allowed c_Yard_is_allowed (hr.mono (by decide)) G.b_Yard_is_allowed .nil pass0 (@pa_cons _ _ _ _ _ (pv 0) pa_nil (by rfl))))) (λC s₃ H₃ pins ex E'=>by exact (pv 0))))),?_⟩
   refine ⟨_,rfl,mthE Y.ob (yF_no (by decide +kernel)) ⟨_,rfl,y,q,S,wl,ws,rfl,Y,hw,wlen,tlen,λl ks ts H1 pmk pwk hl e1 h1 td=>⟨l,rfl,⟨_,SqL.of h1⟩,λD hD=>?_⟩⟩⟩
   have Y1:=Y.same e1
   have tl:=pairedLen td
   have okx:=think_ok (ks:=ks) wok
   have tlen2:(thinkL ws ks).length <= 20000:=by
     unfold thinkL thinkB thinkA
     rw [List.length_append,List.length_append,List.length_append,List.length_map,flat_len]
     have hk:=pmk.length_eq
     have h2:ks.length * ws.length <= 64 * 60:=Nat.mul_le_mul (by omega) wlen
     show ws.length+2+_+8 <= _
     omega
   refine ⟨λi mm ys H'=>i <= ts.length/\mm=ts.length - i/\Gr H1 H' D (((thinkL ws ks).take i).filter λx=>(x.chk q S).isNone) ys,⟨_,Nat.zero_le _,rfl,λc o n e=>(by rw [upd_ne n];exact e),upd_same,.nil,hD⟩,?_⟩
   rintro i mm ys H2 ⟨hi,rfl,g2⟩
   have hyl:=g2.len
   have hfl:=List.length_filter_le (λx:Dd=>(x.chk q S).isNone) ((thinkL ws ks).take i)
   rw [List.length_take] at hfl
   refine ⟨g2.at_,Nat.lt_of_lt_of_le (show _ < 100000 by omega) (by decide),?_⟩
   by_cases hii:i=ts.length
   rotate_left
   · have hlt:i < ts.length:=by omega
     refine .inr ⟨⟨_,_,SqL.of (g2.sm _ _ h1),List.getElem?_eq_getElem hlt⟩,?_⟩
     rintro v H3 ⟨rfl,hv⟩
     have hv:=hv _ (SqL.of (g2.sm _ _ h1))
     obtain ⟨x,hx,t,rfl,ht⟩:=paired_at td hv
     refine ⟨_,rfl,mthE (Y1.same g2.sm).ob (yF_no (by decide +kernel)) ⟨_,rfl,y,q,S,x,t,rfl,Y1.same g2.sm,qo,g2.sm _ _ ht,okx x (List.mem_of_getElem? hx),λH4 e4=>⟨_,rfl,?_⟩⟩⟩
     have g4:=g2.same e4
     have et:(thinkL ws ks).take (i+1)=(thinkL ws ks).take i++[x]:=by rw [List.take_add_one,hx];rfl
     cases hc:(x.chk q S).isNone with
     | true =>
       refine iteT ⟨_,rfl,g4.at_,ts.length - (i+1),by omega,by omega,rfl,?_⟩
       rw [et,List.filter_append,List.filter_cons,hc]
       exact g4.ext (.cons ⟨t,rfl,e4 _ _ (g2.sm _ _ ht)⟩ .nil)
     | false =>
       refine iteF ⟨ts.length - (i+1),by omega,by omega,rfl,?_⟩
       rw [et,List.filter_append,List.filter_cons,hc]
       simp only [Bool.false_eq_true,if_false,List.filter_nil,List.append_nil]
       exact g4
   refine .inl ⟨⟨_,SqL.of (g2.sm _ _ h1),by omega⟩,?_⟩
   rw [hii,List.take_of_length_le (by omega)] at g2
   exact k D ks ys H2 pmk pwk (none_back e1 hD) (e1.trans g2.sm) g2.at_ g2.td
end

section
variable {H:Hp} {M:List (PyData × V)} {m:Mem}
theorem YMR_top (R:MemR H M m):TopK M:=λp hp=>by
 obtain ⟨c,_,e⟩:=ck_all _ (R.ks p hp)
 cases c with
 | c k=>exact .inl ⟨_,e.symm⟩
 | p g i=>exact .inr ⟨_,e.symm⟩
theorem YMR_wv (R:MemR H M m) (nd:(M.map (·.1)).Nodup):∀ p∈M,WV H p.2:=λp hp=>by
 obtain ⟨c,_,e⟩:=ck_all _ (R.ks p hp)
 have hp':(c.key,p.2)∈M:=by rw [e];exact hp
 rcases wd_of R nd c with ⟨_,z⟩ | ⟨dd,v,e1,hv,_,dv⟩
 · rw [z _ hp'];exact ⟨.int 0,rfl,by show 0 <= 8;decide,rfl⟩
 · have a1:=look_of nd R.kk hv
   have a2:=look_of nd R.kk hp'
   rw [a1] at a2
   cases a2
   cases c with
   | c k =>
     have e1':(if m.c k=0 then none else some (PyData.int (m.c k)))=some dd:=e1
     split at e1'
     · cases e1'
     · cases e1';exact ⟨_,rfl,by show 0 <= 8;decide,dv⟩
   | p g i =>
     obtain ⟨nw,_,rfl⟩:=Option.map_eq_some_iff.mp e1
     exact ⟨_,rfl,by show 1 <= 8;decide,dv⟩
end
def sp_text:Sp:=λvs H Q _=>∃ (v:V) (c:Ck),vs=[v]/\c∈ckAll/\DV H c.key v/\∀ H',Same H H'->Q (.str (txtD c.key)) H'
theorem ck_pl {g:Bool} {i:Int} (h:Ck.p g i∈ckAll):0 <= i/\i < 8:=by
 simp only [ckAll,List.mem_cons,List.not_mem_nil,or_false,Ck.p.injEq,reduceCtorEq,false_or] at h
 omega
def Txtok (g:Bool) (i:Int):Prop:=i.natAbs.log2 < 1920/\([gWord g,(toString i:String)].map (λs:Str=>s.length)).sum+[gWord g,(toString i:String)].length * (" ":Str).length <= 16777216
theorem txt_ok {g:Bool} {i:Int} (h:0 <= i/\i < 8):Txtok g i:=by
 have:i=0\/i=1\/i=2\/i=3\/i=4\/i=5\/i=6\/i=7:=by omega
 unfold Txtok
 rcases this with rfl | rfl | rfl | rfl | rfl | rfl | rfl | rfl<;>cases g<;>decide +kernel
section
variable {P:Program} {w:World} {K:PySem.W.Frag} {mg:Str->Option Value} {base:Heap} {a:Ad} {d:Fd}
theorem ok_text (G:Gs K mg a d):FnOk P w K mg base CX0 1 a.text_of d.text_of ["cell"] sp_text:=by
 refine G.f_text_of.ok sc_text_of (λvs H Q E h=>?_) (λcdv A' outer s' H vs Q E hr h=>?_)
 · obtain ⟨v,c,rfl,_⟩:=h
   rfl
 · obtain ⟨v,c,rfl,hc,dv,k⟩:=h
   refine ⟨_,(@pss_cons _ _ _ _ _ (ps_if (pt_val (pe_callB call_isinst (by rfl) G.n_isinstance bt_isinstance (@pa_cons _ _ _ _ _ (pv 0) (@pa_cons _ _ _ _ _ (pe_bltn (v:=.ty "tuple") (by rfl) G.n_tuple bt_tuple rfl) pa_nil (by rfl)) (by rfl)))) (@pss_one _ _ _ (@ps_ret _ _ _ _ (@pe_bm _ _ _ _ _ _ _ _ _ _ _ _ PySem.F.plainAttrs_str PySem.F.slot_str_join PySem.F.type_str_join mt_join pe_str (@pa_cons _ _ _ _ _ (by exact pe_comp (caps:=[]) (js:=[]) rfl (compOk rfl rfl (by decide +kernel) (by decide +kernel) rfl trivial rfl rfl) (by decide +kernel) (λy hy=>by cases hy) .nil (λy hy=>by cases hy) (pi_tup (pv 0)) (λC s₃ H₃ pins ex E'=>by exact pts_none) (λC s₃ H₃ pins ex E'=>by exact (pe_callTy call_str (by rfl) G.n_str bt_str (@pa_cons _ _ _ _ _ (pv 0) pa_nil (by rfl))))) pa_nil (by rfl)) (by rfl) (by rfl) (by rfl) (by rfl) (by rfl)))) pss_nil)
     (@pss_one _ _ _ (@ps_ret _ _ _ _ (pv 0)))),?_⟩
   cases c with
   | c kn =>
     have:v=.str kn.key:=dv
     subst this
     exact ⟨_,rfl,_,_,.type "str",false,rfl,.str _,kx_st,_,rfl,iteF ⟨_,rfl,k H λ_ _ e=>e⟩⟩
   | p g i =>
     obtain ⟨t,vs,rfl,ht,u1,r1,rfl,e1,u2,r2,rfl,e2,rfl⟩:=dv
     have e1':u1=.str (gWord g):=e1
     have e2':u2=.int i:=e2
     subst e1' e2'
     obtain ⟨b1,b2⟩:=txt_ok (g:=g) (ck_pl hc)
     refine ⟨_,rfl,_,_,.type "tuple",true,rfl,.tup ht,kx_tt,_,rfl,iteT ?_⟩
     refine ⟨rfl,_,rfl,t,rfl,⟨_,SqT.of ht⟩,λD hD=>?_⟩
     have e0:∀ ys,Same H (upd H D (.lst ys)):=λys=>same_new hD
     refine ⟨λj mm ys H'=>j <= 2/\mm=2 - j/\ys=([V.str (gWord g),V.str (toString i:String)]:List V).take j/\H'=upd H D (.lst ys),⟨_,Nat.zero_le _,rfl,rfl,rfl⟩,?_⟩
     rintro j mm ys H2 ⟨hj,rfl,rfl,rfl⟩
     refine ⟨upd_same,Nat.lt_of_lt_of_le (show _ < 1000 by rw [List.length_take];show min j 2 < 1000;omega) (by decide),?_⟩
     match j,hj with
     | 0,_ =>
       refine .inr ⟨⟨_,_,SqT.of (e0 _ _ _ ht),rfl⟩,?_⟩
       rintro v H3 ⟨rfl,hv⟩
       have hv:=hv _ (SqT.of (e0 _ _ _ ht))
       cases hv
       exact iteT ⟨_,rfl,.inr ⟨_,rfl,upd_same,1,by decide,by decide,rfl,rfl,by rw [upd_upd]⟩⟩
     | 1,_ =>
       refine .inr ⟨⟨_,_,SqT.of (e0 _ _ _ ht),rfl⟩,?_⟩
       rintro v H3 ⟨rfl,hv⟩
       have hv:=hv _ (SqT.of (e0 _ _ _ ht))
       cases hv
       exact iteT ⟨_,rfl,.inl ⟨i,rfl,b1,upd_same,0,by decide,by decide,rfl,rfl,by rw [upd_upd]⟩⟩
     | 2,_ =>
       exact .inl ⟨⟨_,SqT.of (e0 _ _ _ ht),Nat.le_refl _⟩," ",D,[gWord g,(toString i:String)],rfl,rfl,SqL.of upd_same,b2,k _ (e0 _)⟩
end
theorem paired_pw {α β:Type} {R:α->β->Prop} {L:α->α->Prop} {L':β->β->Prop} (h:∀ a a' b b',R a b->R a' b'->L' b b'->L a a'):∀ {as:List α} {bs:List β},Paired R as bs->bs.Pairwise L'->as.Pairwise L:=by
 intro as bs p
 induction p with
 | nil=>intro _;exact .nil
 | @cons a b as bs r t ih =>
   intro hb
   rw [List.pairwise_cons] at hb ⊢
   refine ⟨λa' ha'=>?_,ih hb.2⟩
   obtain ⟨i,hi,rfl⟩:=List.getElem_of_mem ha'
   obtain ⟨b',hb',r'⟩:=Paired.at' t (List.getElem?_eq_getElem hi)
   exact h a as[i] b b' r r' (hb.1 b' (List.mem_of_getElem? hb'))
def PT (H:Hp) (p:PyData × PyData) (v:V):Prop:=MX.kd (.tuple [p.1,p.2])=true/\DV H (.tuple [p.1,p.2]) v
theorem PT.keep {H H':Hp} (ht:∀ b vs,H b=some (.tup vs)->H' b=some (.tup vs)) {ps:List (PyData × PyData)} {vs:List V} (h:Paired (PT H) ps vs):Paired (PT H') ps vs:=Paired.mapP h λ_ _ q=>⟨q.1,DV.keep ht _ _ q.1 q.2⟩
theorem pt_dvs {H:Hp}:∀ {ps:List (PyData × PyData)} {vs:List V},Paired (PT H) ps vs->DVs H (ps.map λp=>.tuple [p.1,p.2]) vs
 | _,_,.nil=>rfl
 | _,_,.cons r t=>⟨_,_,rfl,r.2,pt_dvs t⟩
theorem wr_kds:∀ row:List Wr,MX.kds (row.map wrD)=true
 | []=>rfl
 | x :: row=>by
   show ((MX.kd x.key && (MX.kd x.dat && true)) && MX.kds (row.map wrD))=true
   rw [x.key_kd,x.dat_kd,wr_kds row];rfl
theorem ints_dvsY {H:Hp}:∀ ns:List Int,DVs H (ns.map PyData.int) (ns.map V.int)
 | []=>rfl
 | n :: ns=>⟨_,_,rfl,rfl,ints_dvsY ns⟩
theorem paired_zip2 {H:Hp}:∀ {kvs:List (PyData × V)} {ts:List V},Paired (λ(kv:PyData × V) t=>KeyV H kv.1 t) kvs ts->Paired (λ(kv:PyData × V) (p:Str × V)=>p.1=txtD kv.1/\KeyV H kv.1 p.2) kvs ((kvs.map λkv=>txtD kv.1).zip ts)
 | _,_,.nil=>.nil
 | _,_,.cons r t=>.cons ⟨rfl,r⟩ (paired_zip2 t)
def rowD (row:List Wr):PyData:=.tuple (row.map wrD)
def intD (ns:List Int):PyData:=.tuple (ns.map PyData.int)
def stateD (S:YS) (us ks:List Int):PyData:=.tuple [.tuple ((cellsD S.m).map λp=>.tuple [p.1,p.2]),rowD (S.rs false),rowD (S.rs true),intD us,intD ks,.str (S.bd false).key,.str (S.bd true).key]
def sp_state (w:World) (ad:Ad):Sp:=λvs H Q _=>∃ (a:YA) (q:YP) (S:YS),vs=[.ref a.y]/\Yn w ad.Yard ad.Hand ad.Heart ad.Ring ad.Store H a q S/\S.un.length < 64/\S.tk.length < 64 /\
 ∀ (t:Addr) (us ks:List Int) (vs:List V) (H':Hp),us.Perm S.un->us.Pairwise (· <= ·)->ks.Perm S.tk->ks.Pairwise (· <= ·)->H t=none->Same H H'->H' t=some (.tup vs)->DV H' (stateD S us ks) (.ref t)->Q (.ref t) H'
section
variable {P:Program} {w:World} {K:PySem.W.Frag} {mg:Str->Option Value} {base:Heap} {a:Ad} {d:Fd}
theorem ok_state (G:Gs K mg a d):FnOk P w K mg base CX0 4 a.Yard_state d.Yard_state ["self"] (sp_state w a):=by
 have c_Store_cells:FnOk P w K mg base CX0 1 _ _ _ _:=ok_cells G
 have c_Store_memory:FnOk P w K mg base CX0 1 _ _ _ _:=ok_memory G
 have c_Store_waits:FnOk P w K mg base CX0 1 _ _ _ _:=(ok_waits G).imp λvs H Q E=>waitsT
 have c_Hand_under_way:FnOk P w K mg base CX0 1 _ _ _ _:=ok_under G
 have c_Heart_tasks:FnOk P w K mg base CX0 1 _ _ _ _:=ok_tasks G
 have c_text_of:FnOk P w K mg base CX0 1 _ _ _ _:=ok_text G
 refine G.f_Yard_state.ok sc_Yard_state (λvs H Q E h=>?_) (λcdv A' outer s' H vs Q E hr h=>?_)
 · obtain ⟨y,q,S,rfl,_⟩:=h
   rfl
 · obtain ⟨y,q,S,rfl,Y,ul,kl,k⟩:=h
   have hu:=hu_of hr
   refine ⟨_,(@pss_cons _ _ _ _ _ (@ps_set _ _ 1 _ _ _ _ sc_Yard_state.nd rfl (Or.inl rfl) (pe_sortK c_text_of (hr.mono (by decide)) G.b_text_of (by rfl) G.n_sorted (by rfl) G.m_text_of (pe_meth0 (pe_fld (pv 0) rfl) G.cl_Store G.mt_Store_cells c_Store_cells (hr.mono (by decide)) G.b_Store_cells .nil pass0)) (by rfl) (by first | exact .inl rfl | exact .inr rfl | assumption))
     (@pss_one _ _ _ (@ps_ret _ _ _ _ (@pe_tup _ _ _ _ _ (@pa_cons _ _ _ _ _ (pe_callTy call_tuple_of (by rfl) G.n_tuple bt_tuple (@pa_cons _ _ _ _ _ (by exact pe_comp (tc:=λ_ H Q=>Q true H) (te:=tTup (tCons (tVar 0) (tCons (tMeth a.Store "memory" (sp_memory w a.Store) [] E0 (tFld K (tVar 1) "shelf") (tCons (tVar 0) tNil)) tNil))) (caps:=["self"]) (js:=[0]) rfl (compOk rfl rfl (by decide +kernel) (by decide +kernel) rfl ⟨rfl,trivial⟩ rfl rfl) (by decide +kernel) (λy hy=>by simp only [List.mem_cons,List.not_mem_nil,or_false] at hy;rcases hy with rfl<;>exact ⟨_,rfl⟩) (.cons ⟨rfl,.inl rfl⟩ .nil) (λy hy=>by simp only [List.mem_cons,List.not_mem_nil,or_false] at hy;rcases hy with rfl<;>exact Or.inl rfl) (pi_list (pv 1)) (λC s₃ H₃ pins ex E'=>by exact pts_none) (λC s₃ H₃ pins ex E'=>by exact (@pe_tup _ _ _ _ _ (@pa_cons _ _ _ _ _ (pv 0) (@pa_cons _ _ _ _ _ (pe_meth (pe_fld (pv 1) rfl) G.cl_Store G.mt_Store_memory c_Store_memory (hr.mono (by decide)) G.b_Store_memory .nil pass0 (@pa_cons _ _ _ _ _ (pv 0) pa_nil (by rfl))) pa_nil (by rfl)) (by rfl))))) pa_nil (by rfl))) (@pa_cons _ _ _ _ _ (pe_callTy call_tuple_of (by rfl) G.n_tuple bt_tuple (@pa_cons _ _ _ _ _ (pe_meth (pe_fld (pv 0) rfl) G.cl_Store G.mt_Store_waits c_Store_waits (hr.mono (by decide)) G.b_Store_waits .nil pass0 (@pa_cons _ _ _ _ _ pe_int pa_nil (by rfl))) pa_nil (by rfl))) (@pa_cons _ _ _ _ _ (pe_callTy call_tuple_of (by rfl) G.n_tuple bt_tuple (@pa_cons _ _ _ _ _ (pe_meth (pe_fld (pv 0) rfl) G.cl_Store G.mt_Store_waits c_Store_waits (hr.mono (by decide)) G.b_Store_waits .nil pass0 (@pa_cons _ _ _ _ _ pe_int pa_nil (by rfl))) pa_nil (by rfl))) (@pa_cons _ _ _ _ _ (pe_callTy call_tuple_of (by rfl) G.n_tuple bt_tuple (@pa_cons _ _ _ _ _ (pe_meth0 (pe_fld (pv 0) rfl) G.cl_Hand G.mt_Hand_under_way c_Hand_under_way (hr.mono (by decide)) G.b_Hand_under_way .nil pass0) pa_nil (by rfl))) (@pa_cons _ _ _ _ _ (pe_callTy call_tuple_of (by rfl) G.n_tuple bt_tuple (@pa_cons _ _ _ _ _ (pe_meth0 (pe_fld (pv 0) rfl) G.cl_Heart G.mt_Heart_tasks c_Heart_tasks (hr.mono (by decide)) G.b_Heart_tasks .nil pass0) pa_nil (by rfl))) (@pa_cons _ _ _ _ _ (@pe_ix _ _ _ _ _ _ _ ix_list (pe_fld (pv 0) rfl) pe_int (λ_ _=>rfl)) (@pa_cons _ _ _ _ _ (@pe_ix _ _ _ _ _ _ _ ix_list (pe_fld (pv 0) rfl) pe_int (λ_ _=>rfl)) pa_nil (by rfl)) (by rfl)) (by rfl)) (by rfl)) (by rfl)) (by rfl)) (by rfl)))))),?_⟩
   obtain ⟨M,r,St,R,Pr⟩:=id Y.x.st
   have nd:(M.map (·.1)).Nodup:=by obtain ⟨_,_,_,_,nd,_⟩:=St.me;exact nd
   have ml:=StT.small St R
   refine ⟨_,rfl,fldE Y.ob G.cl_Yard G.na_Yard_shelf yF_shelf (mthE Y.x.st.ob (stF_no (by decide +kernel) (by decide +kernel)) ⟨y.sa.x,y.sa.hd,y.sa.rl,y.sa.l,M,r,rfl,St,YMR_top R,by omega,YMR_wv R nd,λp1 ts hp1 pr1=>?_⟩)⟩
   have fl:=List.length_filter_le nz M
   have tl:=pairedLen pr1
   refine ⟨p1,ts,(M.filter nz).map λkv=>txtD kv.1,rfl,SqL.of upd_same,by rw [List.length_map];exact tl,by omega,?_,λD H1 ps hD e1 hD1 pm pw=>?_⟩
   · intro i x key hx hkey H' e'
     obtain ⟨kv,hkv,hK⟩:=paired_at pr1 hx
     rw [List.getElem?_map,hkv] at hkey
     cases hkey
     have hm:=(List.mem_filter.mp (List.mem_of_getElem? hkv)).1
     obtain ⟨c,hc,ec⟩:=ck_all _ (R.ks kv hm)
     refine ⟨x,c,rfl,hc,?_,λH'' e''=>⟨by rw [ec],e''⟩⟩
     rw [ec]
     exact DV.keep (λb vs e=>e' _ _ (same_new hp1 _ _ e)) _ _ hK.1 hK.2.2.1
   obtain ⟨qs,pq1,pq2⟩:=perm_paired pm (paired_zip2 pr1)
   have pqs:qs.Pairwise λa b=>leS (txtD a.1) (txtD b.1):=paired_pw (λa a' b b' r r' h=>by rw [← r.1,← r'.1];exact h) pq2 pw
   have cd:=cells_one R nd pq1 pqs
   have E1:Same H H1:=(same_new hp1).trans e1
   have cl:=pairedLen cd
   have pl2:=pairedLen pq2
   have ql:=pq1.length_eq
   refine ⟨_,rfl,D,rfl,⟨_,SqL.of hD1⟩,λD2 hD2=>?_⟩
   refine ⟨λi mm ys H'=>i <= ps.length/\mm=ps.length - i/\Paired (PT H') ((cellsD S.m).take i) ys/\H' D2=some (.lst ys)/\∀ c o,c≠D2->H1 c=some o->H' c=some o,⟨_,Nat.zero_le _,rfl,.nil,upd_same,λc o n e=>by rw [upd_ne n];exact e⟩,?_⟩
   rintro i mm ys H2 ⟨hi,rfl,py,hD22,k2⟩
   have e2:Same H1 H2:=λc o e=>k2 c o (λy=>by rw [y,hD2] at e;cases e) e
   have yl:=pairedLen py
   rw [List.length_take] at yl
   refine ⟨hD22,Nat.lt_of_lt_of_le (show _ < 1000 by omega) (by decide),?_⟩
   by_cases hii:i=ps.length
   rotate_left
   · have hlt:i < ps.length:=by omega
     refine .inr ⟨⟨_,_,SqL.of (e2 _ _ hD1),by rw [List.getElem?_map,List.getElem?_eq_getElem hlt];rfl⟩,?_⟩
     rintro v H3 ⟨rfl,hv⟩
     have hv:=hv _ (SqL.of (e2 _ _ hD1))
     rw [List.getElem?_map,List.getElem?_eq_getElem hlt] at hv
     cases hv
     obtain ⟨kv,hkv,r1,r2⟩:=paired_at pq2 (List.getElem?_eq_getElem hlt)
     obtain ⟨p,hp,c1,c2⟩:=Paired.at' cd hkv
     have hm:=(List.mem_filter.mp (pq1.mem_iff.mp (List.mem_of_getElem? hkv))).1
     have E2:Same H H3:=E1.trans e2
     have Y2:=Y.same E2
     have tu:∀ b vs,H b=some (.tup vs)->H3 b=some (.tup vs):=λb vs=>E2 b _
     refine iteT ⟨_,rfl,_,rfl,fldE Y2.ob G.cl_Yard G.na_Yard_shelf yF_shelf (mthE Y2.x.st.ob (stF_no (by decide +kernel) (by decide +kernel)) ⟨_,rfl,y.sa.x,y.sa.hd,y.sa.rl,y.sa.l,M,r,_,kv.1,rfl,St.keep (λc o _=>E2 c o) tu,⟨r2.1,r2.2.1,DV.keep tu _ _ r2.1 r2.2.2.1,r2.2.2.2⟩,l2,λt ht=>?_⟩)⟩
     rw [look_of nd R.kk (show (kv.1,kv.2)∈M from hm)]
     have et:=same_new (o:=.tup [ps[i].2,((some kv.2).getD (V.int 0))]) ht
     have nD:D2≠t:=ne_of_none hD22 ht
     have tu2:∀ b vs,H3 b=some (.tup vs)->upd (upd H3 t (.tup [ps[i].2,((some kv.2).getD (V.int 0))])) D2 (.lst (ys++[.ref t])) b=some (.tup vs):=λb vs e=>by
       rw [upd_ne (λz=>by rw [z,hD22] at e;cases e)];exact et _ _ e
     have kdp:MX.kd p.2=true/\MX.kd p.1=true:=by
       obtain ⟨c,hc,e⟩:=List.mem_filterMap.mp (List.mem_of_getElem? hp)
       obtain ⟨dd,hd,rfl⟩:=Option.map_eq_some_iff.mp e
       cases c with
       | c kk =>
         have hd':(if S.m.c kk=0 then none else some (PyData.int (S.m.c kk)))=some dd:=hd
         split at hd'
         · cases hd'
         · cases hd';exact ⟨rfl,cn_kd kk⟩
       | p g j =>
         obtain ⟨nw,_,rfl⟩:=Option.map_eq_some_iff.mp hd
         exact ⟨rfl,pk_kd g j⟩
     refine ⟨by rw [upd_ne nD];exact hD22,ps.length - (i+1),by omega,by omega,rfl,?_,upd_same,λc o n e=>by rw [upd_ne n];exact et _ _ (k2 c o n e)⟩
     rw [List.take_add_one,hp]
     refine Paired.snoc (PT.keep tu2 py) ⟨?_,?_⟩
     · show (MX.kd p.1 && (MX.kd p.2 && true))=true
       rw [kdp.1,kdp.2];rfl
     · refine ⟨t,_,rfl,(by rw [upd_ne (Ne.symm nD)];exact upd_same),_,_,rfl,?_,_,_,rfl,?_,rfl⟩
       · rw [← c1]
         exact DV.keep (λb vs e=>tu2 _ _ (tu _ _ e)) _ _ r2.1 r2.2.2.1
       · exact DV.keep (λb vs e=>tu2 _ _ (tu _ _ e)) _ _ kdp.1 c2
   refine .inl ⟨⟨_,SqL.of (e2 _ _ hD1),by rw [List.length_map];omega⟩,?_⟩
   rw [hii,List.take_of_length_le (by omega)] at py
   refine ⟨D2,ys,rfl,.inl ⟨SqL.of hD22,λt1 ht1=>?_⟩⟩
   have E2:Same H H2:=E1.trans e2
   have s1:=same_new (o:=.tup ys) ht1
   have v1:upd H2 t1 (.tup ys) t1=some (.tup ys):=upd_same
   have p1':=PT.keep (λb vs=>s1 b _) py
   have E3:Same H (upd H2 t1 (.tup ys)):=E2.trans s1
   generalize upd H2 t1 (.tup ys)=H3 at s1 v1 p1' E3 ⊢
   clear py hD22 k2 e2 s1 E2 hD1 hD2 e1 hD pm pw pq1 pq2 cd E1
   have Y3:=Y.same E3
   refine ⟨_,rfl,fldE Y3.ob G.cl_Yard G.na_Yard_shelf yF_shelf (mthE Y3.x.st.ob (stF_no (by decide +kernel) (by decide +kernel)) ⟨y.sa,S.m,S.rs,false,rfl,Y3.x.st,λq2 r2 hq2 d2=>⟨q2,r2,rfl,.inl ⟨SqL.of upd_same,λt2 ht2=>?_⟩⟩⟩)⟩
   have s2:=(same_new (o:=.lst r2) hq2).trans (same_new (o:=.tup r2) ht2)
   have v2:upd (upd H3 q2 (.lst r2)) t2 (.tup r2) t2=some (.tup r2):=upd_same
   generalize upd (upd H3 q2 (.lst r2)) t2 (.tup r2)=H4 at s2 v2 ⊢
   have d2':=DVs.keep (λb vs=>s2 b _) _ _ (wr_kds _) d2
   have Y4:=Y3.same s2
   refine ⟨_,rfl,fldE Y4.ob G.cl_Yard G.na_Yard_shelf yF_shelf (mthE Y4.x.st.ob (stF_no (by decide +kernel) (by decide +kernel)) ⟨y.sa,S.m,S.rs,true,rfl,Y4.x.st,λq3 r3 hq3 d3=>⟨q3,r3,rfl,.inl ⟨SqL.of upd_same,λt3 ht3=>?_⟩⟩⟩)⟩
   have s3:=(same_new (o:=.lst r3) hq3).trans (same_new (o:=.tup r3) ht3)
   have v3:upd (upd H4 q3 (.lst r3)) t3 (.tup r3) t3=some (.tup r3):=upd_same
   generalize upd (upd H4 q3 (.lst r3)) t3 (.tup r3)=H5 at s3 v3 ⊢
   have d3':=DVs.keep (λb vs=>s3 b _) _ _ (wr_kds _) d3
   have Y5:=Y4.same s3
   refine ⟨_,rfl,fldE Y5.ob G.cl_Yard G.na_Yard_hand yF_hand (mthE Y5.x.hn.ob hF_under ⟨y.z,y.sa.x,q.p,_,S.un,rfl,Y5.x.hn,ul,λq4 us hq4 pmu pwu=>⟨q4,us.map V.int,rfl,.inl ⟨SqL.of upd_same,λt4 ht4=>?_⟩⟩⟩)⟩
   have s4:=(same_new (o:=.lst (us.map V.int)) hq4).trans (same_new (o:=.tup (us.map V.int)) ht4)
   have v4:upd (upd H5 q4 (.lst (us.map V.int))) t4 (.tup (us.map V.int)) t4=some (.tup (us.map V.int)):=upd_same
   generalize upd (upd H5 q4 (.lst (us.map V.int))) t4 (.tup (us.map V.int))=H6 at s4 v4 ⊢
   have Y6:=Y5.same s4
   refine ⟨_,rfl,fldE Y6.ob G.cl_Yard G.na_Yard_heart yF_heart (mthE Y6.x.tn.ob tF_tasks ⟨y.zt,y.sa.x,q.p,S.tk,rfl,Y6.x.tn,kl,λq5 ks hq5 pmk pwk=>⟨q5,ks.map V.int,rfl,.inl ⟨SqL.of upd_same,λt5 ht5=>?_⟩⟩⟩)⟩
   have s5:=(same_new (o:=.lst (ks.map V.int)) hq5).trans (same_new (o:=.tup (ks.map V.int)) ht5)
   have v5:upd (upd H6 q5 (.lst (ks.map V.int))) t5 (.tup (ks.map V.int)) t5=some (.tup (ks.map V.int)):=upd_same
   generalize upd (upd H6 q5 (.lst (ks.map V.int))) t5 (.tup (ks.map V.int))=H7 at s5 v5 ⊢
   have Y7:=Y6.same s5
   refine ⟨_,rfl,fldE Y7.ob G.cl_Yard G.na_Yard_sleepers yF_sleepers ⟨y.sl,_,_,_,rfl,rfl,SqL.of Y7.sl,bd_at (f:=S.bd) false,?_⟩⟩
   refine ⟨_,rfl,fldE Y7.ob G.cl_Yard G.na_Yard_sleepers yF_sleepers ⟨y.sl,_,_,_,rfl,rfl,SqL.of Y7.sl,bd_at (f:=S.bd) true,?_⟩⟩
   refine ⟨by show 7 <= sizeLine;decide,λt8 ht8=>?_⟩
   have s8:=same_new (o:=.tup [V.ref t1,V.ref t2,V.ref t3,V.ref t4,V.ref t5,V.str (S.bd false).key,V.str (S.bd true).key]) ht8
   have v8:upd H7 t8 (.tup [V.ref t1,V.ref t2,V.ref t3,V.ref t4,V.ref t5,V.str (S.bd false).key,V.str (S.bd true).key]) t8=some (.tup [V.ref t1,V.ref t2,V.ref t3,V.ref t4,V.ref t5,V.str (S.bd false).key,V.str (S.bd true).key]):=upd_same
   have E7:Same H H7:=E3.trans (s2.trans (s3.trans (s4.trans s5)))
   generalize upd H7 t8 (.tup [V.ref t1,V.ref t2,V.ref t3,V.ref t4,V.ref t5,V.str (S.bd false).key,V.str (S.bd true).key])=H8 at s8 v8 ⊢
   have b5:=s5.trans s8
   have b4:=s4.trans b5
   have b3:=s3.trans b4
   have b2:=s2.trans b3
   refine k t8 us ks _ H8 pmu pwu pmk pwk (none_back E7 ht8) (E7.trans s8) v8 ⟨t8,_,rfl,v8,_,_,rfl,⟨t1,ys,rfl,b2 _ _ v1,pt_dvs (PT.keep (λb vs=>b2 b _) p1')⟩,_,_,rfl,⟨t2,r2,rfl,b3 _ _ v2,DVs.keep (λb vs=>b3 b _) _ _ (wr_kds _) d2'⟩,_,_,rfl,⟨t3,r3,rfl,b4 _ _ v3,DVs.keep (λb vs=>b4 b _) _ _ (wr_kds _) d3'⟩,_,_,rfl,⟨t4,_,rfl,b5 _ _ v4,ints_dvsY us⟩,_,_,rfl,⟨t5,_,rfl,s8 _ _ v5,ints_dvsY ks⟩,_,_,rfl,rfl,_,_,rfl,rfl,rfl⟩
end

def sp_same:Nat->Sp
 | 0=>λ_ _ _ _=>False
 | n+1=>λvs H Q _=>∃ (x y:V) (dd:PyData),vs=[x,y]/\DV H dd x/\DV H dd y/\LayD dd/\dd.depth <= n/\∀ H',Same H H'->Q (.bl true) H'
section
variable {K:PySem.W.Frag}
theorem kbb:PySem.W.kitOne K (.type "bool") (.type "bool")=some true:=by rfl
theorem kib:PySem.W.kitOne K (.type "int") (.type "bool")=some false:=by rfl
theorem kii:PySem.W.kitOne K (.type "int") (.type "int")=some true:=by rfl
theorem kis:PySem.W.kitOne K (.type "int") (.type "str")=some false:=by rfl
theorem ksb:PySem.W.kitOne K (.type "str") (.type "bool")=some false:=by rfl
theorem kss:PySem.W.kitOne K (.type "str") (.type "str")=some true:=by rfl
theorem ktb:PySem.W.kitOne K (.type "tuple") (.type "bool")=some false:=by rfl
theorem kti:PySem.W.kitOne K (.type "tuple") (.type "int")=some false:=by rfl
theorem kts:PySem.W.kitOne K (.type "tuple") (.type "str")=some false:=by rfl
theorem ktt:PySem.W.kitOne K (.type "tuple") (.type "tuple")=some true:=by rfl
theorem klb:PySem.W.kitOne K (.type "list") (.type "bool")=some false:=by rfl
theorem kli:PySem.W.kitOne K (.type "list") (.type "int")=some false:=by rfl
theorem kls:PySem.W.kitOne K (.type "list") (.type "str")=some false:=by rfl
theorem klt:PySem.W.kitOne K (.type "list") (.type "tuple")=some false:=by rfl
theorem kll:PySem.W.kitOne K (.type "list") (.type "list")=some true:=by rfl
end
theorem lay_at:∀ {ds:List PyData} {i:Nat} {e:PyData},PyData.canLayAll0 ds=true->ds[i]?=some e->e.canLay0=true/\e.depth <= PyData.depthAll ds
 | [],_,_,_,h=>by simp at h
 | d :: ds,0,e,hl,h=>by
   simp at h
   subst h
   have h':d.canLay0=true/\PyData.canLayAll0 ds=true:=by simpa [PyData.canLayAll0] using hl
   exact ⟨h'.1,by show d.depth <= max d.depth _;omega⟩
 | d :: ds,i+1,e,hl,h=>by
   have h':d.canLay0=true/\PyData.canLayAll0 ds=true:=by simpa [PyData.canLayAll0] using hl
   obtain ⟨a,b⟩:=lay_at (i:=i) (e:=e) h'.2 (by simpa using h)
   exact ⟨a,by show e.depth <= max d.depth (PyData.depthAll ds);omega⟩
section
variable {P:Program} {w:World} {K:PySem.W.Frag} {mg:Str->Option Value} {base:Heap} {a:Ad} {d:Fd}
theorem ok_same (G:Gs K mg a d):∀ n,FnOk P w K mg base CX0 n a.law_same d.law_same ["found","due"] (sp_same n)
 | 0=>⟨λ_ _ _ _ h=>h.elim,λ_ _ _ _ _ _ _ _ _ _ _ _ _ h=>h.elim⟩
 | n+1=>by
   have c_law_same:FnOk P w K mg base CX0 n _ _ _ _:=ok_same G n
   refine G.f_law_same.ok sc_law_same (λvs H Q E h=>?_) (λcdv A outer st H vs Q E hr h=>?_)
   · obtain ⟨x,y,dd,rfl,_⟩:=h
     rfl
   · obtain ⟨x,y,dd,rfl,hx,hy,lay,hd,k⟩:=h
     refine ⟨_,(@pss_cons _ _ _ _ _ (ps_if (pt_cmpR op_isN (pv 1) pe_non (nomark _)) (@pss_one _ _ _ (@ps_ret _ _ _ _ (pe_cmpR op_isN (pv 0) pe_non (nomark _)))) pss_nil)
     (@pss_cons _ _ _ _ _ (ps_if (pt_val (pe_callB call_isinst (by rfl) G.n_isinstance bt_isinstance (@pa_cons _ _ _ _ _ (pv 1) (@pa_cons _ _ _ _ _ (pe_bltn (v:=.ty "bool") (by rfl) G.n_bool bt_bool rfl) pa_nil (by rfl)) (by rfl)))) (@pss_one _ _ _ (@ps_ret _ _ _ _ (pe_and (pe_callB call_isinst (by rfl) G.n_isinstance bt_isinstance (@pa_cons _ _ _ _ _ (pv 0) (@pa_cons _ _ _ _ _ (pe_bltn (v:=.ty "bool") (by rfl) G.n_bool bt_bool rfl) pa_nil (by rfl)) (by rfl))) (pe_one (pe_cmpR (op_eqD hr.units) (pv 0) (pv 1) (nomark _)))))) pss_nil)
     (@pss_cons _ _ _ _ _ (ps_if (pt_val (pe_callB call_isinst (by rfl) G.n_isinstance bt_isinstance (@pa_cons _ _ _ _ _ (pv 1) (@pa_cons _ _ _ _ _ (pe_bltn (v:=.ty "str") (by rfl) G.n_str bt_str rfl) pa_nil (by rfl)) (by rfl)))) (@pss_one _ _ _ (@ps_ret _ _ _ _ (pe_and (pe_callB call_isinst (by rfl) G.n_isinstance bt_isinstance (@pa_cons _ _ _ _ _ (pv 0) (@pa_cons _ _ _ _ _ (pe_bltn (v:=.ty "str") (by rfl) G.n_str bt_str rfl) pa_nil (by rfl)) (by rfl))) (pe_one (pe_cmpR (op_eqD hr.units) (pv 0) (pv 1) (nomark _)))))) pss_nil)
     (@pss_cons _ _ _ _ _ (ps_if (pt_val (pe_callB call_isinst (by rfl) G.n_isinstance bt_isinstance (@pa_cons _ _ _ _ _ (pv 1) (@pa_cons _ _ _ _ _ (pe_bltn (v:=.ty "int") (by rfl) G.n_int bt_int rfl) pa_nil (by rfl)) (by rfl)))) (@pss_one _ _ _ (@ps_ret _ _ _ _ (pe_and (pe_callB call_isinst (by rfl) G.n_isinstance bt_isinstance (@pa_cons _ _ _ _ _ (pv 0) (@pa_cons _ _ _ _ _ (pe_bltn (v:=.ty "int") (by rfl) G.n_int bt_int rfl) pa_nil (by rfl)) (by rfl))) (pe_and (pe_not (pe_callB call_isinst (by rfl) G.n_isinstance bt_isinstance (@pa_cons _ _ _ _ _ (pv 0) (@pa_cons _ _ _ _ _ (pe_bltn (v:=.ty "bool") (by rfl) G.n_bool bt_bool rfl) pa_nil (by rfl)) (by rfl)))) (pe_one (pe_cmpR (op_eqD hr.units) (pv 0) (pv 1) (nomark _))))))) pss_nil)
     (@pss_cons _ _ _ _ _ (ps_if (pt_val (pe_callB call_isinst (by rfl) G.n_isinstance bt_isinstance (@pa_cons _ _ _ _ _ (pv 1) (@pa_cons _ _ _ _ _ (pe_bltn (v:=.ty "tuple") (by rfl) G.n_tuple bt_tuple rfl) pa_nil (by rfl)) (by rfl)))) (@pss_one _ _ _ (ps_if (pt_not (pt_val (pe_callB call_isinst (by rfl) G.n_isinstance bt_isinstance (@pa_cons _ _ _ _ _ (pv 0) (@pa_cons _ _ _ _ _ (pe_bltn (v:=.ty "tuple") (by rfl) G.n_tuple bt_tuple rfl) pa_nil (by rfl)) (by rfl))))) (@pss_one _ _ _ (@ps_ret _ _ _ _ pe_bl)) pss_nil)) (@pss_one _ _ _ (ps_if (pt_not (pt_val (pe_callB call_isinst (by rfl) G.n_isinstance bt_isinstance (@pa_cons _ _ _ _ _ (pv 0) (@pa_cons _ _ _ _ _ (pe_bltn (v:=.ty "list") (by rfl) G.n_list bt_list rfl) pa_nil (by rfl)) (by rfl))))) (@pss_one _ _ _ (@ps_ret _ _ _ _ pe_bl)) pss_nil)))
     (@pss_cons _ _ _ _ _ (ps_if (pt_cmpR op_ne (pe_callB call_len_b (by rfl) G.n_len bt_len (@pa_cons _ _ _ _ _ (pv 0) pa_nil (by rfl))) (pe_callB call_len_b (by rfl) G.n_len bt_len (@pa_cons _ _ _ _ _ (pv 1) pa_nil (by rfl))) (nomark _)) (@pss_one _ _ _ (@ps_ret _ _ _ _ pe_bl)) pss_nil)
     (@pss_cons _ _ _ _ _ (ps_for PassesOwn.never rfl (pi_range1 (by rfl) G.n_range (@pa_cons _ _ _ _ _ (pe_callB call_len_b (by rfl) G.n_len bt_len (@pa_cons _ _ _ _ _ (pv 1) pa_nil (by rfl))) pa_nil (by rfl))) (pg_name (i:=2) sc_law_same.nd rfl (Or.inl rfl)) (@pss_one _ _ _ (ps_if (pt_not (pt_val (pe_call c_law_same hr (by rfl) G.m_law_same G.f_law_same.kp G.b_law_same .nil pass0 (@pa_cons _ _ _ _ _ (@pe_ix _ _ _ _ _ _ _ ix_any (pv 0) (pv 2) (λ_ _=>rfl)) (@pa_cons _ _ _ _ _ (@pe_ix _ _ _ _ _ _ _ ix_any (pv 1) (pv 2) (λ_ _=>rfl)) pa_nil (by rfl)) (by rfl))))) (@pss_one _ _ _ (@ps_ret _ _ _ _ pe_bl)) pss_nil)))
     (@pss_one _ _ _ (@ps_ret _ _ _ _ pe_bl))))))))),?_⟩
     cases dd with
     | none =>
       cases (show x=.non from hx)
       cases (show y=.non from hy)
       exact ⟨_,rfl,rfl,_,rfl,iteDT rfl ⟨_,rfl,rfl,k _ (Same.refl _)⟩⟩
     | bool b =>
       cases (show x=.bl b from hx)
       cases (show y=.bl b from hy)
       refine ⟨_,rfl,rfl,_,rfl,iteDF (by intro z;cases z) ?_⟩
       refine ⟨_,rfl,_,_,_,_,rfl,.bl b,kbb,_,rfl,iteT ?_⟩
       refine ⟨_,rfl,_,_,_,_,rfl,.bl b,kbb,_,rfl,iteT ⟨_,rfl,_,rfl,.bool b,.bool b,rfl,rfl,lay,lay,?_⟩⟩
       simp only [Bool.false_eq_true,if_false]
       rw [eqv_refl _ lay.1]
       exact k _ (Same.refl _)
     | str t =>
       cases (show x=.str t from hx)
       cases (show y=.str t from hy)
       refine ⟨_,rfl,rfl,_,rfl,iteDF (by intro z;cases z) ?_⟩
       refine ⟨_,rfl,_,_,_,_,rfl,.str t,ksb,_,rfl,iteF ?_⟩
       refine ⟨_,rfl,_,_,_,_,rfl,.str t,kss,_,rfl,iteT ?_⟩
       refine ⟨_,rfl,_,_,_,_,rfl,.str t,kss,_,rfl,iteT ⟨_,rfl,_,rfl,.str t,.str t,rfl,rfl,lay,lay,?_⟩⟩
       simp only [Bool.false_eq_true,if_false]
       rw [eqv_refl _ lay.1]
       exact k _ (Same.refl _)
     | int i =>
       cases (show x=.int i from hx)
       cases (show y=.int i from hy)
       refine ⟨_,rfl,rfl,_,rfl,iteDF (by intro z;cases z) ?_⟩
       refine ⟨_,rfl,_,_,_,_,rfl,.int i,kib,_,rfl,iteF ?_⟩
       refine ⟨_,rfl,_,_,_,_,rfl,.int i,kis,_,rfl,iteF ?_⟩
       refine ⟨_,rfl,_,_,_,_,rfl,.int i,kii,_,rfl,iteT ?_⟩
       refine ⟨_,rfl,_,_,_,_,rfl,.int i,kii,_,rfl,iteT ⟨_,rfl,_,_,_,_,rfl,.int i,kib,_,rfl,_,rfl,iteT ⟨_,rfl,_,rfl,.int i,.int i,rfl,rfl,lay,lay,?_⟩⟩⟩
       simp only [Bool.false_eq_true,if_false]
       rw [eqv_refl _ lay.1]
       exact k _ (Same.refl _)
     | dict _=>exact hx.elim
     | list ds =>
       obtain ⟨xa,xs,rfl,hxa,dxs⟩:=hx
       obtain ⟨ya,ys,rfl,hya,dys⟩:=hy
       have lx:=DVs.length dxs
       have ly:=DVs.length dys
       have hd':PyData.depthAll ds+1 <= n:=hd
       have hl':PyData.canLayAll0 ds=true:=lay.1
       have hl16:PyData.depthAll ds+1 <= 16:=lay.2
       have hsl:(sizeLine:Int) < 2 ^ 62:=by decide
       cases n with
       | zero=>exact absurd hd' (by omega)
       | succ m =>
         refine ⟨_,rfl,rfl,_,rfl,iteDF (by intro z;cases z) ?_⟩
         refine ⟨_,rfl,_,_,_,_,rfl,.lst hya,klb,_,rfl,iteF ?_⟩
         refine ⟨_,rfl,_,_,_,_,rfl,.lst hya,kls,_,rfl,iteF ?_⟩
         refine ⟨_,rfl,_,_,_,_,rfl,.lst hya,kli,_,rfl,iteF ?_⟩
         refine ⟨_,rfl,_,_,_,_,rfl,.lst hya,klt,_,rfl,iteF ?_⟩
         refine ⟨_,rfl,_,_,_,_,rfl,.lst hxa,kll,_,rfl,iteF ?_⟩
         refine ⟨_,rfl,xa,xs,rfl,.inl (SqL.of hxa),λ_=>⟨_,rfl,ya,ys,rfl,.inl (SqL.of hya),λhz=>⟨rfl,_,rfl,iteNS (congrArg V.int (by rw [lx,ly])) ?_⟩⟩⟩
         refine ⟨_,rfl,ya,ys,rfl,.inl (SqL.of hya),λhz2=>⟨_,rfl,by omega,by omega,?_⟩⟩
         rw [Int.toNat_natCast]
         refine for_range (n:=ys.length) (λi σ H'=>(∃ v2,σ=[some (.ref xa),some (.ref ya),v2])/\Same H H') ⟨⟨_,rfl⟩,Same.refl _⟩ ?_ ?_
         · rintro i σ H2 hi ⟨⟨v2,rfl⟩,e2⟩
           have gx:=List.getElem?_eq_getElem (show i < xs.length by omega)
           have gy:=List.getElem?_eq_getElem hi
           obtain ⟨d1,g1,q1⟩:=DVs.get dxs gx
           obtain ⟨d2,g2,q2⟩:=DVs.get dys gy
           rw [g1] at g2
           cases g2
           obtain ⟨la,lb⟩:=lay_at hl' g1
           refine ⟨_,rfl,_,rfl,ix_any_of (.inl (SqL.of (e2 _ _ hxa))) (by rw [Int.zero_add];exact atI_at gx) ?_⟩
           refine ⟨_,rfl,_,rfl,ix_any_of (.inl (SqL.of (e2 _ _ hya))) (by rw [Int.zero_add];exact atI_at gy) ?_⟩
           exact ⟨_,_,d1,rfl,DV.mono (λb vs e=>e2 b _ e) (λb vs e=>e2 b _ e) _ _ q1,DV.mono (λb vs e=>e2 b _ e) (λb vs e=>e2 b _ e) _ _ q2,⟨la,by omega⟩,by omega,λH4 e4=>⟨_,rfl,iteF ⟨⟨_,rfl⟩,e2.trans e4⟩⟩⟩
         · rintro σ H2 ⟨⟨v2,rfl⟩,e2⟩
           exact k _ e2
     | tuple ds =>
       obtain ⟨xa,xs,rfl,hxa,dxs⟩:=hx
       obtain ⟨ya,ys,rfl,hya,dys⟩:=hy
       have lx:=DVs.length dxs
       have ly:=DVs.length dys
       have hd':PyData.depthAll ds+1 <= n:=hd
       have hl':PyData.canLayAll0 ds=true:=lay.1
       have hl16:PyData.depthAll ds+1 <= 16:=lay.2
       have hsl:(sizeLine:Int) < 2 ^ 62:=by decide
       cases n with
       | zero=>exact absurd hd' (by omega)
       | succ m =>
         refine ⟨_,rfl,rfl,_,rfl,iteDF (by intro z;cases z) ?_⟩
         refine ⟨_,rfl,_,_,_,_,rfl,.tup hya,ktb,_,rfl,iteF ?_⟩
         refine ⟨_,rfl,_,_,_,_,rfl,.tup hya,kts,_,rfl,iteF ?_⟩
         refine ⟨_,rfl,_,_,_,_,rfl,.tup hya,kti,_,rfl,iteF ?_⟩
         refine ⟨_,rfl,_,_,_,_,rfl,.tup hya,ktt,_,rfl,iteT ?_⟩
         refine ⟨_,rfl,_,_,_,_,rfl,.tup hxa,ktt,_,rfl,iteF ?_⟩
         refine ⟨_,rfl,xa,xs,rfl,.inr (SqT.of hxa),λ_=>⟨_,rfl,ya,ys,rfl,.inr (SqT.of hya),λhz=>⟨rfl,_,rfl,iteNS (congrArg V.int (by rw [lx,ly])) ?_⟩⟩⟩
         refine ⟨_,rfl,ya,ys,rfl,.inr (SqT.of hya),λhz2=>⟨_,rfl,by omega,by omega,?_⟩⟩
         rw [Int.toNat_natCast]
         refine for_range (n:=ys.length) (λi σ H'=>(∃ v2,σ=[some (.ref xa),some (.ref ya),v2])/\Same H H') ⟨⟨_,rfl⟩,Same.refl _⟩ ?_ ?_
         · rintro i σ H2 hi ⟨⟨v2,rfl⟩,e2⟩
           have gx:=List.getElem?_eq_getElem (show i < xs.length by omega)
           have gy:=List.getElem?_eq_getElem hi
           obtain ⟨d1,g1,q1⟩:=DVs.get dxs gx
           obtain ⟨d2,g2,q2⟩:=DVs.get dys gy
           rw [g1] at g2
           cases g2
           obtain ⟨la,lb⟩:=lay_at hl' g1
           refine ⟨_,rfl,_,rfl,ix_any_of (.inr (SqT.of (e2 _ _ hxa))) (by rw [Int.zero_add];exact atI_at gx) ?_⟩
           refine ⟨_,rfl,_,rfl,ix_any_of (.inr (SqT.of (e2 _ _ hya))) (by rw [Int.zero_add];exact atI_at gy) ?_⟩
           exact ⟨_,_,d1,rfl,DV.mono (λb vs e=>e2 b _ e) (λb vs e=>e2 b _ e) _ _ q1,DV.mono (λb vs e=>e2 b _ e) (λb vs e=>e2 b _ e) _ _ q2,⟨la,by omega⟩,by omega,λH4 e4=>⟨_,rfl,iteF ⟨⟨_,rfl⟩,e2.trans e4⟩⟩⟩
         · rintro σ H2 ⟨⟨v2,rfl⟩,e2⟩
           exact k _ e2
end

def cellAt (ns:List Int) (k:Nat):Int:=ns.getD k 0
def sp_cellat (K:PySem.W.Frag):Sp:=λvs H Q _=>∃ (b:Addr) (ns:List Int) (k:Nat),vs=[.ref b,.int k]/\SqL K H b (ns.map V.int)/\Q (.int (cellAt ns k)) H
structure MkOk (s R n:Int) (fs:List Str):Prop where
 s1:1 <= s
 s8:s <= 8
 R2:2 <= R
 R4:R <= 4
 n1:1 <= n
 n9:n <= 9
 fl:fs.length <= 5
def sp_make:Sp:=λvs H Q _=>∃ c:Int,vs=[.int c]/\∀ (t ft:Addr) (s R n:Int) (fs:List Str) (H':Hp),MkOk s R n fs->Same H H'->H t=none->H' t=some (.tup [.int s,.int R,.int n,.ref ft])->H' ft=some (.tup (fs.map V.str))->Q (.ref t) H'
section
variable {P:Program} {w:World} {K:PySem.W.Frag} {mg:Str->Option Value} {base:Heap} {a:Ad} {d:Fd}
theorem ok_cellat (G:Gs K mg a d):FnOk P w K mg base CX0 1 a.law_cell_at d.law_cell_at ["script","k"] (sp_cellat K):=by
 refine G.f_law_cell_at.ok sc_law_cell_at (λvs H Q E h=>?_) (λcdv A' outer s' H vs Q E hr h=>?_)
 · obtain ⟨b,ns,k,rfl,_⟩:=h
   rfl
 · obtain ⟨b,ns,k,rfl,hS,q⟩:=h
   refine ⟨_,(@pss_cons _ _ _ _ _ (ps_if (pt_cmpR op_lt (pv 1) (pe_callB call_len_seq (by rfl) G.n_len bt_len (@pa_cons _ _ _ _ _ (pv 0) pa_nil (by rfl))) (nomark _)) (@pss_one _ _ _ (@ps_ret _ _ _ _ (@pe_ix _ _ _ _ _ _ _ ix_list (pv 0) (pv 1) (λ_ _=>rfl)))) pss_nil)
     (@pss_one _ _ _ (@ps_ret _ _ _ _ pe_int))),?_⟩
   refine ⟨_,rfl,_,rfl,b,_,rfl,.inl hS,_,_,rfl,rfl,_,rfl,?_⟩
   by_cases h:k < ns.length
   · refine iteC (decide_eq_true (by rw [List.length_map];omega)) ?_
     refine ⟨_,rfl,_,rfl,b,_,_,_,rfl,rfl,hS,atI_at (j:=k) (v:=.int (cellAt ns k)) ?_,q⟩
     unfold cellAt
     rw [List.getElem?_map,List.getElem?_eq_getElem h,List.getD_eq_getElem?_getD,List.getElem?_eq_getElem h];rfl
   · refine iteN (by rw [decide_eq_true_eq,List.length_map];omega) ?_
     have:cellAt ns k=0:=by unfold cellAt;rw [List.getD_eq_getElem?_getD,List.getElem?_eq_none (by omega)];rfl
     rw [this] at q
     exact q
theorem ok_make (G:Gs K mg a d):FnOk P w K mg base CX0 1 a.law_make d.law_make ["cell"] sp_make:=by
 refine G.f_law_make.ok sc_law_make (λvs H Q E h=>?_) (λcdv A' outer s' H vs Q E hr h=>?_)
 · obtain ⟨c,rfl,_⟩:=h
   rfl
 · obtain ⟨c,rfl,k⟩:=h
   refine ⟨_,(@pss_cons _ _ _ _ _ (@ps_set _ _ 1 _ _ _ _ sc_law_make.nd rfl (Or.inl rfl) (@pe_op _ _ _ _ _ _ _ _ op_mod (pv 0) (@pe_op _ _ _ _ _ _ _ _ op_pow pe_int pe_int)) (by rfl) (by first | exact .inl rfl | exact .inr rfl | assumption))
     (@pss_cons _ _ _ _ _ (@ps_set _ _ 2 _ _ _ _ sc_law_make.nd rfl (Or.inl rfl) (@pe_op _ _ _ _ _ _ _ _ op_add pe_int (@pe_op _ _ _ _ _ _ _ _ op_mod (pv 1) pe_int)) (by rfl) (by first | exact .inl rfl | exact .inr rfl | assumption))
     (@pss_cut _ _ _ _ _ (ps_if (pt_cmpR op_eq (@pe_op _ _ _ _ _ _ _ _ op_mod (@pe_op _ _ _ _ _ _ _ _ op_fdivB (pv 1) pe_int) pe_int) pe_int (nomark _)) (@pss_one _ _ _ (@ps_set _ _ 2 _ _ _ _ sc_law_make.nd rfl (Or.inl rfl) (@pe_op _ _ _ _ _ _ _ _ op_add pe_int (@pe_op _ _ _ _ _ _ _ _ op_mod (pv 1) pe_int)) (by rfl) (by first | exact .inl rfl | exact .inr rfl | assumption))) pss_nil)
     (@pss_cons _ _ _ _ _ (@ps_set _ _ 3 _ _ _ _ sc_law_make.nd rfl (Or.inl rfl) (@pe_lst _ _ _ _ pa_nil) (by rfl) (by first | exact .inl rfl | exact .inr rfl | assumption))
     (@pss_cons _ _ _ _ _ (@ps_set _ _ 4 _ _ _ _ sc_law_make.nd rfl (Or.inl rfl) (@pe_op _ _ _ _ _ _ _ _ op_fdivB (pv 1) pe_int) (by rfl) (by first | exact .inl rfl | exact .inr rfl | assumption))
     (@pss_cons _ _ _ _ _ (ps_for PassesOwn.never rfl (pi_list (@pe_lst _ _ _ _ (@pa_cons _ _ _ _ _ pe_str (@pa_cons _ _ _ _ _ pe_str (@pa_cons _ _ _ _ _ pe_str (@pa_cons _ _ _ _ _ pe_str (@pa_cons _ _ _ _ _ pe_str pa_nil (by rfl)) (by rfl)) (by rfl)) (by rfl)) (by rfl)))) (pg_name (i:=5) sc_law_make.nd rfl (Or.inl rfl)) (@pss_cut _ _ _ _ _ (ps_if (pt_cmpR op_eq (@pe_op _ _ _ _ _ _ _ _ op_mod (pv 4) pe_int) pe_int (nomark _)) (@pss_one _ _ _ (@ps_expr _ _ _ _ (@pe_bm _ _ _ _ _ _ _ _ _ _ _ _ PySem.F.plainAttrs_list PySem.F.slot_list_append PySem.F.type_list_append mt_append (pv 3) (@pa_cons _ _ _ _ _ (pv 5) pa_nil (by rfl)) (by rfl) (by rfl) (by rfl) (by rfl) (by rfl)) (by rfl))) pss_nil)
     (@pss_one _ _ _ (@ps_set _ _ 4 _ _ _ _ sc_law_make.nd rfl (Or.inl rfl) (@pe_op _ _ _ _ _ _ _ _ op_fdivB (pv 4) pe_int) (by rfl) (by first | exact .inl rfl | exact .inr rfl | assumption)))))
     (@pss_one _ _ _ (@ps_ret _ _ _ _ (@pe_tup _ _ _ _ _ (@pa_cons _ _ _ _ _ (pv 2) (@pa_cons _ _ _ _ _ (@pe_op _ _ _ _ _ _ _ _ op_add pe_int (@pe_op _ _ _ _ _ _ _ _ op_mod (@pe_op _ _ _ _ _ _ _ _ op_fdivB (pv 1) pe_int) pe_int)) (@pa_cons _ _ _ _ _ (@pe_op _ _ _ _ _ _ _ _ op_add pe_int (@pe_op _ _ _ _ _ _ _ _ op_mod (@pe_op _ _ _ _ _ _ _ _ op_fdivB (pv 1) pe_int) pe_int)) (@pa_cons _ _ _ _ _ (pe_callTy call_tuple_of (by rfl) G.n_tuple bt_tuple (@pa_cons _ _ _ _ _ (pv 3) pa_nil (by rfl))) pa_nil (by rfl)) (by rfl)) (by rfl)) (by rfl))))))))))),?_⟩
   have e12:(10:Int) ^ (12:Int).toNat=1000000000000:=by decide
   refine ⟨_,rfl,_,_,rfl,rfl,⟨by decide,by decide,by decide⟩,_,_,rfl,rfl,by show (0:Int) < 10 ^ (12:Int).toNat;decide,?_⟩
   have d0:=Int.emod_nonneg c (show (10 ^ (12:Int).toNat:Int)≠0 by decide)
   have d1:=Int.emod_lt_of_pos c (show (0:Int) < 10 ^ (12:Int).toNat by decide)
   rw [e12] at d0 d1
   obtain ⟨dr,hdr⟩:∃ dr,dr=c % 10 ^ (12:Int).toNat:=⟨_,rfl⟩
   have m8:=Int.emod_nonneg dr (show (8:Int)≠0 by decide)
   have m8':=Int.emod_lt_of_pos dr (show (0:Int) < 8 by decide)
   have m3:=Int.emod_nonneg dr (show (3:Int)≠0 by decide)
   have m3':=Int.emod_lt_of_pos dr (show (0:Int) < 3 by decide)
   refine ⟨_,rfl,_,_,rfl,rfl,(show (0:Int) < 8 from by decide),_,_,rfl,rfl,?_⟩
   refine ⟨λσ' H'=>H'=H/\∃ s,σ'=[some (.int c),some (.int dr),some (.int s),none,none,none]/\1 <= s/\s <= 8,?_,?_⟩
   · refine ⟨_,rfl,_,_,rfl,rfl,⟨by decide,by decide⟩,_,_,rfl,rfl,(show (0:Int) < 2 from by decide),rfl,_,rfl,?_⟩
     refine ite2 (λ_=>?_) (λ_=>?_)
     · exact ⟨_,rfl,_,_,rfl,rfl,(show (0:Int) < 3 from by decide),_,_,rfl,rfl,rfl,1+dr % 3,by rw [hdr];rfl,by omega,by omega⟩
     · exact ⟨rfl,1+dr % 8,by rw [hdr];rfl,by omega,by omega⟩
   · rintro σ' H' ⟨rfl,s,rfl,s1,s8⟩
     refine ⟨len0v,λfl hfl=>?_⟩
     refine ⟨_,rfl,_,_,rfl,rfl,⟨by decide,by decide⟩,?_⟩
     refine ⟨by show 5 <= sizeLine;decide,λlw hlw=>⟨lw,rfl,⟨_,SqL.of upd_same⟩,?_⟩⟩
     have e1:=(same_new (o:=.lst []) hfl).trans (same_new (o:=.lst [V.str "bell",V.str "counter",V.str "lie",V.str "look",V.str "round"]) hlw)
     have v1:upd (upd H' fl (.lst [])) lw (.lst [V.str "bell",V.str "counter",V.str "lie",V.str "look",V.str "round"]) fl=some (.lst (([]:List Str).map V.str)):=by rw [upd_ne (ne_of_none upd_same hlw)];exact upd_same
     have vl:upd (upd H' fl (.lst [])) lw (.lst [V.str "bell",V.str "counter",V.str "lie",V.str "look",V.str "round"]) lw=some (.lst [V.str "bell",V.str "counter",V.str "lie",V.str "look",V.str "round"]):=upd_same
     generalize upd (upd H' fl (.lst [])) lw (.lst [V.str "bell",V.str "counter",V.str "lie",V.str "look",V.str "round"])=H1 at e1 v1 vl ⊢
     have nfl:lw≠fl:=λz=>by rw [z,v1] at vl;cases vl
     refine for_list (K:=K) (a:=lw) (xs:=[V.str "bell",V.str "counter",V.str "lie",V.str "look",V.str "round"]) (λi σ H2=>∃ (fs:List Str) (b:Int),(∃ v5,σ=[some (.int c),some (.int dr),some (.int s),some (.ref fl),some (.int b),v5])/\fs.length <= i/\H2 fl=some (.lst (fs.map V.str))/\(∀ c o,c≠fl->H1 c=some o->H2 c=some o))
       ⟨[],_,⟨_,rfl⟩,Nat.le_refl _,v1,λ_ _ _ e=>e⟩ (λ_ _ _ _ ⟨_,_,_,_,_,z⟩=>SqL.of (z _ _ nfl vl)) ?_ ?_
     · rintro i x σ H2 hi ⟨fs,b,⟨v5,rfl⟩,fll,v2,k2⟩
       have hi5:i < 5:=(List.getElem?_eq_some_iff.mp hi).1
       obtain ⟨wd,rfl⟩:∃ wd,x=.str wd:=by
         match i,hi with
         | 0,hi=>cases hi;exact ⟨_,rfl⟩
         | 1,hi=>cases hi;exact ⟨_,rfl⟩
         | 2,hi=>cases hi;exact ⟨_,rfl⟩
         | 3,hi=>cases hi;exact ⟨_,rfl⟩
         | 4,hi=>cases hi;exact ⟨_,rfl⟩
         | _+5,hi=>cases hi
       refine ⟨λσ' H3=>∃ (fs:List Str),σ'=[some (.int c),some (.int dr),some (.int s),some (.ref fl),some (.int b),some (.str wd)]/\fs.length <= i+1/\H3 fl=some (.lst (fs.map V.str))/\(∀ c o,c≠fl->H1 c=some o->H3 c=some o),?_,?_⟩
       · refine ⟨_,rfl,_,_,rfl,rfl,(show (0:Int) < 2 from by decide),rfl,_,rfl,?_⟩
         refine ite2 (λ_=>?_) (λ_=>?_)
         · refine ⟨_,rfl,.inl ⟨rfl,_,SqL.of v2⟩,_,rfl,fl,_,_,rfl,rfl,v2,Nat.lt_of_lt_of_le (show _ < 1000 by rw [List.length_map];omega) (by decide),fs++[wd],rfl,by rw [List.length_append];show _+1 <= _;omega,by rw [upd_same,List.map_append];rfl,λc o n e=>by rw [upd_ne n];exact k2 c o n e⟩
         · exact ⟨fs,rfl,by omega,v2,k2⟩
       · rintro σ' H3 ⟨fs',rfl,fl3,v3,k3⟩
         exact ⟨_,rfl,_,_,rfl,rfl,⟨by decide,by decide⟩,fs',_,⟨_,rfl⟩,fl3,v3,k3⟩
     · rintro σ H2 ⟨fs,b,⟨v5,rfl⟩,fll,v2,k2⟩
       have a0:=Int.emod_nonneg (dr / 16) (show (3:Int)≠0 by decide)
       have a1:=Int.emod_lt_of_pos (dr / 16) (show (0:Int) < 3 by decide)
       have b0:=Int.emod_nonneg (dr / 48) (show (9:Int)≠0 by decide)
       have b1:=Int.emod_lt_of_pos (dr / 48) (show (0:Int) < 9 by decide)
       refine ⟨_,rfl,_,rfl,_,_,rfl,rfl,⟨by decide,by decide⟩,_,_,rfl,rfl,(show (0:Int) < 3 from by decide),_,_,rfl,rfl,_,rfl,_,_,rfl,rfl,⟨by decide,by decide⟩,_,_,rfl,rfl,(show (0:Int) < 9 from by decide),_,_,rfl,rfl,?_⟩
       refine ⟨_,rfl,fl,_,rfl,.inl ⟨SqL.of v2,λft hft=>⟨by show 4 <= sizeLine;decide,λt ht=>?_⟩⟩⟩
       have e2:Same H' H2:=λc o e=>k2 c o (λz=>ne_of_none e hfl z) (e1 _ _ e)
       have e3:=(same_new (o:=.tup (fs.map V.str)) hft)
       have e4:=same_new (o:=.tup [V.int s,V.int (2+dr / 16 % 3),V.int (1+dr / 48 % 9),V.ref ft]) ht
       exact k t ft s _ _ fs _ ⟨s1,s8,by omega,by omega,by omega,by omega,fll⟩ ((e2.trans e3).trans e4) (none_back (e2.trans e3) ht) upd_same (e4 _ _ upd_same)
end

def sp_worths:Sp:=λvs H Q _=>∃ (b:Addr) (ns:List Int),vs=[.ref b]/\H b=some (.lst (ns.map V.int))/\ns.length <= 60/\∀ (l:Addr) (ws:List Int) (H':Hp),Same H H'->H l=none->H' l=some (.lst (ws.map V.int))->ws.length <= 60->(∀ x∈ws,-1000000000 <= x/\x <= 1000000000)->Q (.ref l) H'
section
variable {P:Program} {w:World} {K:PySem.W.Frag} {mg:Str->Option Value} {base:Heap} {a:Ad} {d:Fd}
theorem ok_worths (G:Gs K mg a d):FnOk P w K mg base CX0 1 a.law_worths d.law_worths ["cells"] sp_worths:=by
 refine G.f_law_worths.ok sc_law_worths (λvs H Q E h=>?_) (λcdv A' outer s' H vs Q E hr h=>?_)
 · obtain ⟨b,ns,rfl,_⟩:=h
   rfl
 · obtain ⟨b,ns,rfl,hb,hl,k⟩:=h
   refine ⟨_,(@pss_cons _ _ _ _ _ (@ps_set _ _ 1 _ _ _ _ sc_law_worths.nd rfl (Or.inl rfl) (@pe_lst _ _ _ _ pa_nil) (by rfl) (by first | exact .inl rfl | exact .inr rfl | assumption))
     (@pss_cons _ _ _ _ _ (ps_for PassesOwn.never rfl (pi_list (pv 0)) (pg_name (i:=2) sc_law_worths.nd rfl (Or.inl rfl)) (@pss_cons _ _ _ _ _ (@ps_set _ _ 3 _ _ _ _ sc_law_worths.nd rfl (Or.inl rfl) (@pe_op _ _ _ _ _ _ _ _ op_sub (@pe_op _ _ _ _ _ _ _ _ op_mod (pv 2) (@pe_op _ _ _ _ _ _ _ _ op_add (@pe_op _ _ _ _ _ _ _ _ op_mul pe_int (@pe_op _ _ _ _ _ _ _ _ op_pow pe_int pe_int)) pe_int)) (@pe_op _ _ _ _ _ _ _ _ op_pow pe_int pe_int)) (by rfl) (by first | exact .inl rfl | exact .inr rfl | assumption))
     (@pss_one _ _ _ (ps_if (pt_cmpR op_notIn_seq (pv 3) (pv 1) (by with_unfolding_all rfl)) (@pss_one _ _ _ (@ps_expr _ _ _ _ (@pe_bm _ _ _ _ _ _ _ _ _ _ _ _ PySem.F.plainAttrs_list PySem.F.slot_list_append PySem.F.type_list_append mt_append (pv 1) (@pa_cons _ _ _ _ _ (pv 3) pa_nil (by rfl)) (by rfl) (by rfl) (by rfl) (by rfl) (by rfl)) (by rfl))) pss_nil))))
     (@pss_one _ _ _ (@ps_ret _ _ _ _ (pv 1))))),?_⟩
   refine ⟨len0v,λfl hfl=>⟨_,rfl,b,rfl,⟨_,SqL.of (same_new hfl _ _ hb)⟩,?_⟩⟩
   have e9:(10:Int) ^ (9:Int).toNat=1000000000:=by decide
   refine for_list (K:=K) (a:=b) (xs:=ns.map V.int) (λi σ H2=>∃ (ws:List Int),(∃ v2 v3,σ=[some (.ref b),some (.ref fl),v2,v3])/\ws.length <= i/\(∀ x∈ws,-1000000000 <= x/\x <= 1000000000)/\H2 fl=some (.lst (ws.map V.int))/\(∀ c o,c≠fl->H c=some o->H2 c=some o))
     ⟨[],⟨_,_,rfl⟩,Nat.le_refl _,λ_ h=>(by cases h),upd_same,λc o n e=>by rw [upd_ne n];exact e⟩ (λ_ _ _ _ ⟨_,_,_,_,_,z⟩=>SqL.of (z _ _ (ne_of_none hb hfl) hb)) ?_ ?_
   · rintro i x σ H2 hi ⟨ws,⟨v2,v3,rfl⟩,wl,wb,v2',k2⟩
     rw [List.getElem?_map] at hi
     obtain ⟨c,hc,rfl⟩:=Option.map_eq_some_iff.mp hi
     have hil:=(List.getElem?_eq_some_iff.mp hc).1
     refine ⟨_,rfl,_,_,rfl,rfl,⟨by decide,by decide,by decide⟩,_,_,rfl,rfl,cmul_nn (by decide) (by decide),_,_,rfl,rfl,_,_,rfl,rfl,by show (0:Int) < 2 * 10 ^ (9:Int).toNat+1;decide,_,_,rfl,rfl,⟨by decide,by decide,by decide⟩,_,_,rfl,rfl,?_⟩
     have f0:=Int.emod_nonneg c (show (2 * 10 ^ (9:Int).toNat+1:Int)≠0 by decide)
     have f1:=Int.emod_lt_of_pos c (show (0:Int) < 2 * 10 ^ (9:Int).toNat+1 by decide)
     obtain ⟨wt,hwt⟩:∃ wt,wt=c % (2 * 10 ^ (9:Int).toNat+1) - 10 ^ (9:Int).toNat:=⟨_,rfl⟩
     have wb2:-1000000000 <= wt/\wt <= 1000000000:=by rw [hwt];rw [e9] at f0 f1 ⊢;omega
     refine ⟨_,rfl,_,rfl,fl,_,rfl,.inl (SqL.of v2'),rfl,ints_flat ws,_,rfl,?_⟩
     refine ite2 (λ_=>?_) (λ_=>?_)
     · refine ⟨_,rfl,.inl ⟨rfl,_,SqL.of v2'⟩,_,rfl,fl,_,_,rfl,rfl,v2',Nat.lt_of_lt_of_le (show _ < 1000 by rw [List.length_map];omega) (by decide),ws++[wt],⟨_,_,rfl⟩,by rw [List.length_append];show _+1 <= _;omega,λx hx=>?_,by rw [upd_same,List.map_append,hwt];rfl,λc o n e=>by rw [upd_ne n];exact k2 c o n e⟩
       rcases List.mem_append.mp hx with h | h
       · exact wb x h
       · rw [List.mem_singleton.mp h];exact wb2
     · exact ⟨ws,⟨_,_,rfl⟩,by omega,wb,v2',k2⟩
   · rintro σ H2 ⟨ws,⟨v2,v3,rfl⟩,wl,wb,v2',k2⟩
     rw [List.length_map] at wl
     exact ⟨_,rfl,k fl ws H2 (λc o e=>k2 c o (ne_of_none e hfl) e) hfl v2' (by omega) wb⟩
end
def dueL (ws:List Int):List Dd:=ws.map Dd.ask++[.collect,.take]++[.bell false,.bell true,.lie false,.lie true]
theorem filter_zero {q:YP} (s1:1 <= q.p.s) (n1:1 <= q.n) (ws:List Int):(thinkL ws []).filter (λx=>(x.chk q YS.zero).isNone)=dueL ws:=by
 have ha:∀ wt,(Dd.ask wt).chk q YS.zero=none:=λwt=>by
   have h0:aheadT q.p YS.zero.m (YS.zero.rs false) .asked .taken≠q.p.s:=by
     show ((0:Int) - 0) % (q.p.s * q.p.R)≠q.p.s
     rw [Int.sub_self,Int.zero_emod];omega
   have h1:∀ S:YS,S.bd false=.up->(Dd.ask wt).chk q S=(if aheadT q.p S.m (S.rs false) .asked .taken=q.p.s then some .full else match least q.n S.un with | none=>some .name | some _=>none):=λS h=>if_pos h
   rw [h1 YS.zero rfl,if_neg h0,show least q.n YS.zero.un=some ((0:Nat):Int) from least_some (by omega) rfl λj hj=>by omega]
 unfold thinkL thinkB thinkA dueL endD
 rw [List.flatMap_nil,List.append_nil,List.filter_append,List.filter_append]
 congr 1
 congr 1
 rw [List.filter_eq_self]
 intro x hx
 obtain ⟨wt,_,rfl⟩:=List.mem_map.mp hx
 rw [ha];rfl
def sp_lcan (w:World) (ad:Ad):Sp:=λvs H Q _=>∃ (a:YA) (q:YP) (wl:Addr) (ws:List Int),vs=[.ref a.y,.ref wl]/\Yn w ad.Yard ad.Hand ad.Heart ad.Ring ad.Store H a q YS.zero/\q.Ok/\1 <= q.p.s/\1 <= q.n/\H wl=some (.lst (ws.map V.int))/\ws.length <= 60/\(∀ x∈ws,-1000000000 <= x/\x <= 1000000000)/\∀ H',Same H H'->Q (.bl true) H'
theorem td_dvs {H:Hp}:∀ {xs:List Dd} {vs:List V},Paired (TD H) xs vs->DVs H (xs.map Dd.dat) vs
 | _,_,.nil=>rfl
 | x :: _,_,.cons ⟨t,e,h⟩ r=>⟨_,_,rfl,by rw [e];exact x.dv h,td_dvs r⟩
theorem intsY_lay (ns:List Int):LayD (.list (ns.map PyData.int))/\(PyData.list (ns.map PyData.int)).depth <= 10:=by
 obtain ⟨h1,h2⟩:=keyed_lay0 (ds:=ns.map PyData.int) λd hd=>by
   obtain ⟨x,_,rfl⟩:=List.mem_map.mp hd
   exact ⟨rfl,by show 0 <= 9;decide⟩
 exact ⟨⟨h1,by show PyData.depthAll _+1 <= 16;omega⟩,by show PyData.depthAll _+1 <= 10;omega⟩
theorem dd_lay:∀ xs:List Dd,LayD (.list (xs.map Dd.dat))/\(PyData.list (xs.map Dd.dat)).depth <= 10:=by
 intro xs
 have h:PyData.canLayAll0 (xs.map Dd.dat)=true/\PyData.depthAll (xs.map Dd.dat) <= 1:=by
   induction xs with
   | nil=>exact ⟨rfl,Nat.zero_le _⟩
   | cons x xs ih =>
     have hx:PyData.canLay0 x.dat=true/\x.dat.depth <= 1:=by
       cases x with
       | ask wt=>exact ⟨show (PyData.strOk ("ask":Str) && (true && true))=true by decide +kernel,by show 1 <= 1;decide⟩
       | collect=>exact ⟨show (PyData.strOk ("collect":Str) && true)=true by decide +kernel,by show 1 <= 1;decide⟩
       | take=>exact ⟨show (PyData.strOk ("take":Str) && true)=true by decide +kernel,by show 1 <= 1;decide⟩
       | answer nm wt=>exact ⟨show (PyData.strOk ("answer":Str) && (true && (true && true)))=true by decide +kernel,by show 1 <= 1;decide⟩
       | bell b=>exact ⟨show (PyData.strOk ("bell":Str) && (true && true))=true by decide +kernel,by show 1 <= 1;decide⟩
       | lie b=>exact ⟨show (PyData.strOk ("lie":Str) && (true && true))=true by decide +kernel,by show 1 <= 1;decide⟩
       | look b=>exact ⟨show (PyData.strOk ("look":Str) && (true && true))=true by decide +kernel,by show 1 <= 1;decide⟩
       | drain b=>exact ⟨show (PyData.strOk ("drain":Str) && (true && true))=true by decide +kernel,by show 1 <= 1;decide⟩
     refine ⟨?_,?_⟩
     · show (PyData.canLay0 x.dat && PyData.canLayAll0 _)=true
       rw [hx.1,ih.1];rfl
     · show max x.dat.depth (PyData.depthAll _) <= 1
       have:=ih.2
       have:=hx.2
       omega
 exact ⟨⟨h.1,by show PyData.depthAll _+1 <= 16;have:=h.2;omega⟩,by show PyData.depthAll _+1 <= 10;have:=h.2;omega⟩
section
variable {P:Program} {w:World} {K:PySem.W.Frag} {mg:Str->Option Value} {base:Heap} {a:Ad} {d:Fd}
theorem ok_lcan (G:Gs K mg a d):FnOk P w K mg base CX0 14 a.law_can d.law_can ["yard","worths"] (sp_lcan w a):=by
 have c_Yard_can_be_done:FnOk P w K mg base CX0 12 _ _ _ _:=ok_can G
 have c_law_same:FnOk P w K mg base CX0 11 _ _ _ _:=ok_same G 11
 refine G.f_law_can.ok sc_law_can (λvs H Q E h=>?_) (λcdv A' outer s' H vs Q E hr h=>?_)
 · obtain ⟨y,q,wl,ws,rfl,_⟩:=h
   rfl
 · obtain ⟨y,q,wl,ws,rfl,Y,qo,s1,n1,hw,wlen,wok,k⟩:=h
   have hu:=hu_of hr
   refine ⟨_,(@pss_cons _ _ _ _ _ (@ps_set _ _ 2 _ _ _ _ sc_law_can.nd rfl (Or.inl rfl) (pe_callTy call_list_of (by rfl) G.n_list bt_list (@pa_cons _ _ _ _ _ (pv 1) pa_nil (by rfl))) (by rfl) (by first | exact .inl rfl | exact .inr rfl | assumption))
     (@pss_cons _ _ _ _ _ (@ps_set _ _ 3 _ _ _ _ sc_law_can.nd rfl (Or.inl rfl) (pe_meth (pv 0) G.cl_Yard G.mt_Yard_can_be_done c_Yard_can_be_done (hr.mono (by decide)) G.b_Yard_can_be_done .nil pass0 (@pa_cons _ _ _ _ _ (pv 2) pa_nil (by rfl))) (by rfl) (by first | exact .inl rfl | exact .inr rfl | assumption))
     (@pss_cons _ _ _ _ _ (@ps_set _ _ 4 _ _ _ _ sc_law_can.nd rfl (Or.inl rfl) (@pe_op _ _ _ _ _ _ _ _ op_cat (by exact pe_comp (caps:=[]) (js:=[]) rfl (compOk rfl rfl (by decide +kernel) (by decide +kernel) rfl trivial rfl rfl) (by decide +kernel) (λy hy=>by cases hy) .nil (λy hy=>by cases hy) (pi_list (pv 1)) (λC s₃ H₃ pins ex E'=>by exact pts_none) (λC s₃ H₃ pins ex E'=>by exact (@pe_tup _ _ _ _ _ (@pa_cons _ _ _ _ _ pe_str (@pa_cons _ _ _ _ _ (pv 0) pa_nil (by rfl)) (by rfl))))) (@pe_lst _ _ _ _ (@pa_cons _ _ _ _ _ (@pe_tup _ _ _ _ _ (@pa_cons _ _ _ _ _ pe_str pa_nil (by rfl))) (@pa_cons _ _ _ _ _ (@pe_tup _ _ _ _ _ (@pa_cons _ _ _ _ _ pe_str pa_nil (by rfl))) pa_nil (by rfl)) (by rfl)))) (by rfl) (by first | exact .inl rfl | exact .inr rfl | assumption))
     (@pss_cons _ _ _ _ _ (@ps_set _ _ 4 _ _ _ _ sc_law_can.nd rfl (Or.inl rfl) (@pe_op _ _ _ _ _ _ _ _ op_cat (pv 4) (@pe_lst _ _ _ _ (@pa_cons _ _ _ _ _ (@pe_tup _ _ _ _ _ (@pa_cons _ _ _ _ _ pe_str (@pa_cons _ _ _ _ _ pe_int pa_nil (by rfl)) (by rfl))) (@pa_cons _ _ _ _ _ (@pe_tup _ _ _ _ _ (@pa_cons _ _ _ _ _ pe_str (@pa_cons _ _ _ _ _ pe_int pa_nil (by rfl)) (by rfl))) (@pa_cons _ _ _ _ _ (@pe_tup _ _ _ _ _ (@pa_cons _ _ _ _ _ pe_str (@pa_cons _ _ _ _ _ pe_int pa_nil (by rfl)) (by rfl))) (@pa_cons _ _ _ _ _ (@pe_tup _ _ _ _ _ (@pa_cons _ _ _ _ _ pe_str (@pa_cons _ _ _ _ _ pe_int pa_nil (by rfl)) (by rfl))) pa_nil (by rfl)) (by rfl)) (by rfl)) (by rfl)))) (by rfl) (by first | exact .inl rfl | exact .inr rfl | assumption))
     (@pss_cons _ _ _ _ _ (@ps_set _ _ 5 _ _ _ _ sc_law_can.nd rfl (Or.inl rfl) (pe_and (pe_call c_law_same (hr.mono (by decide)) (by rfl) G.m_law_same G.f_law_same.kp G.b_law_same .nil pass0 (@pa_cons _ _ _ _ _ (pv 3) (@pa_cons _ _ _ _ _ (pv 4) pa_nil (by rfl)) (by rfl))) (pe_one (pe_cmpR (op_eqD hr.units) (pv 2) (pv 1) (nomark _)))) (by rfl) (by first | exact .inl rfl | exact .inr rfl | assumption))
     (@pss_cons _ _ _ _ _ (@ps_expr _ _ _ _ (pe_bm0 PySem.F.plainAttrs_list PySem.F.slot_list_clear PySem.F.type_list_clear mt_clear (pv 3)) (by rfl))
     (@pss_one _ _ _ (@ps_ret _ _ _ _ (pv 5))))))))),?_⟩
   refine ⟨_,rfl,wl,_,rfl,.inl (SqL.of hw),λhl hhl=>?_⟩
   have e1:=same_new (o:=.lst (ws.map V.int)) hhl
   have v1:upd H hl (.lst (ws.map V.int)) hl=some (.lst (ws.map V.int)):=upd_same
   generalize upd H hl (.lst (ws.map V.int))=H1 at e1 v1 ⊢
   refine ⟨_,rfl,mthE (Y.same e1).ob (yF_no (by decide +kernel)) ⟨_,rfl,y,q,YS.zero,hl,ws,rfl,Y.same e1,qo,v1,wlen,wok,by show 0 < 64;decide,λl ks ts H2 pmk pwk hl0 e2 v2 td=>?_⟩⟩
   have hks:ks=[]:=List.Perm.eq_nil (show ks.Perm [] from pmk)
   subst hks
   rw [filter_zero s1 n1] at td
   have E2:Same H H2:=e1.trans e2
   refine ⟨_,rfl,wl,rfl,⟨_,SqL.of (E2 _ _ hw)⟩,λD hD=>?_⟩
   refine ⟨λi mm ys H'=>i <= ws.length/\mm=ws.length - i/\Gr H2 H' D ((ws.take i).map Dd.ask) ys,⟨_,Nat.zero_le _,rfl,λc o n e=>(by rw [upd_ne n];exact e),upd_same,.nil,hD⟩,?_⟩
   rintro i mm ys H3 ⟨hi,rfl,g3⟩
   have hyl:=g3.len
   rw [List.length_map,List.length_take] at hyl
   refine ⟨g3.at_,Nat.lt_of_lt_of_le (show _ < 1000 by omega) (by decide),?_⟩
   by_cases hii:i=ws.length
   rotate_left
   · have hlt:i < ws.length:=by omega
     refine .inr ⟨⟨_,_,SqL.of (g3.sm _ _ (E2 _ _ hw)),by rw [List.getElem?_map,List.getElem?_eq_getElem hlt];rfl⟩,?_⟩
     rintro v H4 ⟨rfl,hv⟩
     have hv:=hv _ (SqL.of (g3.sm _ _ (E2 _ _ hw)))
     rw [List.getElem?_map,List.getElem?_eq_getElem hlt] at hv
     cases hv
     refine iteT ⟨_,rfl,l2,λt ht=>?_⟩
     have g4:=g3.same (same_new (o:=.tup [V.str "ask",V.int ws[i]]) ht)
     refine ⟨g4.at_,ws.length - (i+1),by omega,by omega,rfl,?_⟩
     rw [List.take_add_one,List.getElem?_eq_getElem hlt,List.map_append]
     exact g4.ext (.cons ⟨t,rfl,upd_same⟩ .nil)
   refine .inl ⟨⟨_,SqL.of (g3.sm _ _ (E2 _ _ hw)),by rw [List.length_map];omega⟩,?_⟩
   rw [hii,List.take_length] at g3
   rw [hii,Nat.min_self] at hyl
   refine ⟨len1v,λt1 h1=>⟨len1v,λt2 h2=>⟨l2,λlq h3=>?_⟩⟩⟩
   have s1':=same_new (o:=.tup [V.str "collect"]) h1
   have s2':=same_new (o:=.tup [V.str "take"]) h2
   have s3':=same_new (o:=.lst [V.ref t1,V.ref t2]) h3
   have b3:=s1'.trans (s2'.trans s3')
   have g4:=g3.same b3
   have p4:Paired (TD (upd (upd (upd H3 t1 (.tup [V.str "collect"])) t2 (.tup [V.str "take"])) lq (.lst [V.ref t1,V.ref t2]))) [Dd.collect,Dd.take] [V.ref t1,V.ref t2]:=.cons ⟨t1,rfl,s3' _ _ (s2' _ _ upd_same)⟩ (.cons ⟨t2,rfl,s3' _ _ upd_same⟩ .nil)
   have vq:upd (upd (upd H3 t1 (.tup [V.str "collect"])) t2 (.tup [V.str "take"])) lq (.lst [V.ref t1,V.ref t2]) lq=some (.lst [V.ref t1,V.ref t2]):=upd_same
   generalize upd (upd (upd H3 t1 (.tup [V.str "collect"])) t2 (.tup [V.str "take"])) lq (.lst [V.ref t1,V.ref t2])=H4 at g4 p4 vq b3 ⊢
   refine ⟨D,lq,ys,_,rfl,rfl,g4.at_,vq,Nat.le_trans (show _ <= 1000 by show _+2 <= 1000;omega) (by decide),λD5 hD5=>?_⟩
   have s5:=same_new (o:=.lst (ys++[V.ref t1,V.ref t2])) hD5
   have td5:Paired (TD (upd H4 D5 (.lst (ys++[V.ref t1,V.ref t2])))) (ws.map Dd.ask++[Dd.collect,Dd.take]) (ys++[V.ref t1,V.ref t2]):=paired_app (td_keep (λb vs=>s5 b _) g4.td) (td_keep (λb vs=>s5 b _) p4)
   have v5:upd H4 D5 (.lst (ys++[V.ref t1,V.ref t2])) D5=some (.lst (ys++[V.ref t1,V.ref t2])):=upd_same
   generalize upd H4 D5 (.lst (ys++[V.ref t1,V.ref t2]))=H5 at s5 td5 v5 ⊢
   have E5:Same H2 H5:=g3.sm.trans (b3.trans s5)
   clear g3 g4 p4 vq b3 s1' s2' s3' s5
   refine ⟨_,rfl,l2,λu1 k1=>⟨l2,λu2 k2=>⟨l2,λu3 k3=>⟨l2,λu4 k4=>⟨by show 4 <= sizeLine;decide,λlq2 k5=>?_⟩⟩⟩⟩⟩
   have r1:=same_new (o:=.tup [V.str "bell",V.int 0]) k1
   have r2:=same_new (o:=.tup [V.str "bell",V.int 1]) k2
   have r3:=same_new (o:=.tup [V.str "lie",V.int 0]) k3
   have r4:=same_new (o:=.tup [V.str "lie",V.int 1]) k4
   have r5:=same_new (o:=.lst [V.ref u1,V.ref u2,V.ref u3,V.ref u4]) k5
   have w1:=r5 _ _ (r4 _ _ (r3 _ _ (r2 _ _ (upd_same (H:=H5) (a:=u1) (o:=.tup [V.str "bell",V.int 0])))))
   have w2:=r5 _ _ (r4 _ _ (r3 _ _ (upd_same (H:=upd H5 u1 (.tup [V.str "bell",V.int 0])) (a:=u2) (o:=.tup [V.str "bell",V.int 1]))))
   have w3:=r5 _ _ (r4 _ _ (upd_same (H:=upd (upd H5 u1 (.tup [V.str "bell",V.int 0])) u2 (.tup [V.str "bell",V.int 1])) (a:=u3) (o:=.tup [V.str "lie",V.int 0])))
   have w4:=r5 _ _ (upd_same (H:=upd (upd (upd H5 u1 (.tup [V.str "bell",V.int 0])) u2 (.tup [V.str "bell",V.int 1])) u3 (.tup [V.str "lie",V.int 0])) (a:=u4) (o:=.tup [V.str "lie",V.int 1]))
   have w5:=upd_same (H:=upd (upd (upd (upd H5 u1 (.tup [V.str "bell",V.int 0])) u2 (.tup [V.str "bell",V.int 1])) u3 (.tup [V.str "lie",V.int 0])) u4 (.tup [V.str "lie",V.int 1])) (a:=lq2) (o:=.lst [V.ref u1,V.ref u2,V.ref u3,V.ref u4])
   have r6:=r1.trans (r2.trans (r3.trans (r4.trans r5)))
   generalize upd (upd (upd (upd (upd H5 u1 (.tup [V.str "bell",V.int 0])) u2 (.tup [V.str "bell",V.int 1])) u3 (.tup [V.str "lie",V.int 0])) u4 (.tup [V.str "lie",V.int 1])) lq2 (.lst [V.ref u1,V.ref u2,V.ref u3,V.ref u4])=H6 at w1 w2 w3 w4 w5 r6 ⊢
   clear r1 r2 r3 r4 r5 k1 k2 k3 k4 k5
   refine ⟨D5,lq2,_,_,rfl,rfl,r6 _ _ v5,w5,Nat.le_trans (show _ <= 1000 by rw [List.length_append];show _+2+4 <= 1000;omega) (by decide),λD7 hD7=>?_⟩
   have s7:=same_new (o:=.lst (ys++[V.ref t1,V.ref t2]++[V.ref u1,V.ref u2,V.ref u3,V.ref u4])) hD7
   have v7:upd H6 D7 (.lst (ys++[V.ref t1,V.ref t2]++[V.ref u1,V.ref u2,V.ref u3,V.ref u4])) D7=some (.lst (ys++[V.ref t1,V.ref t2]++[V.ref u1,V.ref u2,V.ref u3,V.ref u4])):=upd_same
   have td7:Paired (TD (upd H6 D7 (.lst (ys++[V.ref t1,V.ref t2]++[V.ref u1,V.ref u2,V.ref u3,V.ref u4])))) (dueL ws) (ys++[V.ref t1,V.ref t2]++[V.ref u1,V.ref u2,V.ref u3,V.ref u4]):=paired_app (td_keep (λb vs e=>s7 b _ (r6 b _ e)) td5) (.cons ⟨u1,rfl,s7 _ _ w1⟩ (.cons ⟨u2,rfl,s7 _ _ w2⟩ (.cons ⟨u3,rfl,s7 _ _ w3⟩ (.cons ⟨u4,rfl,s7 _ _ w4⟩ .nil))))
   generalize upd H6 D7 (.lst (ys++[V.ref t1,V.ref t2]++[V.ref u1,V.ref u2,V.ref u3,V.ref u4]))=H7 at s7 v7 td7 ⊢
   have E7:Same H2 H7:=E5.trans (r6.trans s7)
   have v27:=E7 _ _ v2
   have dv1:DV H7 (.list ((dueL ws).map Dd.dat)) (.ref l):=⟨l,ts,rfl,v27,td_dvs (td_keep (λb vs=>E7 b _) td)⟩
   have dv2:DV H7 (.list ((dueL ws).map Dd.dat)) (.ref D7):=⟨D7,_,rfl,v7,td_dvs td7⟩
   obtain ⟨y1,y2⟩:=dd_lay (dueL ws)
   refine ⟨_,rfl,_,rfl,_,_,_,rfl,dv1,dv2,y1,y2,λH8 e8=>⟨_,rfl,iteT ?_⟩⟩
   have E8:Same H2 H8:=E7.trans e8
   obtain ⟨z1,z2⟩:=intsY_lay ws
   refine ⟨_,rfl,_,rfl,.list (ws.map PyData.int),.list (ws.map PyData.int),⟨hl,_,rfl,E8 _ _ (e2 _ _ v1),ints_dvsY ws⟩,⟨wl,_,rfl,E8 _ _ (E2 _ _ hw),ints_dvsY ws⟩,z1,z1,?_⟩
   simp only [Bool.false_eq_true,if_false]
   rw [eqv_refl _ z1.1]
   refine ⟨_,rfl,.inl ⟨rfl,_,SqL.of (E8 _ _ v2)⟩,l,_,rfl,rfl,E8 _ _ v2,?_⟩
   exact ⟨_,rfl,k _ λc o e=>by rw [upd_ne (ne_of_none e (none_back e1 hl0))];exact E8 _ _ (E2 _ _ e)⟩
end
def dvZero:PyData:=.tuple [.tuple [],.tuple [],.tuple [],.tuple [],.tuple [],.str "up",.str "up"]
theorem state_zero:stateD YS.zero [] []=dvZero:=by
 have:cellsD Mem.zero=[]:=by
   unfold cellsD
   rw [List.filterMap_eq_nil_iff]
   intro c _
   cases c<;>rfl
 unfold stateD dvZero
 rw [show YS.zero.m=Mem.zero from rfl,this]
 rfl
theorem zero_cells {H:Hp} {M:List (PyData × V)} (R:MemR H M Mem.zero) (nd:(M.map (·.1)).Nodup):M.filter nz=[]:=by
 rw [List.filter_eq_nil_iff]
 intro p hp
 obtain ⟨c,_,e⟩:=ck_all _ (R.ks p hp)
 rcases wd_of R nd c with ⟨_,z⟩ | ⟨dd,v,e1,_⟩
 · have:=z p.2 (by rw [e];exact hp)
   unfold nz
   rw [this];simp
 · cases c<;>cases e1
def sp_ltold (w:World) (ad:Ad):Sp:=λvs H Q _=>∃ (a:YA) (s R:Int) (n:Nat) (fs:List Str) (t ft:Addr),vs=[.ref a.y,.ref t]/\Yn w ad.Yard ad.Hand ad.Heart ad.Ring ad.Store H a (ypOf s R n fs) YS.zero/\H t=some (.tup [.int s,.int R,.int n,.ref ft])/\H ft=some (.tup (fs.map V.str))/\∀ H',Same H H'->Q (.bl true) H'
section
variable {P:Program} {w:World} {K:PySem.W.Frag} {mg:Str->Option Value} {base:Heap} {a:Ad} {d:Fd}
theorem ok_ltold (G:Gs K mg a d):FnOk P w K mg base CX0 14 a.law_told d.law_told ["yard","make"] (sp_ltold w a):=by
 have c_Yard_made:FnOk P w K mg base CX0 1 _ _ _ _:=ok_made G
 have c_Yard_story:FnOk P w K mg base CX0 1 _ _ _ _:=ok_story G
 have c_Yard_sleeper:FnOk P w K mg base CX0 1 _ _ _ _:=ok_sleeper G
 have c_Yard_is_quiet:FnOk P w K mg base CX0 1 _ _ _ _:=ok_isquiet G
 have c_Yard_store:FnOk P w K mg base CX0 1 _ _ _ _:=ok_ystore G
 have c_Yard_state:FnOk P w K mg base CX0 4 _ _ _ _:=ok_state G
 have c_Store_cells:FnOk P w K mg base CX0 1 _ _ _ _:=ok_cells G
 have c_Store_waits:FnOk P w K mg base CX0 1 _ _ _ _:=(ok_waits G).imp λvs H Q E=>waitsT
 have c_law_same:FnOk P w K mg base CX0 11 _ _ _ _:=ok_same G 11
 refine G.f_law_told.ok sc_law_told (λvs H Q E h=>?_) (λcdv A' outer s' H vs Q E hr h=>?_)
 · obtain ⟨y,s,R,n,fs,t,ft,rfl,_⟩:=h
   rfl
 · obtain ⟨y,s,R,n,fs,t,ft,rfl,Y,ht,hft,k⟩:=h
   have hu:=hu_of hr
   refine ⟨_,(@pss_cons _ _ _ _ _ (@ps_set _ _ 2 _ _ _ _ sc_law_told.nd rfl (Or.inl rfl) (@pe_ix _ _ _ _ _ _ _ ix_tup (pv 1) pe_int (λ_ _=>rfl)) (by rfl) (by first | exact .inl rfl | exact .inr rfl | assumption))
     (@pss_cut _ _ _ _ _ (ps_if (pt_cmpR op_in_seq pe_str (@pe_ix _ _ _ _ _ _ _ ix_tup (pv 1) pe_int (λ_ _=>rfl)) (by with_unfolding_all rfl)) (@pss_one _ _ _ (@ps_set _ _ 2 _ _ _ _ sc_law_told.nd rfl (Or.inl rfl) pe_int (by rfl) (by first | exact .inl rfl | exact .inr rfl | assumption))) pss_nil)
     (@pss_cons _ _ _ _ _ (@ps_set _ _ 3 _ _ _ _ sc_law_told.nd rfl (Or.inl rfl) (pe_meth0 (pv 0) G.cl_Yard G.mt_Yard_story c_Yard_story (hr.mono (by decide)) G.b_Yard_story .nil pass0) (by rfl) (by first | exact .inl rfl | exact .inr rfl | assumption))
     (@pss_cons _ _ _ _ _ (ps_if ((pw_or (pt_not (pt_val (pe_call c_law_same (hr.mono (by decide)) (by rfl) G.m_law_same G.f_law_same.kp G.b_law_same .nil pass0 (@pa_cons _ _ _ _ _ (pe_meth0 (pv 0) G.cl_Yard G.mt_Yard_made c_Yard_made (hr.mono (by decide)) G.b_Yard_made .nil pass0) (@pa_cons _ _ _ _ _ (@pe_tup _ _ _ _ _ (@pa_cons _ _ _ _ _ (@pe_ix _ _ _ _ _ _ _ ix_tup (pv 1) pe_int (λ_ _=>rfl)) (@pa_cons _ _ _ _ _ (pv 2) pa_nil (by rfl)) (by rfl))) pa_nil (by rfl)) (by rfl))))) (pw_or1 (pt_not (pt_val (pe_call c_law_same (hr.mono (by decide)) (by rfl) G.m_law_same G.f_law_same.kp G.b_law_same .nil pass0 (@pa_cons _ _ _ _ _ (pv 3) (@pa_cons _ _ _ _ _ (@pe_lst _ _ _ _ pa_nil) pa_nil (by rfl)) (by rfl)))))))).pt (@pss_one _ _ _ (@ps_ret _ _ _ _ pe_bl)) pss_nil)
     (@pss_cons _ _ _ _ _ (@ps_expr _ _ _ _ (@pe_bm _ _ _ _ _ _ _ _ _ _ _ _ PySem.F.plainAttrs_list PySem.F.slot_list_append PySem.F.type_list_append mt_append (pv 3) (@pa_cons _ _ _ _ _ (@pe_tup _ _ _ _ _ (@pa_cons _ _ _ _ _ pe_str (@pa_cons _ _ _ _ _ pe_int (@pa_cons _ _ _ _ _ pe_int pa_nil (by rfl)) (by rfl)) (by rfl))) pa_nil (by rfl)) (by rfl) (by rfl) (by rfl) (by rfl) (by rfl)) (by rfl))
     (@pss_cons _ _ _ _ _ (ps_for PassesOwn.never rfl (pi_tup (@pe_tup _ _ _ _ _ (@pa_cons _ _ _ _ _ pe_int (@pa_cons _ _ _ _ _ pe_int pa_nil (by rfl)) (by rfl)))) (pg_name (i:=4) sc_law_told.nd rfl (Or.inl rfl)) (@pss_one _ _ _ (ps_if ((pw_or (pt_not (pt_val (pe_call c_law_same (hr.mono (by decide)) (by rfl) G.m_law_same G.f_law_same.kp G.b_law_same .nil pass0 (@pa_cons _ _ _ _ _ (pe_meth (pv 0) G.cl_Yard G.mt_Yard_sleeper c_Yard_sleeper (hr.mono (by decide)) G.b_Yard_sleeper .nil pass0 (@pa_cons _ _ _ _ _ (pv 4) pa_nil (by rfl))) (@pa_cons _ _ _ _ _ pe_str pa_nil (by rfl)) (by rfl))))) (pw_or1 (pt_not (pt_val (pe_call c_law_same (hr.mono (by decide)) (by rfl) G.m_law_same G.f_law_same.kp G.b_law_same .nil pass0 (@pa_cons _ _ _ _ _ (pe_meth (pv 0) G.cl_Yard G.mt_Yard_is_quiet c_Yard_is_quiet (hr.mono (by decide)) G.b_Yard_is_quiet .nil pass0 (@pa_cons _ _ _ _ _ (pv 4) pa_nil (by rfl))) (@pa_cons _ _ _ _ _ pe_bl pa_nil (by rfl)) (by rfl)))))))).pt (@pss_one _ _ _ (@ps_ret _ _ _ _ pe_bl)) pss_nil)))
     (@pss_cons _ _ _ _ _ (@ps_set _ _ 5 _ _ _ _ sc_law_told.nd rfl (Or.inl rfl) (pe_meth0 (pv 0) G.cl_Yard G.mt_Yard_store c_Yard_store (hr.mono (by decide)) G.b_Yard_store .nil pass0) (by rfl) (by first | exact .inl rfl | exact .inr rfl | assumption))
     (@pss_cons _ _ _ _ _ (ps_if ((pw_or (pt_not (pt_val (pe_callB call_isinstO (by rfl) G.n_isinstance bt_isinstance (@pa_cons _ _ _ _ _ (pv 5) (@pa_cons _ _ _ _ _ (pe_glob (v:=.ref a.Store) (by rfl) G.m_Store rfl) pa_nil (by rfl)) (by rfl))))) (pw_or (pt_cmpR (op_neNil hr.units) (pe_meth0 (pv 5) G.cl_Store G.mt_Store_cells c_Store_cells (hr.mono (by decide)) G.b_Store_cells .nil pass0) (@pe_lst _ _ _ _ pa_nil) (nomark _)) (pw_or (pt_cmpR (op_neNil hr.units) (pe_meth (pv 5) G.cl_Store G.mt_Store_waits c_Store_waits (hr.mono (by decide)) G.b_Store_waits .nil pass0 (@pa_cons _ _ _ _ _ pe_int pa_nil (by rfl))) (@pe_lst _ _ _ _ pa_nil) (nomark _)) (pw_or1 (pt_cmpR (op_neNil hr.units) (pe_meth (pv 5) G.cl_Store G.mt_Store_waits c_Store_waits (hr.mono (by decide)) G.b_Store_waits .nil pass0 (@pa_cons _ _ _ _ _ pe_int pa_nil (by rfl))) (@pe_lst _ _ _ _ pa_nil) (nomark _))))))).pt (@pss_one _ _ _ (@ps_ret _ _ _ _ pe_bl)) pss_nil)
     (@pss_one _ _ _ (@ps_ret _ _ _ _ (pe_and (pe_call c_law_same (hr.mono (by decide)) (by rfl) G.m_law_same G.f_law_same.kp G.b_law_same .nil pass0 (@pa_cons _ _ _ _ _ (pe_meth0 (pv 0) G.cl_Yard G.mt_Yard_state c_Yard_state (hr.mono (by decide)) G.b_Yard_state .nil pass0) (@pa_cons _ _ _ _ _ (@pe_tup _ _ _ _ _ (@pa_cons _ _ _ _ _ (@pe_tup _ _ _ _ _ pa_nil) (@pa_cons _ _ _ _ _ (@pe_tup _ _ _ _ _ pa_nil) (@pa_cons _ _ _ _ _ (@pe_tup _ _ _ _ _ pa_nil) (@pa_cons _ _ _ _ _ (@pe_tup _ _ _ _ _ pa_nil) (@pa_cons _ _ _ _ _ (@pe_tup _ _ _ _ _ pa_nil) (@pa_cons _ _ _ _ _ pe_str (@pa_cons _ _ _ _ _ pe_str pa_nil (by rfl)) (by rfl)) (by rfl)) (by rfl)) (by rfl)) (by rfl)) (by rfl))) pa_nil (by rfl)) (by rfl))) (pe_one (pe_call c_law_same (hr.mono (by decide)) (by rfl) G.m_law_same G.f_law_same.kp G.b_law_same .nil pass0 (@pa_cons _ _ _ _ _ (pe_meth0 (pv 0) G.cl_Yard G.mt_Yard_story c_Yard_story (hr.mono (by decide)) G.b_Yard_story .nil pass0) (@pa_cons _ _ _ _ _ (@pe_lst _ _ _ _ pa_nil) pa_nil (by rfl)) (by rfl))))))))))))))),?_⟩
   refine ⟨_,rfl,t,_,_,_,rfl,rfl,SqT.of ht,rfl,?_⟩
   refine ⟨λσ' H'=>H'=H/\σ'=[some (.ref y.y),some (.ref t),some (.int (ypOf s R n fs).p.R),none,none,none],?_,?_⟩
   · refine ⟨_,rfl,t,_,_,_,rfl,rfl,SqT.of ht,rfl,ft,_,rfl,.inr (SqT.of hft),rfl,strs_flat fs,_,rfl,?_⟩
     simp only [Bool.false_eq_true,if_false]
     rw [inV_str]
     by_cases hb:fs.contains "round"=true
     · refine iteC hb ⟨rfl,?_⟩
       show _=[some (V.ref y.y),some (V.ref t),some (V.int (if fs.contains "round" then 1 else R)),none,none,none]
       rw [if_pos hb];rfl
     · refine iteN hb ⟨rfl,?_⟩
       show _=[some (V.ref y.y),some (V.ref t),some (V.int (if fs.contains "round" then 1 else R)),none,none,none]
       rw [if_neg hb];rfl
   · rintro σ' H' ⟨rfl,rfl⟩
     refine ⟨_,rfl,mthE Y.ob (yF_no (by decide +kernel)) ⟨y,_,_,rfl,Y,λls ts hls dvs=>?_⟩⟩
     have hts:ts=[]:=dvs
     subst hts
     have e1:=same_new (o:=.lst []) hls
     have v1:upd H' ls (.lst []) ls=some (.lst []):=upd_same
     generalize upd H' ls (.lst [])=H1 at e1 v1 ⊢
     have Y1:=Y.same e1
     refine ⟨_,rfl,mthE Y1.ob (yF_no (by decide +kernel)) ⟨y,_,_,rfl,Y1,λtm htm=>?_⟩⟩
     have e2:=same_new (o:=.tup [V.int (ypOf s R n fs).p.s,V.int (ypOf s R n fs).p.R]) htm
     have v2:upd H1 tm (.tup [V.int (ypOf s R n fs).p.s,V.int (ypOf s R n fs).p.R]) tm=some (.tup [V.int (ypOf s R n fs).p.s,V.int (ypOf s R n fs).p.R]):=upd_same
     generalize upd H1 tm (.tup [V.int (ypOf s R n fs).p.s,V.int (ypOf s R n fs).p.R])=H2 at e2 v2 ⊢
     have E2:Same H' H2:=e1.trans e2
     refine ⟨_,rfl,t,_,_,_,rfl,rfl,SqT.of (E2 _ _ ht),rfl,_,rfl,l2,λt3 ht3=>?_⟩
     have e3:=same_new (o:=.tup [V.int s,V.int (ypOf s R n fs).p.R]) ht3
     refine ⟨_,_,.tuple [.int s,.int (ypOf s R n fs).p.R],rfl,DV2 (e3 _ _ v2),DV2 upd_same,⟨rfl,by show 1 <= 16;decide⟩,by show 1 <= 10;decide,λH4 e4=>⟨_,rfl,iteF ?_⟩⟩
     have E4:Same H1 H4:=e2.trans (e3.trans e4)
     clear e2 e3 e4 v2 E2
     refine ⟨_,rfl,len0v,λl5 hl5=>?_⟩
     have e5:=same_new (o:=.lst []) hl5
     refine ⟨_,_,.list [],rfl,⟨ls,_,rfl,e5 _ _ (E4 _ _ v1),rfl⟩,⟨l5,_,rfl,upd_same,rfl⟩,⟨rfl,by show 1 <= 16;decide⟩,by show 1 <= 10;decide,λH6 e6=>⟨_,rfl,iteF ?_⟩⟩
     have E6:Same H1 H6:=E4.trans (e5.trans e6)
     clear e5 e6 E4
     refine ⟨_,rfl,.inl ⟨rfl,_,SqL.of (E6 _ _ v1)⟩,l3,λt7 ht7=>?_⟩
     have e7:=same_new (o:=.tup [V.str "asked",V.int 0,V.int 0]) ht7
     refine ⟨ls,_,_,rfl,rfl,e7 _ _ (E6 _ _ v1),by show 0 < sizeLine;decide,?_⟩
     have E8:Same H' (upd (upd H6 t7 (.tup [V.str "asked",V.int 0,V.int 0])) ls (.lst ([]++[V.ref t7]))):=λc o e=>by
       rw [upd_ne (ne_of_none e hls)];exact e7 _ _ (E6 _ _ (e1 _ _ e))
     generalize upd (upd H6 t7 (.tup [V.str "asked",V.int 0,V.int 0])) ls (.lst ([]++[V.ref t7]))=H8 at E8 ⊢
     clear E6 e7 v1 Y1 e1
     refine ⟨l2,λtw htw=>⟨tw,rfl,⟨_,SqT.of upd_same⟩,?_⟩⟩
     have E9:=E8.trans (same_new (o:=.tup [V.int 0,V.int 1]) htw)
     have vw:upd H8 tw (.tup [V.int 0,V.int 1]) tw=some (.tup [V.int 0,V.int 1]):=upd_same
     generalize upd H8 tw (.tup [V.int 0,V.int 1])=H9 at E9 vw ⊢
     refine for_tup (K:=K) (a:=tw) (xs:=[V.int 0,V.int 1]) (λj σ H2=>(∃ v4,σ=[some (.ref y.y),some (.ref t),some (.int (ypOf s R n fs).p.R),some (.ref ls),v4,none])/\Same H' H2/\H2 tw=some (.tup [V.int 0,V.int 1]))
       ⟨⟨_,rfl⟩,E9,vw⟩ (λ_ _ _ _ ⟨_,_,z⟩=>SqT.of z) ?_ ?_
     · clear E9 vw
       rintro j v σ H2 hj ⟨⟨v4,rfl⟩,e2,vw⟩
       obtain ⟨b,rfl⟩:∃ b:Bool,v=.int (sdI b):=by
         match j,hj with
         | 0,hj=>cases hj;exact ⟨false,rfl⟩
         | 1,hj=>cases hj;exact ⟨true,rfl⟩
         | _+2,hj=>cases hj
       have Y2:=Y.same e2
       refine ⟨_,rfl,mthE Y2.ob (yF_no (by decide +kernel)) ⟨_,rfl,y,_,_,b,rfl,Y2,?_⟩⟩
       refine ⟨_,_,.str "up",rfl,rfl,rfl,⟨by decide +kernel,by show 0 <= 16;decide⟩,by show 0 <= 10;decide,λH3 e3=>⟨_,rfl,iteF ?_⟩⟩
       have Y3:=Y2.same e3
       refine ⟨_,rfl,mthE Y3.ob (yF_no (by decide +kernel)) ⟨_,rfl,y,_,_,b,rfl,Y3,?_⟩⟩
       exact ⟨_,_,.bool true,rfl,rfl,rfl,⟨rfl,by show 0 <= 16;decide⟩,by show 0 <= 10;decide,λH4 e4=>⟨_,rfl,iteF ⟨⟨_,rfl⟩,(e2.trans e3).trans e4,e4 _ _ (e3 _ _ vw)⟩⟩⟩
     · clear E9 vw
       rintro σ H2 ⟨⟨v4,rfl⟩,e2,vw⟩
       have Y2:=Y.same e2
       refine ⟨_,rfl,mthE Y2.ob (yF_no (by decide +kernel)) ⟨y,_,_,rfl,Y2,?_⟩⟩
       obtain ⟨dxs,hxs⟩:=Y2.x.st.ob
       refine ⟨_,rfl,_,_,_,true,rfl,.ins hxs G.cl_Store G.ty_1 G.ty_2 G.ty_3 G.ty_4,G.ty_5,_,rfl,iteF ?_⟩
       obtain ⟨M,r,St,R0,Pr⟩:=id Y2.x.st
       have nd:(M.map (·.1)).Nodup:=by obtain ⟨_,_,_,_,nd,_⟩:=St.me;exact nd
       have ml:=StT.small St R0
       have mz:=zero_cells R0 nd
       refine ⟨_,rfl,mthE Y2.x.st.ob (stF_no (by decide +kernel) (by decide +kernel)) ⟨y.sa.x,y.sa.hd,y.sa.rl,y.sa.l,M,r,rfl,St,YMR_top R0,by omega,YMR_wv R0 nd,λp3 ts3 hp3 pr3=>?_⟩⟩
       rw [mz] at pr3
       cases pr3
       refine ⟨len0v,λl4 hl4=>⟨p3,l4,_,rfl,rfl,SqL.of (same_new hl4 _ _ upd_same),SqL.of upd_same,_,rfl,iteF ?_⟩⟩
       have e4:=(same_new (o:=.lst []) hp3).trans (same_new (o:=.lst []) hl4)
       generalize upd (upd H2 p3 (.lst [])) l4 (.lst [])=H4 at e4 ⊢
       have Y4:=Y2.same e4
       refine ⟨_,rfl,mthE Y4.x.st.ob (stF_no (by decide +kernel) (by decide +kernel)) ⟨y.sa,_,_,false,rfl,Y4.x.st,λp5 ts5 hp5 d5=>?_⟩⟩
       have:ts5=[]:=d5
       subst this
       refine ⟨len0v,λl6 hl6=>⟨p5,l6,_,rfl,rfl,SqL.of (same_new hl6 _ _ upd_same),SqL.of upd_same,_,rfl,iteF ?_⟩⟩
       have e6:=e4.trans ((same_new (o:=.lst []) hp5).trans (same_new (o:=.lst []) hl6))
       generalize upd (upd H4 p5 (.lst [])) l6 (.lst [])=H6 at e6 ⊢
       have Y6:=Y2.same e6
       refine ⟨_,rfl,mthE Y6.x.st.ob (stF_no (by decide +kernel) (by decide +kernel)) ⟨y.sa,_,_,true,rfl,Y6.x.st,λp7 ts7 hp7 d7=>?_⟩⟩
       have:ts7=[]:=d7
       subst this
       refine ⟨len0v,λl8 hl8=>⟨p7,l8,_,rfl,rfl,SqL.of (same_new hl8 _ _ upd_same),SqL.of upd_same,_,rfl,iteF ?_⟩⟩
       have e8:=e6.trans ((same_new (o:=.lst []) hp7).trans (same_new (o:=.lst []) hl8))
       generalize upd (upd H6 p7 (.lst [])) l8 (.lst [])=H8 at e8 ⊢
       have Y8:=Y2.same e8
       refine ⟨_,rfl,mthE Y8.ob (yF_no (by decide +kernel)) ⟨y,_,_,rfl,Y8,by show 0 < 64;decide,by show 0 < 64;decide,λt9 us ks vs9 H9 pmu _ pmk _ _ e9 v9 dv9=>?_⟩⟩
       have hus:us=[]:=List.Perm.eq_nil (show us.Perm [] from pmu)
       have hks:ks=[]:=List.Perm.eq_nil (show ks.Perm [] from pmk)
       subst hus hks
       rw [state_zero] at dv9
       refine ⟨len0v,λu1 k1=>⟨len0v,λu2 k2=>⟨len0v,λu3 k3=>⟨len0v,λu4 k4=>⟨len0v,λu5 k5=>⟨by show 7 <= sizeLine;decide,λu6 k6=>?_⟩⟩⟩⟩⟩⟩
       have q1:=same_new (o:=.tup []) k1
       have q2:=same_new (o:=.tup []) k2
       have q3:=same_new (o:=.tup []) k3
       have q4:=same_new (o:=.tup []) k4
       have q5:=same_new (o:=.tup []) k5
       have q6:=same_new (o:=.tup [V.ref u1,V.ref u2,V.ref u3,V.ref u4,V.ref u5,V.str "up",V.str "up"]) k6
       have b5:=q5.trans q6
       have b4:=q4.trans b5
       have b3:=q3.trans b4
       have b2:=q2.trans b3
       have b1:=q1.trans b2
       refine ⟨_,_,dvZero,rfl,DV.mono (λb vs e=>b1 b _ e) (λb vs e=>b1 b _ e) _ _ dv9,⟨u6,_,rfl,upd_same,_,_,rfl,⟨u1,[],rfl,b2 _ _ upd_same,rfl⟩,_,_,rfl,⟨u2,[],rfl,b3 _ _ upd_same,rfl⟩,_,_,rfl,⟨u3,[],rfl,b4 _ _ upd_same,rfl⟩,_,_,rfl,⟨u4,[],rfl,b5 _ _ upd_same,rfl⟩,_,_,rfl,⟨u5,[],rfl,q6 _ _ upd_same,rfl⟩,_,_,rfl,rfl,_,_,rfl,rfl,rfl⟩,⟨by decide +kernel,by show 2 <= 16;decide⟩,by show 2 <= 10;decide,λH10 e10=>⟨_,rfl,iteT ?_⟩⟩
       have E10:Same H2 H10:=e8.trans (e9.trans (b1.trans e10))
       have Y10:=Y2.same E10
       refine ⟨_,rfl,mthE Y10.ob (yF_no (by decide +kernel)) ⟨y,_,_,rfl,Y10,λla ts hla dvs=>?_⟩⟩
       have hts:ts=[]:=dvs
       subst hts
       refine ⟨len0v,λlb hlb=>?_⟩
       have s1:=same_new (o:=.lst []) hla
       have s2:=same_new (o:=.lst []) hlb
       exact ⟨_,_,.list [],rfl,⟨la,_,rfl,s2 _ _ upd_same,rfl⟩,⟨lb,_,rfl,upd_same,rfl⟩,⟨rfl,by show 1 <= 16;decide⟩,by show 1 <= 10;decide,λH11 e11=>k H11 (e2.trans (E10.trans (s1.trans (s2.trans e11))))⟩
end

def sp_law (K:PySem.W.Frag):Sp:=λvs H Q _=>∃ (b:Addr) (ns:List Int),vs=[.ref b]/\SqL K H b (ns.map V.int)/\ns.length <= 63/\∀ H',Q (.bl true) H'
def TM (H:Hp) (t:Addr) (s R:Int) (n:Nat) (fs:List Str):Prop:=∃ ft,MkOk s R n fs/\H t=some (.tup [.int s,.int R,.int n,.ref ft])/\H ft=some (.tup (fs.map V.str))
theorem TM.keep {H H':Hp} {t:Addr} {s R:Int} {n:Nat} {fs:List Str} (h:TM H t s R n fs) (ht:∀ b vs,H b=some (.tup vs)->H' b=some (.tup vs)):TM H' t s R n fs:=by
 obtain ⟨ft,m,h1,h2⟩:=h
 exact ⟨ft,m,ht _ _ h1,ht _ _ h2⟩
def MY (w:World) (ad:Ad) (H:Hp) (a:YA) (t:Addr):Prop:=∃ (s R:Int) (n:Nat) (fs:List Str),Yn w ad.Yard ad.Hand ad.Heart ad.Ring ad.Store H a (ypOf s R n fs) YS.zero/\TM H t s R n fs
theorem MY.keep {w:World} {ad:Ad} {H H':Hp} {a:YA} {t:Addr} (M:MY w ad H a t) (k:∀ c o,a.own c->H c=some o->H' c=some o) (ht:∀ b vs,H b=some (.tup vs)->H' b=some (.tup vs)):MY w ad H' a t:=by
 obtain ⟨s',R,n,fs,Y,m⟩:=M
 exact ⟨s',R,n,fs,Y.keep k ht,m.keep ht⟩
theorem MY.same {w:World} {ad:Ad} {H H':Hp} {a:YA} {t:Addr} (M:MY w ad H a t) (s:Same H H'):MY w ad H' a t:=M.keep (λc o _=>s c o) λb vs=>s b _
theorem yp_ok {s R:Int} {n:Nat} {fs:List Str} (m:MkOk s R n fs):(ypOf s R n fs).Ok:=by
 refine ⟨⟨by have:=m.s1;show 0 < s;omega,m.s8,?_⟩,by have:=m.n9;show n <= 9;omega⟩
 show 0 < s * (if fs.contains "round" then 1 else R)
 have:=m.s1;have:=m.R2
 split<;>exact Int.mul_pos (by omega) (by omega)
section
variable {P:Program} {w:World} {K:PySem.W.Frag} {mg:Str->Option Value} {base:Heap} {a:Ad} {d:Fd}
theorem ok_law (G:Gs K mg a d):FnOk P w K mg base CX0 17 a.law d.law ["script"] (sp_law K):=by
 have c_law_cell_at:FnOk P w K mg base CX0 1 _ _ _ _:=ok_cellat G
 have c_law_make:FnOk P w K mg base CX0 1 _ _ _ _:=ok_make G
 have c_law_worths:FnOk P w K mg base CX0 1 _ _ _ _:=ok_worths G
 have c_law_can:FnOk P w K mg base CX0 14 _ _ _ _:=ok_lcan G
 have c_law_told:FnOk P w K mg base CX0 14 _ _ _ _:=ok_ltold G
 have c_Yard__init:FnOk P w K mg base CX0 6 _ _ _ _:=ok_yinit G
 refine G.f_law.ok sc_law (λvs H Q E h=>?_) (λcdv A' outer s' H vs Q E hr h=>?_)
 · obtain ⟨l,ns,rfl,_⟩:=h
   rfl
 · obtain ⟨l,ns,rfl,hS,hlen,k⟩:=h
   have hu:=hu_of hr
   refine ⟨_,(@pss_cons _ _ _ _ _ (@ps_set _ _ 1 _ _ _ _ sc_law.nd rfl (Or.inl rfl) (@pe_lst _ _ _ _ (@pa_cons _ _ _ _ _ (pe_call c_law_make (hr.mono (by decide)) (by rfl) G.m_law_make G.f_law_make.kp G.b_law_make .nil pass0 (@pa_cons _ _ _ _ _ (pe_call c_law_cell_at (hr.mono (by decide)) (by rfl) G.m_law_cell_at G.f_law_cell_at.kp G.b_law_cell_at .nil pass0 (@pa_cons _ _ _ _ _ (pv 0) (@pa_cons _ _ _ _ _ pe_int pa_nil (by rfl)) (by rfl))) pa_nil (by rfl))) (@pa_cons _ _ _ _ _ (pe_call c_law_make (hr.mono (by decide)) (by rfl) G.m_law_make G.f_law_make.kp G.b_law_make .nil pass0 (@pa_cons _ _ _ _ _ (pe_call c_law_cell_at (hr.mono (by decide)) (by rfl) G.m_law_cell_at G.f_law_cell_at.kp G.b_law_cell_at .nil pass0 (@pa_cons _ _ _ _ _ (pv 0) (@pa_cons _ _ _ _ _ pe_int pa_nil (by rfl)) (by rfl))) pa_nil (by rfl))) pa_nil (by rfl)) (by rfl))) (by rfl) (by first | exact .inl rfl | exact .inr rfl | assumption))
     (@pss_cons _ _ _ _ _ (by exact ps_compset (iN:=2) (tc:=λ_ H Q=>Q true H) (te:=tMake a.Yard (sp_yinit w a) [] E0 (tCons (tOp (rIxT K) (tVar 0) (tC (.int 0))) (tCons (tOp (rIxT K) (tVar 0) (tC (.int 1))) (tCons (tOp (rIxT K) (tVar 0) (tC (.int 2))) (tCons (tOp (rIxT K) (tVar 0) (tC (.int 3))) tNil))))) (caps:=[]) (js:=[]) sc_law.nd rfl (Or.inl rfl) (by rfl) rfl (compOk rfl rfl (by decide +kernel) (by decide +kernel) rfl trivial rfl rfl) (by decide +kernel) (λy hy=>by cases hy) .nil (λy hy=>by cases hy) (pi_list (pv 1)) (λC s₃ H₃ pins ex E'=>by exact pts_none) (λC s₃ H₃ pins ex E'=>by exact (pe_make G.k_Yard c_Yard__init (hr.mono (by decide)) (by rfl) G.m_Yard G.b_Yard__init .nil pass0 (@pa_cons _ _ _ _ _ (@pe_ix _ _ _ _ _ _ _ ix_tup (pv 0) pe_int (λ_ _=>rfl)) (@pa_cons _ _ _ _ _ (@pe_ix _ _ _ _ _ _ _ ix_tup (pv 0) pe_int (λ_ _=>rfl)) (@pa_cons _ _ _ _ _ (@pe_ix _ _ _ _ _ _ _ ix_tup (pv 0) pe_int (λ_ _=>rfl)) (@pa_cons _ _ _ _ _ (@pe_ix _ _ _ _ _ _ _ ix_tup (pv 0) pe_int (λ_ _=>rfl)) pa_nil (by rfl)) (by rfl)) (by rfl)) (by rfl)))))
     (@pss_cons _ _ _ _ _ (@ps_set _ _ 3 _ _ _ _ sc_law.nd rfl (Or.inl rfl) (pe_call c_law_worths (hr.mono (by decide)) (by rfl) G.m_law_worths G.f_law_worths.kp G.b_law_worths .nil pass0 (@pa_cons _ _ _ _ _ (pe_slice sl_list (pv 0) (po_some pe_int) (po_some pe_int)) pa_nil (by rfl))) (by rfl) (by first | exact .inl rfl | exact .inr rfl | assumption))
     (@pss_cons _ _ _ _ _ (ps_for PassesOwn.never rfl (pi_range1 (by rfl) G.n_range (@pa_cons _ _ _ _ _ pe_int pa_nil (by rfl))) (pg_name (i:=4) sc_law.nd rfl (Or.inl rfl)) (@pss_cons _ _ _ _ _ (@ps_set _ _ 5 _ _ _ _ sc_law.nd rfl (Or.inl rfl) (@pe_op _ _ _ _ _ _ _ _ op_mod (@pe_op _ _ _ _ _ _ _ _ op_add (pv 4) (pe_call c_law_cell_at (hr.mono (by decide)) (by rfl) G.m_law_cell_at G.f_law_cell_at.kp G.b_law_cell_at .nil pass0 (@pa_cons _ _ _ _ _ (pv 0) (@pa_cons _ _ _ _ _ pe_int pa_nil (by rfl)) (by rfl)))) pe_int) (by rfl) (by first | exact .inl rfl | exact .inr rfl | assumption))
     (@pss_cons _ _ _ _ _ (ps_if ((pw_and (pt_cmpR op_eq (@pe_op _ _ _ _ _ _ _ _ op_mod (@pe_op _ _ _ _ _ _ _ _ op_fdivB (pe_call c_law_cell_at (hr.mono (by decide)) (by rfl) G.m_law_cell_at G.f_law_cell_at.kp G.b_law_cell_at .nil pass0 (@pa_cons _ _ _ _ _ (pv 0) (@pa_cons _ _ _ _ _ pe_int pa_nil (by rfl)) (by rfl))) pe_int) pe_int) pe_int (nomark _)) (pw_and1 (pt_not (pt_val (pe_call c_law_can (hr.mono (by decide)) (by rfl) G.m_law_can G.f_law_can.kp G.b_law_can .nil pass0 (@pa_cons _ _ _ _ _ (@pe_ix _ _ _ _ _ _ _ ix_list (pv 2) (pv 5) (λ_ _=>rfl)) (@pa_cons _ _ _ _ _ (pv 3) pa_nil (by rfl)) (by rfl)))))))).pt (@pss_one _ _ _ (@ps_ret _ _ _ _ pe_bl)) pss_nil)
     (@pss_one _ _ _ (ps_if ((pw_or (pt_not (pt_val (pe_call c_law_told (hr.mono (by decide)) (by rfl) G.m_law_told G.f_law_told.kp G.b_law_told .nil pass0 (@pa_cons _ _ _ _ _ (@pe_ix _ _ _ _ _ _ _ ix_list (pv 2) (pv 5) (λ_ _=>rfl)) (@pa_cons _ _ _ _ _ (@pe_ix _ _ _ _ _ _ _ ix_list (pv 1) (pv 5) (λ_ _=>rfl)) pa_nil (by rfl)) (by rfl))))) (pw_or1 (pt_not (pt_val (pe_call c_law_can (hr.mono (by decide)) (by rfl) G.m_law_can G.f_law_can.kp G.b_law_can .nil pass0 (@pa_cons _ _ _ _ _ (@pe_ix _ _ _ _ _ _ _ ix_list (pv 2) (pv 5) (λ_ _=>rfl)) (@pa_cons _ _ _ _ _ (pv 3) pa_nil (by rfl)) (by rfl)))))))).pt (@pss_one _ _ _ (@ps_ret _ _ _ _ pe_bl)) pss_nil)))))
     (@pss_one _ _ _ (@ps_ret _ _ _ _ pe_bl)))))),?_⟩
   refine ⟨_,rfl,l,ns,0,rfl,hS,_,rfl,λt0 ft0 s0 R0 n0 fs0 H1 mk0 e1 _ ht0 hft0=>?_⟩
   have hS1:=e1.seq hS
   refine ⟨_,rfl,l,ns,1,rfl,hS1,_,rfl,λt1 ft1 s1 R1 n1 fs1 H2 mk1 e2 _ ht1 hft1=>?_⟩
   refine ⟨l2,λlm hlm=>?_⟩
   have e3:=same_new (o:=.lst [V.ref t0,V.ref t1]) hlm
   have vm:upd H2 lm (.lst [V.ref t0,V.ref t1]) lm=some (.lst [V.ref t0,V.ref t1]):=upd_same
   have E3:Same H (upd H2 lm (.lst [V.ref t0,V.ref t1])):=e1.trans (e2.trans e3)
   have tm:∀ (j:Nat) (t:Addr),[t0,t1][j]?=some t->∃ (s R:Int) (n:Nat) (fs:List Str),TM (upd H2 lm (.lst [V.ref t0,V.ref t1])) t s R n fs:=λj t hj=>by
     have q1:=mk0.n1
     have q2:=mk1.n1
     match j,hj with
     | 0,hj =>
       cases hj
       obtain ⟨m0,rfl⟩:=Int.eq_ofNat_of_zero_le (show 0 <= n0 by omega)
       exact ⟨s0,R0,m0,fs0,ft0,mk0,e3 _ _ (e2 _ _ ht0),e3 _ _ (e2 _ _ hft0)⟩
     | 1,hj =>
       cases hj
       obtain ⟨m1,rfl⟩:=Int.eq_ofNat_of_zero_le (show 0 <= n1 by omega)
       exact ⟨s1,R1,m1,fs1,ft1,mk1,e3 _ _ ht1,e3 _ _ hft1⟩
     | _+2,hj=>cases hj
   generalize upd H2 lm (.lst [V.ref t0,V.ref t1])=H3 at e3 vm E3 tm ⊢
   clear ht0 hft0 ht1 hft1 mk0 mk1 e1 e2 e3 hS1
   refine ⟨_,rfl,lm,rfl,⟨_,SqL.of vm⟩,λD hD=>?_⟩
   refine ⟨λi mm ys H'=>i <= 2/\mm=2 - i/\∃ yas:List YA,yas.length=i/\ys=yas.map (λb=>V.ref b.y)/\(∀ (j:Nat) (b:YA) (t:Addr),yas[j]?=some b->[t0,t1][j]?=some t->MY w a H' b t/\¬ b.own D)/\H' D=some (.lst ys)/\∀ c o,c≠D->H3 c=some o->H' c=some o,⟨_,Nat.zero_le _,rfl,[],rfl,rfl,λ_ _ _ h=>(by cases h),upd_same,λc o n e=>by rw [upd_ne n];exact e⟩,?_⟩
   rintro i mm ys H4 ⟨hi,rfl,yas,yl,rfl,hy,hD4,k4⟩
   have e4:Same H3 H4:=λc o e=>k4 c o (λy=>by rw [y,hD] at e;cases e) e
   refine ⟨hD4,Nat.lt_of_lt_of_le (show _ < 1000 by rw [List.length_map];omega) (by decide),?_⟩
   by_cases hii:i=2
   rotate_left
   · obtain ⟨t,ht⟩:∃ t,[t0,t1][i]?=some t:=⟨_,List.getElem?_eq_getElem (by show i < 2;omega)⟩
     refine .inr ⟨⟨[V.ref t0,V.ref t1],.ref t,SqL.of (e4 _ _ vm),?_⟩,?_⟩
     · match i,ht with
       | 0,ht=>cases ht;rfl
       | 1,ht=>cases ht;rfl
       | _+2,ht=>cases ht
     rintro v H5 ⟨rfl,hv⟩
     have hv:=hv _ (SqL.of (e4 _ _ vm))
     have hvt:v=.ref t:=by
       match i,ht,hv with
       | 0,ht,hv=>cases ht;cases hv;rfl
       | 1,ht,hv=>cases ht;cases hv;rfl
       | _+2,ht,_=>cases ht
     subst hvt
     obtain ⟨s,R,n,fs,ft,mk,h1,h2⟩:=(tm i t ht)
     have h1':=e4 _ _ h1
     have h2':=e4 _ _ h2
     refine iteT ⟨_,rfl,t,_,_,_,rfl,rfl,SqT.of h1',rfl,_,rfl,t,_,_,_,rfl,rfl,SqT.of h1',rfl,_,rfl,t,_,_,_,rfl,rfl,SqT.of h1',rfl,_,rfl,t,_,_,_,rfl,rfl,SqT.of h1',rfl,λy dy ny ndy nedy=>?_⟩
     refine ⟨y,dy,ft,s,R,n,fs,rfl,upd_same,by rw [upd_ne (ne_of_none h2' ny),upd_ne (ne_of_none h2' ndy)];exact h2',λb H6 hb fb Y6 kp6=>⟨rfl,?_⟩⟩
     have e6:=new_hand ny ndy kp6
     have hD6:=e6 _ _ hD4
     have nob:¬ b.own D:=λho=>by
       by_cases z:D=y
       · rw [z,ny] at hD4;cases hD4
       · have:=(up1 (up1 (fb D ho z)).2).2
         rw [hD4] at this;cases this
     have tu:∀ (zs:List V) b vs,H6 b=some (.tup vs)->upd H6 D (.lst zs) b=some (.tup vs):=λzs b vs e=>by
       rw [upd_ne (λz=>by rw [z,hD6] at e;cases e)];exact e
     refine ⟨hD6,2 - (i+1),by omega,by omega,rfl,yas++[b],by rw [List.length_append,yl];rfl,by rw [List.map_append,← hb];rfl,λj b' t' hb' ht'=>?_,upd_same,λc o n e=>by rw [upd_ne n];exact e6 _ _ (k4 c o n e)⟩
     have keepD:∀ (b':YA),¬ b'.own D->∀ (zs:List V) c o,b'.own c->H6 c=some o->upd H6 D (.lst zs) c=some o:=λb' nb zs c o hc e=>by
       rw [upd_ne (λz=>nb (by rw [← z];exact hc))];exact e
     by_cases hj:j < yas.length
     · rw [List.getElem?_append_left hj] at hb'
       obtain ⟨m1,m2⟩:=hy j b' t' hb' ht'
       exact ⟨(m1.same e6).keep (keepD b' m2 _) (tu _),m2⟩
     · have hjl:j=yas.length:=by
         have:=(List.getElem?_eq_some_iff.mp hb').1
         rw [List.length_append] at this
         have h1:j < yas.length+1:=this
         omega
       rw [List.getElem?_append_right (by omega),hjl,Nat.sub_self] at hb'
       cases hb'
       rw [hjl,yl,ht] at ht'
       cases ht'
       have m6:MY w a H6 b t:=⟨s,R,n,fs,Y6,ft,mk,e6 _ _ h1',e6 _ _ h2'⟩
       exact ⟨m6.keep (keepD b nob _) (tu _),nob⟩
   refine .inl ⟨⟨_,SqL.of (e4 _ _ vm),by show 2 <= i;omega⟩,?_⟩
   subst hii
   obtain ⟨b0,b1,rfl⟩:∃ b0 b1,yas=[b0,b1]:=by
     match yas,yl with
     | [b0,b1],_=>exact ⟨b0,b1,rfl⟩
   have m0:=(hy 0 b0 t0 rfl rfl).1
   have m1:=(hy 1 b1 t1 rfl rfl).1
   have E4:Same H H4:=E3.trans e4
   have vm4:=e4 _ _ vm
   clear hy k4 e4 E3 tm vm hD
   refine ⟨_,rfl,_,rfl,_,rfl,l,_,rfl,E4.seq hS,λq1 hq1=>?_⟩
   obtain ⟨ms,hms,hml⟩:∃ ms:List Int,cutV (ns.map V.int) (some 2) (some 8)=ms.map V.int/\ms.length <= 60:=by
     refine ⟨(ns.drop (HT.sIx (ns.map V.int).length 0 (some 2))).take (HT.sIx (ns.map V.int).length (ns.map V.int).length (some 8) - HT.sIx (ns.map V.int).length 0 (some 2)),?_,?_⟩
     · unfold cutV
       rw [List.map_take,List.map_drop]
     · rw [List.length_take,show (some (8:Int))=some ((8:Nat):Int) from rfl,HT.sIx_nat]
       omega
   have e5:=same_new (o:=.lst (cutV (ns.map V.int) (some 2) (some 8))) hq1
   have v5:upd H4 q1 (.lst (cutV (ns.map V.int) (some 2) (some 8))) q1=some (.lst (ms.map V.int)):=by rw [upd_same,hms]
   generalize upd H4 q1 (.lst (cutV (ns.map V.int) (some 2) (some 8)))=H5 at e5 v5 ⊢
   refine ⟨q1,ms,rfl,v5,hml,λlw ws H6 e6 _ v6 wl wok=>?_⟩
   have E6:Same H4 H6:=e5.trans e6
   have m0':=m0.same E6
   have m1':=m1.same E6
   have vm6:=E6 _ _ vm4
   have vD6:=E6 _ _ hD4
   have S6:=(E4.trans E6).seq hS
   clear m0 m1 vm4 hD4 e5 e6 v5 hq1 E4 E6
   refine ⟨4,rfl,by decide,by decide,?_⟩
   refine for_range (n:=4) (λj σ H'=>(∃ v4 v5,σ=[some (.ref l),some (.ref lm),some (.ref D),some (.ref lw),v4,v5])/\Same H6 H')
     ⟨⟨_,_,rfl⟩,λ_ _ e=>e⟩ ?_ ?_
   · rintro j σ H7 hj ⟨⟨v4,v5,rfl⟩,e7⟩
     refine ⟨_,rfl,_,rfl,l,ns,2,rfl,e7.seq S6,_,_,rfl,rfl,_,_,rfl,rfl,(show (0:Int) < 2 from by decide),?_⟩
     obtain ⟨kk,hkk⟩:∃ kk,kk=(0+(j:Int)+cellAt ns 2) % 2:=⟨_,rfl⟩
     have k0:0 <= kk/\kk < 2:=by rw [hkk];exact ⟨Int.emod_nonneg _ (by decide),Int.emod_lt_of_pos _ (by decide)⟩
     obtain ⟨b,t,hb,ht,m⟩:∃ (b:YA) (t:Addr),atI ([b0,b1].map λb=>V.ref b.y) kk=some (.ref b.y)/\atI [V.ref t0,V.ref t1] kk=some (.ref t)/\MY w a H7 b t:=by
       have:kk=0\/kk=1:=by omega
       rcases this with h | h
       · rw [h];exact ⟨b0,t0,rfl,rfl,m0'.same e7⟩
       · rw [h];exact ⟨b1,t1,rfl,rfl,m1'.same e7⟩
     rw [hkk] at hb ht
     obtain ⟨s,R,n,fs,Y,ft,mk,h1,h2⟩:=m
     have q1:1 <= n:=by have:=mk.n1;omega
     refine ⟨_,rfl,l,ns,2,rfl,e7.seq S6,_,_,rfl,rfl,⟨by decide,by decide⟩,_,_,rfl,rfl,(show (0:Int) < 2 from by decide),rfl,_,rfl,?_⟩
     refine ite2 (λ_=>?_) (λ_=>?_)
     · refine ⟨_,rfl,_,rfl,D,_,_,_,rfl,rfl,SqL.of (e7 _ _ vD6),hb,_,rfl,?_⟩
       refine ⟨b,ypOf s R n fs,lw,ws,rfl,Y,yp_ok mk,mk.s1,q1,e7 _ _ v6,wl,wok,λH8 e8=>⟨_,rfl,iteF ?_⟩⟩
       refine ⟨_,rfl,_,rfl,D,_,_,_,rfl,rfl,SqL.of (e8 _ _ (e7 _ _ vD6)),hb,_,rfl,_,rfl,lm,_,_,_,rfl,rfl,SqL.of (e8 _ _ (e7 _ _ vm6)),ht,?_⟩
       refine ⟨b,s,R,n,fs,t,ft,rfl,(Y.same e8),e8 _ _ (h1),e8 _ _ (h2),λH9 e9=>⟨_,rfl,iteF ?_⟩⟩
       refine ⟨_,rfl,_,rfl,D,_,_,_,rfl,rfl,SqL.of (e9 _ _ (e8 _ _ (e7 _ _ vD6))),hb,_,rfl,?_⟩
       refine ⟨b,ypOf s R n fs,lw,ws,rfl,(Y.same (e8.trans e9)),yp_ok mk,mk.s1,q1,(e8.trans e9) _ _ (e7 _ _ v6),wl,wok,λH10 e10=>⟨_,rfl,iteF ?_⟩⟩
       exact ⟨⟨_,_,rfl⟩,e7.trans (e8.trans (e9.trans e10))⟩
     · refine ⟨_,rfl,_,rfl,D,_,_,_,rfl,rfl,SqL.of (e7 _ _ vD6),hb,_,rfl,_,rfl,lm,_,_,_,rfl,rfl,SqL.of (e7 _ _ vm6),ht,?_⟩
       refine ⟨b,s,R,n,fs,t,ft,rfl,Y,h1,h2,λH9 e9=>⟨_,rfl,iteF ?_⟩⟩
       refine ⟨_,rfl,_,rfl,D,_,_,_,rfl,rfl,SqL.of (e9 _ _ (e7 _ _ vD6)),hb,_,rfl,?_⟩
       refine ⟨b,ypOf s R n fs,lw,ws,rfl,(Y.same e9),yp_ok mk,mk.s1,q1,e9 _ _ (e7 _ _ v6),wl,wok,λH10 e10=>⟨_,rfl,iteF ?_⟩⟩
       exact ⟨⟨_,_,rfl⟩,e7.trans (e9.trans e10)⟩
   · rintro σ H7 ⟨⟨v4,v5,rfl⟩,e7⟩
     exact k _
end

theorem all_mk {l:PySem.W.OpenLaw} {w:World} {K:PySem.W.Frag} {h:Heap} {mg:Str->Option Value} {fa:Addr} (X:K.In h) (G:h.Ns mainGlobals mg) (hfa:mg "law"=some (.ref fa))
   {f_wall f_next_counter f_place_of f_ahead_by f_rounds_with f_Ring__init f_Ring_filled f_Ring_is_full f_Ring_place_at f_Ring_write_further f_Ring_lay f_Ring_fetch f_Hand__init f_Hand_become f_Hand_least_free f_Hand_check_ask f_Hand_ask f_Hand_collect f_Hand_under_way f_Hand_something_waits f_Heart__init f_Heart_become f_Heart_take f_Heart_check_answer f_Heart_answer f_Heart_tasks f_Heart_something_waits f_Store__init f_Store_become f_Store_write f_Store_drain f_Store_fence f_Store_read f_Store_memory f_Store_waits f_Store_cells f_is_whole f_is_part f_is_deed f_side_of f_text_of f_Yard__init f_Yard_deed f_Yard_can_be_done f_Yard_story f_Yard_state f_Yard_sleeper f_Yard_is_quiet f_Yard_made f_Yard_store f_Yard_twin f_Yard_become f_Yard_check f_Yard_is_allowed f_Yard_thinkable f_Yard_do_ask f_Yard_do_answer f_Yard_tell_fetched f_Yard_do_bell f_Yard_do_lie f_Yard_do_look f_Yard_something_waits f_law_cell_at f_law_make f_law_same f_law_worths f_law_can f_law_told f_law C_Ring C_Hand C_Heart C_Store C_Yard C_RingError C_Full C_NoName C_NoTask C_NoDeed T_ASKS T_ANSWERS T_SLEEP_CELLS T_FORMS V_FORMS_0 V_FORMS_1 V_FORMS_2 V_FORMS_3 V_FORMS_4 V_FORMS_5 V_FORMS_6 V_FORMS_7:Addr}
   {tod_ASKS:Option Addr} {tsl_ASKS:Array (Option Value)} {tn_ASKS:Nat} {tt0_ASKS tt1_ASKS tt2_ASKS:Tok}
   {tod_ANSWERS:Option Addr} {tsl_ANSWERS:Array (Option Value)} {tn_ANSWERS:Nat} {tt0_ANSWERS tt1_ANSWERS tt2_ANSWERS:Tok}
   {tod_SLEEP_CELLS:Option Addr} {tsl_SLEEP_CELLS:Array (Option Value)} {tn_SLEEP_CELLS:Nat} {tt0_SLEEP_CELLS tt1_SLEEP_CELLS:Tok}
   {ti_MOST_WORTH:Tok}
   {tep_FORMS:Nat} {th0_FORMS th1_FORMS th2_FORMS th3_FORMS th4_FORMS th5_FORMS th6_FORMS th7_FORMS:Int} {tk0_FORMS tk1_FORMS tk2_FORMS tk3_FORMS tk4_FORMS tk5_FORMS tk6_FORMS tk7_FORMS:Tok}
   {vod0_FORMS:Option Addr} {vsl0_FORMS:Array (Option Value)} {vn0_FORMS:Nat} {vt0_0_FORMS:Tok}
   {vod1_FORMS:Option Addr} {vsl1_FORMS:Array (Option Value)} {vn1_FORMS:Nat}
   {vod2_FORMS:Option Addr} {vsl2_FORMS:Array (Option Value)} {vn2_FORMS:Nat}
   {vod3_FORMS:Option Addr} {vsl3_FORMS:Array (Option Value)} {vn3_FORMS:Nat} {vt3_0_FORMS vt3_1_FORMS:Tok}
   {vod4_FORMS:Option Addr} {vsl4_FORMS:Array (Option Value)} {vn4_FORMS:Nat} {vt4_0_FORMS:Tok}
   {vod5_FORMS:Option Addr} {vsl5_FORMS:Array (Option Value)} {vn5_FORMS:Nat} {vt5_0_FORMS:Tok}
   {vod6_FORMS:Option Addr} {vsl6_FORMS:Array (Option Value)} {vn6_FORMS:Nat} {vt6_0_FORMS:Tok}
   {vod7_FORMS:Option Addr} {vsl7_FORMS:Array (Option Value)} {vn7_FORMS:Nat} {vt7_0_FORMS:Tok}
   {od_wall an_wall:Option Addr} {sl_wall:Array (Option Value)} {oc_wall kV_wall dc_wall pm_wall cd_wall ct_wall:Value}
   {od_next_counter an_next_counter:Option Addr} {sl_next_counter:Array (Option Value)} {oc_next_counter kV_next_counter dc_next_counter pm_next_counter cd_next_counter ct_next_counter:Value}
   {od_place_of an_place_of:Option Addr} {sl_place_of:Array (Option Value)} {oc_place_of kV_place_of dc_place_of pm_place_of cd_place_of ct_place_of:Value}
   {od_ahead_by an_ahead_by:Option Addr} {sl_ahead_by:Array (Option Value)} {oc_ahead_by kV_ahead_by dc_ahead_by pm_ahead_by cd_ahead_by ct_ahead_by:Value}
   {od_rounds_with an_rounds_with:Option Addr} {sl_rounds_with:Array (Option Value)} {oc_rounds_with kV_rounds_with dc_rounds_with pm_rounds_with cd_rounds_with ct_rounds_with:Value}
   {od_Ring__init an_Ring__init:Option Addr} {sl_Ring__init:Array (Option Value)} {oc_Ring__init kV_Ring__init dc_Ring__init pm_Ring__init cd_Ring__init ct_Ring__init:Value}
   {od_Ring_filled an_Ring_filled:Option Addr} {sl_Ring_filled:Array (Option Value)} {oc_Ring_filled kV_Ring_filled dc_Ring_filled pm_Ring_filled cd_Ring_filled ct_Ring_filled:Value}
   {od_Ring_is_full an_Ring_is_full:Option Addr} {sl_Ring_is_full:Array (Option Value)} {oc_Ring_is_full kV_Ring_is_full dc_Ring_is_full pm_Ring_is_full cd_Ring_is_full ct_Ring_is_full:Value}
   {od_Ring_place_at an_Ring_place_at:Option Addr} {sl_Ring_place_at:Array (Option Value)} {oc_Ring_place_at kV_Ring_place_at dc_Ring_place_at pm_Ring_place_at cd_Ring_place_at ct_Ring_place_at:Value}
   {od_Ring_write_further an_Ring_write_further:Option Addr} {sl_Ring_write_further:Array (Option Value)} {oc_Ring_write_further kV_Ring_write_further dc_Ring_write_further pm_Ring_write_further cd_Ring_write_further ct_Ring_write_further:Value}
   {od_Ring_lay an_Ring_lay:Option Addr} {sl_Ring_lay:Array (Option Value)} {oc_Ring_lay kV_Ring_lay dc_Ring_lay pm_Ring_lay cd_Ring_lay ct_Ring_lay:Value}
   {od_Ring_fetch an_Ring_fetch:Option Addr} {sl_Ring_fetch:Array (Option Value)} {oc_Ring_fetch kV_Ring_fetch dc_Ring_fetch pm_Ring_fetch cd_Ring_fetch ct_Ring_fetch:Value}
   {od_Hand__init an_Hand__init:Option Addr} {sl_Hand__init:Array (Option Value)} {oc_Hand__init kV_Hand__init dc_Hand__init pm_Hand__init cd_Hand__init ct_Hand__init:Value}
   {od_Hand_become an_Hand_become:Option Addr} {sl_Hand_become:Array (Option Value)} {oc_Hand_become kV_Hand_become dc_Hand_become pm_Hand_become cd_Hand_become ct_Hand_become:Value}
   {od_Hand_least_free an_Hand_least_free:Option Addr} {sl_Hand_least_free:Array (Option Value)} {oc_Hand_least_free kV_Hand_least_free dc_Hand_least_free pm_Hand_least_free cd_Hand_least_free ct_Hand_least_free:Value}
   {od_Hand_check_ask an_Hand_check_ask:Option Addr} {sl_Hand_check_ask:Array (Option Value)} {oc_Hand_check_ask kV_Hand_check_ask dc_Hand_check_ask pm_Hand_check_ask cd_Hand_check_ask ct_Hand_check_ask:Value}
   {od_Hand_ask an_Hand_ask:Option Addr} {sl_Hand_ask:Array (Option Value)} {oc_Hand_ask kV_Hand_ask dc_Hand_ask pm_Hand_ask cd_Hand_ask ct_Hand_ask:Value}
   {od_Hand_collect an_Hand_collect:Option Addr} {sl_Hand_collect:Array (Option Value)} {oc_Hand_collect kV_Hand_collect dc_Hand_collect pm_Hand_collect cd_Hand_collect ct_Hand_collect:Value}
   {od_Hand_under_way an_Hand_under_way:Option Addr} {sl_Hand_under_way:Array (Option Value)} {oc_Hand_under_way kV_Hand_under_way dc_Hand_under_way pm_Hand_under_way cd_Hand_under_way ct_Hand_under_way:Value}
   {od_Hand_something_waits an_Hand_something_waits:Option Addr} {sl_Hand_something_waits:Array (Option Value)} {oc_Hand_something_waits kV_Hand_something_waits dc_Hand_something_waits pm_Hand_something_waits cd_Hand_something_waits ct_Hand_something_waits:Value}
   {od_Heart__init an_Heart__init:Option Addr} {sl_Heart__init:Array (Option Value)} {oc_Heart__init kV_Heart__init dc_Heart__init pm_Heart__init cd_Heart__init ct_Heart__init:Value}
   {od_Heart_become an_Heart_become:Option Addr} {sl_Heart_become:Array (Option Value)} {oc_Heart_become kV_Heart_become dc_Heart_become pm_Heart_become cd_Heart_become ct_Heart_become:Value}
   {od_Heart_take an_Heart_take:Option Addr} {sl_Heart_take:Array (Option Value)} {oc_Heart_take kV_Heart_take dc_Heart_take pm_Heart_take cd_Heart_take ct_Heart_take:Value}
   {od_Heart_check_answer an_Heart_check_answer:Option Addr} {sl_Heart_check_answer:Array (Option Value)} {oc_Heart_check_answer kV_Heart_check_answer dc_Heart_check_answer pm_Heart_check_answer cd_Heart_check_answer ct_Heart_check_answer:Value}
   {od_Heart_answer an_Heart_answer:Option Addr} {sl_Heart_answer:Array (Option Value)} {oc_Heart_answer kV_Heart_answer dc_Heart_answer pm_Heart_answer cd_Heart_answer ct_Heart_answer:Value}
   {od_Heart_tasks an_Heart_tasks:Option Addr} {sl_Heart_tasks:Array (Option Value)} {oc_Heart_tasks kV_Heart_tasks dc_Heart_tasks pm_Heart_tasks cd_Heart_tasks ct_Heart_tasks:Value}
   {od_Heart_something_waits an_Heart_something_waits:Option Addr} {sl_Heart_something_waits:Array (Option Value)} {oc_Heart_something_waits kV_Heart_something_waits dc_Heart_something_waits pm_Heart_something_waits cd_Heart_something_waits ct_Heart_something_waits:Value}
   {od_Store__init an_Store__init:Option Addr} {sl_Store__init:Array (Option Value)} {oc_Store__init kV_Store__init dc_Store__init pm_Store__init cd_Store__init ct_Store__init:Value}
   {od_Store_become an_Store_become:Option Addr} {sl_Store_become:Array (Option Value)} {oc_Store_become kV_Store_become dc_Store_become pm_Store_become cd_Store_become ct_Store_become:Value}
   {od_Store_write an_Store_write:Option Addr} {sl_Store_write:Array (Option Value)} {oc_Store_write kV_Store_write dc_Store_write pm_Store_write cd_Store_write ct_Store_write:Value}
   {od_Store_drain an_Store_drain:Option Addr} {sl_Store_drain:Array (Option Value)} {oc_Store_drain kV_Store_drain dc_Store_drain pm_Store_drain cd_Store_drain ct_Store_drain:Value}
   {od_Store_fence an_Store_fence:Option Addr} {sl_Store_fence:Array (Option Value)} {oc_Store_fence kV_Store_fence dc_Store_fence pm_Store_fence cd_Store_fence ct_Store_fence:Value}
   {od_Store_read an_Store_read:Option Addr} {sl_Store_read:Array (Option Value)} {oc_Store_read kV_Store_read dc_Store_read pm_Store_read cd_Store_read ct_Store_read:Value}
   {od_Store_memory an_Store_memory:Option Addr} {sl_Store_memory:Array (Option Value)} {oc_Store_memory kV_Store_memory dc_Store_memory pm_Store_memory cd_Store_memory ct_Store_memory:Value}
   {od_Store_waits an_Store_waits:Option Addr} {sl_Store_waits:Array (Option Value)} {oc_Store_waits kV_Store_waits dc_Store_waits pm_Store_waits cd_Store_waits ct_Store_waits:Value}
   {od_Store_cells an_Store_cells:Option Addr} {sl_Store_cells:Array (Option Value)} {oc_Store_cells kV_Store_cells dc_Store_cells pm_Store_cells cd_Store_cells ct_Store_cells:Value}
   {od_is_whole an_is_whole:Option Addr} {sl_is_whole:Array (Option Value)} {oc_is_whole kV_is_whole dc_is_whole pm_is_whole cd_is_whole ct_is_whole:Value}
   {od_is_part an_is_part:Option Addr} {sl_is_part:Array (Option Value)} {oc_is_part kV_is_part dc_is_part pm_is_part cd_is_part ct_is_part:Value}
   {od_is_deed an_is_deed:Option Addr} {sl_is_deed:Array (Option Value)} {oc_is_deed kV_is_deed dc_is_deed pm_is_deed cd_is_deed ct_is_deed:Value}
   {od_side_of an_side_of:Option Addr} {sl_side_of:Array (Option Value)} {oc_side_of kV_side_of dc_side_of pm_side_of cd_side_of ct_side_of:Value}
   {od_text_of an_text_of:Option Addr} {sl_text_of:Array (Option Value)} {oc_text_of kV_text_of dc_text_of pm_text_of cd_text_of ct_text_of:Value}
   {od_Yard__init an_Yard__init:Option Addr} {sl_Yard__init:Array (Option Value)} {oc_Yard__init kV_Yard__init dc_Yard__init pm_Yard__init cd_Yard__init ct_Yard__init:Value}
   {od_Yard_deed an_Yard_deed:Option Addr} {sl_Yard_deed:Array (Option Value)} {oc_Yard_deed kV_Yard_deed dc_Yard_deed pm_Yard_deed cd_Yard_deed ct_Yard_deed:Value}
   {od_Yard_can_be_done an_Yard_can_be_done:Option Addr} {sl_Yard_can_be_done:Array (Option Value)} {oc_Yard_can_be_done kV_Yard_can_be_done dc_Yard_can_be_done pm_Yard_can_be_done cd_Yard_can_be_done ct_Yard_can_be_done:Value}
   {od_Yard_story an_Yard_story:Option Addr} {sl_Yard_story:Array (Option Value)} {oc_Yard_story kV_Yard_story dc_Yard_story pm_Yard_story cd_Yard_story ct_Yard_story:Value}
   {od_Yard_state an_Yard_state:Option Addr} {sl_Yard_state:Array (Option Value)} {oc_Yard_state kV_Yard_state dc_Yard_state pm_Yard_state cd_Yard_state ct_Yard_state:Value}
   {od_Yard_sleeper an_Yard_sleeper:Option Addr} {sl_Yard_sleeper:Array (Option Value)} {oc_Yard_sleeper kV_Yard_sleeper dc_Yard_sleeper pm_Yard_sleeper cd_Yard_sleeper ct_Yard_sleeper:Value}
   {od_Yard_is_quiet an_Yard_is_quiet:Option Addr} {sl_Yard_is_quiet:Array (Option Value)} {oc_Yard_is_quiet kV_Yard_is_quiet dc_Yard_is_quiet pm_Yard_is_quiet cd_Yard_is_quiet ct_Yard_is_quiet:Value}
   {od_Yard_made an_Yard_made:Option Addr} {sl_Yard_made:Array (Option Value)} {oc_Yard_made kV_Yard_made dc_Yard_made pm_Yard_made cd_Yard_made ct_Yard_made:Value}
   {od_Yard_store an_Yard_store:Option Addr} {sl_Yard_store:Array (Option Value)} {oc_Yard_store kV_Yard_store dc_Yard_store pm_Yard_store cd_Yard_store ct_Yard_store:Value}
   {od_Yard_twin an_Yard_twin:Option Addr} {sl_Yard_twin:Array (Option Value)} {oc_Yard_twin kV_Yard_twin dc_Yard_twin pm_Yard_twin cd_Yard_twin ct_Yard_twin:Value}
   {od_Yard_become an_Yard_become:Option Addr} {sl_Yard_become:Array (Option Value)} {oc_Yard_become kV_Yard_become dc_Yard_become pm_Yard_become cd_Yard_become ct_Yard_become:Value}
   {od_Yard_check an_Yard_check:Option Addr} {sl_Yard_check:Array (Option Value)} {oc_Yard_check kV_Yard_check dc_Yard_check pm_Yard_check cd_Yard_check ct_Yard_check:Value}
   {od_Yard_is_allowed an_Yard_is_allowed:Option Addr} {sl_Yard_is_allowed:Array (Option Value)} {oc_Yard_is_allowed kV_Yard_is_allowed dc_Yard_is_allowed pm_Yard_is_allowed cd_Yard_is_allowed ct_Yard_is_allowed:Value}
   {od_Yard_thinkable an_Yard_thinkable:Option Addr} {sl_Yard_thinkable:Array (Option Value)} {oc_Yard_thinkable kV_Yard_thinkable dc_Yard_thinkable pm_Yard_thinkable cd_Yard_thinkable ct_Yard_thinkable:Value}
   {od_Yard_do_ask an_Yard_do_ask:Option Addr} {sl_Yard_do_ask:Array (Option Value)} {oc_Yard_do_ask kV_Yard_do_ask dc_Yard_do_ask pm_Yard_do_ask cd_Yard_do_ask ct_Yard_do_ask:Value}
   {od_Yard_do_answer an_Yard_do_answer:Option Addr} {sl_Yard_do_answer:Array (Option Value)} {oc_Yard_do_answer kV_Yard_do_answer dc_Yard_do_answer pm_Yard_do_answer cd_Yard_do_answer ct_Yard_do_answer:Value}
   {od_Yard_tell_fetched an_Yard_tell_fetched:Option Addr} {sl_Yard_tell_fetched:Array (Option Value)} {oc_Yard_tell_fetched kV_Yard_tell_fetched dc_Yard_tell_fetched pm_Yard_tell_fetched cd_Yard_tell_fetched ct_Yard_tell_fetched:Value}
   {od_Yard_do_bell an_Yard_do_bell:Option Addr} {sl_Yard_do_bell:Array (Option Value)} {oc_Yard_do_bell kV_Yard_do_bell dc_Yard_do_bell pm_Yard_do_bell cd_Yard_do_bell ct_Yard_do_bell:Value}
   {od_Yard_do_lie an_Yard_do_lie:Option Addr} {sl_Yard_do_lie:Array (Option Value)} {oc_Yard_do_lie kV_Yard_do_lie dc_Yard_do_lie pm_Yard_do_lie cd_Yard_do_lie ct_Yard_do_lie:Value}
   {od_Yard_do_look an_Yard_do_look:Option Addr} {sl_Yard_do_look:Array (Option Value)} {oc_Yard_do_look kV_Yard_do_look dc_Yard_do_look pm_Yard_do_look cd_Yard_do_look ct_Yard_do_look:Value}
   {od_Yard_something_waits an_Yard_something_waits:Option Addr} {sl_Yard_something_waits:Array (Option Value)} {oc_Yard_something_waits kV_Yard_something_waits dc_Yard_something_waits pm_Yard_something_waits cd_Yard_something_waits ct_Yard_something_waits:Value}
   {od_law_cell_at an_law_cell_at:Option Addr} {sl_law_cell_at:Array (Option Value)} {oc_law_cell_at kV_law_cell_at dc_law_cell_at pm_law_cell_at cd_law_cell_at ct_law_cell_at:Value}
   {od_law_make an_law_make:Option Addr} {sl_law_make:Array (Option Value)} {oc_law_make kV_law_make dc_law_make pm_law_make cd_law_make ct_law_make:Value}
   {od_law_same an_law_same:Option Addr} {sl_law_same:Array (Option Value)} {oc_law_same kV_law_same dc_law_same pm_law_same cd_law_same ct_law_same:Value}
   {od_law_worths an_law_worths:Option Addr} {sl_law_worths:Array (Option Value)} {oc_law_worths kV_law_worths dc_law_worths pm_law_worths cd_law_worths ct_law_worths:Value}
   {od_law_can an_law_can:Option Addr} {sl_law_can:Array (Option Value)} {oc_law_can kV_law_can dc_law_can pm_law_can cd_law_can ct_law_can:Value}
   {od_law_told an_law_told:Option Addr} {sl_law_told:Array (Option Value)} {oc_law_told kV_law_told dc_law_told pm_law_told cd_law_told ct_law_told:Value}
   {od_law an_law:Option Addr} {sl_law:Array (Option Value)} {oc_law kV_law dc_law pm_law cd_law ct_law:Value}
   (aC_Ring:PySem.W.nsIn K mainGlobals "Ring"=some (some (.ref C_Ring)))
   (aC_Hand:PySem.W.nsIn K mainGlobals "Hand"=some (some (.ref C_Hand)))
   (aC_Heart:PySem.W.nsIn K mainGlobals "Heart"=some (some (.ref C_Heart)))
   (aC_Store:PySem.W.nsIn K mainGlobals "Store"=some (some (.ref C_Store)))
   (aC_Yard:PySem.W.nsIn K mainGlobals "Yard"=some (some (.ref C_Yard)))
   (a_wall:PySem.W.nsIn K mainGlobals "_wall"=some (some (.ref f_wall)))
   (l_wall:K.lookup f_wall=some ⟨oc_wall,od_wall,.func (PySem.W.fnOf "_wall" "_wall" (defArgs s_wall) (defBody s_wall) (defScope s_wall) .none kV_wall dc_wall pm_wall an_wall cd_wall ct_wall),sl_wall⟩)
   (c_wall:PySem.W.codeIn K cd_wall "_wall"=true)
   (k_wall:PySem.W.keepIn K (.ref f_wall)=true)
   (a_next_counter:PySem.W.nsIn K mainGlobals "next_counter"=some (some (.ref f_next_counter)))
   (l_next_counter:K.lookup f_next_counter=some ⟨oc_next_counter,od_next_counter,.func (PySem.W.fnOf "next_counter" "next_counter" (defArgs s_next_counter) (defBody s_next_counter) (defScope s_next_counter) .none kV_next_counter dc_next_counter pm_next_counter an_next_counter cd_next_counter ct_next_counter),sl_next_counter⟩)
   (c_next_counter:PySem.W.codeIn K cd_next_counter "next_counter"=true)
   (k_next_counter:PySem.W.keepIn K (.ref f_next_counter)=true)
   (a_place_of:PySem.W.nsIn K mainGlobals "place_of"=some (some (.ref f_place_of)))
   (l_place_of:K.lookup f_place_of=some ⟨oc_place_of,od_place_of,.func (PySem.W.fnOf "place_of" "place_of" (defArgs s_place_of) (defBody s_place_of) (defScope s_place_of) .none kV_place_of dc_place_of pm_place_of an_place_of cd_place_of ct_place_of),sl_place_of⟩)
   (c_place_of:PySem.W.codeIn K cd_place_of "place_of"=true)
   (k_place_of:PySem.W.keepIn K (.ref f_place_of)=true)
   (a_ahead_by:PySem.W.nsIn K mainGlobals "ahead_by"=some (some (.ref f_ahead_by)))
   (l_ahead_by:K.lookup f_ahead_by=some ⟨oc_ahead_by,od_ahead_by,.func (PySem.W.fnOf "ahead_by" "ahead_by" (defArgs s_ahead_by) (defBody s_ahead_by) (defScope s_ahead_by) .none kV_ahead_by dc_ahead_by pm_ahead_by an_ahead_by cd_ahead_by ct_ahead_by),sl_ahead_by⟩)
   (c_ahead_by:PySem.W.codeIn K cd_ahead_by "ahead_by"=true)
   (k_ahead_by:PySem.W.keepIn K (.ref f_ahead_by)=true)
   (a_rounds_with:PySem.W.nsIn K mainGlobals "rounds_with"=some (some (.ref f_rounds_with)))
   (l_rounds_with:K.lookup f_rounds_with=some ⟨oc_rounds_with,od_rounds_with,.func (PySem.W.fnOf "rounds_with" "rounds_with" (defArgs s_rounds_with) (defBody s_rounds_with) (defScope s_rounds_with) .none kV_rounds_with dc_rounds_with pm_rounds_with an_rounds_with cd_rounds_with ct_rounds_with),sl_rounds_with⟩)
   (c_rounds_with:PySem.W.codeIn K cd_rounds_with "rounds_with"=true)
   (k_rounds_with:PySem.W.keepIn K (.ref f_rounds_with)=true)
   (a_Ring__init:PySem.W.findIn K (.ref C_Ring) "__init__"=some (some (.ref f_Ring__init)))
   (i_Ring__init:PySem.W.isFn K (.ref f_Ring__init)=true)
   (l_Ring__init:K.lookup f_Ring__init=some ⟨oc_Ring__init,od_Ring__init,.func (PySem.W.fnOf "__init__" "Ring.__init__" (defArgs s_Ring__init) (defBody s_Ring__init) (defScope s_Ring__init) .none kV_Ring__init dc_Ring__init pm_Ring__init an_Ring__init cd_Ring__init ct_Ring__init),sl_Ring__init⟩)
   (c_Ring__init:PySem.W.codeIn K cd_Ring__init "Ring.__init__"=true)
   (k_Ring__init:PySem.W.keepIn K (.ref f_Ring__init)=true)
   (a_Ring_filled:PySem.W.findIn K (.ref C_Ring) "filled"=some (some (.ref f_Ring_filled)))
   (i_Ring_filled:PySem.W.isFn K (.ref f_Ring_filled)=true)
   (l_Ring_filled:K.lookup f_Ring_filled=some ⟨oc_Ring_filled,od_Ring_filled,.func (PySem.W.fnOf "filled" "Ring.filled" (defArgs s_Ring_filled) (defBody s_Ring_filled) (defScope s_Ring_filled) .none kV_Ring_filled dc_Ring_filled pm_Ring_filled an_Ring_filled cd_Ring_filled ct_Ring_filled),sl_Ring_filled⟩)
   (c_Ring_filled:PySem.W.codeIn K cd_Ring_filled "Ring.filled"=true)
   (k_Ring_filled:PySem.W.keepIn K (.ref f_Ring_filled)=true)
   (a_Ring_is_full:PySem.W.findIn K (.ref C_Ring) "is_full"=some (some (.ref f_Ring_is_full)))
   (i_Ring_is_full:PySem.W.isFn K (.ref f_Ring_is_full)=true)
   (l_Ring_is_full:K.lookup f_Ring_is_full=some ⟨oc_Ring_is_full,od_Ring_is_full,.func (PySem.W.fnOf "is_full" "Ring.is_full" (defArgs s_Ring_is_full) (defBody s_Ring_is_full) (defScope s_Ring_is_full) .none kV_Ring_is_full dc_Ring_is_full pm_Ring_is_full an_Ring_is_full cd_Ring_is_full ct_Ring_is_full),sl_Ring_is_full⟩)
   (c_Ring_is_full:PySem.W.codeIn K cd_Ring_is_full "Ring.is_full"=true)
   (k_Ring_is_full:PySem.W.keepIn K (.ref f_Ring_is_full)=true)
   (a_Ring_place_at:PySem.W.findIn K (.ref C_Ring) "place_at"=some (some (.ref f_Ring_place_at)))
   (i_Ring_place_at:PySem.W.isFn K (.ref f_Ring_place_at)=true)
   (l_Ring_place_at:K.lookup f_Ring_place_at=some ⟨oc_Ring_place_at,od_Ring_place_at,.func (PySem.W.fnOf "place_at" "Ring.place_at" (defArgs s_Ring_place_at) (defBody s_Ring_place_at) (defScope s_Ring_place_at) .none kV_Ring_place_at dc_Ring_place_at pm_Ring_place_at an_Ring_place_at cd_Ring_place_at ct_Ring_place_at),sl_Ring_place_at⟩)
   (c_Ring_place_at:PySem.W.codeIn K cd_Ring_place_at "Ring.place_at"=true)
   (k_Ring_place_at:PySem.W.keepIn K (.ref f_Ring_place_at)=true)
   (a_Ring_write_further:PySem.W.findIn K (.ref C_Ring) "write_further"=some (some (.ref f_Ring_write_further)))
   (i_Ring_write_further:PySem.W.isFn K (.ref f_Ring_write_further)=true)
   (l_Ring_write_further:K.lookup f_Ring_write_further=some ⟨oc_Ring_write_further,od_Ring_write_further,.func (PySem.W.fnOf "write_further" "Ring.write_further" (defArgs s_Ring_write_further) (defBody s_Ring_write_further) (defScope s_Ring_write_further) .none kV_Ring_write_further dc_Ring_write_further pm_Ring_write_further an_Ring_write_further cd_Ring_write_further ct_Ring_write_further),sl_Ring_write_further⟩)
   (c_Ring_write_further:PySem.W.codeIn K cd_Ring_write_further "Ring.write_further"=true)
   (k_Ring_write_further:PySem.W.keepIn K (.ref f_Ring_write_further)=true)
   (a_Ring_lay:PySem.W.findIn K (.ref C_Ring) "lay"=some (some (.ref f_Ring_lay)))
   (i_Ring_lay:PySem.W.isFn K (.ref f_Ring_lay)=true)
   (l_Ring_lay:K.lookup f_Ring_lay=some ⟨oc_Ring_lay,od_Ring_lay,.func (PySem.W.fnOf "lay" "Ring.lay" (defArgs s_Ring_lay) (defBody s_Ring_lay) (defScope s_Ring_lay) .none kV_Ring_lay dc_Ring_lay pm_Ring_lay an_Ring_lay cd_Ring_lay ct_Ring_lay),sl_Ring_lay⟩)
   (c_Ring_lay:PySem.W.codeIn K cd_Ring_lay "Ring.lay"=true)
   (k_Ring_lay:PySem.W.keepIn K (.ref f_Ring_lay)=true)
   (a_Ring_fetch:PySem.W.findIn K (.ref C_Ring) "fetch"=some (some (.ref f_Ring_fetch)))
   (i_Ring_fetch:PySem.W.isFn K (.ref f_Ring_fetch)=true)
   (l_Ring_fetch:K.lookup f_Ring_fetch=some ⟨oc_Ring_fetch,od_Ring_fetch,.func (PySem.W.fnOf "fetch" "Ring.fetch" (defArgs s_Ring_fetch) (defBody s_Ring_fetch) (defScope s_Ring_fetch) .none kV_Ring_fetch dc_Ring_fetch pm_Ring_fetch an_Ring_fetch cd_Ring_fetch ct_Ring_fetch),sl_Ring_fetch⟩)
   (c_Ring_fetch:PySem.W.codeIn K cd_Ring_fetch "Ring.fetch"=true)
   (k_Ring_fetch:PySem.W.keepIn K (.ref f_Ring_fetch)=true)
   (a_Hand__init:PySem.W.findIn K (.ref C_Hand) "__init__"=some (some (.ref f_Hand__init)))
   (i_Hand__init:PySem.W.isFn K (.ref f_Hand__init)=true)
   (l_Hand__init:K.lookup f_Hand__init=some ⟨oc_Hand__init,od_Hand__init,.func (PySem.W.fnOf "__init__" "Hand.__init__" (defArgs s_Hand__init) (defBody s_Hand__init) (defScope s_Hand__init) .none kV_Hand__init dc_Hand__init pm_Hand__init an_Hand__init cd_Hand__init ct_Hand__init),sl_Hand__init⟩)
   (c_Hand__init:PySem.W.codeIn K cd_Hand__init "Hand.__init__"=true)
   (k_Hand__init:PySem.W.keepIn K (.ref f_Hand__init)=true)
   (a_Hand_become:PySem.W.findIn K (.ref C_Hand) "become"=some (some (.ref f_Hand_become)))
   (i_Hand_become:PySem.W.isFn K (.ref f_Hand_become)=true)
   (l_Hand_become:K.lookup f_Hand_become=some ⟨oc_Hand_become,od_Hand_become,.func (PySem.W.fnOf "become" "Hand.become" (defArgs s_Hand_become) (defBody s_Hand_become) (defScope s_Hand_become) .none kV_Hand_become dc_Hand_become pm_Hand_become an_Hand_become cd_Hand_become ct_Hand_become),sl_Hand_become⟩)
   (c_Hand_become:PySem.W.codeIn K cd_Hand_become "Hand.become"=true)
   (k_Hand_become:PySem.W.keepIn K (.ref f_Hand_become)=true)
   (a_Hand_least_free:PySem.W.findIn K (.ref C_Hand) "least_free"=some (some (.ref f_Hand_least_free)))
   (i_Hand_least_free:PySem.W.isFn K (.ref f_Hand_least_free)=true)
   (l_Hand_least_free:K.lookup f_Hand_least_free=some ⟨oc_Hand_least_free,od_Hand_least_free,.func (PySem.W.fnOf "least_free" "Hand.least_free" (defArgs s_Hand_least_free) (defBody s_Hand_least_free) (defScope s_Hand_least_free) .none kV_Hand_least_free dc_Hand_least_free pm_Hand_least_free an_Hand_least_free cd_Hand_least_free ct_Hand_least_free),sl_Hand_least_free⟩)
   (c_Hand_least_free:PySem.W.codeIn K cd_Hand_least_free "Hand.least_free"=true)
   (k_Hand_least_free:PySem.W.keepIn K (.ref f_Hand_least_free)=true)
   (a_Hand_check_ask:PySem.W.findIn K (.ref C_Hand) "check_ask"=some (some (.ref f_Hand_check_ask)))
   (i_Hand_check_ask:PySem.W.isFn K (.ref f_Hand_check_ask)=true)
   (l_Hand_check_ask:K.lookup f_Hand_check_ask=some ⟨oc_Hand_check_ask,od_Hand_check_ask,.func (PySem.W.fnOf "check_ask" "Hand.check_ask" (defArgs s_Hand_check_ask) (defBody s_Hand_check_ask) (defScope s_Hand_check_ask) .none kV_Hand_check_ask dc_Hand_check_ask pm_Hand_check_ask an_Hand_check_ask cd_Hand_check_ask ct_Hand_check_ask),sl_Hand_check_ask⟩)
   (c_Hand_check_ask:PySem.W.codeIn K cd_Hand_check_ask "Hand.check_ask"=true)
   (k_Hand_check_ask:PySem.W.keepIn K (.ref f_Hand_check_ask)=true)
   (a_Hand_ask:PySem.W.findIn K (.ref C_Hand) "ask"=some (some (.ref f_Hand_ask)))
   (i_Hand_ask:PySem.W.isFn K (.ref f_Hand_ask)=true)
   (l_Hand_ask:K.lookup f_Hand_ask=some ⟨oc_Hand_ask,od_Hand_ask,.func (PySem.W.fnOf "ask" "Hand.ask" (defArgs s_Hand_ask) (defBody s_Hand_ask) (defScope s_Hand_ask) .none kV_Hand_ask dc_Hand_ask pm_Hand_ask an_Hand_ask cd_Hand_ask ct_Hand_ask),sl_Hand_ask⟩)
   (c_Hand_ask:PySem.W.codeIn K cd_Hand_ask "Hand.ask"=true)
   (k_Hand_ask:PySem.W.keepIn K (.ref f_Hand_ask)=true)
   (a_Hand_collect:PySem.W.findIn K (.ref C_Hand) "collect"=some (some (.ref f_Hand_collect)))
   (i_Hand_collect:PySem.W.isFn K (.ref f_Hand_collect)=true)
   (l_Hand_collect:K.lookup f_Hand_collect=some ⟨oc_Hand_collect,od_Hand_collect,.func (PySem.W.fnOf "collect" "Hand.collect" (defArgs s_Hand_collect) (defBody s_Hand_collect) (defScope s_Hand_collect) .none kV_Hand_collect dc_Hand_collect pm_Hand_collect an_Hand_collect cd_Hand_collect ct_Hand_collect),sl_Hand_collect⟩)
   (c_Hand_collect:PySem.W.codeIn K cd_Hand_collect "Hand.collect"=true)
   (k_Hand_collect:PySem.W.keepIn K (.ref f_Hand_collect)=true)
   (a_Hand_under_way:PySem.W.findIn K (.ref C_Hand) "under_way"=some (some (.ref f_Hand_under_way)))
   (i_Hand_under_way:PySem.W.isFn K (.ref f_Hand_under_way)=true)
   (l_Hand_under_way:K.lookup f_Hand_under_way=some ⟨oc_Hand_under_way,od_Hand_under_way,.func (PySem.W.fnOf "under_way" "Hand.under_way" (defArgs s_Hand_under_way) (defBody s_Hand_under_way) (defScope s_Hand_under_way) .none kV_Hand_under_way dc_Hand_under_way pm_Hand_under_way an_Hand_under_way cd_Hand_under_way ct_Hand_under_way),sl_Hand_under_way⟩)
   (c_Hand_under_way:PySem.W.codeIn K cd_Hand_under_way "Hand.under_way"=true)
   (k_Hand_under_way:PySem.W.keepIn K (.ref f_Hand_under_way)=true)
   (a_Hand_something_waits:PySem.W.findIn K (.ref C_Hand) "something_waits"=some (some (.ref f_Hand_something_waits)))
   (i_Hand_something_waits:PySem.W.isFn K (.ref f_Hand_something_waits)=true)
   (l_Hand_something_waits:K.lookup f_Hand_something_waits=some ⟨oc_Hand_something_waits,od_Hand_something_waits,.func (PySem.W.fnOf "something_waits" "Hand.something_waits" (defArgs s_Hand_something_waits) (defBody s_Hand_something_waits) (defScope s_Hand_something_waits) .none kV_Hand_something_waits dc_Hand_something_waits pm_Hand_something_waits an_Hand_something_waits cd_Hand_something_waits ct_Hand_something_waits),sl_Hand_something_waits⟩)
   (c_Hand_something_waits:PySem.W.codeIn K cd_Hand_something_waits "Hand.something_waits"=true)
   (k_Hand_something_waits:PySem.W.keepIn K (.ref f_Hand_something_waits)=true)
   (a_Heart__init:PySem.W.findIn K (.ref C_Heart) "__init__"=some (some (.ref f_Heart__init)))
   (i_Heart__init:PySem.W.isFn K (.ref f_Heart__init)=true)
   (l_Heart__init:K.lookup f_Heart__init=some ⟨oc_Heart__init,od_Heart__init,.func (PySem.W.fnOf "__init__" "Heart.__init__" (defArgs s_Heart__init) (defBody s_Heart__init) (defScope s_Heart__init) .none kV_Heart__init dc_Heart__init pm_Heart__init an_Heart__init cd_Heart__init ct_Heart__init),sl_Heart__init⟩)
   (c_Heart__init:PySem.W.codeIn K cd_Heart__init "Heart.__init__"=true)
   (k_Heart__init:PySem.W.keepIn K (.ref f_Heart__init)=true)
   (a_Heart_become:PySem.W.findIn K (.ref C_Heart) "become"=some (some (.ref f_Heart_become)))
   (i_Heart_become:PySem.W.isFn K (.ref f_Heart_become)=true)
   (l_Heart_become:K.lookup f_Heart_become=some ⟨oc_Heart_become,od_Heart_become,.func (PySem.W.fnOf "become" "Heart.become" (defArgs s_Heart_become) (defBody s_Heart_become) (defScope s_Heart_become) .none kV_Heart_become dc_Heart_become pm_Heart_become an_Heart_become cd_Heart_become ct_Heart_become),sl_Heart_become⟩)
   (c_Heart_become:PySem.W.codeIn K cd_Heart_become "Heart.become"=true)
   (k_Heart_become:PySem.W.keepIn K (.ref f_Heart_become)=true)
   (a_Heart_take:PySem.W.findIn K (.ref C_Heart) "take"=some (some (.ref f_Heart_take)))
   (i_Heart_take:PySem.W.isFn K (.ref f_Heart_take)=true)
   (l_Heart_take:K.lookup f_Heart_take=some ⟨oc_Heart_take,od_Heart_take,.func (PySem.W.fnOf "take" "Heart.take" (defArgs s_Heart_take) (defBody s_Heart_take) (defScope s_Heart_take) .none kV_Heart_take dc_Heart_take pm_Heart_take an_Heart_take cd_Heart_take ct_Heart_take),sl_Heart_take⟩)
   (c_Heart_take:PySem.W.codeIn K cd_Heart_take "Heart.take"=true)
   (k_Heart_take:PySem.W.keepIn K (.ref f_Heart_take)=true)
   (a_Heart_check_answer:PySem.W.findIn K (.ref C_Heart) "check_answer"=some (some (.ref f_Heart_check_answer)))
   (i_Heart_check_answer:PySem.W.isFn K (.ref f_Heart_check_answer)=true)
   (l_Heart_check_answer:K.lookup f_Heart_check_answer=some ⟨oc_Heart_check_answer,od_Heart_check_answer,.func (PySem.W.fnOf "check_answer" "Heart.check_answer" (defArgs s_Heart_check_answer) (defBody s_Heart_check_answer) (defScope s_Heart_check_answer) .none kV_Heart_check_answer dc_Heart_check_answer pm_Heart_check_answer an_Heart_check_answer cd_Heart_check_answer ct_Heart_check_answer),sl_Heart_check_answer⟩)
   (c_Heart_check_answer:PySem.W.codeIn K cd_Heart_check_answer "Heart.check_answer"=true)
   (k_Heart_check_answer:PySem.W.keepIn K (.ref f_Heart_check_answer)=true)
   (a_Heart_answer:PySem.W.findIn K (.ref C_Heart) "answer"=some (some (.ref f_Heart_answer)))
   (i_Heart_answer:PySem.W.isFn K (.ref f_Heart_answer)=true)
   (l_Heart_answer:K.lookup f_Heart_answer=some ⟨oc_Heart_answer,od_Heart_answer,.func (PySem.W.fnOf "answer" "Heart.answer" (defArgs s_Heart_answer) (defBody s_Heart_answer) (defScope s_Heart_answer) .none kV_Heart_answer dc_Heart_answer pm_Heart_answer an_Heart_answer cd_Heart_answer ct_Heart_answer),sl_Heart_answer⟩)
   (c_Heart_answer:PySem.W.codeIn K cd_Heart_answer "Heart.answer"=true)
   (k_Heart_answer:PySem.W.keepIn K (.ref f_Heart_answer)=true)
   (a_Heart_tasks:PySem.W.findIn K (.ref C_Heart) "tasks"=some (some (.ref f_Heart_tasks)))
   (i_Heart_tasks:PySem.W.isFn K (.ref f_Heart_tasks)=true)
   (l_Heart_tasks:K.lookup f_Heart_tasks=some ⟨oc_Heart_tasks,od_Heart_tasks,.func (PySem.W.fnOf "tasks" "Heart.tasks" (defArgs s_Heart_tasks) (defBody s_Heart_tasks) (defScope s_Heart_tasks) .none kV_Heart_tasks dc_Heart_tasks pm_Heart_tasks an_Heart_tasks cd_Heart_tasks ct_Heart_tasks),sl_Heart_tasks⟩)
   (c_Heart_tasks:PySem.W.codeIn K cd_Heart_tasks "Heart.tasks"=true)
   (k_Heart_tasks:PySem.W.keepIn K (.ref f_Heart_tasks)=true)
   (a_Heart_something_waits:PySem.W.findIn K (.ref C_Heart) "something_waits"=some (some (.ref f_Heart_something_waits)))
   (i_Heart_something_waits:PySem.W.isFn K (.ref f_Heart_something_waits)=true)
   (l_Heart_something_waits:K.lookup f_Heart_something_waits=some ⟨oc_Heart_something_waits,od_Heart_something_waits,.func (PySem.W.fnOf "something_waits" "Heart.something_waits" (defArgs s_Heart_something_waits) (defBody s_Heart_something_waits) (defScope s_Heart_something_waits) .none kV_Heart_something_waits dc_Heart_something_waits pm_Heart_something_waits an_Heart_something_waits cd_Heart_something_waits ct_Heart_something_waits),sl_Heart_something_waits⟩)
   (c_Heart_something_waits:PySem.W.codeIn K cd_Heart_something_waits "Heart.something_waits"=true)
   (k_Heart_something_waits:PySem.W.keepIn K (.ref f_Heart_something_waits)=true)
   (a_Store__init:PySem.W.findIn K (.ref C_Store) "__init__"=some (some (.ref f_Store__init)))
   (i_Store__init:PySem.W.isFn K (.ref f_Store__init)=true)
   (l_Store__init:K.lookup f_Store__init=some ⟨oc_Store__init,od_Store__init,.func (PySem.W.fnOf "__init__" "Store.__init__" (defArgs s_Store__init) (defBody s_Store__init) (defScope s_Store__init) .none kV_Store__init dc_Store__init pm_Store__init an_Store__init cd_Store__init ct_Store__init),sl_Store__init⟩)
   (c_Store__init:PySem.W.codeIn K cd_Store__init "Store.__init__"=true)
   (k_Store__init:PySem.W.keepIn K (.ref f_Store__init)=true)
   (a_Store_become:PySem.W.findIn K (.ref C_Store) "become"=some (some (.ref f_Store_become)))
   (i_Store_become:PySem.W.isFn K (.ref f_Store_become)=true)
   (l_Store_become:K.lookup f_Store_become=some ⟨oc_Store_become,od_Store_become,.func (PySem.W.fnOf "become" "Store.become" (defArgs s_Store_become) (defBody s_Store_become) (defScope s_Store_become) .none kV_Store_become dc_Store_become pm_Store_become an_Store_become cd_Store_become ct_Store_become),sl_Store_become⟩)
   (c_Store_become:PySem.W.codeIn K cd_Store_become "Store.become"=true)
   (k_Store_become:PySem.W.keepIn K (.ref f_Store_become)=true)
   (a_Store_write:PySem.W.findIn K (.ref C_Store) "write"=some (some (.ref f_Store_write)))
   (i_Store_write:PySem.W.isFn K (.ref f_Store_write)=true)
   (l_Store_write:K.lookup f_Store_write=some ⟨oc_Store_write,od_Store_write,.func (PySem.W.fnOf "write" "Store.write" (defArgs s_Store_write) (defBody s_Store_write) (defScope s_Store_write) .none kV_Store_write dc_Store_write pm_Store_write an_Store_write cd_Store_write ct_Store_write),sl_Store_write⟩)
   (c_Store_write:PySem.W.codeIn K cd_Store_write "Store.write"=true)
   (k_Store_write:PySem.W.keepIn K (.ref f_Store_write)=true)
   (a_Store_drain:PySem.W.findIn K (.ref C_Store) "drain"=some (some (.ref f_Store_drain)))
   (i_Store_drain:PySem.W.isFn K (.ref f_Store_drain)=true)
   (l_Store_drain:K.lookup f_Store_drain=some ⟨oc_Store_drain,od_Store_drain,.func (PySem.W.fnOf "drain" "Store.drain" (defArgs s_Store_drain) (defBody s_Store_drain) (defScope s_Store_drain) .none kV_Store_drain dc_Store_drain pm_Store_drain an_Store_drain cd_Store_drain ct_Store_drain),sl_Store_drain⟩)
   (c_Store_drain:PySem.W.codeIn K cd_Store_drain "Store.drain"=true)
   (k_Store_drain:PySem.W.keepIn K (.ref f_Store_drain)=true)
   (a_Store_fence:PySem.W.findIn K (.ref C_Store) "fence"=some (some (.ref f_Store_fence)))
   (i_Store_fence:PySem.W.isFn K (.ref f_Store_fence)=true)
   (l_Store_fence:K.lookup f_Store_fence=some ⟨oc_Store_fence,od_Store_fence,.func (PySem.W.fnOf "fence" "Store.fence" (defArgs s_Store_fence) (defBody s_Store_fence) (defScope s_Store_fence) .none kV_Store_fence dc_Store_fence pm_Store_fence an_Store_fence cd_Store_fence ct_Store_fence),sl_Store_fence⟩)
   (c_Store_fence:PySem.W.codeIn K cd_Store_fence "Store.fence"=true)
   (k_Store_fence:PySem.W.keepIn K (.ref f_Store_fence)=true)
   (a_Store_read:PySem.W.findIn K (.ref C_Store) "read"=some (some (.ref f_Store_read)))
   (i_Store_read:PySem.W.isFn K (.ref f_Store_read)=true)
   (l_Store_read:K.lookup f_Store_read=some ⟨oc_Store_read,od_Store_read,.func (PySem.W.fnOf "read" "Store.read" (defArgs s_Store_read) (defBody s_Store_read) (defScope s_Store_read) .none kV_Store_read dc_Store_read pm_Store_read an_Store_read cd_Store_read ct_Store_read),sl_Store_read⟩)
   (c_Store_read:PySem.W.codeIn K cd_Store_read "Store.read"=true)
   (k_Store_read:PySem.W.keepIn K (.ref f_Store_read)=true)
   (a_Store_memory:PySem.W.findIn K (.ref C_Store) "memory"=some (some (.ref f_Store_memory)))
   (i_Store_memory:PySem.W.isFn K (.ref f_Store_memory)=true)
   (l_Store_memory:K.lookup f_Store_memory=some ⟨oc_Store_memory,od_Store_memory,.func (PySem.W.fnOf "memory" "Store.memory" (defArgs s_Store_memory) (defBody s_Store_memory) (defScope s_Store_memory) .none kV_Store_memory dc_Store_memory pm_Store_memory an_Store_memory cd_Store_memory ct_Store_memory),sl_Store_memory⟩)
   (c_Store_memory:PySem.W.codeIn K cd_Store_memory "Store.memory"=true)
   (k_Store_memory:PySem.W.keepIn K (.ref f_Store_memory)=true)
   (a_Store_waits:PySem.W.findIn K (.ref C_Store) "waits"=some (some (.ref f_Store_waits)))
   (i_Store_waits:PySem.W.isFn K (.ref f_Store_waits)=true)
   (l_Store_waits:K.lookup f_Store_waits=some ⟨oc_Store_waits,od_Store_waits,.func (PySem.W.fnOf "waits" "Store.waits" (defArgs s_Store_waits) (defBody s_Store_waits) (defScope s_Store_waits) .none kV_Store_waits dc_Store_waits pm_Store_waits an_Store_waits cd_Store_waits ct_Store_waits),sl_Store_waits⟩)
   (c_Store_waits:PySem.W.codeIn K cd_Store_waits "Store.waits"=true)
   (k_Store_waits:PySem.W.keepIn K (.ref f_Store_waits)=true)
   (a_Store_cells:PySem.W.findIn K (.ref C_Store) "cells"=some (some (.ref f_Store_cells)))
   (i_Store_cells:PySem.W.isFn K (.ref f_Store_cells)=true)
   (l_Store_cells:K.lookup f_Store_cells=some ⟨oc_Store_cells,od_Store_cells,.func (PySem.W.fnOf "cells" "Store.cells" (defArgs s_Store_cells) (defBody s_Store_cells) (defScope s_Store_cells) .none kV_Store_cells dc_Store_cells pm_Store_cells an_Store_cells cd_Store_cells ct_Store_cells),sl_Store_cells⟩)
   (c_Store_cells:PySem.W.codeIn K cd_Store_cells "Store.cells"=true)
   (k_Store_cells:PySem.W.keepIn K (.ref f_Store_cells)=true)
   (a_is_whole:PySem.W.nsIn K mainGlobals "is_whole"=some (some (.ref f_is_whole)))
   (l_is_whole:K.lookup f_is_whole=some ⟨oc_is_whole,od_is_whole,.func (PySem.W.fnOf "is_whole" "is_whole" (defArgs s_is_whole) (defBody s_is_whole) (defScope s_is_whole) .none kV_is_whole dc_is_whole pm_is_whole an_is_whole cd_is_whole ct_is_whole),sl_is_whole⟩)
   (c_is_whole:PySem.W.codeIn K cd_is_whole "is_whole"=true)
   (k_is_whole:PySem.W.keepIn K (.ref f_is_whole)=true)
   (a_is_part:PySem.W.nsIn K mainGlobals "is_part"=some (some (.ref f_is_part)))
   (l_is_part:K.lookup f_is_part=some ⟨oc_is_part,od_is_part,.func (PySem.W.fnOf "is_part" "is_part" (defArgs s_is_part) (defBody s_is_part) (defScope s_is_part) .none kV_is_part dc_is_part pm_is_part an_is_part cd_is_part ct_is_part),sl_is_part⟩)
   (c_is_part:PySem.W.codeIn K cd_is_part "is_part"=true)
   (k_is_part:PySem.W.keepIn K (.ref f_is_part)=true)
   (a_is_deed:PySem.W.nsIn K mainGlobals "is_deed"=some (some (.ref f_is_deed)))
   (l_is_deed:K.lookup f_is_deed=some ⟨oc_is_deed,od_is_deed,.func (PySem.W.fnOf "is_deed" "is_deed" (defArgs s_is_deed) (defBody s_is_deed) (defScope s_is_deed) .none kV_is_deed dc_is_deed pm_is_deed an_is_deed cd_is_deed ct_is_deed),sl_is_deed⟩)
   (c_is_deed:PySem.W.codeIn K cd_is_deed "is_deed"=true)
   (k_is_deed:PySem.W.keepIn K (.ref f_is_deed)=true)
   (a_side_of:PySem.W.nsIn K mainGlobals "side_of"=some (some (.ref f_side_of)))
   (l_side_of:K.lookup f_side_of=some ⟨oc_side_of,od_side_of,.func (PySem.W.fnOf "side_of" "side_of" (defArgs s_side_of) (defBody s_side_of) (defScope s_side_of) .none kV_side_of dc_side_of pm_side_of an_side_of cd_side_of ct_side_of),sl_side_of⟩)
   (c_side_of:PySem.W.codeIn K cd_side_of "side_of"=true)
   (k_side_of:PySem.W.keepIn K (.ref f_side_of)=true)
   (a_text_of:PySem.W.nsIn K mainGlobals "text_of"=some (some (.ref f_text_of)))
   (l_text_of:K.lookup f_text_of=some ⟨oc_text_of,od_text_of,.func (PySem.W.fnOf "text_of" "text_of" (defArgs s_text_of) (defBody s_text_of) (defScope s_text_of) .none kV_text_of dc_text_of pm_text_of an_text_of cd_text_of ct_text_of),sl_text_of⟩)
   (c_text_of:PySem.W.codeIn K cd_text_of "text_of"=true)
   (k_text_of:PySem.W.keepIn K (.ref f_text_of)=true)
   (a_Yard__init:PySem.W.findIn K (.ref C_Yard) "__init__"=some (some (.ref f_Yard__init)))
   (i_Yard__init:PySem.W.isFn K (.ref f_Yard__init)=true)
   (l_Yard__init:K.lookup f_Yard__init=some ⟨oc_Yard__init,od_Yard__init,.func (PySem.W.fnOf "__init__" "Yard.__init__" (defArgs s_Yard__init) (defBody s_Yard__init) (defScope s_Yard__init) .none kV_Yard__init dc_Yard__init pm_Yard__init an_Yard__init cd_Yard__init ct_Yard__init),sl_Yard__init⟩)
   (c_Yard__init:PySem.W.codeIn K cd_Yard__init "Yard.__init__"=true)
   (k_Yard__init:PySem.W.keepIn K (.ref f_Yard__init)=true)
   (a_Yard_deed:PySem.W.findIn K (.ref C_Yard) "deed"=some (some (.ref f_Yard_deed)))
   (i_Yard_deed:PySem.W.isFn K (.ref f_Yard_deed)=true)
   (l_Yard_deed:K.lookup f_Yard_deed=some ⟨oc_Yard_deed,od_Yard_deed,.func (PySem.W.fnOf "deed" "Yard.deed" (defArgs s_Yard_deed) (defBody s_Yard_deed) (defScope s_Yard_deed) .none kV_Yard_deed dc_Yard_deed pm_Yard_deed an_Yard_deed cd_Yard_deed ct_Yard_deed),sl_Yard_deed⟩)
   (c_Yard_deed:PySem.W.codeIn K cd_Yard_deed "Yard.deed"=true)
   (k_Yard_deed:PySem.W.keepIn K (.ref f_Yard_deed)=true)
   (a_Yard_can_be_done:PySem.W.findIn K (.ref C_Yard) "can_be_done"=some (some (.ref f_Yard_can_be_done)))
   (i_Yard_can_be_done:PySem.W.isFn K (.ref f_Yard_can_be_done)=true)
   (l_Yard_can_be_done:K.lookup f_Yard_can_be_done=some ⟨oc_Yard_can_be_done,od_Yard_can_be_done,.func (PySem.W.fnOf "can_be_done" "Yard.can_be_done" (defArgs s_Yard_can_be_done) (defBody s_Yard_can_be_done) (defScope s_Yard_can_be_done) .none kV_Yard_can_be_done dc_Yard_can_be_done pm_Yard_can_be_done an_Yard_can_be_done cd_Yard_can_be_done ct_Yard_can_be_done),sl_Yard_can_be_done⟩)
   (c_Yard_can_be_done:PySem.W.codeIn K cd_Yard_can_be_done "Yard.can_be_done"=true)
   (k_Yard_can_be_done:PySem.W.keepIn K (.ref f_Yard_can_be_done)=true)
   (a_Yard_story:PySem.W.findIn K (.ref C_Yard) "story"=some (some (.ref f_Yard_story)))
   (i_Yard_story:PySem.W.isFn K (.ref f_Yard_story)=true)
   (l_Yard_story:K.lookup f_Yard_story=some ⟨oc_Yard_story,od_Yard_story,.func (PySem.W.fnOf "story" "Yard.story" (defArgs s_Yard_story) (defBody s_Yard_story) (defScope s_Yard_story) .none kV_Yard_story dc_Yard_story pm_Yard_story an_Yard_story cd_Yard_story ct_Yard_story),sl_Yard_story⟩)
   (c_Yard_story:PySem.W.codeIn K cd_Yard_story "Yard.story"=true)
   (k_Yard_story:PySem.W.keepIn K (.ref f_Yard_story)=true)
   (a_Yard_state:PySem.W.findIn K (.ref C_Yard) "state"=some (some (.ref f_Yard_state)))
   (i_Yard_state:PySem.W.isFn K (.ref f_Yard_state)=true)
   (l_Yard_state:K.lookup f_Yard_state=some ⟨oc_Yard_state,od_Yard_state,.func (PySem.W.fnOf "state" "Yard.state" (defArgs s_Yard_state) (defBody s_Yard_state) (defScope s_Yard_state) .none kV_Yard_state dc_Yard_state pm_Yard_state an_Yard_state cd_Yard_state ct_Yard_state),sl_Yard_state⟩)
   (c_Yard_state:PySem.W.codeIn K cd_Yard_state "Yard.state"=true)
   (k_Yard_state:PySem.W.keepIn K (.ref f_Yard_state)=true)
   (a_Yard_sleeper:PySem.W.findIn K (.ref C_Yard) "sleeper"=some (some (.ref f_Yard_sleeper)))
   (i_Yard_sleeper:PySem.W.isFn K (.ref f_Yard_sleeper)=true)
   (l_Yard_sleeper:K.lookup f_Yard_sleeper=some ⟨oc_Yard_sleeper,od_Yard_sleeper,.func (PySem.W.fnOf "sleeper" "Yard.sleeper" (defArgs s_Yard_sleeper) (defBody s_Yard_sleeper) (defScope s_Yard_sleeper) .none kV_Yard_sleeper dc_Yard_sleeper pm_Yard_sleeper an_Yard_sleeper cd_Yard_sleeper ct_Yard_sleeper),sl_Yard_sleeper⟩)
   (c_Yard_sleeper:PySem.W.codeIn K cd_Yard_sleeper "Yard.sleeper"=true)
   (k_Yard_sleeper:PySem.W.keepIn K (.ref f_Yard_sleeper)=true)
   (a_Yard_is_quiet:PySem.W.findIn K (.ref C_Yard) "is_quiet"=some (some (.ref f_Yard_is_quiet)))
   (i_Yard_is_quiet:PySem.W.isFn K (.ref f_Yard_is_quiet)=true)
   (l_Yard_is_quiet:K.lookup f_Yard_is_quiet=some ⟨oc_Yard_is_quiet,od_Yard_is_quiet,.func (PySem.W.fnOf "is_quiet" "Yard.is_quiet" (defArgs s_Yard_is_quiet) (defBody s_Yard_is_quiet) (defScope s_Yard_is_quiet) .none kV_Yard_is_quiet dc_Yard_is_quiet pm_Yard_is_quiet an_Yard_is_quiet cd_Yard_is_quiet ct_Yard_is_quiet),sl_Yard_is_quiet⟩)
   (c_Yard_is_quiet:PySem.W.codeIn K cd_Yard_is_quiet "Yard.is_quiet"=true)
   (k_Yard_is_quiet:PySem.W.keepIn K (.ref f_Yard_is_quiet)=true)
   (a_Yard_made:PySem.W.findIn K (.ref C_Yard) "made"=some (some (.ref f_Yard_made)))
   (i_Yard_made:PySem.W.isFn K (.ref f_Yard_made)=true)
   (l_Yard_made:K.lookup f_Yard_made=some ⟨oc_Yard_made,od_Yard_made,.func (PySem.W.fnOf "made" "Yard.made" (defArgs s_Yard_made) (defBody s_Yard_made) (defScope s_Yard_made) .none kV_Yard_made dc_Yard_made pm_Yard_made an_Yard_made cd_Yard_made ct_Yard_made),sl_Yard_made⟩)
   (c_Yard_made:PySem.W.codeIn K cd_Yard_made "Yard.made"=true)
   (k_Yard_made:PySem.W.keepIn K (.ref f_Yard_made)=true)
   (a_Yard_store:PySem.W.findIn K (.ref C_Yard) "store"=some (some (.ref f_Yard_store)))
   (i_Yard_store:PySem.W.isFn K (.ref f_Yard_store)=true)
   (l_Yard_store:K.lookup f_Yard_store=some ⟨oc_Yard_store,od_Yard_store,.func (PySem.W.fnOf "store" "Yard.store" (defArgs s_Yard_store) (defBody s_Yard_store) (defScope s_Yard_store) .none kV_Yard_store dc_Yard_store pm_Yard_store an_Yard_store cd_Yard_store ct_Yard_store),sl_Yard_store⟩)
   (c_Yard_store:PySem.W.codeIn K cd_Yard_store "Yard.store"=true)
   (k_Yard_store:PySem.W.keepIn K (.ref f_Yard_store)=true)
   (a_Yard_twin:PySem.W.findIn K (.ref C_Yard) "twin"=some (some (.ref f_Yard_twin)))
   (i_Yard_twin:PySem.W.isFn K (.ref f_Yard_twin)=true)
   (l_Yard_twin:K.lookup f_Yard_twin=some ⟨oc_Yard_twin,od_Yard_twin,.func (PySem.W.fnOf "twin" "Yard.twin" (defArgs s_Yard_twin) (defBody s_Yard_twin) (defScope s_Yard_twin) .none kV_Yard_twin dc_Yard_twin pm_Yard_twin an_Yard_twin cd_Yard_twin ct_Yard_twin),sl_Yard_twin⟩)
   (c_Yard_twin:PySem.W.codeIn K cd_Yard_twin "Yard.twin"=true)
   (k_Yard_twin:PySem.W.keepIn K (.ref f_Yard_twin)=true)
   (a_Yard_become:PySem.W.findIn K (.ref C_Yard) "become"=some (some (.ref f_Yard_become)))
   (i_Yard_become:PySem.W.isFn K (.ref f_Yard_become)=true)
   (l_Yard_become:K.lookup f_Yard_become=some ⟨oc_Yard_become,od_Yard_become,.func (PySem.W.fnOf "become" "Yard.become" (defArgs s_Yard_become) (defBody s_Yard_become) (defScope s_Yard_become) .none kV_Yard_become dc_Yard_become pm_Yard_become an_Yard_become cd_Yard_become ct_Yard_become),sl_Yard_become⟩)
   (c_Yard_become:PySem.W.codeIn K cd_Yard_become "Yard.become"=true)
   (k_Yard_become:PySem.W.keepIn K (.ref f_Yard_become)=true)
   (a_Yard_check:PySem.W.findIn K (.ref C_Yard) "check"=some (some (.ref f_Yard_check)))
   (i_Yard_check:PySem.W.isFn K (.ref f_Yard_check)=true)
   (l_Yard_check:K.lookup f_Yard_check=some ⟨oc_Yard_check,od_Yard_check,.func (PySem.W.fnOf "check" "Yard.check" (defArgs s_Yard_check) (defBody s_Yard_check) (defScope s_Yard_check) .none kV_Yard_check dc_Yard_check pm_Yard_check an_Yard_check cd_Yard_check ct_Yard_check),sl_Yard_check⟩)
   (c_Yard_check:PySem.W.codeIn K cd_Yard_check "Yard.check"=true)
   (k_Yard_check:PySem.W.keepIn K (.ref f_Yard_check)=true)
   (a_Yard_is_allowed:PySem.W.findIn K (.ref C_Yard) "is_allowed"=some (some (.ref f_Yard_is_allowed)))
   (i_Yard_is_allowed:PySem.W.isFn K (.ref f_Yard_is_allowed)=true)
   (l_Yard_is_allowed:K.lookup f_Yard_is_allowed=some ⟨oc_Yard_is_allowed,od_Yard_is_allowed,.func (PySem.W.fnOf "is_allowed" "Yard.is_allowed" (defArgs s_Yard_is_allowed) (defBody s_Yard_is_allowed) (defScope s_Yard_is_allowed) .none kV_Yard_is_allowed dc_Yard_is_allowed pm_Yard_is_allowed an_Yard_is_allowed cd_Yard_is_allowed ct_Yard_is_allowed),sl_Yard_is_allowed⟩)
   (c_Yard_is_allowed:PySem.W.codeIn K cd_Yard_is_allowed "Yard.is_allowed"=true)
   (k_Yard_is_allowed:PySem.W.keepIn K (.ref f_Yard_is_allowed)=true)
   (a_Yard_thinkable:PySem.W.findIn K (.ref C_Yard) "thinkable"=some (some (.ref f_Yard_thinkable)))
   (i_Yard_thinkable:PySem.W.isFn K (.ref f_Yard_thinkable)=true)
   (l_Yard_thinkable:K.lookup f_Yard_thinkable=some ⟨oc_Yard_thinkable,od_Yard_thinkable,.func (PySem.W.fnOf "thinkable" "Yard.thinkable" (defArgs s_Yard_thinkable) (defBody s_Yard_thinkable) (defScope s_Yard_thinkable) .none kV_Yard_thinkable dc_Yard_thinkable pm_Yard_thinkable an_Yard_thinkable cd_Yard_thinkable ct_Yard_thinkable),sl_Yard_thinkable⟩)
   (c_Yard_thinkable:PySem.W.codeIn K cd_Yard_thinkable "Yard.thinkable"=true)
   (k_Yard_thinkable:PySem.W.keepIn K (.ref f_Yard_thinkable)=true)
   (a_Yard_do_ask:PySem.W.findIn K (.ref C_Yard) "do_ask"=some (some (.ref f_Yard_do_ask)))
   (i_Yard_do_ask:PySem.W.isFn K (.ref f_Yard_do_ask)=true)
   (l_Yard_do_ask:K.lookup f_Yard_do_ask=some ⟨oc_Yard_do_ask,od_Yard_do_ask,.func (PySem.W.fnOf "do_ask" "Yard.do_ask" (defArgs s_Yard_do_ask) (defBody s_Yard_do_ask) (defScope s_Yard_do_ask) .none kV_Yard_do_ask dc_Yard_do_ask pm_Yard_do_ask an_Yard_do_ask cd_Yard_do_ask ct_Yard_do_ask),sl_Yard_do_ask⟩)
   (c_Yard_do_ask:PySem.W.codeIn K cd_Yard_do_ask "Yard.do_ask"=true)
   (k_Yard_do_ask:PySem.W.keepIn K (.ref f_Yard_do_ask)=true)
   (a_Yard_do_answer:PySem.W.findIn K (.ref C_Yard) "do_answer"=some (some (.ref f_Yard_do_answer)))
   (i_Yard_do_answer:PySem.W.isFn K (.ref f_Yard_do_answer)=true)
   (l_Yard_do_answer:K.lookup f_Yard_do_answer=some ⟨oc_Yard_do_answer,od_Yard_do_answer,.func (PySem.W.fnOf "do_answer" "Yard.do_answer" (defArgs s_Yard_do_answer) (defBody s_Yard_do_answer) (defScope s_Yard_do_answer) .none kV_Yard_do_answer dc_Yard_do_answer pm_Yard_do_answer an_Yard_do_answer cd_Yard_do_answer ct_Yard_do_answer),sl_Yard_do_answer⟩)
   (c_Yard_do_answer:PySem.W.codeIn K cd_Yard_do_answer "Yard.do_answer"=true)
   (k_Yard_do_answer:PySem.W.keepIn K (.ref f_Yard_do_answer)=true)
   (a_Yard_tell_fetched:PySem.W.findIn K (.ref C_Yard) "tell_fetched"=some (some (.ref f_Yard_tell_fetched)))
   (i_Yard_tell_fetched:PySem.W.isFn K (.ref f_Yard_tell_fetched)=true)
   (l_Yard_tell_fetched:K.lookup f_Yard_tell_fetched=some ⟨oc_Yard_tell_fetched,od_Yard_tell_fetched,.func (PySem.W.fnOf "tell_fetched" "Yard.tell_fetched" (defArgs s_Yard_tell_fetched) (defBody s_Yard_tell_fetched) (defScope s_Yard_tell_fetched) .none kV_Yard_tell_fetched dc_Yard_tell_fetched pm_Yard_tell_fetched an_Yard_tell_fetched cd_Yard_tell_fetched ct_Yard_tell_fetched),sl_Yard_tell_fetched⟩)
   (c_Yard_tell_fetched:PySem.W.codeIn K cd_Yard_tell_fetched "Yard.tell_fetched"=true)
   (k_Yard_tell_fetched:PySem.W.keepIn K (.ref f_Yard_tell_fetched)=true)
   (a_Yard_do_bell:PySem.W.findIn K (.ref C_Yard) "do_bell"=some (some (.ref f_Yard_do_bell)))
   (i_Yard_do_bell:PySem.W.isFn K (.ref f_Yard_do_bell)=true)
   (l_Yard_do_bell:K.lookup f_Yard_do_bell=some ⟨oc_Yard_do_bell,od_Yard_do_bell,.func (PySem.W.fnOf "do_bell" "Yard.do_bell" (defArgs s_Yard_do_bell) (defBody s_Yard_do_bell) (defScope s_Yard_do_bell) .none kV_Yard_do_bell dc_Yard_do_bell pm_Yard_do_bell an_Yard_do_bell cd_Yard_do_bell ct_Yard_do_bell),sl_Yard_do_bell⟩)
   (c_Yard_do_bell:PySem.W.codeIn K cd_Yard_do_bell "Yard.do_bell"=true)
   (k_Yard_do_bell:PySem.W.keepIn K (.ref f_Yard_do_bell)=true)
   (a_Yard_do_lie:PySem.W.findIn K (.ref C_Yard) "do_lie"=some (some (.ref f_Yard_do_lie)))
   (i_Yard_do_lie:PySem.W.isFn K (.ref f_Yard_do_lie)=true)
   (l_Yard_do_lie:K.lookup f_Yard_do_lie=some ⟨oc_Yard_do_lie,od_Yard_do_lie,.func (PySem.W.fnOf "do_lie" "Yard.do_lie" (defArgs s_Yard_do_lie) (defBody s_Yard_do_lie) (defScope s_Yard_do_lie) .none kV_Yard_do_lie dc_Yard_do_lie pm_Yard_do_lie an_Yard_do_lie cd_Yard_do_lie ct_Yard_do_lie),sl_Yard_do_lie⟩)
   (c_Yard_do_lie:PySem.W.codeIn K cd_Yard_do_lie "Yard.do_lie"=true)
   (k_Yard_do_lie:PySem.W.keepIn K (.ref f_Yard_do_lie)=true)
   (a_Yard_do_look:PySem.W.findIn K (.ref C_Yard) "do_look"=some (some (.ref f_Yard_do_look)))
   (i_Yard_do_look:PySem.W.isFn K (.ref f_Yard_do_look)=true)
   (l_Yard_do_look:K.lookup f_Yard_do_look=some ⟨oc_Yard_do_look,od_Yard_do_look,.func (PySem.W.fnOf "do_look" "Yard.do_look" (defArgs s_Yard_do_look) (defBody s_Yard_do_look) (defScope s_Yard_do_look) .none kV_Yard_do_look dc_Yard_do_look pm_Yard_do_look an_Yard_do_look cd_Yard_do_look ct_Yard_do_look),sl_Yard_do_look⟩)
   (c_Yard_do_look:PySem.W.codeIn K cd_Yard_do_look "Yard.do_look"=true)
   (k_Yard_do_look:PySem.W.keepIn K (.ref f_Yard_do_look)=true)
   (a_Yard_something_waits:PySem.W.findIn K (.ref C_Yard) "something_waits"=some (some (.ref f_Yard_something_waits)))
   (i_Yard_something_waits:PySem.W.isFn K (.ref f_Yard_something_waits)=true)
   (l_Yard_something_waits:K.lookup f_Yard_something_waits=some ⟨oc_Yard_something_waits,od_Yard_something_waits,.func (PySem.W.fnOf "something_waits" "Yard.something_waits" (defArgs s_Yard_something_waits) (defBody s_Yard_something_waits) (defScope s_Yard_something_waits) .none kV_Yard_something_waits dc_Yard_something_waits pm_Yard_something_waits an_Yard_something_waits cd_Yard_something_waits ct_Yard_something_waits),sl_Yard_something_waits⟩)
   (c_Yard_something_waits:PySem.W.codeIn K cd_Yard_something_waits "Yard.something_waits"=true)
   (k_Yard_something_waits:PySem.W.keepIn K (.ref f_Yard_something_waits)=true)
   (a_law_cell_at:PySem.W.nsIn K mainGlobals "_law_cell_at"=some (some (.ref f_law_cell_at)))
   (l_law_cell_at:K.lookup f_law_cell_at=some ⟨oc_law_cell_at,od_law_cell_at,.func (PySem.W.fnOf "_law_cell_at" "_law_cell_at" (defArgs s_law_cell_at) (defBody s_law_cell_at) (defScope s_law_cell_at) .none kV_law_cell_at dc_law_cell_at pm_law_cell_at an_law_cell_at cd_law_cell_at ct_law_cell_at),sl_law_cell_at⟩)
   (c_law_cell_at:PySem.W.codeIn K cd_law_cell_at "_law_cell_at"=true)
   (k_law_cell_at:PySem.W.keepIn K (.ref f_law_cell_at)=true)
   (a_law_make:PySem.W.nsIn K mainGlobals "_law_make"=some (some (.ref f_law_make)))
   (l_law_make:K.lookup f_law_make=some ⟨oc_law_make,od_law_make,.func (PySem.W.fnOf "_law_make" "_law_make" (defArgs s_law_make) (defBody s_law_make) (defScope s_law_make) .none kV_law_make dc_law_make pm_law_make an_law_make cd_law_make ct_law_make),sl_law_make⟩)
   (c_law_make:PySem.W.codeIn K cd_law_make "_law_make"=true)
   (k_law_make:PySem.W.keepIn K (.ref f_law_make)=true)
   (a_law_same:PySem.W.nsIn K mainGlobals "_law_same"=some (some (.ref f_law_same)))
   (l_law_same:K.lookup f_law_same=some ⟨oc_law_same,od_law_same,.func (PySem.W.fnOf "_law_same" "_law_same" (defArgs s_law_same) (defBody s_law_same) (defScope s_law_same) .none kV_law_same dc_law_same pm_law_same an_law_same cd_law_same ct_law_same),sl_law_same⟩)
   (c_law_same:PySem.W.codeIn K cd_law_same "_law_same"=true)
   (k_law_same:PySem.W.keepIn K (.ref f_law_same)=true)
   (a_law_worths:PySem.W.nsIn K mainGlobals "_law_worths"=some (some (.ref f_law_worths)))
   (l_law_worths:K.lookup f_law_worths=some ⟨oc_law_worths,od_law_worths,.func (PySem.W.fnOf "_law_worths" "_law_worths" (defArgs s_law_worths) (defBody s_law_worths) (defScope s_law_worths) .none kV_law_worths dc_law_worths pm_law_worths an_law_worths cd_law_worths ct_law_worths),sl_law_worths⟩)
   (c_law_worths:PySem.W.codeIn K cd_law_worths "_law_worths"=true)
   (k_law_worths:PySem.W.keepIn K (.ref f_law_worths)=true)
   (a_law_can:PySem.W.nsIn K mainGlobals "_law_can"=some (some (.ref f_law_can)))
   (l_law_can:K.lookup f_law_can=some ⟨oc_law_can,od_law_can,.func (PySem.W.fnOf "_law_can" "_law_can" (defArgs s_law_can) (defBody s_law_can) (defScope s_law_can) .none kV_law_can dc_law_can pm_law_can an_law_can cd_law_can ct_law_can),sl_law_can⟩)
   (c_law_can:PySem.W.codeIn K cd_law_can "_law_can"=true)
   (k_law_can:PySem.W.keepIn K (.ref f_law_can)=true)
   (a_law_told:PySem.W.nsIn K mainGlobals "_law_told"=some (some (.ref f_law_told)))
   (l_law_told:K.lookup f_law_told=some ⟨oc_law_told,od_law_told,.func (PySem.W.fnOf "_law_told" "_law_told" (defArgs s_law_told) (defBody s_law_told) (defScope s_law_told) .none kV_law_told dc_law_told pm_law_told an_law_told cd_law_told ct_law_told),sl_law_told⟩)
   (c_law_told:PySem.W.codeIn K cd_law_told "_law_told"=true)
   (k_law_told:PySem.W.keepIn K (.ref f_law_told)=true)
   (a_law:PySem.W.nsIn K mainGlobals "law"=some (some (.ref f_law)))
   (l_law:K.lookup f_law=some ⟨oc_law,od_law,.func (PySem.W.fnOf "law" "law" (defArgs s_law) (defBody s_law) (defScope s_law) .none kV_law dc_law pm_law an_law cd_law ct_law),sl_law⟩)
   (c_law:PySem.W.codeIn K cd_law "law"=true)
   (k_law:PySem.W.keepIn K (.ref f_law)=true)
   (pg_Ring:PySem.W.plainGet K C_Ring Str.empty=true)
   (hd_Ring:PySem.W.hasDictIn K C_Ring=true)
   (po_Ring:PySem.W.plainOver K C_Ring=true)
   (sa_Ring:PySem.W.findIn K (.ref C_Ring) "__setattr__"=some (some (.builtin "object.__setattr__")))
   (mk_Ring:PySem.W.makesIn K C_Ring=true)
   (kc_Ring:PySem.W.keepIn K (.ref C_Ring)=true)
   (na_Ring_shelf:PySem.W.findIn K (.ref C_Ring) "shelf"=some none)
   (na_Ring_side:PySem.W.findIn K (.ref C_Ring) "side"=some none)
   (na_Ring_word:PySem.W.findIn K (.ref C_Ring) "word"=some none)
   (na_Ring_laid:PySem.W.findIn K (.ref C_Ring) "laid"=some none)
   (na_Ring_fetched:PySem.W.findIn K (.ref C_Ring) "fetched"=some none)
   (na_Ring_size:PySem.W.findIn K (.ref C_Ring) "size"=some none)
   (na_Ring_rounds:PySem.W.findIn K (.ref C_Ring) "rounds"=some none)
   (na_Ring_counter_first:PySem.W.findIn K (.ref C_Ring) "counter_first"=some none)
   (pg_Hand:PySem.W.plainGet K C_Hand Str.empty=true)
   (hd_Hand:PySem.W.hasDictIn K C_Hand=true)
   (po_Hand:PySem.W.plainOver K C_Hand=true)
   (sa_Hand:PySem.W.findIn K (.ref C_Hand) "__setattr__"=some (some (.builtin "object.__setattr__")))
   (mk_Hand:PySem.W.makesIn K C_Hand=true)
   (kc_Hand:PySem.W.keepIn K (.ref C_Hand)=true)
   (na_Hand_asks:PySem.W.findIn K (.ref C_Hand) "asks"=some none)
   (na_Hand_answers:PySem.W.findIn K (.ref C_Hand) "answers"=some none)
   (na_Hand_names:PySem.W.findIn K (.ref C_Hand) "names"=some none)
   (na_Hand_going:PySem.W.findIn K (.ref C_Hand) "going"=some none)
   (pg_Heart:PySem.W.plainGet K C_Heart Str.empty=true)
   (hd_Heart:PySem.W.hasDictIn K C_Heart=true)
   (po_Heart:PySem.W.plainOver K C_Heart=true)
   (sa_Heart:PySem.W.findIn K (.ref C_Heart) "__setattr__"=some (some (.builtin "object.__setattr__")))
   (mk_Heart:PySem.W.makesIn K C_Heart=true)
   (kc_Heart:PySem.W.keepIn K (.ref C_Heart)=true)
   (na_Heart_asks:PySem.W.findIn K (.ref C_Heart) "asks"=some none)
   (na_Heart_answers:PySem.W.findIn K (.ref C_Heart) "answers"=some none)
   (na_Heart_doing:PySem.W.findIn K (.ref C_Heart) "doing"=some none)
   (pg_Store:PySem.W.plainGet K C_Store Str.empty=true)
   (hd_Store:PySem.W.hasDictIn K C_Store=true)
   (po_Store:PySem.W.plainOver K C_Store=true)
   (sa_Store:PySem.W.findIn K (.ref C_Store) "__setattr__"=some (some (.builtin "object.__setattr__")))
   (mk_Store:PySem.W.makesIn K C_Store=true)
   (kc_Store:PySem.W.keepIn K (.ref C_Store)=true)
   (na_Store_held:PySem.W.findIn K (.ref C_Store) "held"=some none)
   (na_Store_rows:PySem.W.findIn K (.ref C_Store) "rows"=some none)
   (pg_Yard:PySem.W.plainGet K C_Yard Str.empty=true)
   (hd_Yard:PySem.W.hasDictIn K C_Yard=true)
   (po_Yard:PySem.W.plainOver K C_Yard=true)
   (sa_Yard:PySem.W.findIn K (.ref C_Yard) "__setattr__"=some (some (.builtin "object.__setattr__")))
   (mk_Yard:PySem.W.makesIn K C_Yard=true)
   (kc_Yard:PySem.W.keepIn K (.ref C_Yard)=true)
   (na_Yard_size:PySem.W.findIn K (.ref C_Yard) "size"=some none)
   (na_Yard_rounds:PySem.W.findIn K (.ref C_Yard) "rounds"=some none)
   (na_Yard_faults:PySem.W.findIn K (.ref C_Yard) "faults"=some none)
   (na_Yard_shelf:PySem.W.findIn K (.ref C_Yard) "shelf"=some none)
   (na_Yard_hand:PySem.W.findIn K (.ref C_Yard) "hand"=some none)
   (na_Yard_heart:PySem.W.findIn K (.ref C_Yard) "heart"=some none)
   (na_Yard_bell_fences:PySem.W.findIn K (.ref C_Yard) "bell_fences"=some none)
   (na_Yard_lie_fences:PySem.W.findIn K (.ref C_Yard) "lie_fences"=some none)
   (na_Yard_look_sees:PySem.W.findIn K (.ref C_Yard) "look_sees"=some none)
   (na_Yard_sleepers:PySem.W.findIn K (.ref C_Yard) "sleepers"=some none)
   (na_Yard_quiet:PySem.W.findIn K (.ref C_Yard) "quiet"=some none)
   (na_Yard_happened:PySem.W.findIn K (.ref C_Yard) "happened"=some none)
   (n_all:PySem.W.nsIn K mainGlobals "all"=some none)
   (n_bool:PySem.W.nsIn K mainGlobals "bool"=some none)
   (n_int:PySem.W.nsIn K mainGlobals "int"=some none)
   (n_isinstance:PySem.W.nsIn K mainGlobals "isinstance"=some none)
   (n_len:PySem.W.nsIn K mainGlobals "len"=some none)
   (n_list:PySem.W.nsIn K mainGlobals "list"=some none)
   (n_range:PySem.W.nsIn K mainGlobals "range"=some none)
   (n_reversed:PySem.W.nsIn K mainGlobals "reversed"=some none)
   (n_sorted:PySem.W.nsIn K mainGlobals "sorted"=some none)
   (n_str:PySem.W.nsIn K mainGlobals "str"=some none)
   (n_tuple:PySem.W.nsIn K mainGlobals "tuple"=some none)
   (n_zip:PySem.W.nsIn K mainGlobals "zip"=some none)
   (aX_RingError:PySem.W.nsIn K mainGlobals "RingError"=some (some (.ref C_RingError)))
   (aX_Full:PySem.W.nsIn K mainGlobals "Full"=some (some (.ref C_Full)))
   (aX_NoName:PySem.W.nsIn K mainGlobals "NoName"=some (some (.ref C_NoName)))
   (aX_NoTask:PySem.W.nsIn K mainGlobals "NoTask"=some (some (.ref C_NoTask)))
   (aX_NoDeed:PySem.W.nsIn K mainGlobals "NoDeed"=some (some (.ref C_NoDeed)))
   (aT_ASKS:PySem.W.nsIn K mainGlobals "ASKS"=some (some (.ref T_ASKS)))
   (kT_ASKS:K.lookup T_ASKS=some ⟨.type "tuple",tod_ASKS,.seq #[.str "ask" tt0_ASKS,.str "asked" tt1_ASKS,.str "taken" tt2_ASKS] tn_ASKS,tsl_ASKS⟩)
   (aT_ANSWERS:PySem.W.nsIn K mainGlobals "ANSWERS"=some (some (.ref T_ANSWERS)))
   (kT_ANSWERS:K.lookup T_ANSWERS=some ⟨.type "tuple",tod_ANSWERS,.seq #[.str "answer" tt0_ANSWERS,.str "answered" tt1_ANSWERS,.str "handed" tt2_ANSWERS] tn_ANSWERS,tsl_ANSWERS⟩)
   (aT_SLEEP_CELLS:PySem.W.nsIn K mainGlobals "SLEEP_CELLS"=some (some (.ref T_SLEEP_CELLS)))
   (kT_SLEEP_CELLS:K.lookup T_SLEEP_CELLS=some ⟨.type "tuple",tod_SLEEP_CELLS,.seq #[.str "hand sleeps" tt0_SLEEP_CELLS,.str "heart sleeps" tt1_SLEEP_CELLS] tn_SLEEP_CELLS,tsl_SLEEP_CELLS⟩)
   (aI_MOST_WORTH:PySem.W.nsIn K mainGlobals "MOST_WORTH"=some (some (.int 1000000000 ti_MOST_WORTH)))
   (aT_FORMS:PySem.W.nsIn K mainGlobals "FORMS"=some (some (.ref T_FORMS)))
   (kT_FORMS:K.lookup T_FORMS=some ⟨.type "dict",none,.dict #[⟨th0_FORMS,.str "ask" tk0_FORMS,.ref V_FORMS_0⟩,⟨th1_FORMS,.str "collect" tk1_FORMS,.ref V_FORMS_1⟩,⟨th2_FORMS,.str "take" tk2_FORMS,.ref V_FORMS_2⟩,⟨th3_FORMS,.str "answer" tk3_FORMS,.ref V_FORMS_3⟩,⟨th4_FORMS,.str "bell" tk4_FORMS,.ref V_FORMS_4⟩,⟨th5_FORMS,.str "lie" tk5_FORMS,.ref V_FORMS_5⟩,⟨th6_FORMS,.str "look" tk6_FORMS,.ref V_FORMS_6⟩,⟨th7_FORMS,.str "drain" tk7_FORMS,.ref V_FORMS_7⟩] tep_FORMS,#[]⟩)
   (kN_FORMS:(T_FORMS == sysModules)=false)
   (kV0_FORMS:K.lookup V_FORMS_0=some ⟨.type "tuple",vod0_FORMS,.seq #[.str "worth" vt0_0_FORMS] vn0_FORMS,vsl0_FORMS⟩)
   (kV1_FORMS:K.lookup V_FORMS_1=some ⟨.type "tuple",vod1_FORMS,.seq #[] vn1_FORMS,vsl1_FORMS⟩)
   (kV2_FORMS:K.lookup V_FORMS_2=some ⟨.type "tuple",vod2_FORMS,.seq #[] vn2_FORMS,vsl2_FORMS⟩)
   (kV3_FORMS:K.lookup V_FORMS_3=some ⟨.type "tuple",vod3_FORMS,.seq #[.str "name" vt3_0_FORMS,.str "worth" vt3_1_FORMS] vn3_FORMS,vsl3_FORMS⟩)
   (kV4_FORMS:K.lookup V_FORMS_4=some ⟨.type "tuple",vod4_FORMS,.seq #[.str "side" vt4_0_FORMS] vn4_FORMS,vsl4_FORMS⟩)
   (kV5_FORMS:K.lookup V_FORMS_5=some ⟨.type "tuple",vod5_FORMS,.seq #[.str "side" vt5_0_FORMS] vn5_FORMS,vsl5_FORMS⟩)
   (kV6_FORMS:K.lookup V_FORMS_6=some ⟨.type "tuple",vod6_FORMS,.seq #[.str "side" vt6_0_FORMS] vn6_FORMS,vsl6_FORMS⟩)
   (kV7_FORMS:K.lookup V_FORMS_7=some ⟨.type "tuple",vod7_FORMS,.seq #[.str "side" vt7_0_FORMS] vn7_FORMS,vsl7_FORMS⟩)
   (xc_Full:PySem.W.excIn K C_Full veB "ValueError.__new__"=true)
   (xc_NoName:PySem.W.excIn K C_NoName veB "ValueError.__new__"=true)
   (xc_NoTask:PySem.W.excIn K C_NoTask veB "ValueError.__new__"=true)
   (xc_NoDeed:PySem.W.excIn K C_NoDeed veB "ValueError.__new__"=true)
   (mo_em_f:PySem.W.exmOne K (.ref C_Full) (.ref C_RingError)=some true)
   (mo_em_n:PySem.W.exmOne K (.ref C_NoName) (.ref C_RingError)=some true)
   (mo_em_t:PySem.W.exmOne K (.ref C_NoTask) (.ref C_RingError)=some true)
   (mo_ty_1:PySem.W.findIn K (.ref C_Store) "__class__"=some (some (.builtin "object.__class__")))
   (mo_ty_2:PySem.W.specialIn K (.builtin "object.__class__") "__get__"=some (some (.builtin "getset_descriptor.__get__")))
   (mo_ty_3:PySem.W.takesIn K (.builtin "object.__class__")=some true)
   (mo_ty_4:PySem.W.mroIn K C_Store (.type "object")=some true)
   (mo_ty_5:PySem.W.kitOne K (.ref C_Store) (.ref C_Store)=some true)
   (mo_em_d:PySem.W.exmOne K (.ref C_NoDeed) (.ref C_RingError)=some true) :
   ∃ fd:FuncData,(∀ (s:Shared) (v:Value),BindsTo s fd ⟨[v],[]⟩ [("script",v)])/\∀ base:Heap,K.In base->base.Ns mainGlobals mg->FnOk l.prog w K mg base CX0 17 fa fd ["script"] (sp_law K):=by
 have e:=hfa.symm.trans (PySem.W.mg_of X G a_law)
 cases e
 have F_wall:=fun_mk (st:=s_wall) l_wall c_wall k_wall
 have B_wall:=F_wall.binds (ps:=["k"]) λ_ _ _ _ _ _ us hl=>match us,hl with | [_],_=>rfl
 have F_next_counter:=fun_mk (st:=s_next_counter) l_next_counter c_next_counter k_next_counter
 have B_next_counter:=F_next_counter.binds (ps:=["counter","size","rounds"]) λ_ _ _ _ _ _ us hl=>match us,hl with | [_,_,_],_=>rfl
 have F_place_of:=fun_mk (st:=s_place_of) l_place_of c_place_of k_place_of
 have B_place_of:=F_place_of.binds (ps:=["counter","size"]) λ_ _ _ _ _ _ us hl=>match us,hl with | [_,_],_=>rfl
 have F_ahead_by:=fun_mk (st:=s_ahead_by) l_ahead_by c_ahead_by k_ahead_by
 have B_ahead_by:=F_ahead_by.binds (ps:=["one","other","size","rounds"]) λ_ _ _ _ _ _ us hl=>match us,hl with | [_,_,_,_],_=>rfl
 have F_rounds_with:=fun_mk (st:=s_rounds_with) l_rounds_with c_rounds_with k_rounds_with
 have B_rounds_with:=F_rounds_with.binds (ps:=["rounds","faults"]) λ_ _ _ _ _ _ us hl=>match us,hl with | [_,_],_=>rfl
 have F_Ring__init:=fun_mk (st:=s_Ring__init) l_Ring__init c_Ring__init k_Ring__init
 have B_Ring__init:=F_Ring__init.binds (ps:=["self","store","side","words","size","rounds","faults"]) λ_ _ _ _ _ _ us hl=>match us,hl with | [_,_,_,_,_,_,_],_=>rfl
 have F_Ring_filled:=fun_mk (st:=s_Ring_filled) l_Ring_filled c_Ring_filled k_Ring_filled
 have B_Ring_filled:=F_Ring_filled.binds (ps:=["self"]) λ_ _ _ _ _ _ us hl=>match us,hl with | [_],_=>rfl
 have F_Ring_is_full:=fun_mk (st:=s_Ring_is_full) l_Ring_is_full c_Ring_is_full k_Ring_is_full
 have B_Ring_is_full:=F_Ring_is_full.binds (ps:=["self"]) λ_ _ _ _ _ _ us hl=>match us,hl with | [_],_=>rfl
 have F_Ring_place_at:=fun_mk (st:=s_Ring_place_at) l_Ring_place_at c_Ring_place_at k_Ring_place_at
 have B_Ring_place_at:=F_Ring_place_at.binds (ps:=["self","counter"]) λ_ _ _ _ _ _ us hl=>match us,hl with | [_,_],_=>rfl
 have F_Ring_write_further:=fun_mk (st:=s_Ring_write_further) l_Ring_write_further c_Ring_write_further k_Ring_write_further
 have B_Ring_write_further:=F_Ring_write_further.binds (ps:=["self","cell","counter"]) λ_ _ _ _ _ _ us hl=>match us,hl with | [_,_,_],_=>rfl
 have F_Ring_lay:=fun_mk (st:=s_Ring_lay) l_Ring_lay c_Ring_lay k_Ring_lay
 have B_Ring_lay:=F_Ring_lay.binds (ps:=["self","name","worth"]) λ_ _ _ _ _ _ us hl=>match us,hl with | [_,_,_],_=>rfl
 have F_Ring_fetch:=fun_mk (st:=s_Ring_fetch) l_Ring_fetch c_Ring_fetch k_Ring_fetch
 have B_Ring_fetch:=F_Ring_fetch.binds (ps:=["self"]) λ_ _ _ _ _ _ us hl=>match us,hl with | [_],_=>rfl
 have F_Hand__init:=fun_mk (st:=s_Hand__init) l_Hand__init c_Hand__init k_Hand__init
 have B_Hand__init:=F_Hand__init.binds (ps:=["self","store","size","rounds","names","faults"]) λ_ _ _ _ _ _ us hl=>match us,hl with | [_,_,_,_,_,_],_=>rfl
 have F_Hand_become:=fun_mk (st:=s_Hand_become) l_Hand_become c_Hand_become k_Hand_become
 have B_Hand_become:=F_Hand_become.binds (ps:=["self","one"]) λ_ _ _ _ _ _ us hl=>match us,hl with | [_,_],_=>rfl
 have F_Hand_least_free:=fun_mk (st:=s_Hand_least_free) l_Hand_least_free c_Hand_least_free k_Hand_least_free
 have B_Hand_least_free:=F_Hand_least_free.binds (ps:=["self"]) λ_ _ _ _ _ _ us hl=>match us,hl with | [_],_=>rfl
 have F_Hand_check_ask:=fun_mk (st:=s_Hand_check_ask) l_Hand_check_ask c_Hand_check_ask k_Hand_check_ask
 have B_Hand_check_ask:=F_Hand_check_ask.binds (ps:=["self"]) λ_ _ _ _ _ _ us hl=>match us,hl with | [_],_=>rfl
 have F_Hand_ask:=fun_mk (st:=s_Hand_ask) l_Hand_ask c_Hand_ask k_Hand_ask
 have B_Hand_ask:=F_Hand_ask.binds (ps:=["self","worth"]) λ_ _ _ _ _ _ us hl=>match us,hl with | [_,_],_=>rfl
 have F_Hand_collect:=fun_mk (st:=s_Hand_collect) l_Hand_collect c_Hand_collect k_Hand_collect
 have B_Hand_collect:=F_Hand_collect.binds (ps:=["self"]) λ_ _ _ _ _ _ us hl=>match us,hl with | [_],_=>rfl
 have F_Hand_under_way:=fun_mk (st:=s_Hand_under_way) l_Hand_under_way c_Hand_under_way k_Hand_under_way
 have B_Hand_under_way:=F_Hand_under_way.binds (ps:=["self"]) λ_ _ _ _ _ _ us hl=>match us,hl with | [_],_=>rfl
 have F_Hand_something_waits:=fun_mk (st:=s_Hand_something_waits) l_Hand_something_waits c_Hand_something_waits k_Hand_something_waits
 have B_Hand_something_waits:=F_Hand_something_waits.binds (ps:=["self"]) λ_ _ _ _ _ _ us hl=>match us,hl with | [_],_=>rfl
 have F_Heart__init:=fun_mk (st:=s_Heart__init) l_Heart__init c_Heart__init k_Heart__init
 have B_Heart__init:=F_Heart__init.binds (ps:=["self","store","size","rounds","faults"]) λ_ _ _ _ _ _ us hl=>match us,hl with | [_,_,_,_,_],_=>rfl
 have F_Heart_become:=fun_mk (st:=s_Heart_become) l_Heart_become c_Heart_become k_Heart_become
 have B_Heart_become:=F_Heart_become.binds (ps:=["self","one"]) λ_ _ _ _ _ _ us hl=>match us,hl with | [_,_],_=>rfl
 have F_Heart_take:=fun_mk (st:=s_Heart_take) l_Heart_take c_Heart_take k_Heart_take
 have B_Heart_take:=F_Heart_take.binds (ps:=["self"]) λ_ _ _ _ _ _ us hl=>match us,hl with | [_],_=>rfl
 have F_Heart_check_answer:=fun_mk (st:=s_Heart_check_answer) l_Heart_check_answer c_Heart_check_answer k_Heart_check_answer
 have B_Heart_check_answer:=F_Heart_check_answer.binds (ps:=["self","name"]) λ_ _ _ _ _ _ us hl=>match us,hl with | [_,_],_=>rfl
 have F_Heart_answer:=fun_mk (st:=s_Heart_answer) l_Heart_answer c_Heart_answer k_Heart_answer
 have B_Heart_answer:=F_Heart_answer.binds (ps:=["self","name","worth"]) λ_ _ _ _ _ _ us hl=>match us,hl with | [_,_,_],_=>rfl
 have F_Heart_tasks:=fun_mk (st:=s_Heart_tasks) l_Heart_tasks c_Heart_tasks k_Heart_tasks
 have B_Heart_tasks:=F_Heart_tasks.binds (ps:=["self"]) λ_ _ _ _ _ _ us hl=>match us,hl with | [_],_=>rfl
 have F_Heart_something_waits:=fun_mk (st:=s_Heart_something_waits) l_Heart_something_waits c_Heart_something_waits k_Heart_something_waits
 have B_Heart_something_waits:=F_Heart_something_waits.binds (ps:=["self"]) λ_ _ _ _ _ _ us hl=>match us,hl with | [_],_=>rfl
 have F_Store__init:=fun_mk (st:=s_Store__init) l_Store__init c_Store__init k_Store__init
 have B_Store__init:=F_Store__init.binds (ps:=["self"]) λ_ _ _ _ _ _ us hl=>match us,hl with | [_],_=>rfl
 have F_Store_become:=fun_mk (st:=s_Store_become) l_Store_become c_Store_become k_Store_become
 have B_Store_become:=F_Store_become.binds (ps:=["self","one"]) λ_ _ _ _ _ _ us hl=>match us,hl with | [_,_],_=>rfl
 have F_Store_write:=fun_mk (st:=s_Store_write) l_Store_write c_Store_write k_Store_write
 have B_Store_write:=F_Store_write.binds (ps:=["self","side","cell","worth"]) λ_ _ _ _ _ _ us hl=>match us,hl with | [_,_,_,_],_=>rfl
 have F_Store_drain:=fun_mk (st:=s_Store_drain) l_Store_drain c_Store_drain k_Store_drain
 have B_Store_drain:=F_Store_drain.binds (ps:=["self","side"]) λ_ _ _ _ _ _ us hl=>match us,hl with | [_,_],_=>rfl
 have F_Store_fence:=fun_mk (st:=s_Store_fence) l_Store_fence c_Store_fence k_Store_fence
 have B_Store_fence:=F_Store_fence.binds (ps:=["self","side"]) λ_ _ _ _ _ _ us hl=>match us,hl with | [_,_],_=>rfl
 have F_Store_read:=fun_mk (st:=s_Store_read) l_Store_read c_Store_read k_Store_read
 have B_Store_read:=F_Store_read.binds (ps:=["self","side","cell"]) λ_ _ _ _ _ _ us hl=>match us,hl with | [_,_,_],_=>rfl
 have F_Store_memory:=fun_mk (st:=s_Store_memory) l_Store_memory c_Store_memory k_Store_memory
 have B_Store_memory:=F_Store_memory.binds (ps:=["self","cell"]) λ_ _ _ _ _ _ us hl=>match us,hl with | [_,_],_=>rfl
 have F_Store_waits:=fun_mk (st:=s_Store_waits) l_Store_waits c_Store_waits k_Store_waits
 have B_Store_waits:=F_Store_waits.binds (ps:=["self","side"]) λ_ _ _ _ _ _ us hl=>match us,hl with | [_,_],_=>rfl
 have F_Store_cells:=fun_mk (st:=s_Store_cells) l_Store_cells c_Store_cells k_Store_cells
 have B_Store_cells:=F_Store_cells.binds (ps:=["self"]) λ_ _ _ _ _ _ us hl=>match us,hl with | [_],_=>rfl
 have F_is_whole:=fun_mk (st:=s_is_whole) l_is_whole c_is_whole k_is_whole
 have B_is_whole:=F_is_whole.binds (ps:=["value"]) λ_ _ _ _ _ _ us hl=>match us,hl with | [_],_=>rfl
 have F_is_part:=fun_mk (st:=s_is_part) l_is_part c_is_part k_is_part
 have B_is_part:=F_is_part.binds (ps:=["value","kind"]) λ_ _ _ _ _ _ us hl=>match us,hl with | [_,_],_=>rfl
 have F_is_deed:=fun_mk (st:=s_is_deed) l_is_deed c_is_deed k_is_deed
 have B_is_deed:=F_is_deed.binds (ps:=["some"]) λ_ _ _ _ _ _ us hl=>match us,hl with | [_],_=>rfl
 have F_side_of:=fun_mk (st:=s_side_of) l_side_of c_side_of k_side_of
 have B_side_of:=F_side_of.binds (ps:=["some"]) λ_ _ _ _ _ _ us hl=>match us,hl with | [_],_=>rfl
 have F_text_of:=fun_mk (st:=s_text_of) l_text_of c_text_of k_text_of
 have B_text_of:=F_text_of.binds (ps:=["cell"]) λ_ _ _ _ _ _ us hl=>match us,hl with | [_],_=>rfl
 have F_Yard__init:=fun_mk (st:=s_Yard__init) l_Yard__init c_Yard__init k_Yard__init
 have B_Yard__init:=F_Yard__init.binds (ps:=["self","size","rounds","names","faults"]) λ_ _ _ _ _ _ us hl=>match us,hl with | [_,_,_,_,_],_=>rfl
 have F_Yard_deed:=fun_mk (st:=s_Yard_deed) l_Yard_deed c_Yard_deed k_Yard_deed
 have B_Yard_deed:=F_Yard_deed.binds (ps:=["self","some"]) λ_ _ _ _ _ _ us hl=>match us,hl with | [_,_],_=>rfl
 have F_Yard_can_be_done:=fun_mk (st:=s_Yard_can_be_done) l_Yard_can_be_done c_Yard_can_be_done k_Yard_can_be_done
 have B_Yard_can_be_done:=F_Yard_can_be_done.binds (ps:=["self","worths"]) λ_ _ _ _ _ _ us hl=>match us,hl with | [_,_],_=>rfl
 have F_Yard_story:=fun_mk (st:=s_Yard_story) l_Yard_story c_Yard_story k_Yard_story
 have B_Yard_story:=F_Yard_story.binds (ps:=["self"]) λ_ _ _ _ _ _ us hl=>match us,hl with | [_],_=>rfl
 have F_Yard_state:=fun_mk (st:=s_Yard_state) l_Yard_state c_Yard_state k_Yard_state
 have B_Yard_state:=F_Yard_state.binds (ps:=["self"]) λ_ _ _ _ _ _ us hl=>match us,hl with | [_],_=>rfl
 have F_Yard_sleeper:=fun_mk (st:=s_Yard_sleeper) l_Yard_sleeper c_Yard_sleeper k_Yard_sleeper
 have B_Yard_sleeper:=F_Yard_sleeper.binds (ps:=["self","side"]) λ_ _ _ _ _ _ us hl=>match us,hl with | [_,_],_=>rfl
 have F_Yard_is_quiet:=fun_mk (st:=s_Yard_is_quiet) l_Yard_is_quiet c_Yard_is_quiet k_Yard_is_quiet
 have B_Yard_is_quiet:=F_Yard_is_quiet.binds (ps:=["self","side"]) λ_ _ _ _ _ _ us hl=>match us,hl with | [_,_],_=>rfl
 have F_Yard_made:=fun_mk (st:=s_Yard_made) l_Yard_made c_Yard_made k_Yard_made
 have B_Yard_made:=F_Yard_made.binds (ps:=["self"]) λ_ _ _ _ _ _ us hl=>match us,hl with | [_],_=>rfl
 have F_Yard_store:=fun_mk (st:=s_Yard_store) l_Yard_store c_Yard_store k_Yard_store
 have B_Yard_store:=F_Yard_store.binds (ps:=["self"]) λ_ _ _ _ _ _ us hl=>match us,hl with | [_],_=>rfl
 have F_Yard_twin:=fun_mk (st:=s_Yard_twin) l_Yard_twin c_Yard_twin k_Yard_twin
 have B_Yard_twin:=F_Yard_twin.binds (ps:=["self"]) λ_ _ _ _ _ _ us hl=>match us,hl with | [_],_=>rfl
 have F_Yard_become:=fun_mk (st:=s_Yard_become) l_Yard_become c_Yard_become k_Yard_become
 have B_Yard_become:=F_Yard_become.binds (ps:=["self","one"]) λ_ _ _ _ _ _ us hl=>match us,hl with | [_,_],_=>rfl
 have F_Yard_check:=fun_mk (st:=s_Yard_check) l_Yard_check c_Yard_check k_Yard_check
 have B_Yard_check:=F_Yard_check.binds (ps:=["self","some"]) λ_ _ _ _ _ _ us hl=>match us,hl with | [_,_],_=>rfl
 have F_Yard_is_allowed:=fun_mk (st:=s_Yard_is_allowed) l_Yard_is_allowed c_Yard_is_allowed k_Yard_is_allowed
 have B_Yard_is_allowed:=F_Yard_is_allowed.binds (ps:=["self","some"]) λ_ _ _ _ _ _ us hl=>match us,hl with | [_,_],_=>rfl
 have F_Yard_thinkable:=fun_mk (st:=s_Yard_thinkable) l_Yard_thinkable c_Yard_thinkable k_Yard_thinkable
 have B_Yard_thinkable:=F_Yard_thinkable.binds (ps:=["self","worths"]) λ_ _ _ _ _ _ us hl=>match us,hl with | [_,_],_=>rfl
 have F_Yard_do_ask:=fun_mk (st:=s_Yard_do_ask) l_Yard_do_ask c_Yard_do_ask k_Yard_do_ask
 have B_Yard_do_ask:=F_Yard_do_ask.binds (ps:=["self","worth"]) λ_ _ _ _ _ _ us hl=>match us,hl with | [_,_],_=>rfl
 have F_Yard_do_answer:=fun_mk (st:=s_Yard_do_answer) l_Yard_do_answer c_Yard_do_answer k_Yard_do_answer
 have B_Yard_do_answer:=F_Yard_do_answer.binds (ps:=["self","name","worth"]) λ_ _ _ _ _ _ us hl=>match us,hl with | [_,_,_],_=>rfl
 have F_Yard_tell_fetched:=fun_mk (st:=s_Yard_tell_fetched) l_Yard_tell_fetched c_Yard_tell_fetched k_Yard_tell_fetched
 have B_Yard_tell_fetched:=F_Yard_tell_fetched.binds (ps:=["self","word","told"]) λ_ _ _ _ _ _ us hl=>match us,hl with | [_,_,_],_=>rfl
 have F_Yard_do_bell:=fun_mk (st:=s_Yard_do_bell) l_Yard_do_bell c_Yard_do_bell k_Yard_do_bell
 have B_Yard_do_bell:=F_Yard_do_bell.binds (ps:=["self","side"]) λ_ _ _ _ _ _ us hl=>match us,hl with | [_,_],_=>rfl
 have F_Yard_do_lie:=fun_mk (st:=s_Yard_do_lie) l_Yard_do_lie c_Yard_do_lie k_Yard_do_lie
 have B_Yard_do_lie:=F_Yard_do_lie.binds (ps:=["self","side"]) λ_ _ _ _ _ _ us hl=>match us,hl with | [_,_],_=>rfl
 have F_Yard_do_look:=fun_mk (st:=s_Yard_do_look) l_Yard_do_look c_Yard_do_look k_Yard_do_look
 have B_Yard_do_look:=F_Yard_do_look.binds (ps:=["self","side"]) λ_ _ _ _ _ _ us hl=>match us,hl with | [_,_],_=>rfl
 have F_Yard_something_waits:=fun_mk (st:=s_Yard_something_waits) l_Yard_something_waits c_Yard_something_waits k_Yard_something_waits
 have B_Yard_something_waits:=F_Yard_something_waits.binds (ps:=["self","side"]) λ_ _ _ _ _ _ us hl=>match us,hl with | [_,_],_=>rfl
 have F_law_cell_at:=fun_mk (st:=s_law_cell_at) l_law_cell_at c_law_cell_at k_law_cell_at
 have B_law_cell_at:=F_law_cell_at.binds (ps:=["script","k"]) λ_ _ _ _ _ _ us hl=>match us,hl with | [_,_],_=>rfl
 have F_law_make:=fun_mk (st:=s_law_make) l_law_make c_law_make k_law_make
 have B_law_make:=F_law_make.binds (ps:=["cell"]) λ_ _ _ _ _ _ us hl=>match us,hl with | [_],_=>rfl
 have F_law_same:=fun_mk (st:=s_law_same) l_law_same c_law_same k_law_same
 have B_law_same:=F_law_same.binds (ps:=["found","due"]) λ_ _ _ _ _ _ us hl=>match us,hl with | [_,_],_=>rfl
 have F_law_worths:=fun_mk (st:=s_law_worths) l_law_worths c_law_worths k_law_worths
 have B_law_worths:=F_law_worths.binds (ps:=["cells"]) λ_ _ _ _ _ _ us hl=>match us,hl with | [_],_=>rfl
 have F_law_can:=fun_mk (st:=s_law_can) l_law_can c_law_can k_law_can
 have B_law_can:=F_law_can.binds (ps:=["yard","worths"]) λ_ _ _ _ _ _ us hl=>match us,hl with | [_,_],_=>rfl
 have F_law_told:=fun_mk (st:=s_law_told) l_law_told c_law_told k_law_told
 have B_law_told:=F_law_told.binds (ps:=["yard","make"]) λ_ _ _ _ _ _ us hl=>match us,hl with | [_,_],_=>rfl
 have F_law:=fun_mk (st:=s_law) l_law c_law k_law
 have B_law:=F_law.binds (ps:=["script"]) λ_ _ _ _ _ _ us hl=>match us,hl with | [_],_=>rfl
 let ad:Ad:=⟨f_wall,f_next_counter,f_place_of,f_ahead_by,f_rounds_with,f_Ring__init,f_Ring_filled,f_Ring_is_full,f_Ring_place_at,f_Ring_write_further,f_Ring_lay,f_Ring_fetch,f_Hand__init,f_Hand_become,f_Hand_least_free,f_Hand_check_ask,f_Hand_ask,f_Hand_collect,f_Hand_under_way,f_Hand_something_waits,f_Heart__init,f_Heart_become,f_Heart_take,f_Heart_check_answer,f_Heart_answer,f_Heart_tasks,f_Heart_something_waits,f_Store__init,f_Store_become,f_Store_write,f_Store_drain,f_Store_fence,f_Store_read,f_Store_memory,f_Store_waits,f_Store_cells,f_is_whole,f_is_part,f_is_deed,f_side_of,f_text_of,f_Yard__init,f_Yard_deed,f_Yard_can_be_done,f_Yard_story,f_Yard_state,f_Yard_sleeper,f_Yard_is_quiet,f_Yard_made,f_Yard_store,f_Yard_twin,f_Yard_become,f_Yard_check,f_Yard_is_allowed,f_Yard_thinkable,f_Yard_do_ask,f_Yard_do_answer,f_Yard_tell_fetched,f_Yard_do_bell,f_Yard_do_lie,f_Yard_do_look,f_Yard_something_waits,f_law_cell_at,f_law_make,f_law_same,f_law_worths,f_law_can,f_law_told,fa,C_Ring,C_Hand,C_Heart,C_Store,C_Yard,C_RingError,C_Full,C_NoName,C_NoTask,C_NoDeed,T_ASKS,T_ANSWERS,T_SLEEP_CELLS,T_FORMS,V_FORMS_0,V_FORMS_1,V_FORMS_2,V_FORMS_3,V_FORMS_4,V_FORMS_5,V_FORMS_6,V_FORMS_7⟩
 let dd:Fd:=⟨PySem.W.fnOf "_wall" "_wall" (defArgs s_wall) (defBody s_wall) (defScope s_wall) .none kV_wall dc_wall pm_wall an_wall cd_wall ct_wall,PySem.W.fnOf "next_counter" "next_counter" (defArgs s_next_counter) (defBody s_next_counter) (defScope s_next_counter) .none kV_next_counter dc_next_counter pm_next_counter an_next_counter cd_next_counter ct_next_counter,PySem.W.fnOf "place_of" "place_of" (defArgs s_place_of) (defBody s_place_of) (defScope s_place_of) .none kV_place_of dc_place_of pm_place_of an_place_of cd_place_of ct_place_of,PySem.W.fnOf "ahead_by" "ahead_by" (defArgs s_ahead_by) (defBody s_ahead_by) (defScope s_ahead_by) .none kV_ahead_by dc_ahead_by pm_ahead_by an_ahead_by cd_ahead_by ct_ahead_by,PySem.W.fnOf "rounds_with" "rounds_with" (defArgs s_rounds_with) (defBody s_rounds_with) (defScope s_rounds_with) .none kV_rounds_with dc_rounds_with pm_rounds_with an_rounds_with cd_rounds_with ct_rounds_with,PySem.W.fnOf "__init__" "Ring.__init__" (defArgs s_Ring__init) (defBody s_Ring__init) (defScope s_Ring__init) .none kV_Ring__init dc_Ring__init pm_Ring__init an_Ring__init cd_Ring__init ct_Ring__init,PySem.W.fnOf "filled" "Ring.filled" (defArgs s_Ring_filled) (defBody s_Ring_filled) (defScope s_Ring_filled) .none kV_Ring_filled dc_Ring_filled pm_Ring_filled an_Ring_filled cd_Ring_filled ct_Ring_filled,PySem.W.fnOf "is_full" "Ring.is_full" (defArgs s_Ring_is_full) (defBody s_Ring_is_full) (defScope s_Ring_is_full) .none kV_Ring_is_full dc_Ring_is_full pm_Ring_is_full an_Ring_is_full cd_Ring_is_full ct_Ring_is_full,PySem.W.fnOf "place_at" "Ring.place_at" (defArgs s_Ring_place_at) (defBody s_Ring_place_at) (defScope s_Ring_place_at) .none kV_Ring_place_at dc_Ring_place_at pm_Ring_place_at an_Ring_place_at cd_Ring_place_at ct_Ring_place_at,PySem.W.fnOf "write_further" "Ring.write_further" (defArgs s_Ring_write_further) (defBody s_Ring_write_further) (defScope s_Ring_write_further) .none kV_Ring_write_further dc_Ring_write_further pm_Ring_write_further an_Ring_write_further cd_Ring_write_further ct_Ring_write_further,PySem.W.fnOf "lay" "Ring.lay" (defArgs s_Ring_lay) (defBody s_Ring_lay) (defScope s_Ring_lay) .none kV_Ring_lay dc_Ring_lay pm_Ring_lay an_Ring_lay cd_Ring_lay ct_Ring_lay,PySem.W.fnOf "fetch" "Ring.fetch" (defArgs s_Ring_fetch) (defBody s_Ring_fetch) (defScope s_Ring_fetch) .none kV_Ring_fetch dc_Ring_fetch pm_Ring_fetch an_Ring_fetch cd_Ring_fetch ct_Ring_fetch,PySem.W.fnOf "__init__" "Hand.__init__" (defArgs s_Hand__init) (defBody s_Hand__init) (defScope s_Hand__init) .none kV_Hand__init dc_Hand__init pm_Hand__init an_Hand__init cd_Hand__init ct_Hand__init,PySem.W.fnOf "become" "Hand.become" (defArgs s_Hand_become) (defBody s_Hand_become) (defScope s_Hand_become) .none kV_Hand_become dc_Hand_become pm_Hand_become an_Hand_become cd_Hand_become ct_Hand_become,PySem.W.fnOf "least_free" "Hand.least_free" (defArgs s_Hand_least_free) (defBody s_Hand_least_free) (defScope s_Hand_least_free) .none kV_Hand_least_free dc_Hand_least_free pm_Hand_least_free an_Hand_least_free cd_Hand_least_free ct_Hand_least_free,PySem.W.fnOf "check_ask" "Hand.check_ask" (defArgs s_Hand_check_ask) (defBody s_Hand_check_ask) (defScope s_Hand_check_ask) .none kV_Hand_check_ask dc_Hand_check_ask pm_Hand_check_ask an_Hand_check_ask cd_Hand_check_ask ct_Hand_check_ask,PySem.W.fnOf "ask" "Hand.ask" (defArgs s_Hand_ask) (defBody s_Hand_ask) (defScope s_Hand_ask) .none kV_Hand_ask dc_Hand_ask pm_Hand_ask an_Hand_ask cd_Hand_ask ct_Hand_ask,PySem.W.fnOf "collect" "Hand.collect" (defArgs s_Hand_collect) (defBody s_Hand_collect) (defScope s_Hand_collect) .none kV_Hand_collect dc_Hand_collect pm_Hand_collect an_Hand_collect cd_Hand_collect ct_Hand_collect,PySem.W.fnOf "under_way" "Hand.under_way" (defArgs s_Hand_under_way) (defBody s_Hand_under_way) (defScope s_Hand_under_way) .none kV_Hand_under_way dc_Hand_under_way pm_Hand_under_way an_Hand_under_way cd_Hand_under_way ct_Hand_under_way,PySem.W.fnOf "something_waits" "Hand.something_waits" (defArgs s_Hand_something_waits) (defBody s_Hand_something_waits) (defScope s_Hand_something_waits) .none kV_Hand_something_waits dc_Hand_something_waits pm_Hand_something_waits an_Hand_something_waits cd_Hand_something_waits ct_Hand_something_waits,PySem.W.fnOf "__init__" "Heart.__init__" (defArgs s_Heart__init) (defBody s_Heart__init) (defScope s_Heart__init) .none kV_Heart__init dc_Heart__init pm_Heart__init an_Heart__init cd_Heart__init ct_Heart__init,PySem.W.fnOf "become" "Heart.become" (defArgs s_Heart_become) (defBody s_Heart_become) (defScope s_Heart_become) .none kV_Heart_become dc_Heart_become pm_Heart_become an_Heart_become cd_Heart_become ct_Heart_become,PySem.W.fnOf "take" "Heart.take" (defArgs s_Heart_take) (defBody s_Heart_take) (defScope s_Heart_take) .none kV_Heart_take dc_Heart_take pm_Heart_take an_Heart_take cd_Heart_take ct_Heart_take,PySem.W.fnOf "check_answer" "Heart.check_answer" (defArgs s_Heart_check_answer) (defBody s_Heart_check_answer) (defScope s_Heart_check_answer) .none kV_Heart_check_answer dc_Heart_check_answer pm_Heart_check_answer an_Heart_check_answer cd_Heart_check_answer ct_Heart_check_answer,PySem.W.fnOf "answer" "Heart.answer" (defArgs s_Heart_answer) (defBody s_Heart_answer) (defScope s_Heart_answer) .none kV_Heart_answer dc_Heart_answer pm_Heart_answer an_Heart_answer cd_Heart_answer ct_Heart_answer,PySem.W.fnOf "tasks" "Heart.tasks" (defArgs s_Heart_tasks) (defBody s_Heart_tasks) (defScope s_Heart_tasks) .none kV_Heart_tasks dc_Heart_tasks pm_Heart_tasks an_Heart_tasks cd_Heart_tasks ct_Heart_tasks,PySem.W.fnOf "something_waits" "Heart.something_waits" (defArgs s_Heart_something_waits) (defBody s_Heart_something_waits) (defScope s_Heart_something_waits) .none kV_Heart_something_waits dc_Heart_something_waits pm_Heart_something_waits an_Heart_something_waits cd_Heart_something_waits ct_Heart_something_waits,PySem.W.fnOf "__init__" "Store.__init__" (defArgs s_Store__init) (defBody s_Store__init) (defScope s_Store__init) .none kV_Store__init dc_Store__init pm_Store__init an_Store__init cd_Store__init ct_Store__init,PySem.W.fnOf "become" "Store.become" (defArgs s_Store_become) (defBody s_Store_become) (defScope s_Store_become) .none kV_Store_become dc_Store_become pm_Store_become an_Store_become cd_Store_become ct_Store_become,PySem.W.fnOf "write" "Store.write" (defArgs s_Store_write) (defBody s_Store_write) (defScope s_Store_write) .none kV_Store_write dc_Store_write pm_Store_write an_Store_write cd_Store_write ct_Store_write,PySem.W.fnOf "drain" "Store.drain" (defArgs s_Store_drain) (defBody s_Store_drain) (defScope s_Store_drain) .none kV_Store_drain dc_Store_drain pm_Store_drain an_Store_drain cd_Store_drain ct_Store_drain,PySem.W.fnOf "fence" "Store.fence" (defArgs s_Store_fence) (defBody s_Store_fence) (defScope s_Store_fence) .none kV_Store_fence dc_Store_fence pm_Store_fence an_Store_fence cd_Store_fence ct_Store_fence,PySem.W.fnOf "read" "Store.read" (defArgs s_Store_read) (defBody s_Store_read) (defScope s_Store_read) .none kV_Store_read dc_Store_read pm_Store_read an_Store_read cd_Store_read ct_Store_read,PySem.W.fnOf "memory" "Store.memory" (defArgs s_Store_memory) (defBody s_Store_memory) (defScope s_Store_memory) .none kV_Store_memory dc_Store_memory pm_Store_memory an_Store_memory cd_Store_memory ct_Store_memory,PySem.W.fnOf "waits" "Store.waits" (defArgs s_Store_waits) (defBody s_Store_waits) (defScope s_Store_waits) .none kV_Store_waits dc_Store_waits pm_Store_waits an_Store_waits cd_Store_waits ct_Store_waits,PySem.W.fnOf "cells" "Store.cells" (defArgs s_Store_cells) (defBody s_Store_cells) (defScope s_Store_cells) .none kV_Store_cells dc_Store_cells pm_Store_cells an_Store_cells cd_Store_cells ct_Store_cells,PySem.W.fnOf "is_whole" "is_whole" (defArgs s_is_whole) (defBody s_is_whole) (defScope s_is_whole) .none kV_is_whole dc_is_whole pm_is_whole an_is_whole cd_is_whole ct_is_whole,PySem.W.fnOf "is_part" "is_part" (defArgs s_is_part) (defBody s_is_part) (defScope s_is_part) .none kV_is_part dc_is_part pm_is_part an_is_part cd_is_part ct_is_part,PySem.W.fnOf "is_deed" "is_deed" (defArgs s_is_deed) (defBody s_is_deed) (defScope s_is_deed) .none kV_is_deed dc_is_deed pm_is_deed an_is_deed cd_is_deed ct_is_deed,PySem.W.fnOf "side_of" "side_of" (defArgs s_side_of) (defBody s_side_of) (defScope s_side_of) .none kV_side_of dc_side_of pm_side_of an_side_of cd_side_of ct_side_of,PySem.W.fnOf "text_of" "text_of" (defArgs s_text_of) (defBody s_text_of) (defScope s_text_of) .none kV_text_of dc_text_of pm_text_of an_text_of cd_text_of ct_text_of,PySem.W.fnOf "__init__" "Yard.__init__" (defArgs s_Yard__init) (defBody s_Yard__init) (defScope s_Yard__init) .none kV_Yard__init dc_Yard__init pm_Yard__init an_Yard__init cd_Yard__init ct_Yard__init,PySem.W.fnOf "deed" "Yard.deed" (defArgs s_Yard_deed) (defBody s_Yard_deed) (defScope s_Yard_deed) .none kV_Yard_deed dc_Yard_deed pm_Yard_deed an_Yard_deed cd_Yard_deed ct_Yard_deed,PySem.W.fnOf "can_be_done" "Yard.can_be_done" (defArgs s_Yard_can_be_done) (defBody s_Yard_can_be_done) (defScope s_Yard_can_be_done) .none kV_Yard_can_be_done dc_Yard_can_be_done pm_Yard_can_be_done an_Yard_can_be_done cd_Yard_can_be_done ct_Yard_can_be_done,PySem.W.fnOf "story" "Yard.story" (defArgs s_Yard_story) (defBody s_Yard_story) (defScope s_Yard_story) .none kV_Yard_story dc_Yard_story pm_Yard_story an_Yard_story cd_Yard_story ct_Yard_story,PySem.W.fnOf "state" "Yard.state" (defArgs s_Yard_state) (defBody s_Yard_state) (defScope s_Yard_state) .none kV_Yard_state dc_Yard_state pm_Yard_state an_Yard_state cd_Yard_state ct_Yard_state,PySem.W.fnOf "sleeper" "Yard.sleeper" (defArgs s_Yard_sleeper) (defBody s_Yard_sleeper) (defScope s_Yard_sleeper) .none kV_Yard_sleeper dc_Yard_sleeper pm_Yard_sleeper an_Yard_sleeper cd_Yard_sleeper ct_Yard_sleeper,PySem.W.fnOf "is_quiet" "Yard.is_quiet" (defArgs s_Yard_is_quiet) (defBody s_Yard_is_quiet) (defScope s_Yard_is_quiet) .none kV_Yard_is_quiet dc_Yard_is_quiet pm_Yard_is_quiet an_Yard_is_quiet cd_Yard_is_quiet ct_Yard_is_quiet,PySem.W.fnOf "made" "Yard.made" (defArgs s_Yard_made) (defBody s_Yard_made) (defScope s_Yard_made) .none kV_Yard_made dc_Yard_made pm_Yard_made an_Yard_made cd_Yard_made ct_Yard_made,PySem.W.fnOf "store" "Yard.store" (defArgs s_Yard_store) (defBody s_Yard_store) (defScope s_Yard_store) .none kV_Yard_store dc_Yard_store pm_Yard_store an_Yard_store cd_Yard_store ct_Yard_store,PySem.W.fnOf "twin" "Yard.twin" (defArgs s_Yard_twin) (defBody s_Yard_twin) (defScope s_Yard_twin) .none kV_Yard_twin dc_Yard_twin pm_Yard_twin an_Yard_twin cd_Yard_twin ct_Yard_twin,PySem.W.fnOf "become" "Yard.become" (defArgs s_Yard_become) (defBody s_Yard_become) (defScope s_Yard_become) .none kV_Yard_become dc_Yard_become pm_Yard_become an_Yard_become cd_Yard_become ct_Yard_become,PySem.W.fnOf "check" "Yard.check" (defArgs s_Yard_check) (defBody s_Yard_check) (defScope s_Yard_check) .none kV_Yard_check dc_Yard_check pm_Yard_check an_Yard_check cd_Yard_check ct_Yard_check,PySem.W.fnOf "is_allowed" "Yard.is_allowed" (defArgs s_Yard_is_allowed) (defBody s_Yard_is_allowed) (defScope s_Yard_is_allowed) .none kV_Yard_is_allowed dc_Yard_is_allowed pm_Yard_is_allowed an_Yard_is_allowed cd_Yard_is_allowed ct_Yard_is_allowed,PySem.W.fnOf "thinkable" "Yard.thinkable" (defArgs s_Yard_thinkable) (defBody s_Yard_thinkable) (defScope s_Yard_thinkable) .none kV_Yard_thinkable dc_Yard_thinkable pm_Yard_thinkable an_Yard_thinkable cd_Yard_thinkable ct_Yard_thinkable,PySem.W.fnOf "do_ask" "Yard.do_ask" (defArgs s_Yard_do_ask) (defBody s_Yard_do_ask) (defScope s_Yard_do_ask) .none kV_Yard_do_ask dc_Yard_do_ask pm_Yard_do_ask an_Yard_do_ask cd_Yard_do_ask ct_Yard_do_ask,PySem.W.fnOf "do_answer" "Yard.do_answer" (defArgs s_Yard_do_answer) (defBody s_Yard_do_answer) (defScope s_Yard_do_answer) .none kV_Yard_do_answer dc_Yard_do_answer pm_Yard_do_answer an_Yard_do_answer cd_Yard_do_answer ct_Yard_do_answer,PySem.W.fnOf "tell_fetched" "Yard.tell_fetched" (defArgs s_Yard_tell_fetched) (defBody s_Yard_tell_fetched) (defScope s_Yard_tell_fetched) .none kV_Yard_tell_fetched dc_Yard_tell_fetched pm_Yard_tell_fetched an_Yard_tell_fetched cd_Yard_tell_fetched ct_Yard_tell_fetched,PySem.W.fnOf "do_bell" "Yard.do_bell" (defArgs s_Yard_do_bell) (defBody s_Yard_do_bell) (defScope s_Yard_do_bell) .none kV_Yard_do_bell dc_Yard_do_bell pm_Yard_do_bell an_Yard_do_bell cd_Yard_do_bell ct_Yard_do_bell,PySem.W.fnOf "do_lie" "Yard.do_lie" (defArgs s_Yard_do_lie) (defBody s_Yard_do_lie) (defScope s_Yard_do_lie) .none kV_Yard_do_lie dc_Yard_do_lie pm_Yard_do_lie an_Yard_do_lie cd_Yard_do_lie ct_Yard_do_lie,PySem.W.fnOf "do_look" "Yard.do_look" (defArgs s_Yard_do_look) (defBody s_Yard_do_look) (defScope s_Yard_do_look) .none kV_Yard_do_look dc_Yard_do_look pm_Yard_do_look an_Yard_do_look cd_Yard_do_look ct_Yard_do_look,PySem.W.fnOf "something_waits" "Yard.something_waits" (defArgs s_Yard_something_waits) (defBody s_Yard_something_waits) (defScope s_Yard_something_waits) .none kV_Yard_something_waits dc_Yard_something_waits pm_Yard_something_waits an_Yard_something_waits cd_Yard_something_waits ct_Yard_something_waits,PySem.W.fnOf "_law_cell_at" "_law_cell_at" (defArgs s_law_cell_at) (defBody s_law_cell_at) (defScope s_law_cell_at) .none kV_law_cell_at dc_law_cell_at pm_law_cell_at an_law_cell_at cd_law_cell_at ct_law_cell_at,PySem.W.fnOf "_law_make" "_law_make" (defArgs s_law_make) (defBody s_law_make) (defScope s_law_make) .none kV_law_make dc_law_make pm_law_make an_law_make cd_law_make ct_law_make,PySem.W.fnOf "_law_same" "_law_same" (defArgs s_law_same) (defBody s_law_same) (defScope s_law_same) .none kV_law_same dc_law_same pm_law_same an_law_same cd_law_same ct_law_same,PySem.W.fnOf "_law_worths" "_law_worths" (defArgs s_law_worths) (defBody s_law_worths) (defScope s_law_worths) .none kV_law_worths dc_law_worths pm_law_worths an_law_worths cd_law_worths ct_law_worths,PySem.W.fnOf "_law_can" "_law_can" (defArgs s_law_can) (defBody s_law_can) (defScope s_law_can) .none kV_law_can dc_law_can pm_law_can an_law_can cd_law_can ct_law_can,PySem.W.fnOf "_law_told" "_law_told" (defArgs s_law_told) (defBody s_law_told) (defScope s_law_told) .none kV_law_told dc_law_told pm_law_told an_law_told cd_law_told ct_law_told,PySem.W.fnOf "law" "law" (defArgs s_law) (defBody s_law) (defScope s_law) .none kV_law dc_law pm_law an_law cd_law ct_law⟩
 have GG:Gs K mg ad dd:=⟨F_wall,B_wall,PySem.W.mg_of X G a_wall,F_next_counter,B_next_counter,PySem.W.mg_of X G a_next_counter,F_place_of,B_place_of,PySem.W.mg_of X G a_place_of,F_ahead_by,B_ahead_by,PySem.W.mg_of X G a_ahead_by,F_rounds_with,B_rounds_with,PySem.W.mg_of X G a_rounds_with,F_Ring__init,B_Ring__init,F_Ring_filled,B_Ring_filled,⟨a_Ring_filled,i_Ring_filled,k_Ring_filled⟩,F_Ring_is_full,B_Ring_is_full,⟨a_Ring_is_full,i_Ring_is_full,k_Ring_is_full⟩,F_Ring_place_at,B_Ring_place_at,⟨a_Ring_place_at,i_Ring_place_at,k_Ring_place_at⟩,F_Ring_write_further,B_Ring_write_further,⟨a_Ring_write_further,i_Ring_write_further,k_Ring_write_further⟩,F_Ring_lay,B_Ring_lay,⟨a_Ring_lay,i_Ring_lay,k_Ring_lay⟩,F_Ring_fetch,B_Ring_fetch,⟨a_Ring_fetch,i_Ring_fetch,k_Ring_fetch⟩,F_Hand__init,B_Hand__init,F_Hand_become,B_Hand_become,⟨a_Hand_become,i_Hand_become,k_Hand_become⟩,F_Hand_least_free,B_Hand_least_free,⟨a_Hand_least_free,i_Hand_least_free,k_Hand_least_free⟩,F_Hand_check_ask,B_Hand_check_ask,⟨a_Hand_check_ask,i_Hand_check_ask,k_Hand_check_ask⟩,F_Hand_ask,B_Hand_ask,⟨a_Hand_ask,i_Hand_ask,k_Hand_ask⟩,F_Hand_collect,B_Hand_collect,⟨a_Hand_collect,i_Hand_collect,k_Hand_collect⟩,F_Hand_under_way,B_Hand_under_way,⟨a_Hand_under_way,i_Hand_under_way,k_Hand_under_way⟩,F_Hand_something_waits,B_Hand_something_waits,⟨a_Hand_something_waits,i_Hand_something_waits,k_Hand_something_waits⟩,F_Heart__init,B_Heart__init,F_Heart_become,B_Heart_become,⟨a_Heart_become,i_Heart_become,k_Heart_become⟩,F_Heart_take,B_Heart_take,⟨a_Heart_take,i_Heart_take,k_Heart_take⟩,F_Heart_check_answer,B_Heart_check_answer,⟨a_Heart_check_answer,i_Heart_check_answer,k_Heart_check_answer⟩,F_Heart_answer,B_Heart_answer,⟨a_Heart_answer,i_Heart_answer,k_Heart_answer⟩,F_Heart_tasks,B_Heart_tasks,⟨a_Heart_tasks,i_Heart_tasks,k_Heart_tasks⟩,F_Heart_something_waits,B_Heart_something_waits,⟨a_Heart_something_waits,i_Heart_something_waits,k_Heart_something_waits⟩,F_Store__init,B_Store__init,F_Store_become,B_Store_become,⟨a_Store_become,i_Store_become,k_Store_become⟩,F_Store_write,B_Store_write,⟨a_Store_write,i_Store_write,k_Store_write⟩,F_Store_drain,B_Store_drain,⟨a_Store_drain,i_Store_drain,k_Store_drain⟩,F_Store_fence,B_Store_fence,⟨a_Store_fence,i_Store_fence,k_Store_fence⟩,F_Store_read,B_Store_read,⟨a_Store_read,i_Store_read,k_Store_read⟩,F_Store_memory,B_Store_memory,⟨a_Store_memory,i_Store_memory,k_Store_memory⟩,F_Store_waits,B_Store_waits,⟨a_Store_waits,i_Store_waits,k_Store_waits⟩,F_Store_cells,B_Store_cells,⟨a_Store_cells,i_Store_cells,k_Store_cells⟩,F_is_whole,B_is_whole,PySem.W.mg_of X G a_is_whole,F_is_part,B_is_part,PySem.W.mg_of X G a_is_part,F_is_deed,B_is_deed,PySem.W.mg_of X G a_is_deed,F_side_of,B_side_of,PySem.W.mg_of X G a_side_of,F_text_of,B_text_of,PySem.W.mg_of X G a_text_of,F_Yard__init,B_Yard__init,F_Yard_deed,B_Yard_deed,⟨a_Yard_deed,i_Yard_deed,k_Yard_deed⟩,F_Yard_can_be_done,B_Yard_can_be_done,⟨a_Yard_can_be_done,i_Yard_can_be_done,k_Yard_can_be_done⟩,F_Yard_story,B_Yard_story,⟨a_Yard_story,i_Yard_story,k_Yard_story⟩,F_Yard_state,B_Yard_state,⟨a_Yard_state,i_Yard_state,k_Yard_state⟩,F_Yard_sleeper,B_Yard_sleeper,⟨a_Yard_sleeper,i_Yard_sleeper,k_Yard_sleeper⟩,F_Yard_is_quiet,B_Yard_is_quiet,⟨a_Yard_is_quiet,i_Yard_is_quiet,k_Yard_is_quiet⟩,F_Yard_made,B_Yard_made,⟨a_Yard_made,i_Yard_made,k_Yard_made⟩,F_Yard_store,B_Yard_store,⟨a_Yard_store,i_Yard_store,k_Yard_store⟩,F_Yard_twin,B_Yard_twin,⟨a_Yard_twin,i_Yard_twin,k_Yard_twin⟩,F_Yard_become,B_Yard_become,⟨a_Yard_become,i_Yard_become,k_Yard_become⟩,F_Yard_check,B_Yard_check,⟨a_Yard_check,i_Yard_check,k_Yard_check⟩,F_Yard_is_allowed,B_Yard_is_allowed,⟨a_Yard_is_allowed,i_Yard_is_allowed,k_Yard_is_allowed⟩,F_Yard_thinkable,B_Yard_thinkable,⟨a_Yard_thinkable,i_Yard_thinkable,k_Yard_thinkable⟩,F_Yard_do_ask,B_Yard_do_ask,⟨a_Yard_do_ask,i_Yard_do_ask,k_Yard_do_ask⟩,F_Yard_do_answer,B_Yard_do_answer,⟨a_Yard_do_answer,i_Yard_do_answer,k_Yard_do_answer⟩,F_Yard_tell_fetched,B_Yard_tell_fetched,⟨a_Yard_tell_fetched,i_Yard_tell_fetched,k_Yard_tell_fetched⟩,F_Yard_do_bell,B_Yard_do_bell,⟨a_Yard_do_bell,i_Yard_do_bell,k_Yard_do_bell⟩,F_Yard_do_lie,B_Yard_do_lie,⟨a_Yard_do_lie,i_Yard_do_lie,k_Yard_do_lie⟩,F_Yard_do_look,B_Yard_do_look,⟨a_Yard_do_look,i_Yard_do_look,k_Yard_do_look⟩,F_Yard_something_waits,B_Yard_something_waits,⟨a_Yard_something_waits,i_Yard_something_waits,k_Yard_something_waits⟩,F_law_cell_at,B_law_cell_at,PySem.W.mg_of X G a_law_cell_at,F_law_make,B_law_make,PySem.W.mg_of X G a_law_make,F_law_same,B_law_same,PySem.W.mg_of X G a_law_same,F_law_worths,B_law_worths,PySem.W.mg_of X G a_law_worths,F_law_can,B_law_can,PySem.W.mg_of X G a_law_can,F_law_told,B_law_told,PySem.W.mg_of X G a_law_told,F_law,B_law,PySem.W.mg_of X G a_law,⟨pg_Ring,hd_Ring,po_Ring,sa_Ring⟩,PySem.W.mg_of X G aC_Ring,⟨mk_Ring,a_Ring__init,i_Ring__init,kc_Ring⟩,na_Ring_shelf,na_Ring_side,na_Ring_word,na_Ring_laid,na_Ring_fetched,na_Ring_size,na_Ring_rounds,na_Ring_counter_first,⟨pg_Hand,hd_Hand,po_Hand,sa_Hand⟩,PySem.W.mg_of X G aC_Hand,⟨mk_Hand,a_Hand__init,i_Hand__init,kc_Hand⟩,na_Hand_asks,na_Hand_answers,na_Hand_names,na_Hand_going,⟨pg_Heart,hd_Heart,po_Heart,sa_Heart⟩,PySem.W.mg_of X G aC_Heart,⟨mk_Heart,a_Heart__init,i_Heart__init,kc_Heart⟩,na_Heart_asks,na_Heart_answers,na_Heart_doing,⟨pg_Store,hd_Store,po_Store,sa_Store⟩,PySem.W.mg_of X G aC_Store,⟨mk_Store,a_Store__init,i_Store__init,kc_Store⟩,na_Store_held,na_Store_rows,⟨pg_Yard,hd_Yard,po_Yard,sa_Yard⟩,PySem.W.mg_of X G aC_Yard,⟨mk_Yard,a_Yard__init,i_Yard__init,kc_Yard⟩,na_Yard_size,na_Yard_rounds,na_Yard_faults,na_Yard_shelf,na_Yard_hand,na_Yard_heart,na_Yard_bell_fences,na_Yard_lie_fences,na_Yard_look_sees,na_Yard_sleepers,na_Yard_quiet,na_Yard_happened,PySem.W.mg_none_of X G n_all,PySem.W.mg_none_of X G n_bool,PySem.W.mg_none_of X G n_int,PySem.W.mg_none_of X G n_isinstance,PySem.W.mg_none_of X G n_len,PySem.W.mg_none_of X G n_list,PySem.W.mg_none_of X G n_range,PySem.W.mg_none_of X G n_reversed,PySem.W.mg_none_of X G n_sorted,PySem.W.mg_none_of X G n_str,PySem.W.mg_none_of X G n_tuple,PySem.W.mg_none_of X G n_zip,PySem.W.mg_of X G aX_RingError,PySem.W.mg_of X G aX_Full,PySem.W.mg_of X G aX_NoName,PySem.W.mg_of X G aX_NoTask,PySem.W.mg_of X G aX_NoDeed,PySem.W.mg_of X G aT_ASKS,λ_=>.inr ⟨_,_,_,kT_ASKS,rfl,rfl,by show 3 <= sizeLine;decide,(.cons ⟨_,rfl⟩ (.cons ⟨_,rfl⟩ (.cons ⟨_,rfl⟩ .nil)))⟩,PySem.W.mg_of X G aT_ANSWERS,λ_=>.inr ⟨_,_,_,kT_ANSWERS,rfl,rfl,by show 3 <= sizeLine;decide,(.cons ⟨_,rfl⟩ (.cons ⟨_,rfl⟩ (.cons ⟨_,rfl⟩ .nil)))⟩,PySem.W.mg_of X G aT_SLEEP_CELLS,λ_=>.inr ⟨_,_,_,kT_SLEEP_CELLS,rfl,rfl,by show 2 <= sizeLine;decide,(.cons ⟨_,rfl⟩ (.cons ⟨_,rfl⟩ .nil))⟩,⟨_,PySem.W.mg_of X G aI_MOST_WORTH⟩,PySem.W.mg_of X G aT_FORMS,⟨kN_FORMS,_,_,_,kT_FORMS,⟨rfl,rfl,rfl⟩,rfl,(.cons rfl rfl (.cons rfl rfl (.cons rfl rfl (.cons rfl rfl (.cons rfl rfl (.cons rfl rfl (.cons rfl rfl (.cons rfl rfl .nil))))))))⟩,λ_=>.inr ⟨_,_,_,kV0_FORMS,rfl,rfl,by show 1 <= sizeLine;decide,(.cons ⟨_,rfl⟩ .nil)⟩,λ_=>.inr ⟨_,_,_,kV1_FORMS,rfl,rfl,by show 0 <= sizeLine;decide,.nil⟩,λ_=>.inr ⟨_,_,_,kV2_FORMS,rfl,rfl,by show 0 <= sizeLine;decide,.nil⟩,λ_=>.inr ⟨_,_,_,kV3_FORMS,rfl,rfl,by show 2 <= sizeLine;decide,(.cons ⟨_,rfl⟩ (.cons ⟨_,rfl⟩ .nil))⟩,λ_=>.inr ⟨_,_,_,kV4_FORMS,rfl,rfl,by show 1 <= sizeLine;decide,(.cons ⟨_,rfl⟩ .nil)⟩,λ_=>.inr ⟨_,_,_,kV5_FORMS,rfl,rfl,by show 1 <= sizeLine;decide,(.cons ⟨_,rfl⟩ .nil)⟩,λ_=>.inr ⟨_,_,_,kV6_FORMS,rfl,rfl,by show 1 <= sizeLine;decide,(.cons ⟨_,rfl⟩ .nil)⟩,λ_=>.inr ⟨_,_,_,kV7_FORMS,rfl,rfl,by show 1 <= sizeLine;decide,(.cons ⟨_,rfl⟩ .nil)⟩,xc_Full,xc_NoName,xc_NoTask,xc_NoDeed,mo_em_f,mo_em_n,mo_em_t,mo_ty_1,mo_ty_2,mo_ty_3,mo_ty_4,mo_ty_5,mo_em_d⟩
 exact ⟨dd.law,λs v=>.of_eq rfl,λbase _ _=>ok_law GG⟩
theorem walk {l:PySem.W.OpenLaw} {q:Program} {loose:List Str} {XP:(Str->Option Value)->Heap->Prop} {YP:World->Heap->Prop} {d:DefRec} {K:Params->PySem.W.Frag} (hn:l.most=some 63) (hdf:d.params.defaults=[])
   (hY:∀ (w:World) (h:Heap),YP w h->(K w.params).In h)
   (F:∀ (w:World) (mg:Str->Option Value) (fa:Addr) (h:Heap),(K w.params).In h->h.Ns mainGlobals mg->mg d.name=some (.ref fa) ->
     ∃ fd:FuncData,(∀ (s:Shared) (u:Value),BindsTo s fd ⟨[u],[]⟩ [("script",u)])/\∀ base:Heap,(K w.params).In base->base.Ns mainGlobals mg->FnOk l.prog w (K w.params) mg base CX0 17 fa fd ["script"] (sp_law (K w.params))) :
   PySem.W.WalkO q loose XP YP l.row.toRowW d [] (λf vs=>PySem.call f vs) :=
 L2.walk_of (n:=63) (k:=17) (x:="script") (CX:=λ_=>CX0) (sp:=λw=>sp_law (K w.params)) hn (by decide) hdf ⟨rfl,by decide,by decide⟩ hY F (λ_ _ a ns hl _ hS=>⟨a,ns,rfl,hS,hl,λ_=>rfl⟩) λ_ _ _ _ _ z=>z
end My
open PySem PySem.W PyProof.Rows
set_option maxRecDepth 100000 in
set_option maxHeartbeats 0 in
theorem PySem.Challenge.cw_askring_k19_yards_begin_holds : PySem.Challenge.rw_askring_k19_yards_begin.Holds := by
  w_on; o_law; k_head; (case hw => w_witness2)
  k_fill
  refine My.walk (l := PySem.Challenge.rw_askring_k19_yards_begin) rfl rfl (fun w h Y => PySem.W.kIn_of Y) ?F
  case F =>
    intro w mg fa h KX G hmg
    refine' My.all_mk KX G hmg ?aC_Ring ?aC_Hand ?aC_Heart ?aC_Store ?aC_Yard ?a_wall ?l_wall ?c_wall ?k_wall ?a_next_counter ?l_next_counter ?c_next_counter ?k_next_counter ?a_place_of ?l_place_of ?c_place_of ?k_place_of ?a_ahead_by ?l_ahead_by ?c_ahead_by ?k_ahead_by ?a_rounds_with ?l_rounds_with ?c_rounds_with ?k_rounds_with ?a_Ring__init ?i_Ring__init ?l_Ring__init ?c_Ring__init ?k_Ring__init ?a_Ring_filled ?i_Ring_filled ?l_Ring_filled ?c_Ring_filled ?k_Ring_filled ?a_Ring_is_full ?i_Ring_is_full ?l_Ring_is_full ?c_Ring_is_full ?k_Ring_is_full ?a_Ring_place_at ?i_Ring_place_at ?l_Ring_place_at ?c_Ring_place_at ?k_Ring_place_at ?a_Ring_write_further ?i_Ring_write_further ?l_Ring_write_further ?c_Ring_write_further ?k_Ring_write_further ?a_Ring_lay ?i_Ring_lay ?l_Ring_lay ?c_Ring_lay ?k_Ring_lay ?a_Ring_fetch ?i_Ring_fetch ?l_Ring_fetch ?c_Ring_fetch ?k_Ring_fetch ?a_Hand__init ?i_Hand__init ?l_Hand__init ?c_Hand__init ?k_Hand__init ?a_Hand_become ?i_Hand_become ?l_Hand_become ?c_Hand_become ?k_Hand_become ?a_Hand_least_free ?i_Hand_least_free ?l_Hand_least_free ?c_Hand_least_free ?k_Hand_least_free ?a_Hand_check_ask ?i_Hand_check_ask ?l_Hand_check_ask ?c_Hand_check_ask ?k_Hand_check_ask ?a_Hand_ask ?i_Hand_ask ?l_Hand_ask ?c_Hand_ask ?k_Hand_ask ?a_Hand_collect ?i_Hand_collect ?l_Hand_collect ?c_Hand_collect ?k_Hand_collect ?a_Hand_under_way ?i_Hand_under_way ?l_Hand_under_way ?c_Hand_under_way ?k_Hand_under_way ?a_Hand_something_waits ?i_Hand_something_waits ?l_Hand_something_waits ?c_Hand_something_waits ?k_Hand_something_waits ?a_Heart__init ?i_Heart__init ?l_Heart__init ?c_Heart__init ?k_Heart__init ?a_Heart_become ?i_Heart_become ?l_Heart_become ?c_Heart_become ?k_Heart_become ?a_Heart_take ?i_Heart_take ?l_Heart_take ?c_Heart_take ?k_Heart_take ?a_Heart_check_answer ?i_Heart_check_answer ?l_Heart_check_answer ?c_Heart_check_answer ?k_Heart_check_answer ?a_Heart_answer ?i_Heart_answer ?l_Heart_answer ?c_Heart_answer ?k_Heart_answer ?a_Heart_tasks ?i_Heart_tasks ?l_Heart_tasks ?c_Heart_tasks ?k_Heart_tasks ?a_Heart_something_waits ?i_Heart_something_waits ?l_Heart_something_waits ?c_Heart_something_waits ?k_Heart_something_waits ?a_Store__init ?i_Store__init ?l_Store__init ?c_Store__init ?k_Store__init ?a_Store_become ?i_Store_become ?l_Store_become ?c_Store_become ?k_Store_become ?a_Store_write ?i_Store_write ?l_Store_write ?c_Store_write ?k_Store_write ?a_Store_drain ?i_Store_drain ?l_Store_drain ?c_Store_drain ?k_Store_drain ?a_Store_fence ?i_Store_fence ?l_Store_fence ?c_Store_fence ?k_Store_fence ?a_Store_read ?i_Store_read ?l_Store_read ?c_Store_read ?k_Store_read ?a_Store_memory ?i_Store_memory ?l_Store_memory ?c_Store_memory ?k_Store_memory ?a_Store_waits ?i_Store_waits ?l_Store_waits ?c_Store_waits ?k_Store_waits ?a_Store_cells ?i_Store_cells ?l_Store_cells ?c_Store_cells ?k_Store_cells ?a_is_whole ?l_is_whole ?c_is_whole ?k_is_whole ?a_is_part ?l_is_part ?c_is_part ?k_is_part ?a_is_deed ?l_is_deed ?c_is_deed ?k_is_deed ?a_side_of ?l_side_of ?c_side_of ?k_side_of ?a_text_of ?l_text_of ?c_text_of ?k_text_of ?a_Yard__init ?i_Yard__init ?l_Yard__init ?c_Yard__init ?k_Yard__init ?a_Yard_deed ?i_Yard_deed ?l_Yard_deed ?c_Yard_deed ?k_Yard_deed ?a_Yard_can_be_done ?i_Yard_can_be_done ?l_Yard_can_be_done ?c_Yard_can_be_done ?k_Yard_can_be_done ?a_Yard_story ?i_Yard_story ?l_Yard_story ?c_Yard_story ?k_Yard_story ?a_Yard_state ?i_Yard_state ?l_Yard_state ?c_Yard_state ?k_Yard_state ?a_Yard_sleeper ?i_Yard_sleeper ?l_Yard_sleeper ?c_Yard_sleeper ?k_Yard_sleeper ?a_Yard_is_quiet ?i_Yard_is_quiet ?l_Yard_is_quiet ?c_Yard_is_quiet ?k_Yard_is_quiet ?a_Yard_made ?i_Yard_made ?l_Yard_made ?c_Yard_made ?k_Yard_made ?a_Yard_store ?i_Yard_store ?l_Yard_store ?c_Yard_store ?k_Yard_store ?a_Yard_twin ?i_Yard_twin ?l_Yard_twin ?c_Yard_twin ?k_Yard_twin ?a_Yard_become ?i_Yard_become ?l_Yard_become ?c_Yard_become ?k_Yard_become ?a_Yard_check ?i_Yard_check ?l_Yard_check ?c_Yard_check ?k_Yard_check ?a_Yard_is_allowed ?i_Yard_is_allowed ?l_Yard_is_allowed ?c_Yard_is_allowed ?k_Yard_is_allowed ?a_Yard_thinkable ?i_Yard_thinkable ?l_Yard_thinkable ?c_Yard_thinkable ?k_Yard_thinkable ?a_Yard_do_ask ?i_Yard_do_ask ?l_Yard_do_ask ?c_Yard_do_ask ?k_Yard_do_ask ?a_Yard_do_answer ?i_Yard_do_answer ?l_Yard_do_answer ?c_Yard_do_answer ?k_Yard_do_answer ?a_Yard_tell_fetched ?i_Yard_tell_fetched ?l_Yard_tell_fetched ?c_Yard_tell_fetched ?k_Yard_tell_fetched ?a_Yard_do_bell ?i_Yard_do_bell ?l_Yard_do_bell ?c_Yard_do_bell ?k_Yard_do_bell ?a_Yard_do_lie ?i_Yard_do_lie ?l_Yard_do_lie ?c_Yard_do_lie ?k_Yard_do_lie ?a_Yard_do_look ?i_Yard_do_look ?l_Yard_do_look ?c_Yard_do_look ?k_Yard_do_look ?a_Yard_something_waits ?i_Yard_something_waits ?l_Yard_something_waits ?c_Yard_something_waits ?k_Yard_something_waits ?a_law_cell_at ?l_law_cell_at ?c_law_cell_at ?k_law_cell_at ?a_law_make ?l_law_make ?c_law_make ?k_law_make ?a_law_same ?l_law_same ?c_law_same ?k_law_same ?a_law_worths ?l_law_worths ?c_law_worths ?k_law_worths ?a_law_can ?l_law_can ?c_law_can ?k_law_can ?a_law_told ?l_law_told ?c_law_told ?k_law_told ?a_law ?l_law ?c_law ?k_law ?pg_Ring ?hd_Ring ?po_Ring ?sa_Ring ?mk_Ring ?kc_Ring ?na_Ring_shelf ?na_Ring_side ?na_Ring_word ?na_Ring_laid ?na_Ring_fetched ?na_Ring_size ?na_Ring_rounds ?na_Ring_counter_first ?pg_Hand ?hd_Hand ?po_Hand ?sa_Hand ?mk_Hand ?kc_Hand ?na_Hand_asks ?na_Hand_answers ?na_Hand_names ?na_Hand_going ?pg_Heart ?hd_Heart ?po_Heart ?sa_Heart ?mk_Heart ?kc_Heart ?na_Heart_asks ?na_Heart_answers ?na_Heart_doing ?pg_Store ?hd_Store ?po_Store ?sa_Store ?mk_Store ?kc_Store ?na_Store_held ?na_Store_rows ?pg_Yard ?hd_Yard ?po_Yard ?sa_Yard ?mk_Yard ?kc_Yard ?na_Yard_size ?na_Yard_rounds ?na_Yard_faults ?na_Yard_shelf ?na_Yard_hand ?na_Yard_heart ?na_Yard_bell_fences ?na_Yard_lie_fences ?na_Yard_look_sees ?na_Yard_sleepers ?na_Yard_quiet ?na_Yard_happened ?n_all ?n_bool ?n_int ?n_isinstance ?n_len ?n_list ?n_range ?n_reversed ?n_sorted ?n_str ?n_tuple ?n_zip ?aX_RingError ?aX_Full ?aX_NoName ?aX_NoTask ?aX_NoDeed ?aT_ASKS ?kT_ASKS ?aT_ANSWERS ?kT_ANSWERS ?aT_SLEEP_CELLS ?kT_SLEEP_CELLS ?aI_MOST_WORTH ?aT_FORMS ?kT_FORMS ?kN_FORMS ?kV0_FORMS ?kV1_FORMS ?kV2_FORMS ?kV3_FORMS ?kV4_FORMS ?kV5_FORMS ?kV6_FORMS ?kV7_FORMS ?xc_Full ?xc_NoName ?xc_NoTask ?xc_NoDeed ?mo_em_f ?mo_em_n ?mo_em_t ?mo_ty_1 ?mo_ty_2 ?mo_ty_3 ?mo_ty_4 ?mo_ty_5 ?mo_em_d
    (case aC_Ring => k_is)
    (case aC_Hand => k_is)
    (case aC_Heart => k_is)
    (case aC_Store => k_is)
    (case aC_Yard => k_is)
    (case a_wall => k_is)
    (case l_wall => k_is)
    (case c_wall => k_is)
    (case k_wall => k_is)
    (case a_next_counter => k_is)
    (case l_next_counter => k_is)
    (case c_next_counter => k_is)
    (case k_next_counter => k_is)
    (case a_place_of => k_is)
    (case l_place_of => k_is)
    (case c_place_of => k_is)
    (case k_place_of => k_is)
    (case a_ahead_by => k_is)
    (case l_ahead_by => k_is)
    (case c_ahead_by => k_is)
    (case k_ahead_by => k_is)
    (case a_rounds_with => k_is)
    (case l_rounds_with => k_is)
    (case c_rounds_with => k_is)
    (case k_rounds_with => k_is)
    (case a_Ring__init => k_is)
    (case i_Ring__init => k_is)
    (case l_Ring__init => k_is)
    (case c_Ring__init => k_is)
    (case k_Ring__init => k_is)
    (case a_Ring_filled => k_is)
    (case i_Ring_filled => k_is)
    (case l_Ring_filled => k_is)
    (case c_Ring_filled => k_is)
    (case k_Ring_filled => k_is)
    (case a_Ring_is_full => k_is)
    (case i_Ring_is_full => k_is)
    (case l_Ring_is_full => k_is)
    (case c_Ring_is_full => k_is)
    (case k_Ring_is_full => k_is)
    (case a_Ring_place_at => k_is)
    (case i_Ring_place_at => k_is)
    (case l_Ring_place_at => k_is)
    (case c_Ring_place_at => k_is)
    (case k_Ring_place_at => k_is)
    (case a_Ring_write_further => k_is)
    (case i_Ring_write_further => k_is)
    (case l_Ring_write_further => k_is)
    (case c_Ring_write_further => k_is)
    (case k_Ring_write_further => k_is)
    (case a_Ring_lay => k_is)
    (case i_Ring_lay => k_is)
    (case l_Ring_lay => k_is)
    (case c_Ring_lay => k_is)
    (case k_Ring_lay => k_is)
    (case a_Ring_fetch => k_is)
    (case i_Ring_fetch => k_is)
    (case l_Ring_fetch => k_is)
    (case c_Ring_fetch => k_is)
    (case k_Ring_fetch => k_is)
    (case a_Hand__init => k_is)
    (case i_Hand__init => k_is)
    (case l_Hand__init => k_is)
    (case c_Hand__init => k_is)
    (case k_Hand__init => k_is)
    (case a_Hand_become => k_is)
    (case i_Hand_become => k_is)
    (case l_Hand_become => k_is)
    (case c_Hand_become => k_is)
    (case k_Hand_become => k_is)
    (case a_Hand_least_free => k_is)
    (case i_Hand_least_free => k_is)
    (case l_Hand_least_free => k_is)
    (case c_Hand_least_free => k_is)
    (case k_Hand_least_free => k_is)
    (case a_Hand_check_ask => k_is)
    (case i_Hand_check_ask => k_is)
    (case l_Hand_check_ask => k_is)
    (case c_Hand_check_ask => k_is)
    (case k_Hand_check_ask => k_is)
    (case a_Hand_ask => k_is)
    (case i_Hand_ask => k_is)
    (case l_Hand_ask => k_is)
    (case c_Hand_ask => k_is)
    (case k_Hand_ask => k_is)
    (case a_Hand_collect => k_is)
    (case i_Hand_collect => k_is)
    (case l_Hand_collect => k_is)
    (case c_Hand_collect => k_is)
    (case k_Hand_collect => k_is)
    (case a_Hand_under_way => k_is)
    (case i_Hand_under_way => k_is)
    (case l_Hand_under_way => k_is)
    (case c_Hand_under_way => k_is)
    (case k_Hand_under_way => k_is)
    (case a_Hand_something_waits => k_is)
    (case i_Hand_something_waits => k_is)
    (case l_Hand_something_waits => k_is)
    (case c_Hand_something_waits => k_is)
    (case k_Hand_something_waits => k_is)
    (case a_Heart__init => k_is)
    (case i_Heart__init => k_is)
    (case l_Heart__init => k_is)
    (case c_Heart__init => k_is)
    (case k_Heart__init => k_is)
    (case a_Heart_become => k_is)
    (case i_Heart_become => k_is)
    (case l_Heart_become => k_is)
    (case c_Heart_become => k_is)
    (case k_Heart_become => k_is)
    (case a_Heart_take => k_is)
    (case i_Heart_take => k_is)
    (case l_Heart_take => k_is)
    (case c_Heart_take => k_is)
    (case k_Heart_take => k_is)
    (case a_Heart_check_answer => k_is)
    (case i_Heart_check_answer => k_is)
    (case l_Heart_check_answer => k_is)
    (case c_Heart_check_answer => k_is)
    (case k_Heart_check_answer => k_is)
    (case a_Heart_answer => k_is)
    (case i_Heart_answer => k_is)
    (case l_Heart_answer => k_is)
    (case c_Heart_answer => k_is)
    (case k_Heart_answer => k_is)
    (case a_Heart_tasks => k_is)
    (case i_Heart_tasks => k_is)
    (case l_Heart_tasks => k_is)
    (case c_Heart_tasks => k_is)
    (case k_Heart_tasks => k_is)
    (case a_Heart_something_waits => k_is)
    (case i_Heart_something_waits => k_is)
    (case l_Heart_something_waits => k_is)
    (case c_Heart_something_waits => k_is)
    (case k_Heart_something_waits => k_is)
    (case a_Store__init => k_is)
    (case i_Store__init => k_is)
    (case l_Store__init => k_is)
    (case c_Store__init => k_is)
    (case k_Store__init => k_is)
    (case a_Store_become => k_is)
    (case i_Store_become => k_is)
    (case l_Store_become => k_is)
    (case c_Store_become => k_is)
    (case k_Store_become => k_is)
    (case a_Store_write => k_is)
    (case i_Store_write => k_is)
    (case l_Store_write => k_is)
    (case c_Store_write => k_is)
    (case k_Store_write => k_is)
    (case a_Store_drain => k_is)
    (case i_Store_drain => k_is)
    (case l_Store_drain => k_is)
    (case c_Store_drain => k_is)
    (case k_Store_drain => k_is)
    (case a_Store_fence => k_is)
    (case i_Store_fence => k_is)
    (case l_Store_fence => k_is)
    (case c_Store_fence => k_is)
    (case k_Store_fence => k_is)
    (case a_Store_read => k_is)
    (case i_Store_read => k_is)
    (case l_Store_read => k_is)
    (case c_Store_read => k_is)
    (case k_Store_read => k_is)
    (case a_Store_memory => k_is)
    (case i_Store_memory => k_is)
    (case l_Store_memory => k_is)
    (case c_Store_memory => k_is)
    (case k_Store_memory => k_is)
    (case a_Store_waits => k_is)
    (case i_Store_waits => k_is)
    (case l_Store_waits => k_is)
    (case c_Store_waits => k_is)
    (case k_Store_waits => k_is)
    (case a_Store_cells => k_is)
    (case i_Store_cells => k_is)
    (case l_Store_cells => k_is)
    (case c_Store_cells => k_is)
    (case k_Store_cells => k_is)
    (case a_is_whole => k_is)
    (case l_is_whole => k_is)
    (case c_is_whole => k_is)
    (case k_is_whole => k_is)
    (case a_is_part => k_is)
    (case l_is_part => k_is)
    (case c_is_part => k_is)
    (case k_is_part => k_is)
    (case a_is_deed => k_is)
    (case l_is_deed => k_is)
    (case c_is_deed => k_is)
    (case k_is_deed => k_is)
    (case a_side_of => k_is)
    (case l_side_of => k_is)
    (case c_side_of => k_is)
    (case k_side_of => k_is)
    (case a_text_of => k_is)
    (case l_text_of => k_is)
    (case c_text_of => k_is)
    (case k_text_of => k_is)
    (case a_Yard__init => k_is)
    (case i_Yard__init => k_is)
    (case l_Yard__init => k_is)
    (case c_Yard__init => k_is)
    (case k_Yard__init => k_is)
    (case a_Yard_deed => k_is)
    (case i_Yard_deed => k_is)
    (case l_Yard_deed => k_is)
    (case c_Yard_deed => k_is)
    (case k_Yard_deed => k_is)
    (case a_Yard_can_be_done => k_is)
    (case i_Yard_can_be_done => k_is)
    (case l_Yard_can_be_done => k_is)
    (case c_Yard_can_be_done => k_is)
    (case k_Yard_can_be_done => k_is)
    (case a_Yard_story => k_is)
    (case i_Yard_story => k_is)
    (case l_Yard_story => k_is)
    (case c_Yard_story => k_is)
    (case k_Yard_story => k_is)
    (case a_Yard_state => k_is)
    (case i_Yard_state => k_is)
    (case l_Yard_state => k_is)
    (case c_Yard_state => k_is)
    (case k_Yard_state => k_is)
    (case a_Yard_sleeper => k_is)
    (case i_Yard_sleeper => k_is)
    (case l_Yard_sleeper => k_is)
    (case c_Yard_sleeper => k_is)
    (case k_Yard_sleeper => k_is)
    (case a_Yard_is_quiet => k_is)
    (case i_Yard_is_quiet => k_is)
    (case l_Yard_is_quiet => k_is)
    (case c_Yard_is_quiet => k_is)
    (case k_Yard_is_quiet => k_is)
    (case a_Yard_made => k_is)
    (case i_Yard_made => k_is)
    (case l_Yard_made => k_is)
    (case c_Yard_made => k_is)
    (case k_Yard_made => k_is)
    (case a_Yard_store => k_is)
    (case i_Yard_store => k_is)
    (case l_Yard_store => k_is)
    (case c_Yard_store => k_is)
    (case k_Yard_store => k_is)
    (case a_Yard_twin => k_is)
    (case i_Yard_twin => k_is)
    (case l_Yard_twin => k_is)
    (case c_Yard_twin => k_is)
    (case k_Yard_twin => k_is)
    (case a_Yard_become => k_is)
    (case i_Yard_become => k_is)
    (case l_Yard_become => k_is)
    (case c_Yard_become => k_is)
    (case k_Yard_become => k_is)
    (case a_Yard_check => k_is)
    (case i_Yard_check => k_is)
    (case l_Yard_check => k_is)
    (case c_Yard_check => k_is)
    (case k_Yard_check => k_is)
    (case a_Yard_is_allowed => k_is)
    (case i_Yard_is_allowed => k_is)
    (case l_Yard_is_allowed => k_is)
    (case c_Yard_is_allowed => k_is)
    (case k_Yard_is_allowed => k_is)
    (case a_Yard_thinkable => k_is)
    (case i_Yard_thinkable => k_is)
    (case l_Yard_thinkable => k_is)
    (case c_Yard_thinkable => k_is)
    (case k_Yard_thinkable => k_is)
    (case a_Yard_do_ask => k_is)
    (case i_Yard_do_ask => k_is)
    (case l_Yard_do_ask => k_is)
    (case c_Yard_do_ask => k_is)
    (case k_Yard_do_ask => k_is)
    (case a_Yard_do_answer => k_is)
    (case i_Yard_do_answer => k_is)
    (case l_Yard_do_answer => k_is)
    (case c_Yard_do_answer => k_is)
    (case k_Yard_do_answer => k_is)
    (case a_Yard_tell_fetched => k_is)
    (case i_Yard_tell_fetched => k_is)
    (case l_Yard_tell_fetched => k_is)
    (case c_Yard_tell_fetched => k_is)
    (case k_Yard_tell_fetched => k_is)
    (case a_Yard_do_bell => k_is)
    (case i_Yard_do_bell => k_is)
    (case l_Yard_do_bell => k_is)
    (case c_Yard_do_bell => k_is)
    (case k_Yard_do_bell => k_is)
    (case a_Yard_do_lie => k_is)
    (case i_Yard_do_lie => k_is)
    (case l_Yard_do_lie => k_is)
    (case c_Yard_do_lie => k_is)
    (case k_Yard_do_lie => k_is)
    (case a_Yard_do_look => k_is)
    (case i_Yard_do_look => k_is)
    (case l_Yard_do_look => k_is)
    (case c_Yard_do_look => k_is)
    (case k_Yard_do_look => k_is)
    (case a_Yard_something_waits => k_is)
    (case i_Yard_something_waits => k_is)
    (case l_Yard_something_waits => k_is)
    (case c_Yard_something_waits => k_is)
    (case k_Yard_something_waits => k_is)
    (case a_law_cell_at => k_is)
    (case l_law_cell_at => k_is)
    (case c_law_cell_at => k_is)
    (case k_law_cell_at => k_is)
    (case a_law_make => k_is)
    (case l_law_make => k_is)
    (case c_law_make => k_is)
    (case k_law_make => k_is)
    (case a_law_same => k_is)
    (case l_law_same => k_is)
    (case c_law_same => k_is)
    (case k_law_same => k_is)
    (case a_law_worths => k_is)
    (case l_law_worths => k_is)
    (case c_law_worths => k_is)
    (case k_law_worths => k_is)
    (case a_law_can => k_is)
    (case l_law_can => k_is)
    (case c_law_can => k_is)
    (case k_law_can => k_is)
    (case a_law_told => k_is)
    (case l_law_told => k_is)
    (case c_law_told => k_is)
    (case k_law_told => k_is)
    (case a_law => k_is)
    (case l_law => k_is)
    (case c_law => k_is)
    (case k_law => k_is)
    (case pg_Ring => k_is)
    (case hd_Ring => k_is)
    (case po_Ring => k_is)
    (case sa_Ring => k_is)
    (case mk_Ring => k_is)
    (case kc_Ring => k_is)
    (case na_Ring_shelf => k_is)
    (case na_Ring_side => k_is)
    (case na_Ring_word => k_is)
    (case na_Ring_laid => k_is)
    (case na_Ring_fetched => k_is)
    (case na_Ring_size => k_is)
    (case na_Ring_rounds => k_is)
    (case na_Ring_counter_first => k_is)
    (case pg_Hand => k_is)
    (case hd_Hand => k_is)
    (case po_Hand => k_is)
    (case sa_Hand => k_is)
    (case mk_Hand => k_is)
    (case kc_Hand => k_is)
    (case na_Hand_asks => k_is)
    (case na_Hand_answers => k_is)
    (case na_Hand_names => k_is)
    (case na_Hand_going => k_is)
    (case pg_Heart => k_is)
    (case hd_Heart => k_is)
    (case po_Heart => k_is)
    (case sa_Heart => k_is)
    (case mk_Heart => k_is)
    (case kc_Heart => k_is)
    (case na_Heart_asks => k_is)
    (case na_Heart_answers => k_is)
    (case na_Heart_doing => k_is)
    (case pg_Store => k_is)
    (case hd_Store => k_is)
    (case po_Store => k_is)
    (case sa_Store => k_is)
    (case mk_Store => k_is)
    (case kc_Store => k_is)
    (case na_Store_held => k_is)
    (case na_Store_rows => k_is)
    (case pg_Yard => k_is)
    (case hd_Yard => k_is)
    (case po_Yard => k_is)
    (case sa_Yard => k_is)
    (case mk_Yard => k_is)
    (case kc_Yard => k_is)
    (case na_Yard_size => k_is)
    (case na_Yard_rounds => k_is)
    (case na_Yard_faults => k_is)
    (case na_Yard_shelf => k_is)
    (case na_Yard_hand => k_is)
    (case na_Yard_heart => k_is)
    (case na_Yard_bell_fences => k_is)
    (case na_Yard_lie_fences => k_is)
    (case na_Yard_look_sees => k_is)
    (case na_Yard_sleepers => k_is)
    (case na_Yard_quiet => k_is)
    (case na_Yard_happened => k_is)
    (case n_all => k_is)
    (case n_bool => k_is)
    (case n_int => k_is)
    (case n_isinstance => k_is)
    (case n_len => k_is)
    (case n_list => k_is)
    (case n_range => k_is)
    (case n_reversed => k_is)
    (case n_sorted => k_is)
    (case n_str => k_is)
    (case n_tuple => k_is)
    (case n_zip => k_is)
    (case aX_RingError => k_is)
    (case aX_Full => k_is)
    (case aX_NoName => k_is)
    (case aX_NoTask => k_is)
    (case aX_NoDeed => k_is)
    (case aT_ASKS => k_is)
    (case kT_ASKS => k_is)
    (case aT_ANSWERS => k_is)
    (case kT_ANSWERS => k_is)
    (case aT_SLEEP_CELLS => k_is)
    (case kT_SLEEP_CELLS => k_is)
    (case aI_MOST_WORTH => k_is)
    (case aT_FORMS => k_is)
    (case kT_FORMS => k_is)
    (case kN_FORMS => first | rfl | decide)
    (case kV0_FORMS => k_is)
    (case kV1_FORMS => k_is)
    (case kV2_FORMS => k_is)
    (case kV3_FORMS => k_is)
    (case kV4_FORMS => k_is)
    (case kV5_FORMS => k_is)
    (case kV6_FORMS => k_is)
    (case kV7_FORMS => k_is)
    (case xc_Full => k_exc)
    (case xc_NoName => k_exc)
    (case xc_NoTask => k_exc)
    (case xc_NoDeed => k_exc)
    (case mo_em_f => kts_exm)
    (case mo_em_n => kts_exm)
    (case mo_em_t => kts_exm)
    (case mo_ty_1 => k_is)
    (case mo_ty_2 => k_is)
    (case mo_ty_3 => k_is)
    (case mo_ty_4 => k_is)
    (case mo_ty_5 => kit_is)
    (case mo_em_d => kts_exm)
#print axioms PySem.Challenge.cw_askring_k19_yards_begin_holds

