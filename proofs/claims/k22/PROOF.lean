import PyProof.Rows.All
import Wide.All
import OpenK.AllK
import Wide.FinOn
import Lean
import PyProof.EqAt
import PyProof.EqKinds
import PyProof.TupleCall
import PyProof.NeData
import PyProof.DictRoadsH
import Wide.Seal
import PyProof.CompMap
import PyProof.DictIter
import PyProof.DictWalks
import PyProof.P3In
import OpenK.KOwn
import KE.KTryMore
import PyProof.RulesAs
import PyProof.ExcArgs
import PyProof.NsDelKeeps
import KE.KIsAll
import OpenK.KDescr
import PyProof.CompUse
import PyProof.ZipIter
import PyProof.TupleIter
import KE.KRevSl
import PyProof.Rows.SortWalk
import PyProof.MeetsSeq
import KE.KDictSum
import PyProof.ListRange
import KE.KSortKey
import PyProof.Rows.SortStr
import PyProof.Rows.CallKwBuiltin
import KE.KTab
import PyProof.ConsumeWalk
import PyProof.Comp
import PyProof.ForAny
import PyProof.Rows.StrJoin2
import PyProof.CallStr
import KE.KSortTup
import PySem.Challenge.RW_askring_k22_no_deeds
def PySem.W.Fast.tw10025550330983054821 : Nat := 0
def PySem.W.Fast.tw10060584455276580766 : Nat := 0
def PySem.W.Fast.tw10220301920407770543 : Nat := 0
def PySem.W.Fast.tw10268837817914769496 : Nat := 0
def PySem.W.Fast.tw10310534076795437259 : Nat := 0
def PySem.W.Fast.tw10547451708641897299 : Nat := 0
def PySem.W.Fast.tw10656867323827594447 : Nat := 0
def PySem.W.Fast.tw10904245473661624030 : Nat := 0
def PySem.W.Fast.tw10929569737073613154 : Nat := 0
def PySem.W.Fast.tw1093337657365560463 : Nat := 0
def PySem.W.Fast.tw1094100190453429545 : Nat := 0
def PySem.W.Fast.tw10951692154362545689 : Nat := 0
def PySem.W.Fast.tw11172566021026227994 : Nat := 0
def PySem.W.Fast.tw11209446347186371276 : Nat := 0
def PySem.W.Fast.tw11332574821634266842 : Nat := 0
def PySem.W.Fast.tw11410379949529403272 : Nat := 0
def PySem.W.Fast.tw11466005157173294922 : Nat := 0
def PySem.W.Fast.tw11599657842363282865 : Nat := 0
def PySem.W.Fast.tw11658113276122959178 : Nat := 0
def PySem.W.Fast.tw11787367791634513614 : Nat := 0
def PySem.W.Fast.tw11934508994365339680 : Nat := 0
def PySem.W.Fast.tw11943022592553587567 : Nat := 0
def PySem.W.Fast.tw1215287594642364244 : Nat := 0
def PySem.W.Fast.tw12160255828665212153 : Nat := 0
def PySem.W.Fast.tw12230770884001461557 : Nat := 0
def PySem.W.Fast.tw12282258909169072808 : Nat := 0
def PySem.W.Fast.tw12287612770381830830 : Nat := 0
def PySem.W.Fast.tw12326640509798670862 : Nat := 0
def PySem.W.Fast.tw12485257099870599386 : Nat := 0
def PySem.W.Fast.tw12571740035056264379 : Nat := 0
def PySem.W.Fast.tw12734837029114935206 : Nat := 0
def PySem.W.Fast.tw12779705017411205258 : Nat := 0
def PySem.W.Fast.tw12803313085587768677 : Nat := 0
def PySem.W.Fast.tw13039781939774468787 : Nat := 0
def PySem.W.Fast.tw13082773759115936055 : Nat := 0
def PySem.W.Fast.tw13099954838486993831 : Nat := 0
def PySem.W.Fast.tw13131356055350552393 : Nat := 0
def PySem.W.Fast.tw13147026747117480901 : Nat := 0
def PySem.W.Fast.tw13166112035274588118 : Nat := 0
def PySem.W.Fast.tw13348708261736441371 : Nat := 0
def PySem.W.Fast.tw13388825546692470392 : Nat := 0
def PySem.W.Fast.tw13555830153027574825 : Nat := 0
def PySem.W.Fast.tw13564515730079392859 : Nat := 0
def PySem.W.Fast.tw13572711503188205363 : Nat := 0
def PySem.W.Fast.tw13613588905309509797 : Nat := 0
def PySem.W.Fast.tw13742782200321143051 : Nat := 0
def PySem.W.Fast.tw13811999195220813443 : Nat := 0
def PySem.W.Fast.tw1389174407867002659 : Nat := 0
def PySem.W.Fast.tw13894122208877438401 : Nat := 0
def PySem.W.Fast.tw13942583913262737545 : Nat := 0
def PySem.W.Fast.tw14111268075973246120 : Nat := 0
def PySem.W.Fast.tw14150006756283474532 : Nat := 0
def PySem.W.Fast.tw14193043919406375712 : Nat := 0
def PySem.W.Fast.tw14313338580002825570 : Nat := 0
def PySem.W.Fast.tw14392352135534773713 : Nat := 0
def PySem.W.Fast.tw14464331576801707658 : Nat := 0
def PySem.W.Fast.tw14595667338939606273 : Nat := 0
def PySem.W.Fast.tw14687652026008264390 : Nat := 0
def PySem.W.Fast.tw14696992617978563551 : Nat := 0
def PySem.W.Fast.tw14757262638557470730 : Nat := 0
def PySem.W.Fast.tw14862990479977802900 : Nat := 0
def PySem.W.Fast.tw15114464606869594395 : Nat := 0
def PySem.W.Fast.tw15143917331493648668 : Nat := 0
def PySem.W.Fast.tw15327829063296471189 : Nat := 0
def PySem.W.Fast.tw15515758012734382833 : Nat := 0
def PySem.W.Fast.tw15594707071176633377 : Nat := 0
def PySem.W.Fast.tw15712776202000273338 : Nat := 0
def PySem.W.Fast.tw15753549722159865120 : Nat := 0
def PySem.W.Fast.tw15819380630787918979 : Nat := 0
def PySem.W.Fast.tw15908169044968187641 : Nat := 0
def PySem.W.Fast.tw16077066387459475116 : Nat := 0
def PySem.W.Fast.tw16127191209476957210 : Nat := 0
def PySem.W.Fast.tw16247376894786333007 : Nat := 0
def PySem.W.Fast.tw1641563755715990110 : Nat := 0
def PySem.W.Fast.tw16445025886018941423 : Nat := 0
def PySem.W.Fast.tw16657636464333444322 : Nat := 0
def PySem.W.Fast.tw16833870765816466468 : Nat := 0
def PySem.W.Fast.tw16872176347864398195 : Nat := 0
def PySem.W.Fast.tw1699570781560603551 : Nat := 0
def PySem.W.Fast.tw17036425077166646257 : Nat := 0
def PySem.W.Fast.tw17051459970304392469 : Nat := 0
def PySem.W.Fast.tw17157890612640635790 : Nat := 0
def PySem.W.Fast.tw17165067468767458584 : Nat := 0
def PySem.W.Fast.tw17294089732761970559 : Nat := 0
def PySem.W.Fast.tw17339496368000698685 : Nat := 0
def PySem.W.Fast.tw17378222150212127486 : Nat := 0
def PySem.W.Fast.tw17425029110353001603 : Nat := 0
def PySem.W.Fast.tw17702288406977320698 : Nat := 0
def PySem.W.Fast.tw17737644485380493465 : Nat := 0
def PySem.W.Fast.tw1792047730948483259 : Nat := 0
def PySem.W.Fast.tw17927174221321561837 : Nat := 0
def PySem.W.Fast.tw18168601011632289871 : Nat := 0
def PySem.W.Fast.tw18235950761765918785 : Nat := 0
def PySem.W.Fast.tw18318147707117185773 : Nat := 0
def PySem.W.Fast.tw18437512046775451000 : Nat := 0
def PySem.W.Fast.tw1844294564895806636 : Nat := 0
def PySem.W.Fast.tw1935783266531740922 : Nat := 0
def PySem.W.Fast.tw194882508650541910 : Nat := 0
def PySem.W.Fast.tw196281545211083675 : Nat := 0
def PySem.W.Fast.tw2096896678032952681 : Nat := 0
def PySem.W.Fast.tw2116037777712691593 : Nat := 0
def PySem.W.Fast.tw2168221127946604896 : Nat := 0
def PySem.W.Fast.tw2351112957389745358 : Nat := 0
def PySem.W.Fast.tw249450260006652574 : Nat := 0
def PySem.W.Fast.tw2496432143118259462 : Nat := 0
def PySem.W.Fast.tw2516218536538146526 : Nat := 0
def PySem.W.Fast.tw2581456561877863615 : Nat := 0
def PySem.W.Fast.tw2920241195768492665 : Nat := 0
def PySem.W.Fast.tw3158732188839477313 : Nat := 0
def PySem.W.Fast.tw3160791219422655940 : Nat := 0
def PySem.W.Fast.tw3166598979765983444 : Nat := 0
def PySem.W.Fast.tw3374862699425543059 : Nat := 0
def PySem.W.Fast.tw3589775630152471288 : Nat := 0
def PySem.W.Fast.tw3878785326998055812 : Nat := 0
def PySem.W.Fast.tw3972322890396242497 : Nat := 0
def PySem.W.Fast.tw4145049872406667473 : Nat := 0
def PySem.W.Fast.tw4198245323243303594 : Nat := 0
def PySem.W.Fast.tw4208212087322207341 : Nat := 0
def PySem.W.Fast.tw4210143529316355675 : Nat := 0
def PySem.W.Fast.tw4215115751999094210 : Nat := 0
def PySem.W.Fast.tw4256667578309299277 : Nat := 0
def PySem.W.Fast.tw4352278733061581167 : Nat := 0
def PySem.W.Fast.tw4465431516340229308 : Nat := 0
def PySem.W.Fast.tw4804002083226354287 : Nat := 0
def PySem.W.Fast.tw4853596543596743811 : Nat := 0
def PySem.W.Fast.tw5155187880953101266 : Nat := 0
def PySem.W.Fast.tw5388603183689972592 : Nat := 0
def PySem.W.Fast.tw5636921060229665396 : Nat := 0
def PySem.W.Fast.tw5749104035172529265 : Nat := 0
def PySem.W.Fast.tw5776046425179515750 : Nat := 0
def PySem.W.Fast.tw5798500817428021273 : Nat := 0
def PySem.W.Fast.tw5946133061375024862 : Nat := 0
def PySem.W.Fast.tw6031009267473285379 : Nat := 0
def PySem.W.Fast.tw6047206407189042554 : Nat := 0
def PySem.W.Fast.tw6295857068513487436 : Nat := 0
def PySem.W.Fast.tw6464901107031205664 : Nat := 0
def PySem.W.Fast.tw6582463350891833960 : Nat := 0
def PySem.W.Fast.tw6591630203918805825 : Nat := 0
def PySem.W.Fast.tw666927384832205327 : Nat := 0
def PySem.W.Fast.tw6683558347283442905 : Nat := 0
def PySem.W.Fast.tw6741198083201705089 : Nat := 0
def PySem.W.Fast.tw6787134960550857697 : Nat := 0
def PySem.W.Fast.tw7003498594724269088 : Nat := 0
def PySem.W.Fast.tw706179151775623437 : Nat := 0
def PySem.W.Fast.tw7132845725470427332 : Nat := 0
def PySem.W.Fast.tw7334127645343888504 : Nat := 0
def PySem.W.Fast.tw7360946774415968036 : Nat := 0
def PySem.W.Fast.tw7378466219754063733 : Nat := 0
def PySem.W.Fast.tw7737147357701697001 : Nat := 0
def PySem.W.Fast.tw7793129026993454912 : Nat := 0
def PySem.W.Fast.tw8156536868916166010 : Nat := 0
def PySem.W.Fast.tw8383690873436703855 : Nat := 0
def PySem.W.Fast.tw8451643853227708117 : Nat := 0
def PySem.W.Fast.tw8591223301038544175 : Nat := 0
def PySem.W.Fast.tw8593177271692688945 : Nat := 0
def PySem.W.Fast.tw8771781052459032829 : Nat := 0
def PySem.W.Fast.tw8845140800241512175 : Nat := 0
def PySem.W.Fast.tw9044953805221195733 : Nat := 0
def PySem.W.Fast.tw9046804693947719193 : Nat := 0
def PySem.W.Fast.tw9077457236630550912 : Nat := 0
def PySem.W.Fast.tw908203839779857262 : Nat := 0
def PySem.W.Fast.tw9164658483539168108 : Nat := 0
def PySem.W.Fast.tw9514818032391824228 : Nat := 0
def PySem.W.Fast.tw9558982938318539415 : Nat := 0
def PySem.W.Fast.tw9624246432787935048 : Nat := 0
def PySem.W.Fast.tw9840883233609611739 : Nat := 0
def PySem.W.Fast.tw9867579611464461555 : Nat := 0
def PySem.W.Fast.tw9868971194707398226 : Nat := 0
open PySem.W (InitBack InstAt any_some bind_fn callWith_K callWith_K0 cellsFrom_some codeIn codeRec_of emptyDict eq_bytes excIn exmOne exm_one findObj_own fnOf funFrames_hide get_value handedIn hasDictIn hideAll hideAll_get hideAll_none hideAll_size instObj isFn isNs_of_in kdl_dict kdu_collect keepIn ki_setAt ki_setBack kia_one kia_tup kitAny kitOne kitx_bool kitx_dict kitx_float kitx_int kitx_list kitx_none kitx_own kitx_str kitx_tuple lookIn looks_clsIn make_core makesIn makes_of methodCall_KW methodObj method_fn mg_none_of mg_of ne_bytes nsIn nsMap_none_of_in of_hideAll osa_open plainGet plainGet_of plainOver set_plain specialIn tail_of_in takerIn takesIn truthy_bytes typeIn)
set_option Elab.async false
set_option linter.all false
set_option maxRecDepth 100000
namespace L2
open PySem PySem.Spec PyProof.Rows
abbrev Key:=Sum Int Str
def m5:Key->Value->Bool
|.inl k,v=>Value.isInt k v
|.inr x,v=>Value.isStrOf x v
def FS (w:World):Key->Int
|.inl k=>hashInt k
|.inr x=>hashStr w x
theorem bb:∀ {k:Key}{v:Value},m5 k v=true->(∃ i t,k=Sum.inl i/\v=Value.int i t)\/(∃ x t,k=Sum.inr x/\v=Value.str x t)
|.inl i,v,h=>by
  obtain⟨t,e⟩:=Value.isInt_shape (k:=i) (v:=v) h
  exact .inl ⟨i,t,rfl,e⟩
|.inr x,v,h=>by
  obtain⟨t,e⟩:=Value.isStrOf_shape (x:=x) (v:=v) h
  exact .inr ⟨x,t,rfl,e⟩
theorem xS (i:Int) (t:Tok):m5 (.inl i) (.int i t)=true:=by simp[m5,Value.isInt]
theorem xB (x:Str) (t:Tok):m5 (.inr x) (.str x t)=true:=by simp[m5,Value.isStrOf]
theorem Eb (a b:Int):decide ((Sum.inl a:Key)=Sum.inl b)=(a == b):=by
 by_cases e:a=b
 . subst e;simp
 . have h:¬ (Sum.inl a:Key)=Sum.inl b:=λq=>e (Sum.inl.inj q)
   rw[decide_eq_false h]
   exact(beq_eq_false_iff_ne.mpr e).symm
theorem DQ (a b:Str):decide ((Sum.inr a:Key)=Sum.inr b)=decide (a=b):=by
 by_cases e:a=b
 . subst e;simp
 . have h:¬ (Sum.inr a:Key)=Sum.inr b:=λq=>e (Sum.inr.inj q)
   rw[decide_eq_false h,decide_eq_false e]
theorem DJ (a:Int) (b:Str):decide ((Sum.inl a:Key)=Sum.inr b)=false:=decide_eq_false (λq=>nomatch q)
theorem Ej (a:Str) (b:Int):decide ((Sum.inr a:Key)=Sum.inl b)=false:=decide_eq_false (λq=>nomatch q)
def bq (prog:Program) (w:World):PySem.KeyKind prog w Key where
 is:=m5
 hash:=FS w
 inj:=λv a b ha hb=>by
  rcases bb ha with⟨i,t,rfl,rfl⟩|⟨x,t,rfl,rfl⟩
  . rcases bb hb with⟨j,u,rfl,e⟩|⟨y,u,rfl,e⟩
    . injection e with e1 _;rw[e1]
    . exact nomatch e
  . rcases bb hb with⟨j,u,rfl,e⟩|⟨y,u,rfl,e⟩
    . exact nomatch e
    . injection e with e1 _;rw[e1]
 byValue:=λk v h=>by
  rcases bb h with⟨i,t,rfl,rfl⟩|⟨x,t,rfl,rfl⟩<;>rfl
 pyHash:=λhv h=>by
  rcases bb hv with⟨i,t,rfl,rfl⟩|⟨x,t,rfl,rfl⟩
  . exact wpAny_pyHash_int h
  . exact wpAny_pyHash_str h
 eqBool:=λhu hv h=>by
  rcases bb hu with⟨i,t,rfl,rfl⟩|⟨x,t,rfl,rfl⟩
  . rcases bb hv with⟨j,u,rfl,rfl⟩|⟨y,u,rfl,rfl⟩
    . rw[Eb]at h;exact wpAny_eqBool_int h
    . rw[DJ]at h;exact SeqAt.EqAt.int_str i t y u _ _ _ _ h
  . rcases bb hv with⟨j,u,rfl,rfl⟩|⟨y,u,rfl,rfl⟩
    . rw[Ej]at h;exact SeqAt.EqAt.str_int x t j u _ _ _ _ h
    . rw[DQ]at h;exact wpAny_eqBool_str h
 «strs»:=λk x t v h=>by
  rcases bb h with⟨i,u,rfl,e⟩|⟨y,u,rfl,e⟩
  . exact nomatch e
  . injection e with e1 _
    subst e1
    cases v<;>rfl
theorem tQ (prog:Program) (w:World) (i:Int) (t:Tok):(bq prog w).is (.inl i) (.int i t)=true:=xS i t
theorem uo (prog:Program) (w:World) (x:Str) (t:Tok):(bq prog w).is (.inr x) (.str x t)=true:=xB x t
end L2
namespace L2
open PySem PySem.Spec PyProof.Rows
inductive V where
|non|bl (b:Bool)|int (i:Int)|str (x:Str)|byt (b:Array UInt8)|flt (b:UInt64)|ref (a:Addr)|ty (n:String)
 deriving DecidableEq
def bT:V->Value->Prop
|.non,u=>u=Value.none
|.bl b,u=>u=Value.bool b
|.int i,u=>∃ t,u=Value.int i t
|.str x,u=>∃ t,u=Value.str x t
|.byt b,u=>∃ t,u=Value.bytes b t
|.flt b,u=>∃ t,u=Value.float b t
|.ref a,u=>u=Value.ref a
|.ty n,u=>u=Value.type n
abbrev bC:List V->List Value->Prop:=Paired bT
theorem bC.length {xs:List V}{us:List Value}(r:bC xs us):xs.length=us.length:=Paired.length r
theorem bC.get:∀ {xs:List V}{us:List Value}{i:Nat}{x:V},bC xs us->xs[i]?=some x->∃ u,us[i]?=some u/\bT x u
|_,_,_,_,.nil,e=>by simp at e
|_,_,0,_,.cons r _,e=>by simp at e;subst e;exact⟨_,rfl,r⟩
|_,_,i+1,x,.cons _ t,e=>by
  obtain⟨u,h1,h2⟩:=bC.get (i:=i) (x:=x) t (by simpa using e)
  exact⟨u,by simpa using h1,h2⟩
theorem bC.set {x:V}{u:Value}(r:bT x u):∀ {xs:List V}{us:List Value}(i:Nat),bC xs us->bC (xs.set i x) (us.set i u)
|_,_,_,.nil=>.nil
|_,_,0,.cons _ t=>.cons r t
|_,_,i+1,.cons q t=>.cons q (bC.set r i t)
theorem bC.append:∀ {xs ys:List V}{us ws:List Value},bC xs us->bC ys ws->bC (xs++ys) (us++ws)
|_,_,_,_,.nil,s=>s
|_,_,_,_,.cons r t,s=>.cons r (bC.append t s)
theorem bC.take:∀ {xs:List V}{us:List Value}(n:Nat),bC xs us->bC (xs.take n) (us.take n)
|_,_,0,_=>.nil
|_,_,_+1,.nil=>.nil
|_,_,n+1,.cons r t=>.cons r (bC.take n t)
theorem bC.drop:∀ {xs:List V}{us:List Value}(n:Nat),bC xs us->bC (xs.drop n) (us.drop n)
|_,_,0,r=>r
|_,_,_+1,.nil=>.nil
|_,_,n+1,.cons _ t=>bC.drop n t
def tq:Option V->Option Value->Prop
|some v,some u=>bT v u
|none,none=>True
|_,_=>False
def KV {κ:Type}:List (κ × V)->List (κ × Value)->Prop:=Paired λ(p:κ × V) (q:κ × Value)=>p.1=q.1/\bT p.2 q.2
def kV:Key->V
|.inl i=>.int i
|.inr x=>.str x
inductive HO where
 /-- a list -/
|lst (xs:List V)
 /-- a tuple (never changes) -/
|tup (xs:List V)
 /-- a dict whose keys are ints and texts;one whose keys are tuples of ints and texts (the empty one is both) -/
|dK (kvs:List (Key × V))|dT (kvs:List (List Key × V))
 /-- a set of ints: its members,its size -/
|set (S:Int->Bool) (n:Nat)
 /-- an instance of the class at C,its dict at dx,its attributes -/
|ins (C dx:Addr) (fs:List (Str × V))
 /-- the dict of the instance at x -/
|own (x:Addr)
 /-- the dict of an exception -/
|xd (fs:List (Str × V))
 /-- a bound method,f of x -/
|met (f x:Addr)
 /-- a range object lo,lo+1,.. below hi -/
|rng (lo hi:Int)
 /-- a thing that is known to the object (the script;a dict while a loop walks it): read,never written while it is so -/
|frz (o:Obj) (u:HO)
 /-- a code object's table -/
|tbl (ps:Array Value)
 /-- any other thing,by what is true of its one object (a def of one's own: SetO a S n:=HO.ext λh=>..) -/
|ext (φ:Heap->Prop)
abbrev Hp:=Addr->Option HO
def upd (H:Hp) (a:Addr) (o:HO):Hp:=λb=>if b=a then some o else H b
theorem a8 {H:Hp}{a:Addr}{o:HO}:upd H a o a=some o:=by unfold upd;rw[if_pos rfl]
theorem ag {H:Hp}{a b:Addr}{o:HO}(h:b≠a):upd H a o b=H b:=by unfold upd;rw[if_neg h]
theorem cX {H:Hp}{a:Addr}{o u:HO}:upd (upd H a o) a u=upd H a u:=by
 funext b;unfold upd;split<;>rfl
theorem hZ {H:Hp}{a b:Addr}{o u:HO}(h:H a=some o) (h':H b=some u) (d:o≠u):a≠b:=by
 intro e;subst e;rw[h]at h';exact d (Option.some.inj h')
theorem aj {H:Hp}{a b:Addr}{o:HO}(h:H a=some o) (h':H b=none):a≠b:=by
 intro e;subst e;rw[h]at h';cases h'
section
variable (P:Program) (w:World)
def cp (H:Hp) (h:Heap) (a:Addr):HO->Prop
|.lst xs=>xs.length <= sizeLine/\∃ (its:List Value) (n:Nat),bC xs its/\h.get? a=some { cls:=.type "list",data:=.seq its.toArray n }
|.tup xs=>xs.length <= sizeLine/\∃ its:List Value,bC xs its/\IsTup h a its.toArray
|.dK kvs=>kvs.length <= sizeLine/\(a == sysModules)=false/\∃ vs,KV kvs vs/\h.DictOf (bq P w) a vs
|.dT kvs=>kvs.length <= sizeLine/\(a == sysModules)=false/\∃ xs:List (List Key × Addr × Value),
  Paired (λ(p:List Key × V) (q:List Key × Addr × Value)=>p.1=q.1/\H q.2.1=some (.tup (p.1.map kV))/\bT p.2 q.2.2) kvs xs /\
  ∃ o es ep,h.get? a=some o/\o.ExactDict/\o.data=.dict es ep/\es.toList=xs.map (entryOfKey (tupleKind (bq P w)))/\(xs.map (·.1)).Nodup
|.set S n=>h.SetOf (intKind P w) a S n
|.ins C dx fs=>H dx=some (.own a)/\fs.length <= 1000/\dx≠a/\h.get? a=some (instObj C dx) /\
  ∃ mA,h.Ns1 dx mA/\(∀ f,tq (fs.lookup f) (mA f))/\PySem.Within mA (fs.map (·.1))
|.own _=>∃ o,h.get? a=some o
|.xd fs=>∃ mA,h.Ns1 a mA/\∀ f,tq (fs.lookup f) (mA f)
|.rng lo hi=>∃ t u v,h.get? a=some { cls:=.type "range",data:=.fields #[.int lo t,.int hi u,.int 1 v] }
|.frz o u=>h.get? a=some o/\cp H h a u
|.tbl ps=>h.get? a=some { cls:=.none,data:=.fields ps }
|.met f x=>h.get? a=some (methodObj (.ref f) (.ref x))
|.ext φ=>φ h/\(∃ o,h.get? a=some o)/\∀ h1 h2:Heap,φ h1->(∀ o,h1.get? a=some o->h2.get? a=some o)->φ h2
def HOk (H:Hp) (h:Heap):Prop:=∀ a o,H a=some o->cp P w H h a o
end
section
variable {P:Program}{w:World}{H H':Hp}{h h':Heap}{a:Addr}{o:HO}
theorem cp.lt (x:cp P w H h a o):a < h.objs.size:=by
 cases o with
|lst xs=>obtain⟨_,_,_,_,e⟩:=x;exact Heap.lt_size e
|tup xs=>obtain⟨_,_,_,p⟩:=x;exact p.lt
|dK kvs=>obtain⟨_,_,_,_,o,_,_,e,_⟩:=x;exact Heap.lt_size e
|dT kvs=>obtain⟨_,_,_,_,o,_,_,e,_⟩:=x;exact Heap.lt_size e
|set S n=>obtain⟨o,_,_,_,e,_⟩:=x;exact Heap.lt_size e
|ins C dx fs=>obtain⟨_,_,_,e,_⟩:=x;exact Heap.lt_size e
|own y=>obtain⟨_,e⟩:=x;exact Heap.lt_size e
|xd fs=>obtain⟨_,⟨_,_,_,e,_⟩,_⟩:=x;exact Heap.lt_size e
|rng lo hi=>obtain⟨_,_,_,e⟩:=x;exact Heap.lt_size e
|frz ob u=>obtain⟨e,_⟩:=x;exact Heap.lt_size e
|tbl ps=>exact Heap.lt_size (show h.get? a=some _ from x)
|met f y=>exact Heap.lt_size (show h.get? a=some _ from x)
|ext φ=>obtain⟨_,⟨_,e⟩,_⟩:=x;exact Heap.lt_size e
theorem Paired.mapP {α β:Type}{F G:α->β->Prop}:∀ {l₁:List α}{l₂:List β},Paired F l₁ l₂->(∀ a b,F a b->G a b)->Paired G l₁ l₂
|_,_,.nil,_=>.nil
|_,_,.cons r t,f=>.cons (f _ _ r) (Paired.mapP t f)
theorem cp.stay (x:cp P w H h a o) (k:∀ b u,(b=a\/H b=some (.own a))->h.get? b=some u->h'.get? b=some u)
 (ho:∀ b,H b=some (.own a)->H' b=some (.own a)) (ht:∀ b xs,H b=some (.tup xs)->H' b=some (.tup xs)):cp P w H' h' a o:=by
 induction o with
|lst xs=>obtain⟨z,its,n,r,e⟩:=x;exact⟨z,its,n,r,k _ _ (.inl rfl) e⟩
|tup xs=>obtain⟨z,its,r,ob,e,c⟩:=x;exact⟨z,its,r,ob,k _ _ (.inl rfl) e,c⟩
|dK kvs=>obtain⟨z,y,vs,r,ob,es,ep,e,c⟩:=x;exact⟨z,y,vs,r,ob,es,ep,k _ _ (.inl rfl) e,c⟩
|dT kvs =>
  obtain⟨z,y,xs,r,ob,es,ep,e,c⟩:=x
  exact⟨z,y,xs,Paired.mapP r λp q z=>⟨z.1,ht _ _ z.2.1,z.2.2⟩,ob,es,ep,k _ _ (.inl rfl) e,c⟩
|set S n=>obtain⟨ob,es,ep,t,e,c⟩:=x;exact⟨ob,es,ep,t,k _ _ (.inl rfl) e,c⟩
|ins C dx fs =>
  obtain⟨d,z,ne,e,mA,⟨od,es,ep,e2,c⟩,r⟩:=x
  exact⟨ho _ d,z,ne,k _ _ (.inl rfl) e,mA,⟨od,es,ep,k _ _ (.inr d) e2,c⟩,r⟩
|own y=>obtain⟨ob,e⟩:=x;exact⟨ob,k _ _ (.inl rfl) e⟩
|xd fs=>obtain⟨mA,⟨od,es,ep,e,c⟩,r⟩:=x;exact⟨mA,⟨od,es,ep,k _ _ (.inl rfl) e,c⟩,r⟩
|rng lo hi=>obtain⟨t,u,v,e⟩:=x;exact⟨t,u,v,k _ _ (.inl rfl) e⟩
|frz ob u ih=>obtain⟨e,q⟩:=x;exact⟨k _ _ (.inl rfl) e,ih q⟩
|tbl ps =>
  have e:h.get? a=some { cls:=.none,data:=.fields ps }:=x
  show h'.get? a=some { cls:=.none,data:=.fields ps }
  exact k a _ (.inl rfl) e
|met f y =>
  have e:h.get? a=some (methodObj (.ref f) (.ref y)):=x
  show h'.get? a=some (methodObj (.ref f) (.ref y))
  exact k a _ (.inl rfl) e
|ext φ=>obtain⟨p,⟨o,e⟩,st⟩:=x;exact⟨st _ _ p λo q=>k _ _ (.inl rfl) q,⟨o,k _ _ (.inl rfl) e⟩,st⟩
theorem HOk.lt (x:HOk P w H h) (e:H a=some o):a < h.objs.size:=(x a o e).lt
theorem HOk.fresh (x:HOk P w H h) (e:h.objs.size <= a):H a=none:=by
 cases q:H a with
|none=>rfl
|some u=>exact absurd (Nat.lt_of_lt_of_le (x.lt q) e) (Nat.lt_irrefl _)
theorem HOk.kept (x:HOk P w H h) (k:∀ b u,h.get? b=some u->h'.get? b=some u):HOk P w H h':=λa o e =>
 (x a o e).stay (λb u _ q=>k b u q) (λ_ q=>q) λ_ _ q=>q
theorem HOk.laid (x:HOk P w H h) (k:∀ b u,h.get? b=some u->h'.get? b=some u) (hp:h.objs.size <= a) (new:cp P w (upd H a o) h' a o):HOk P w (upd H a o) h':=λb u e=>by
 have hn:=x.fresh hp
 by_cases hb:b=a
 . subst hb;rw[a8]at e;cases e;exact new
 . rw[ag hb]at e
   exact(x b u e).stay (λc v _ q=>k c v q) (λc q=>by rw[ag (aj q hn)];exact q) λc xs q=>by rw[ag (aj q hn)];exact q
end
def Rd (H:Hp) (a:Addr) (u:HO):Prop:=H a=some u\/∃ o,H a=some (.frz o u)
theorem Rd.ok {P:Program}{w:World}{H:Hp}{h:Heap}{a:Addr}{u:HO}(r:Rd H a u) (x:HOk P w H h):cp P w H h a u:=by
 rcases r with r|⟨o,r⟩
 . exact x a u r
 . obtain⟨_,q⟩:=x a _ r
   exact q
def Mut:Option HO->Prop
|some (.lst _)=>True
|some (.dK _)=>True
|some (.dT _)=>True
|some (.set _ _)=>True
|some (.ins _ _ _)=>True
|some (.ext _)=>True
|_=>False
section
variable {P:Program}{w:World}{H:Hp}{h h':Heap}{x e:Addr}{o':HO}
theorem HOk.write (ok:HOk P w H h) (mu:Mut (H x)) (he:e=x\/H e=some (.own x)) (k:∀ b u,b≠e->h.get? b=some u->h'.get? b=some u) (heo:∃ u,h'.get? e=some u)
 (new:cp P w (upd H x o') h' x o'):HOk P w (upd H x o') h':=λb u q=>by
 have nown:∀ c y,H c=some (.own y)->c≠x:=λc y r z=>by subst z;rw[r]at mu;exact mu
 have ntup:∀ c xs,H c=some (.tup xs)->c≠x:=λc xs r z=>by subst z;rw[r]at mu;exact mu
 by_cases hb:b=x
 . subst hb;rw[a8]at q;cases q;exact new
 . rw[ag hb]at q
   by_cases hbe:b=e
   . have q':H b=some (.own x):=by
      rcases he with z|z
      . exact absurd (hbe.trans z) hb
      . rw[hbe];exact z
     rw[q]at q';cases q'
     obtain⟨v,hv⟩:=heo
     exact⟨v,by rw[hbe];exact hv⟩
   . refine(ok b u q).stay (λc v hc r=>k c v ?_ r) (λc r=>by rw[ag (nown c b r)];exact r) λc xs r=>by rw[ag (ntup c xs r)];exact r
     rcases hc with rfl|hc
     . exact hbe
     . rintro rfl
       rcases he with z|z
       . exact nown c b hc z
       . rw[hc]at z;cases z;exact hb rfl
end
structure Un (fs ex:List Addr) (H H':Hp) (h h':Heap):Prop where
 keep:∀ b o,h.get? b=some o->H b=none->b ∉ fs->b ∉ ex->h'.get? b=some o
 slot:∀ b o,h.get? b=some o->H b=none->b∈fs->b ∉ ex->∃ sl,h'.get? b=some { o with slots:=sl }
 free:∀ b o,h.get? b=some o->H b=none->b ∉ ex->H' b=none
 there:∀ b o,h.get? b=some o->b ∉ ex->∃ o',h'.get? b=some o'
 tups:∀ b xs,H b=some (.tup xs)->H' b=some (.tup xs)
 frzs:∀ b o u,H b=some (.frz o u)->H' b=some (.frz o u)
 tbls:∀ b ps,H b=some (.tbl ps)->∃ more,H' b=some (.tbl (ps++more))
section
variable {fs fs' ex ex':List Addr}{H H1 H2:Hp}{h h1 h2 h':Heap}{a x e:Addr}{o:HO}
theorem Un.any (u:Un fs ex H H1 h h1) {b:Addr}{ob:Obj}(q:h.get? b=some ob) (n:H b=none) (hx:b ∉ ex):∃ sl,h1.get? b=some { ob with slots:=sl }:=by
 by_cases hb:b∈fs
 . exact u.slot b ob q n hb hx
 . exact⟨ob.slots,u.keep b ob q n hb hx⟩
theorem Un.kept (k:∀ b u,h.get? b=some u->h'.get? b=some u):Un fs ex H H h h' :=
 ⟨λb ob q _ _ _=>k b ob q,λb ob q _ _ _=>⟨ob.slots,k b ob q⟩,λ_ _ _ n _=>n,λb ob q _=>⟨ob,k b ob q⟩,λ_ _ q=>q,λ_ _ _ q=>q,λ_ ps q=>⟨#[],by rw[q];simp⟩⟩
theorem Un.refl:Un fs ex H H h h:=Un.kept λ_ _ q=>q
theorem Un.laid (k:∀ b u,h.get? b=some u->h'.get? b=some u) (hp:h.objs.size <= a) (hn:H a=none):Un fs ex H (upd H a o) h h' where
 keep:=λb u q _ _ _=>k b u q
 slot:=λb u q _ _ _=>⟨u.slots,k b u q⟩
 free:=λb u q n _=>by rw[ag (Nat.ne_of_lt (Nat.lt_of_lt_of_le (Heap.lt_size q) hp))];exact n
 there:=λb u q _=>⟨u,k b u q⟩
 tups:=λb xs q=>by rw[ag (aj q hn)];exact q
 frzs:=λb u xs q=>by rw[ag (aj q hn)];exact q
 tbls:=λb ps q=>⟨#[],by rw[ag (aj q hn),q];simp⟩
theorem Un.write (mu:Mut (H x)) (he:e=x\/H e=some (.own x)) (k:∀ b u,b≠e->h.get? b=some u->h'.get? b=some u) (heo:∃ u,h'.get? e=some u):Un fs ex H (upd H x o) h h':=by
 have hx:∀ b,H b=none->b≠x:=λb n z=>by subst z;rw[n]at mu;exact mu
 have hb:∀ b,H b=none->b≠e:=λb n z=>by
  subst z
  rcases he with r|r
  . exact hx b n r
  . rw[n]at r;cases r
 have hm:∀ b u,H b=some u->¬ Mut (some u)->b≠x:=λb u q nm z=>by subst z;rw[q]at mu;exact nm mu
 refine⟨λb u q n _ _=>k b u (hb b n) q,λb u q n _ _=>⟨u.slots,k b u (hb b n) q⟩,λb u q n _=>by rw[ag (hx b n)];exact n,λb u q _=>?_,
  λb xs q=>by rw[ag (hm b _ q λz=>z)];exact q,λb u xs q=>by rw[ag (hm b _ q λz=>z)];exact q,λb ps q=>⟨#[],by rw[ag (hm b _ q λz=>z),q];simp⟩⟩
 by_cases hbe:b=e
 . subst hbe;exact heo
 . exact⟨u,k b u hbe q⟩
end
def trk (h:Heap) (H:Hp):List Addr:=(List.range h.objs.size).filter λa=>(H a).isSome
def zW (h:Heap) (H:Hp):Heap:=hideAll h (trk h H)
theorem yU (h:Heap) (H:Hp):(zW h H).objs.size=h.objs.size:=hideAll_size _ _
theorem zR {h:Heap}{H:Hp}{b:Addr}{o:Obj}(e:h.get? b=some o) (n:H b=none):(zW h H).get? b=some o :=
 hideAll_get _ e λhm=>by
  have q:(H b).isSome=true:=(List.mem_filter.mp hm).2
  rw[n]at q;simp at q
theorem D1 {h:Heap}{H:Hp}{b:Addr}{o:Obj}(e:(zW h H).get? b=some o):h.get? b=some o/\H b=none:=by
 have e':h.get? b=some o:=of_hideAll (trk h H) e
 refine⟨e',?_⟩
 cases q:H b with
|none=>rfl
|some x =>
  have hm:b∈trk h H:=List.mem_filter.mpr ⟨List.mem_range.mpr (Heap.lt_size e'),by simp[q]⟩
  have z:(zW h H).get? b=none:=hideAll_none (trk h H) hm
  rw[z]at e;cases e
def Ct (g h:Heap) (L:Addr):List (Addr × Obj):=(List.range h.objs.size).filterMap λa=>if a=L\/(g.get? a).isSome=true then none else (h.get? a).map λo=>(a,o)
def bS (g h:Heap) (L d:Addr):List (Addr × Obj):=(Ct g h L).filter λp=>decide (p.1≠d)
end L2
namespace L2
open PySem PySem.Spec PyProof.Rows
structure Mod (K:PySem.W.Frag) (mg:Str->Option Value) (base:Heap):Prop where
 kin:K.In base
 glob:base.Ns mainGlobals mg
 blt:∃ mb,base.Ns builtinsNs mb/\∀ x:Str,x≠"__name__"->mb x=bootBuiltins x
 nolimit:base.NoLimit
structure Cx where
 prog:Program
 w:World
 K:PySem.W.Frag
 mg:Str->Option Value
 base:Heap
 A:Around
 N:List Str
 s₀:Shared
 H₀:Hp
 env:Env
 outer:List Env
 stack:List Env
 ex:List Addr
 fn:Str->Bool
 calm:Bool
 pn:List (Addr × Obj)
 xe:Value->Shared->Prop
def frs (l:List Env):List Addr:=l.filterMap (·.frame)
abbrev Cx.fs (X:Cx):List Addr:=frs X.outer
def Vis (sc:Scope) (x:Str):Prop:=sc.names.lookup x=some .local\/sc.names.lookup x=some .cell\/sc.names.lookup x=some .free
def Loc (sc:Scope) (x:Str):Prop:=sc.names.lookup x=some .local\/sc.names.lookup x=some .cell
def Gk (env:Env) (h:Heap) (m:Str->Option Value) (x:Str) (u:Value):Prop :=
 (env.kindOf x=some .local/\m x=some u)\/((env.kindOf x=some .cell\/env.kindOf x=some .free)/\∃ c,env.cells.lookup x=some c/\h.IsCell c (some u))
structure Cx.Ok (X:Cx):Prop where
 mod:Mod X.K X.mg X.base
 kind:X.env.scope.kind=.function
 glob:X.env.globals=mainGlobals
 blt:X.env.builtins=builtinsNs
 above:X.s₀.heap.objs.size <= X.env.locals
 inj:∀ x y c,X.env.cells.lookup x=some c->X.env.cells.lookup y=some c->x=y
 has:∀ x,(X.env.kindOf x=some .cell\/X.env.kindOf x=some .free)->∃ c,X.env.cells.lookup x=some c
 cab:∀ x c,X.fn x=true->X.env.cells.lookup x=some c->X.s₀.heap.objs.size <= c
 hd:X.calm=true->X.A.handled=none
 frames:X.A.frames=some X.stack
 stk:X.stack=X.outer\/(X.stack=X.env :: X.outer/\X.env.frame=some X.env.locals)
 exf:∀ b∈X.ex,b≠X.env.locals/\∀ x c,X.env.cells.lookup x=some c->c≠b
 bs:∀ b o,X.base.get? b=some o->X.s₀.heap.get? b=some o/\X.H₀ b=none
 bsz:X.base.objs.size <= X.s₀.heap.objs.size
 noex:∀ b o,X.base.get? b=some o->b ∉ X.ex
 exfs:∀ b∈X.ex,b ∉ X.fs
 funs:X.s₀.heap.FunFrames X.base X.outer
 frf:∀ b∈X.fs,X.H₀ b=none
structure Inv (X:Cx) (pins:List (Addr × Obj)) (σ:List (Option V)) (H:Hp) (s:Shared):Prop where
 ok:X.Ok
 os:s.os=X.s₀.os
 bare:AllBare s.gens
 base:Un X.fs X.ex X.H₀ H X.s₀.heap s.heap
 loc:∃ m,s.heap.Ns X.env.locals m/\∀ (i:Nat) (x:Str) (v:V),X.N[i]?=some x->σ[i]?=some (some v)->Vis X.env.scope x->∃ u,bT v u/\Gk X.env s.heap m x u
 cell:∀ x c,X.env.cells.lookup x=some c->∃ v,s.heap.IsCell c v
 free:H X.env.locals=none
 freeC:∀ x c,X.env.cells.lookup x=some c->H c=none
 pin:∀ p∈X.pn++pins,s.heap.get? p.1=some p.2/\H p.1=none/\p.1≠X.env.locals/\p.1 ∉ X.fs/\∀ v,p.2.data≠.cell v
 hok:HOk X.prog X.w H s.heap
 len:σ.length=X.N.length
section
variable {X:Cx}{pins:List (Addr × Obj)}{σ:List (Option V)}{H H':Hp}{s:Shared}{h':Heap}
theorem Cx.Ok.nofr (ok:X.Ok) {b:Addr}{o:Obj}(e:X.base.get? b=some o):b ∉ X.fs:=λhb=>by
 have:=(ok.funs.mem hb).1
 rw[e]at this;cases this
theorem Inv.bs (I:Inv X pins σ H s):∀ b o,X.base.get? b=some o->s.heap.get? b=some o/\H b=none:=λb o e =>
 ⟨I.base.keep b o (I.ok.bs b o e).1 (I.ok.bs b o e).2 (I.ok.nofr e) (I.ok.noex b o e),I.base.free b o (I.ok.bs b o e).1 (I.ok.bs b o e).2 (I.ok.noex b o e)⟩
theorem Inv.bk (I:Inv X pins σ H s):∀ b o,X.base.get? b=some o->s.heap.get? b=some o:=λb o e=>(I.bs b o e).1
theorem Inv.mod (I:Inv X pins σ H s):Mod X.K X.mg X.base:=I.ok.mod
theorem Inv.kIn (I:Inv X pins σ H s):X.K.In s.heap:=I.ok.mod.kin.keeps I.bk
theorem Inv.lt (I:Inv X pins σ H s):X.env.locals < s.heap.objs.size:=let ⟨_,hn,_⟩:=I.loc;hn.lt
theorem Inv.sz (I:Inv X pins σ H s):X.s₀.heap.objs.size <= s.heap.objs.size:=Nat.le_trans I.ok.above (Nat.le_of_lt I.lt)
theorem Inv.nofs (I:Inv X pins σ H s) {a:Addr}(h:s.heap.objs.size <= a):a ∉ X.fs:=λhb=>by
 obtain⟨_,o,ho,_⟩:=I.ok.funs.mem hb
 exact absurd (Nat.lt_of_lt_of_le (Heap.lt_size ho) (Nat.le_trans I.sz h)) (Nat.lt_irrefl _)
theorem Inv.cne (I:Inv X pins σ H s):∀ x c,X.env.cells.lookup x=some c->c≠X.env.locals:=λx c e z=>by
 obtain⟨v,o,ho,hd⟩:=I.cell x c e
 obtain⟨m,⟨o',es,ep,ho',hd',_⟩,_⟩:=I.loc
 rw[z,ho']at ho;cases ho;rw[hd']at hd;cases hd
theorem Inv.funs (I:Inv X pins σ H s):s.heap.FunFrames X.base X.outer:=by
 have all:∀ (l:List Env),(∀ b∈frs l,b∈X.fs)->X.s₀.heap.FunFrames X.base l->s.heap.FunFrames X.base l:=by
  intro l
  induction l with
 |nil=>intro _ _;trivial
 |cons env r ih =>
   intro hs hl
   obtain⟨hk,⟨L,o,hf,hn,ho,hd⟩,hr⟩:=hl
   have hL:L∈X.fs:=hs L (by unfold frs;rw[List.filterMap_cons,hf];exact List.mem_cons_self)
   obtain⟨sl,e⟩:=I.base.slot L o ho (I.ok.frf L hL) hL λz=>I.ok.exfs L z hL
   exact⟨hk,⟨L,_,hf,hn,e,hd⟩,ih (λb hb=>hs b (by unfold frs;rw[List.filterMap_cons,hf];exact List.mem_cons_of_mem _ hb)) hr⟩
 exact all X.outer (λ_ hb=>hb) I.ok.funs
theorem Inv.stack (I:Inv X pins σ H s):s.heap.FunFrames X.base X.stack:=by
 rcases I.ok.stk with e|⟨e,hf⟩
 . rw[e];exact I.funs
 . rw[e]
   obtain⟨m,hn,_⟩:=I.loc
   refine .cons (by rw[I.ok.kind];decide) hf hn ?_ I.funs
   exact Heap.get?_none_of_le (Nat.le_trans I.ok.bsz I.ok.above)
theorem Inv.stkSub (I:Inv X pins σ H s):∀ b∈frs X.stack,b∈X.env.locals :: X.fs:=λb hb=>by
 rcases I.ok.stk with e|⟨e,hf⟩
 . rw[e]at hb;exact List.mem_cons_of_mem _ hb
 . rw[e]at hb
   unfold frs at hb
   rw[List.filterMap_cons,hf]at hb
   exact hb
theorem Inv.stkFree (I:Inv X pins σ H s):∀ b∈frs X.stack,H b=none:=λb hb=>by
 rcases List.mem_cons.mp (I.stkSub b hb) with e|hb
 . rw[e];exact I.free
 . obtain⟨_,o,ho,_⟩:=I.ok.funs.mem hb
   exact I.base.free b o ho (I.ok.frf b hb) λz=>I.ok.exfs b z hb
theorem Inv.step {g':Array GenState}{t':Nat}{d':Drawn}{ch:List Addr}(I:Inv X pins σ H s)
 (hch:∀ b∈ch,(b∈X.ex\/X.s₀.heap.objs.size <= b)/\b≠X.env.locals/\(∀ x c,X.env.cells.lookup x=some c->c≠b)/\∀ p∈X.pn++pins,p.1≠b)
 (keep:∀ b o,b≠X.env.locals->b ∉ X.fs->b ∉ ch->s.heap.get? b=some o->H b=none->h'.get? b=some o)
 (slot:∀ b o,b≠X.env.locals->b∈X.fs->b ∉ ch->s.heap.get? b=some o->H b=none->∃ sl,h'.get? b=some { o with slots:=sl }) (free:∀ b o,b ∉ ch->s.heap.get? b=some o->H b=none->H' b=none)
 (there:∀ b o,b ∉ ch->s.heap.get? b=some o->∃ o',h'.get? b=some o')
 (tups:∀ b xs,H b=some (.tup xs)->H' b=some (.tup xs)) (frzs:∀ b o u,H b=some (.frz o u)->H' b=some (.frz o u)) (tbls:∀ b ps,H b=some (.tbl ps)->∃ more,H' b=some (.tbl (ps++more)))
 (ns:∀ m,s.heap.Ns X.env.locals m->h'.Ns X.env.locals m) (hok:HOk X.prog X.w H' h') (hg:AllBare g') :
 Inv X pins σ H' { s with heap:=h',gens:=g',drawn:=d',toks:=t' }:=by
 have neL:∀ b o,X.s₀.heap.get? b=some o->b≠X.env.locals:=λb o e=>Nat.ne_of_lt (Nat.lt_of_lt_of_le (Heap.lt_size e) I.ok.above)
 have neC:∀ b o,X.s₀.heap.get? b=some o->b ∉ X.ex->b ∉ ch:=λb o e hx hb=>by
  rcases(hch b hb).1 with z|z
  . exact hx z
  . exact absurd (Nat.lt_of_lt_of_le (Heap.lt_size e) z) (Nat.lt_irrefl _)
 have cellK:∀ x c,X.env.cells.lookup x=some c->∀ v,s.heap.IsCell c v->h'.IsCell c v:=λx c e v ⟨o,ho,hd⟩=>by
  have nch:c ∉ ch:=λz=>(hch c z).2.2.1 x c e rfl
  by_cases hc:c∈X.fs
  . obtain⟨sl,q⟩:=slot c o (I.cne x c e) hc nch ho (I.freeC x c e)
    exact⟨_,q,hd⟩
  . exact⟨o,keep c o (I.cne x c e) hc nch ho (I.freeC x c e),hd⟩
 refine⟨I.ok,I.os,hg,⟨λb o e n hb hx=>?_,λb o e n hb hx=>?_,λb o e n hx=>?_,λb o e hx=>?_,λb xs e=>tups b xs (I.base.tups b xs e),λb o xs e=>frzs b o xs (I.base.frzs b o xs e),λb ps e=>?_⟩,?_,λx c e=>?_,?_,λx c e=>?_,λp hp=>?_,hok,I.len⟩
 . exact keep b o (neL b o e) hb (neC b o e hx) (I.base.keep b o e n hb hx) (I.base.free b o e n hx)
 . obtain⟨sl,e1⟩:=I.base.slot b o e n hb hx
   obtain⟨sl',e2⟩:=slot b _ (neL b o e) hb (neC b o e hx) e1 (I.base.free b o e n hx)
   exact⟨sl',e2⟩
 . obtain⟨o',e1⟩:=I.base.there b o e hx
   exact free b o' (neC b o e hx) e1 (I.base.free b o e n hx)
 . obtain⟨o',e1⟩:=I.base.there b o e hx
   exact there b o' (neC b o e hx) e1
 . obtain⟨m1,e1⟩:=I.base.tbls b ps e
   obtain⟨m2,e2⟩:=tbls b _ e1
   exact⟨m1++m2,by rw[e2,Array.append_assoc]⟩
 . obtain⟨m,hn,hl⟩:=I.loc
   refine⟨m,ns m hn,λi x v e1 e2 e3=>?_⟩
   obtain⟨u,r,l⟩:=hl i x v e1 e2 e3
   refine⟨u,r,?_⟩
   rcases l with l|⟨k,c,e,z⟩
   . exact .inl l
   . exact .inr ⟨k,c,e,cellK x c e _ z⟩
 . obtain⟨v,z⟩:=I.cell x c e
   exact⟨v,cellK x c e v z⟩
 . obtain⟨m,⟨o,_,_,ho,_⟩,_⟩:=I.loc
   exact free _ o (λz=>(hch _ z).2.1 rfl) ho I.free
 . obtain⟨v,o,ho,hd⟩:=I.cell x c e
   exact free c o (λz=>(hch c z).2.2.1 x c e rfl) ho (I.freeC x c e)
 . obtain⟨e,n,ne,nf,d⟩:=I.pin p hp
   have nch:p.1 ∉ ch:=λz=>(hch p.1 z).2.2.2 p hp rfl
   exact⟨keep p.1 p.2 ne nf nch e n,free p.1 p.2 nch e n,ne,nf,d⟩
theorem Inv.un {t':Nat}(I:Inv X pins σ H s) (u:Un X.fs [] H H' s.heap h') (hok:HOk X.prog X.w H' h'):Inv X pins σ H' { s with heap:=h',toks:=t' }:=by
 obtain⟨m,⟨o,es,ep,ho,r⟩,_⟩:=id I.loc
 obtain⟨sl,hL⟩:=u.any ho I.free (by simp)
 exact I.step (g':=s.gens) (d':=s.drawn) (ch:=[]) (λ_ z=>nomatch z) (λb o _ hb _ e n=>u.keep b o e n hb (by simp)) (λb o _ hb _ e n=>u.slot b o e n hb (by simp)) (λb o _ e n=>u.free b o e n (by simp)) (λb o _ e=>u.there b o e (by simp)) u.tups u.frzs u.tbls (λm' hm=>by
  obtain⟨o',es',ep',ho',r'⟩:=hm
  rw[ho]at ho';cases ho'
  exact⟨_,es',ep',hL,r'⟩) hok I.bare
theorem Inv.call {g':Array GenState}{t':Nat}{d':Drawn}{ch:List Addr}(I:Inv X pins σ H s) (u:Un (frs X.stack) ch H H' s.heap h') (hok:HOk X.prog X.w H' h') (hg:AllBare g')
 (hch:∀ b∈ch,(b∈X.ex\/X.s₀.heap.objs.size <= b)/\b≠X.env.locals/\(∀ x c,X.env.cells.lookup x=some c->c≠b)/\∀ p∈X.pn++pins,p.1≠b) :
 Inv X pins σ H' { s with heap:=h',gens:=g',drawn:=d',toks:=t' }:=by
 obtain⟨m,⟨o,es,ep,ho,r⟩,_⟩:=id I.loc
 obtain⟨sl,hL⟩:=u.any ho I.free λz=>(hch _ z).2.1 rfl
 exact I.step (ch:=ch) hch (λb o hL hb hc e n=>u.keep b o e n (λz=>(List.mem_cons.mp (I.stkSub b z)).elim hL hb) hc) (λb o _ _ hc e n=>u.any e n hc) (λb o hc e n=>u.free b o e n hc) (λb o hc e=>u.there b o e hc) u.tups u.frzs u.tbls (λm' hm=>by
  obtain⟨o',es',ep',ho',r'⟩:=hm
  rw[ho]at ho';cases ho'
  exact⟨_,es',ep',hL,r'⟩) hok hg
theorem Inv.turned {t':Nat}{it:Addr}(I:Inv X pins σ H s) (k:∀ b o,b≠it->s.heap.get? b=some o->h'.get? b=some o) (hn:H it=none) (hL:it≠X.env.locals)
 (h1:it∈X.ex\/X.s₀.heap.objs.size <= it) (h2:∀ x c,X.env.cells.lookup x=some c->c≠it) (h3:∀ p∈X.pn++pins,p.1≠it):Inv X pins σ H { s with heap:=h',toks:=t' }:=by
 have nit:∀ b u,H b=some u->b≠it:=λb u e z=>by rw[z,hn]at e;cases e
 refine I.step (g':=s.gens) (d':=s.drawn) (ch:=[it]) (λb hb=>?_) (λb o _ _ hc e _=>k b o (λz=>hc (by simp[z])) e) (λb o _ _ hc e _=>⟨o.slots,k b o (λz=>hc (by simp[z])) e⟩) (λ_ _ _ _ n=>n)
  (λb o hc e=>⟨o,k b o (λz=>hc (by simp[z])) e⟩) (λ_ _ e=>e) (λ_ _ _ e=>e) (λb ps e=>⟨#[],by rw[e];simp⟩) (λm hm=>?_) (λb u e=>?_) I.bare
 . have e:b=it:=by simpa using hb
   subst e
   exact⟨h1,hL,h2,h3⟩
 . obtain⟨o,es,ep,ho,r⟩:=hm
   exact⟨o,es,ep,k _ o (Ne.symm hL) ho,r⟩
 . refine(I.hok b u e).stay (λc v hc q=>k c v ?_ q) (λ_ q=>q) λ_ _ q=>q
   rcases hc with z|z
   . rw[z];exact nit b u e
   . exact nit c _ z
theorem Inv.tok (I:Inv X pins σ H s) (t:Nat):Inv X pins σ H { s with toks:=t }:=I.un (h':=s.heap) (t':=t) Un.refl I.hok
theorem Inv.kept {t':Nat}(I:Inv X pins σ H s) (k:∀ b u,s.heap.get? b=some u->h'.get? b=some u):Inv X pins σ H { s with heap:=h',toks:=t' }:=I.un (Un.kept k) (I.hok.kept k)
theorem Inv.laid {a:Addr}{o:HO}{t':Nat}(I:Inv X pins σ H s) (k:∀ b u,s.heap.get? b=some u->h'.get? b=some u) (hp:s.heap.objs.size <= a) (new:cp X.prog X.w (upd H a o) h' a o) :
 Inv X pins σ (upd H a o) { s with heap:=h',toks:=t' }:=I.un (Un.laid k hp (I.hok.fresh hp)) (I.hok.laid k hp new)
theorem Inv.write {x e:Addr}{o:HO}{t':Nat}(I:Inv X pins σ H s) (mu:Mut (H x)) (he:e=x\/H e=some (.own x)) (k:∀ b u,b≠e->s.heap.get? b=some u->h'.get? b=some u) (heo:∃ u,h'.get? e=some u)
 (new:cp X.prog X.w (upd H x o) h' x o):Inv X pins σ (upd H x o) { s with heap:=h',toks:=t' }:=I.un (Un.write mu he k heo) (I.hok.write mu he k heo new)
theorem Inv.pins_of {pins':List (Addr × Obj)}(I:Inv X pins σ H s) (h:∀ p∈pins',s.heap.get? p.1=some p.2/\H p.1=none/\p.1≠X.env.locals/\p.1 ∉ X.fs/\∀ v,p.2.data≠.cell v):Inv X pins' σ H s :=
 ⟨I.ok,I.os,I.bare,I.base,I.loc,I.cell,I.free,I.freeC,λp hp=>(List.mem_append.mp hp).elim (λz=>I.pin p (List.mem_append_left _ z)) (h p),I.hok,I.len⟩
theorem pX {N:List Str}(hN:N.Nodup) {i j:Nat}{x:Str}(a:N[i]?=some x) (b:N[j]?=some x):i=j:=by
 obtain⟨h1,e1⟩:=List.getElem?_eq_some_iff.mp a
 obtain⟨h2,e2⟩:=List.getElem?_eq_some_iff.mp b
 exact(List.getElem_inj hN).mp (e1.trans e2.symm)
theorem yu {M:Model}{A:Around}{E:Value->Shared->Prop}{i:Nat}{x:Str}{v:V}{u:Value}{Q:Unit->Shared->Prop}(I:Inv X pins σ H s) (hN:X.N.Nodup) (hi:X.N[i]?=some x) (hx:Loc X.env.scope x) (r:bT v u)
 (h:∀ s',Inv X pins (σ.set i (some v)) H s'->(∃ a,Heap.SameBut a s.heap s'.heap/\(a=X.env.locals\/X.env.cells.lookup x=some a))->Q () s') (hf:X.fn x=true\/X.env.scope.names.lookup x=some .local:=by first|exact .inl rfl|exact .inr rfl|assumption):wpAny M A (storeName X.env x u) Q E s:=by
 obtain⟨m,hn,hl⟩:=id I.loc
 have hcls:(X.env.scope.kind == .class || (X.env.scope.kind == .module && X.env.locals != X.env.globals))=false:=by rw[I.ok.kind];rfl
 have hiσ:i < σ.length:=by rw[I.len];exact(List.getElem?_eq_some_iff.mp hi).1
 have cne:=I.cne
 have tracked:∀ {a:Addr} {h':Heap},(∃ o,s.heap.get? a=some o/\H a=none)->Heap.SameBut a s.heap h'->HOk X.prog X.w H h':=λ{a h'} ha hs b ob e=>by
  obtain⟨_,_,hfree⟩:=ha
  refine(I.hok b ob e).stay (λc w' hc q=>(hs.2 c ?_).trans q) (λ_ q=>q) λ_ _ q=>q
  rintro rfl
  rcases hc with rfl|hc
  . rw[hfree]at e;cases e
  . rw[hfree]at hc;cases hc
 rcases hx with hk|hk
 . refine wpAny_storeName_local hk hn (λh' hn' hs=>?_) hcls
   obtain⟨oL,_,_,hoL,_⟩:=id hn
   refine h _ ⟨I.ok,I.os,I.bare,⟨λb o e n hb hx=>?_,λb o e n hb hx=>?_,I.base.free,λb o e hx=>?_,I.base.tups,I.base.frzs,I.base.tbls⟩,⟨_,hn',λj y v' e1 e2 e3=>?_⟩,λy c e=>?_,I.free,I.freeC,λp hp=>?_,tracked ⟨oL,hoL,I.free⟩ hs,by simpa using I.len⟩ ⟨_,hs,.inl rfl⟩
   . exact(hs.2 b (Nat.ne_of_lt (Nat.lt_of_lt_of_le (Heap.lt_size e) I.ok.above))).trans (I.base.keep b o e n hb hx)
   . obtain⟨sl,e1⟩:=I.base.slot b o e n hb hx
     exact⟨sl,(hs.2 b (Nat.ne_of_lt (Nat.lt_of_lt_of_le (Heap.lt_size e) I.ok.above))).trans e1⟩
   . obtain⟨o',e1⟩:=I.base.there b o e hx
     exact⟨o',(hs.2 b (Nat.ne_of_lt (Nat.lt_of_lt_of_le (Heap.lt_size e) I.ok.above))).trans e1⟩
   . by_cases hj:j=i
     . subst hj
       rw[hi]at e1;cases e1
       rw[List.getElem?_set_self hiσ]at e2
       cases e2
       exact⟨u,r,.inl ⟨hk,by simp⟩⟩
     . rw[List.getElem?_set_ne (Ne.symm hj)]at e2
       obtain⟨u',r',q⟩:=hl j y v' e1 e2 e3
       refine⟨u',r',?_⟩
       rcases q with⟨k,e⟩|⟨k,c,e,z⟩
       . refine .inl ⟨k,?_⟩
         have:y≠x:=λe=>hj (pX hN e1 (e ▸ hi))
         simp[this,e]
       . exact .inr ⟨k,c,e,z.sameBut hs (cne y c e)⟩
   . obtain⟨w',z⟩:=I.cell y c e
     exact⟨w',z.sameBut hs (cne y c e)⟩
   . obtain⟨e,n,ne,nf,d⟩:=I.pin p hp
     exact⟨(hs.2 p.1 ne).trans e,n,ne,nf,d⟩
 . have hfn:X.fn x=true:=by
    rcases hf with z|z
    . exact z
    . rw[z]at hk;cases hk
   obtain⟨c,hc⟩:=I.ok.has x (.inl hk)
   obtain⟨w',z⟩:=I.cell x c hc
   refine wpAny_storeName_cell I.ok.kind hk hc z (λh' hc' hs=>?_)
   obtain⟨oc,hoc,hocd⟩:=id z
   refine h { s with heap:=h' } ⟨I.ok,I.os,I.bare,⟨λb o e n hb hx=>?_,λb o e n hb hx=>?_,I.base.free,λb o e hx=>?_,I.base.tups,I.base.frzs,I.base.tbls⟩,⟨m,hn.sameBut hs (Ne.symm (cne x c hc)),λj y v' e1 e2 e3=>?_⟩,λy c' e=>?_,I.free,I.freeC,λp hp=>?_,tracked ⟨oc,hoc,I.freeC x c hc⟩ hs,by simpa using I.len⟩ ⟨c,hs,.inr hc⟩
   . exact(hs.2 b (Nat.ne_of_lt (Nat.lt_of_lt_of_le (Heap.lt_size e) (I.ok.cab x c hfn hc)))).trans (I.base.keep b o e n hb hx)
   . obtain⟨sl,e1⟩:=I.base.slot b o e n hb hx
     exact⟨sl,(hs.2 b (Nat.ne_of_lt (Nat.lt_of_lt_of_le (Heap.lt_size e) (I.ok.cab x c hfn hc)))).trans e1⟩
   . obtain⟨o',e1⟩:=I.base.there b o e hx
     exact⟨o',(hs.2 b (Nat.ne_of_lt (Nat.lt_of_lt_of_le (Heap.lt_size e) (I.ok.cab x c hfn hc)))).trans e1⟩
   . by_cases hj:j=i
     . subst hj
       rw[hi]at e1;cases e1
       rw[List.getElem?_set_self hiσ]at e2
       cases e2
       exact⟨u,r,.inr ⟨.inl hk,c,hc,hc'⟩⟩
     . rw[List.getElem?_set_ne (Ne.symm hj)]at e2
       obtain⟨u',r',q⟩:=hl j y v' e1 e2 e3
       refine⟨u',r',?_⟩
       rcases q with q|⟨k,c',e,z'⟩
       . exact .inl q
       . refine .inr ⟨k,c',e,z'.sameBut hs ?_⟩
         rintro rfl
         exact hj (pX hN e1 (I.ok.inj _ _ _ e hc ▸ hi))
   . by_cases hcc:c'=c
     . subst hcc;exact⟨_,hc'⟩
     . obtain⟨w2,z2⟩:=I.cell y c' e
       exact⟨w2,z2.sameBut hs hcc⟩
   . obtain⟨e,n,ne,nf,d⟩:=I.pin p hp
     refine⟨(hs.2 p.1 ?_).trans e,n,ne,nf,d⟩
     intro q
     rw[q,hoc]at e
     have q':oc=p.2:=Option.some.inj e
     exact d w' (by rw[<-q'];exact hocd)
theorem qY {M:Model}{A:Around}{E:Value->Shared->Prop}{i:Nat}{x:Str}{v:V}{u:Value}{Q:Unit->Shared->Prop}(I:Inv X pins σ H s) (hN:X.N.Nodup) (hi:X.N[i]?=some x) (hx:Loc X.env.scope x) (r:bT v u)
 (h:∀ s',Inv X pins (σ.set i (some v)) H s'->Q () s') (hf:X.fn x=true\/X.env.scope.names.lookup x=some .local:=by first|exact .inl rfl|exact .inr rfl|assumption):wpAny M A (storeName X.env x u) Q E s :=
 yu I hN hi hx r (λs' I' _=>h s' I') hf
theorem Inv.call' {s':Shared}{ch:List Addr}(I:Inv X pins σ H s) (ho:s'.os=s.os) (u:Un (frs X.stack) ch H H' s.heap s'.heap) (hok:HOk X.prog X.w H' s'.heap) (hg:AllBare s'.gens)
 (hch:∀ b∈ch,(b∈X.ex\/X.s₀.heap.objs.size <= b)/\b≠X.env.locals/\(∀ x c,X.env.cells.lookup x=some c->c≠b)/\∀ p∈X.pn++pins,p.1≠b):Inv X pins σ H' s':=by
 obtain⟨h',g',d',t',o'⟩:=s'
 have e:o'=s.os:=ho
 subst e
 exact I.call (g':=g') (t':=t') (d':=d') u hok hg hch
end
abbrev XK:=Value->Option Addr->Hp->Prop
abbrev St:=List (Option V)
abbrev VK:=V->Hp->Prop
abbrev TE:=St->Hp->VK->Prop
abbrev TT:=St->Hp->(Bool->Hp->Prop)->Prop
abbrev TA:=St->Hp->(List V->Hp->Prop)->Prop
structure Ends where
 nx:St->Hp->Prop
 rt:VK
 bk:St->Hp->Prop:=λ_ _=>False
 ct:St->Hp->Prop:=λ_ _=>False
abbrev TS:=Ends->St->Hp->Prop
def EP (X:Cx) (pins:List (Addr × Obj)) (σ:St) (Q:VK) (u:Value) (s':Shared):Prop:=∃ v H',Inv X pins σ H' s'/\bT v u/\Q v H'
def TP (X:Cx) (pins:List (Addr × Obj)) (σ:St) (Q:Bool->Hp->Prop) (b:Bool) (s':Shared):Prop:=∃ H',Inv X pins σ H' s'/\Q b H'
def AP (X:Cx) (pins:List (Addr × Obj)) (σ:St) (Q:List V->Hp->Prop) (us:List Value) (s':Shared):Prop:=∃ vs H',Inv X pins σ H' s'/\bC vs us/\Q vs H'
def SP (X:Cx) (pins:List (Addr × Obj)) (D:Ends) (f:Flow) (s':Shared):Prop :=
 match f with
|.next=>∃ σ' H',Inv X pins σ' H' s'/\D.nx σ' H'
|.brk=>∃ σ' H',Inv X pins σ' H' s'/\D.bk σ' H'
|.cont=>∃ σ' H',Inv X pins σ' H' s'/\D.ct σ' H'
|.ret u=>∃ v σ' H',Inv X pins σ' H' s'/\bT v u/\D.rt v H'
def PE (X:Cx) (e:Expr) (t:TE):Prop :=
 ∀ (pins:List (Addr × Obj)) (s:Shared) (σ:St) (H:Hp) (Q:VK),Inv X pins σ H s->t σ H Q->wpAny (model X.prog X.w) X.A (eval e X.env) (EP X pins σ Q) X.xe s
def PT (X:Cx) (e:Expr) (t:TT):Prop :=
 ∀ (pins:List (Addr × Obj)) (s:Shared) (σ:St) (H:Hp) (Q:Bool->Hp->Prop),Inv X pins σ H s->t σ H Q->wpAny (model X.prog X.w) X.A (isTrue e X.env (eval e X.env)) (TP X pins σ Q) X.xe s
def PW (X:Cx) (e:Expr) (t:TT):Prop :=
 ∀ (whole:Sem Value) (pins:List (Addr × Obj)) (s:Shared) (σ:St) (H:Hp) (Q:Bool->Hp->Prop),Inv X pins σ H s->t σ H Q->wpAny (model X.prog X.w) X.A (isTrue e X.env whole) (TP X pins σ Q) X.xe s
theorem PW.pt {X:Cx}{e:Expr}{t:TT}(h:PW X e t):PT X e t:=h _
def PA (X:Cx) (es:List Expr) (t:TA):Prop :=
 ∀ (pos:Pos) (pins:List (Addr × Obj)) (s:Shared) (σ:St) (H:Hp) (Q:List V->Hp->Prop),Inv X pins σ H s->t σ H Q->wpAny (model X.prog X.w) X.A (spliced (backTo pos (starEach es X.env))) (AP X pins σ Q) X.xe s
def PS (X:Cx) (st:Stmt) (t:TS):Prop :=
 ∀ (pins:List (Addr × Obj)) (s:Shared) (σ:St) (H:Hp) (D:Ends),Inv X pins σ H s->t D σ H->wpAny (model X.prog X.w) X.A (exec st X.env) (SP X pins D) X.xe s
def PSs (X:Cx) (st:List Stmt) (t:TS):Prop :=
 ∀ (pins:List (Addr × Obj)) (s:Shared) (σ:St) (H:Hp) (D:Ends),Inv X pins σ H s->t D σ H->wpAny (model X.prog X.w) X.A (execs st X.env) (SP X pins D) X.xe s
theorem thn {α:Type}{t:Sem α}{Q Q':α->Shared->Prop}{M:Model}{A:Around}{E:Value->Shared->Prop}{s:Shared}(h:wpAny M A t Q E s) (hQ:∀ a s,Q a s->Q' a s):wpAny M A t Q' E s:=wpAny_mono h hQ λ_ _ x=>x
end L2
namespace L2
open PySem PySem.Spec PyProof.Rows
section
variable {X:Cx}
def ou (i:Nat):TE:=λσ H Q=>∃ v,σ[i]?=some (some v)/\Q v H
def tC (v:V):TE:=λ_ H Q=>Q v H
theorem DL {i:Nat}{x:Str}{pos:Pos}(hN:X.N[i]?=some x) (hv:Vis X.env.scope x) (hd:(x == ("__debug__":Str))=false:=by decide) (hcd:(x == ("__classdict__":Str))=false:=by decide):PE X (.Name x pos) (ou i):=by
 intro pins s σ H Q I h
 obtain⟨v,e,h⟩:=h
 obtain⟨m,hn,hl⟩:=I.loc
 obtain⟨u,r,l⟩:=hl i x v hN e hv
 have fin:EP X pins σ Q u s:=⟨v,H,I,r,h⟩
 rcases l with⟨hk,hm⟩|⟨hk,c,hc,hcell⟩
 . exact wpAny_Name (wpAny_loadName_local I.ok.kind hk hn hm fin) hd
 . rcases hk with hk|hk
   . exact wpAny_Name (wpAny_loadName_cell I.ok.kind hk hc hcell fin) hd
   . exact wpAny_Name (wpAny_loadName_free I.ok.kind hk hc hcell fin hcd) hd
theorem ae {i j pos}:PE X (.Constant (.int i) j pos) (tC (.int i)):=λ_ _ _ H _ I h=>wpAny_Constant_int ⟨.int i,H,I.tok _,⟨_,rfl⟩,h⟩
theorem cn {b j pos}:PE X (.Constant (.bool b) j pos) (tC (.bl b)):=λ_ _ _ H _ I h=>Constant_bool ⟨.bl b,H,I,rfl,h⟩
theorem cC {j pos}:PE X (.Constant .none j pos) (tC .non):=λ_ _ _ H _ I h=>Constant_none ⟨.non,H,I,rfl,h⟩
theorem ai {x j pos}:PE X (.Constant (.str x) j pos) (tC (.str x)):=λ_ _ _ H _ I h=>Calls.Constant_str ⟨.str x,H,I.tok _,⟨_,rfl⟩,h⟩
def Gl (X:Cx) (x:Str):Prop:=X.env.kindOf x=some .globalImplicit
theorem gz {E:Value->Shared->Prop}{pins:List (Addr × Obj)}{s:Shared}{σ:St}{H:Hp}{x:Str}{u:Value}{pos:Pos}{Q:Value->Shared->Prop}(I:Inv X pins σ H s) (hg:Gl X x) (hm:X.mg x=some u) (h:Q u s)
 (hd:(x == ("__debug__":Str))=false:=by decide):wpAny (model X.prog X.w) X.A (eval (.Name x pos) X.env) Q E s :=
 Calls.Name_function_global I.ok.kind hg (Calls.loadGlobal_global (by rw[I.ok.glob];exact I.mod.glob.keeps I.bk) hm h) hd
theorem nP {E:Value->Shared->Prop}{pins:List (Addr × Obj)}{s:Shared}{σ:St}{H:Hp}{x:Str}{u:Value}{pos:Pos}{Q:Value->Shared->Prop}(I:Inv X pins σ H s) (hg:Gl X x) (hm:X.mg x=none) (hv:bootBuiltins x=some u) (h:Q u s)
 (hn:x≠"__name__":=by decide) (hd:(x == ("__debug__":Str))=false:=by decide):wpAny (model X.prog X.w) X.A (eval (.Name x pos) X.env) Q E s:=by
 obtain⟨mb,h1,h2⟩:=I.mod.blt
 exact Calls.Name_function_global I.ok.kind hg (Calls.loadGlobal_builtin (by rw[I.ok.glob];exact I.mod.glob.keeps I.bk) hm (by rw[I.ok.blt];exact h1.keeps I.bk) ((h2 x hn).trans hv) h) hd
theorem eI {x:Str}{v:V}{u:Value}{pos:Pos}(hg:Gl X x) (hm:X.mg x=some u) (r:bT v u) (hd:(x == ("__debug__":Str))=false:=by decide):PE X (.Name x pos) (tC v) :=
 λ_ _ _ H _ I h=>gz I hg hm ⟨v,H,I,r,h⟩ hd
theorem hV {x:Str}{v:V}{u:Value}{pos:Pos}(hg:Gl X x) (hm:X.mg x=none) (hv:bootBuiltins x=some u) (r:bT v u) (hn:x≠"__name__":=by decide) (hd:(x == ("__debug__":Str))=false:=by decide):PE X (.Name x pos) (tC v) :=
 λ_ _ _ H _ I h=>nP I hg hm hv ⟨v,H,I,r,h⟩ hn hd
variable {a b:Expr}{ta tb:TE}{pos:Pos}
def PC (X:Cx) (op:CmpOp) (a b:Expr) (t:TE):Prop :=
 ∀ (pins:List (Addr × Obj)) (s:Shared) (σ:St) (H:Hp) (Q:VK),Inv X pins σ H s->t σ H Q ->
  wpAny (model X.prog X.w) X.A (eval a X.env) (λv s₁=>wpAny (model X.prog X.w) X.A (eval b X.env) (λu s₂=>wpAny (model X.prog X.w) X.A (compareOp op v u) (EP X pins σ Q) X.xe s₂) X.xe s₁) X.xe s
theorem AB (b:Expr) {op:CmpOp}(h:op≠.In) (h2:op≠.NotIn):behindInMarks op b=false:=by
 have e1:(op == CmpOp.In)=false:=by cases op<;>first|rfl|exact absurd rfl h
 have e2:(op == CmpOp.NotIn)=false:=by cases op<;>first|rfl|exact absurd rfl h2
 cases b<;>simp[behindInMarks,e1,e2]
def tB (t:TE):TT:=λσ H Q=>t σ H λx H1=>∃ c,x=.bl c/\Q c H1
theorem By {op:CmpOp}{t:TE}(h:PC X op a b t) (h1:behindInMarks op b=false:=by first|exact AB _ (by decide) (by decide)|rfl):PT X (.Compare a [op] [b] pos) (tB t):=by
 intro pins s σ H Q I hw
 refine wpAny_isTrue_Compare1 (thn (h pins s σ H _ I hw) λv s1 h1=>thn h1 λu s2 h2=>thn h2 λc s3 ⟨x,H1,I1,r1,q1⟩=>?_) h1
 obtain⟨d,rfl,q⟩:=q1
 cases r1
 exact wpAny_truthy_bool ⟨H1,I1,q⟩
theorem cm {e:Expr}{t:TE}(h:PE X e t) (he:∀ whole,isTrue e X.env whole=(do let v <-whole;standAt e.pos;holding [v] (truthy v)):=by intro _;rfl):PT X e (tB t):=by
 intro pins s σ H Q I hw
 refine isTrue_plain (thn (h pins s σ H _ I hw) λv s1 ⟨x,H1,I1,r1,q1⟩=>?_) (he _)
 obtain⟨d,rfl,q⟩:=q1
 cases r1
 exact wpAny_truthy_bool ⟨H1,I1,q⟩
variable {tA tB':TT}{bS:List Expr}
def Gw (t u:TT):TT:=λσ H Q=>t σ H λc H1=>if c=true then u σ H1 Q else Q false H1
def tOr (t u:TT):TT:=λσ H Q=>t σ H λc H1=>if c=true then Q true H1 else u σ H1 Q
def Gf (t:TT):TT:=λσ H Q=>t σ H λc H1=>Q (!c) H1
theorem mW (ha:PT X a tA):PW X (.BoolOp .And [a] pos) tA:=by
 intro wh pins s σ H Q I h
 refine isTrue_and (thn (ha pins s σ H Q I h) λc s1 e=>?_)
 cases c with
|true=>exact isTrue_and_nil e
|false=>exact e
theorem mR (ha:PT X a tA):PW X (.BoolOp .Or [a] pos) tA:=by
 intro wh pins s σ H Q I h
 refine isTrue_or (thn (ha pins s σ H Q I h) λc s1 e=>?_)
 cases c with
|false=>exact isTrue_or_nil e
|true=>exact e
theorem mT (ha:PT X a tA) (hb:PW X (.BoolOp .And (b :: bS) pos) tB'):PW X (.BoolOp .And (a :: b :: bS) pos) (Gw tA tB'):=by
 intro wh pins s σ H Q I h
 refine isTrue_and (thn (ha pins s σ H _ I h) λc s1 ⟨H1,I1,q1⟩=>?_)
 cases c with
|true=>exact hb wh pins s1 σ H1 Q I1 q1
|false=>exact⟨H1,I1,q1⟩
theorem qr (ha:PT X a tA) (hb:PW X (.BoolOp .Or (b :: bS) pos) tB'):PW X (.BoolOp .Or (a :: b :: bS) pos) (tOr tA tB'):=by
 intro wh pins s σ H Q I h
 refine isTrue_or (thn (ha pins s σ H _ I h) λc s1 ⟨H1,I1,q1⟩=>?_)
 cases c with
|true=>exact⟨H1,I1,q1⟩
|false=>exact hb wh pins s1 σ H1 Q I1 q1
theorem eE (ha:PT X a tA):PT X (.UnaryOp .Not a pos) (Gf tA):=by
 intro pins s σ H Q I h
 exact isTrue_not (ha pins s σ H (λc H1=>Q (!c) H1) I h)
def EO (ta tb:TE):TE:=λσ H Q=>ta σ H λx H1=>∃ c,x=.bl c/\if c=true then tb σ H1 Q else Q (.bl false) H1
def FB (ta:TE):TE:=λσ H Q=>ta σ H λx H1=>∃ c,x=.bl c/\Q (.bl (!c)) H1
theorem Bu {op}{t:TE}(h:PE X a t):PE X (.BoolOp op [a] pos) t:=λpins s σ H Q I hw=>BoolOp_one (h pins s σ H Q I hw)
theorem Bw (ha:PE X a ta) (hb:PE X (.BoolOp .And (b :: bS) pos) tb):PE X (.BoolOp .And (a :: b :: bS) pos) (EO ta tb):=by
 intro pins s σ H Q I h
 refine BoolOp_and (thn (ha pins s σ H _ I h) λv s1 ⟨x,H1,I1,r1,q1⟩=>?_)
 obtain⟨c,rfl,q1⟩:=q1
 cases r1
 refine wpAny_truthy_bool ?_
 cases c with
|true=>exact hb pins s1 σ H1 Q I1 q1
|false=>exact⟨.bl false,H1,I1,rfl,q1⟩
theorem DZ (ha:PE X a ta):PE X (.UnaryOp .Not a pos) (FB ta):=by
 intro pins s σ H Q I h
 refine UnaryOp_ (thn (ha pins s σ H _ I h) λv s1 ⟨x,H1,I1,r1,q1⟩=>?_)
 obtain⟨c,rfl,q1⟩:=q1
 cases r1
 exact not_of (wpAny_truthy_bool ⟨.bl (!c),H1,I1,rfl,q1⟩)
def tIf (t:TT) (ta tb:TE):TE:=λσ H Q=>t σ H λc H1=>if c=true then ta σ H1 Q else tb σ H1 Q
theorem kF {c:Expr}(hc:PT X c tA) (ha:PE X a ta) (hb:PE X b tb):PE X (.IfExp c a b pos) (tIf tA ta tb):=by
 intro pins s σ H Q I h
 refine wpAny_IfExp (thn (hc pins s σ H _ I h) λd s1 ⟨H1,I1,q1⟩=>?_)
 cases d with
|true=>exact ha pins s1 σ H1 Q I1 q1
|false=>exact hb pins s1 σ H1 Q I1 q1
end
end L2
namespace L2
open PySem PySem.Spec PyProof.Rows
def SqL (K:PySem.W.Frag) (H:Hp) (a:Addr) (xs:List V):Prop :=
 Rd H a (.lst xs) \/
  ∃ (o:Obj) (its:Array Value) (n:Nat),K.lookup a=some o/\o.cls=.type "list"/\o.dict=none/\o.data=.seq its n/\its.size <= sizeLine/\bC xs its.toList
def SqT (K:PySem.W.Frag) (H:Hp) (a:Addr) (xs:List V):Prop :=
 Rd H a (.tup xs) \/
  ∃ (o:Obj) (its:Array Value) (n:Nat),K.lookup a=some o/\o.cls=.type "tuple"/\o.data=.seq its n/\its.size <= sizeLine/\bC xs its.toList
def Gg:Value->Option V
|.none=>some .non
|.bool b=>some (.bl b)
|.int i _=>some (.int i)
|.str x _=>some (.str x)
|.bytes b _=>some (.byt b)
|.float b _=>some (.flt b)
|.ref a=>some (.ref a)
|.type n=>some (.ty n)
|_=>none
theorem bT.abs {x:V}{u:Value}(r:bT x u):Gg u=some x:=by
 cases x with
|non=>cases r;rfl
|bl _=>cases r;rfl
|int _=>obtain⟨t,rfl⟩:=r;rfl
|str _=>obtain⟨t,rfl⟩:=r;rfl
|byt _=>obtain⟨t,rfl⟩:=r;rfl
|flt _=>obtain⟨t,rfl⟩:=r;rfl
|ref _=>cases r;rfl
|ty _=>cases r;rfl
theorem bT.inj {x y:V}{u:Value}(r:bT x u) (q:bT y u):x=y:=Option.some.inj (r.abs.symm.trans q.abs)
theorem bC.inj:∀ {xs ys:List V}{us:List Value},bC xs us->bC ys us->xs=ys
|_,_,_,.nil,.nil=>rfl
|_,_,_,.cons r t,.cons r' t'=>by rw[r.inj r',bC.inj t t']
section
variable {X:Cx}{pins:List (Addr × Obj)}{σ:St}{H:Hp}{s:Shared}{a:Addr}{xs ys:List V}
theorem SqL.of {K:PySem.W.Frag}(h:H a=some (.lst xs)):SqL K H a xs:=.inl (.inl h)
theorem SqT.of {K:PySem.W.Frag}(h:H a=some (.tup xs)):SqT K H a xs:=.inl (.inl h)
theorem Inv.list (I:Inv X pins σ H s) (h:SqL X.K H a xs):∃ its:List Value,bC xs its/\PlainL s.heap a its.toArray/\xs.length <= sizeLine:=by
 rcases h with h|⟨o,its,n,hk,hc,hd,hs,hz,r⟩
 . obtain⟨z,its,n,r,e⟩:=h.ok I.hok
   exact⟨its,r,⟨_,n,e,rfl,rfl,rfl⟩,z⟩
 . refine⟨its.toList,r,⟨o,n,I.kIn a o hk,hc,hd,by simpa using hs⟩,?_⟩
   have e:=r.length
   simp only[Array.length_toList]at e
   omega
theorem Inv.tuple (I:Inv X pins σ H s) (h:SqT X.K H a xs):∃ its:List Value,bC xs its/\IsTup s.heap a its.toArray/\xs.length <= sizeLine:=by
 rcases h with h|⟨o,its,n,hk,hc,hs,hz,r⟩
 . obtain⟨z,its,r,p⟩:=h.ok I.hok
   exact⟨its,r,p,z⟩
 . refine⟨its.toList,r,⟨o,I.kIn a o hk,hc,n,by simpa using hs⟩,?_⟩
   have e:=r.length
   simp only[Array.length_toList]at e
   omega
theorem Inv.list_inj (I:Inv X pins σ H s) (h:SqL X.K H a xs) (h':SqL X.K H a ys):xs=ys:=by
 obtain⟨its,r,⟨o,n,e,_,_,d⟩,_⟩:=I.list h
 obtain⟨its',r',⟨o',n',e',_,_,d'⟩,_⟩:=I.list h'
 rw[e]at e';cases e'
 rw[d]at d'
 injection d' with d1 _
 have:its=its':=by simpa using congrArg Array.toList d1
 subst this
 exact r.inj r'
theorem Inv.tuple_inj (I:Inv X pins σ H s) (h:SqT X.K H a xs) (h':SqT X.K H a ys):xs=ys:=by
 obtain⟨its,r,⟨o,e,_,n,d⟩,_⟩:=I.tuple h
 obtain⟨its',r',⟨o',e',_,n',d'⟩,_⟩:=I.tuple h'
 rw[e]at e';cases e'
 rw[d]at d'
 injection d' with d1 _
 have:its=its':=by simpa using congrArg Array.toList d1
 subst this
 exact r.inj r'
end
abbrev Cx.wish (X:Cx) (E:Value->Shared->Prop):Cx:={ X with xe:=E }
abbrev Cx.nox (X:Cx):Cx:=X.wish λ_ _=>False
theorem Cx.Ok.wish {X:Cx}(ok:X.Ok) (E:Value->Shared->Prop):(X.wish E).Ok :=
 ⟨ok.mod,ok.kind,ok.glob,ok.blt,ok.above,ok.inj,ok.has,ok.cab,ok.hd,ok.frames,ok.stk,ok.exf,ok.bs,ok.bsz,ok.noex,ok.exfs,ok.funs,ok.frf⟩
theorem Cx.Ok.unwish {X:Cx}{E:Value->Shared->Prop}(ok:(X.wish E).Ok):X.Ok :=
 ⟨ok.mod,ok.kind,ok.glob,ok.blt,ok.above,ok.inj,ok.has,ok.cab,ok.hd,ok.frames,ok.stk,ok.exf,ok.bs,ok.bsz,ok.noex,ok.exfs,ok.funs,ok.frf⟩
section
variable {X:Cx}{pins:List (Addr × Obj)}{σ:St}{H:Hp}{s:Shared}{E:Value->Shared->Prop}
theorem Inv.wish (I:Inv X pins σ H s) (E:Value->Shared->Prop):Inv (X.wish E) pins σ H s:=⟨I.ok.wish E,I.os,I.bare,I.base,I.loc,I.cell,I.free,I.freeC,I.pin,I.hok,I.len⟩
theorem Inv.unwish (I:Inv (X.wish E) pins σ H s):Inv X pins σ H s:=⟨I.ok.unwish,I.os,I.bare,I.base,I.loc,I.cell,I.free,I.freeC,I.pin,I.hok,I.len⟩
theorem SP.unwish {D:Ends}{f:Flow}{s':Shared}(h:SP (X.wish E) pins D f s'):SP X pins D f s':=by
 cases f with
|next=>obtain⟨σ',H',I,q⟩:=h;exact⟨σ',H',I.unwish,q⟩
|brk=>obtain⟨σ',H',I,q⟩:=h;exact⟨σ',H',I.unwish,q⟩
|cont=>obtain⟨σ',H',I,q⟩:=h;exact⟨σ',H',I.unwish,q⟩
|ret u=>obtain⟨v,σ',H',I,r,q⟩:=h;exact⟨v,σ',H',I.unwish,r,q⟩
theorem PSs.nox {st:List Stmt}{t:TS}(h:PSs X.nox st t):PSs X st t:=λpins s σ H D I hw =>
 wpAny_mono (h pins s σ H D (I.wish _) hw) (λ_ _ q=>q.unwish) λ_ _ z=>False.elim z
end
section
variable {X:Cx}{st:Stmt}{bS:List Stmt}{t u:TS}{e:Expr}{te:TE}{pos:Pos}
def Fq:TS:=λD σ H=>D.nx σ H
def x4 (t u:TS):TS:=λD σ H=>t { D with nx:=u D } σ H
theorem ao:PSs X [] Fq:=λ_ _ σ H _ I h=>wpAny_execs_nil ⟨σ,H,I,h⟩
theorem ac (h1:PS X st t) (h2:PSs X bS u):PSs X (st :: bS) (x4 t u):=by
 intro pins s σ H D I h
 refine wpAny_execs_cons (thn (h1 pins s σ H { D with nx:=u D } I h) λf s1 q=>?_)
 cases f with
|next =>
  obtain⟨σ',H',I',q⟩:=q
  exact h2 pins s1 σ' H' D I' q
|ret v=>exact q
|brk=>exact q
|cont=>exact q
theorem af (h1:PS X st t):PSs X [st] t:=by
 intro pins s σ H D I h
 refine wpAny_execs_cons (thn (h1 pins s σ H D I h) λf s1 q=>?_)
 cases f with
|next=>exact wpAny_execs_nil q
|ret v=>exact q
|brk=>exact q
|cont=>exact q
theorem Inv.quiet {pins:List (Addr × Obj)}{σ:St}{H:Hp}{s:Shared}(I:Inv X pins σ H s):interactive X.env=false:=by simp[interactive,I.ok.kind]
def Fy (te:TE):TS:=λD σ H=>te σ H λ_ H1=>D.nx σ H1
theorem aI (he:PE X e te) (hs:swapsWith e none pos.line X.env=pure false:=by rfl):PS X (.Expr e pos) (Fy te):=by
 intro pins s σ H D I h
 exact wpAny_Expr_any (thn (he pins s σ H _ I h) λv s1 ⟨x,H1,I1,r1,q1⟩=>⟨σ,H1,I1,q1⟩) I.quiet hs
def F6 (te:TE):TS:=λD σ H=>te σ H D.rt
theorem ar (he:PE X e te):PS X (.Return (some e) pos) (F6 te):=by
 intro pins s σ H D I h
 exact wpAny_Return_some (thn (he pins s σ H _ I h) λv s1 ⟨x,H1,I1,r1,q1⟩=>⟨x,σ,H1,I1,r1,q1⟩)
def Fg:TS:=λD _ H=>D.rt .non H
theorem ub:PS X (.Return none pos) Fg:=λ_ _ σ H _ I h=>wpAny_Return_none ⟨.non,σ,H,I,rfl,h⟩
def Gq (c:TT) (t u:TS):TS:=λD σ H=>c σ H λb H1=>if b=true then t D σ H1 else u D σ H1
theorem aM {c:Expr}{a b:List Stmt}{tc:TT}(hc:PT X c tc) (ha:PSs X a t) (hb:PSs X b u):PS X (.If c a b pos) (Gq tc t u):=by
 intro pins s σ H D I h
 refine wpAny_If (thn (hc pins s σ H _ I h) λd s1 ⟨H1,I1,q1⟩=>?_)
 cases d with
|true=>exact ha pins s1 σ H1 D I1 q1
|false=>exact hb pins s1 σ H1 D I1 q1
def Ek:TS:=λ_ _ _=>False
theorem B0:PS X st Ek:=λ_ _ _ _ _ _ h=>h.elim
end
abbrev TG:=V->St->Hp->(St->Hp->Prop)->Prop
abbrev TGs:=List V->St->Hp->(St->Hp->Prop)->Prop
def PG (X:Cx) (target:Expr) (t:TG):Prop :=
 ∀ (pins:List (Addr × Obj)) (s:Shared) (σ:St) (H:Hp) (v:V) (u:Value) (Q:St->Hp->Prop),Inv X pins σ H s->bT v u->t v σ H Q ->
  wpAny (model X.prog X.w) X.A (assign target X.env u) (λ_ s'=>∃ σ' H',Inv X pins σ' H' s'/\Q σ' H') X.xe s
def PGs (X:Cx) (ts:List Expr) (t:TGs):Prop :=
 ∀ (pins:List (Addr × Obj)) (s:Shared) (σ:St) (H:Hp) (vs:List V) (us:List Value) (Q:St->Hp->Prop),Inv X pins σ H s->bC vs us->t vs σ H Q ->
  wpAny (model X.prog X.w) X.A (assignInOrder ((assignEach ts X.env).map (·.2)) us) (λ_ s'=>∃ σ' H',Inv X pins σ' H' s'/\Q σ' H') X.xe s
abbrev EL:=V->V->V->Hp->(Hp->Prop)->Prop
def FL (X:Cx) (t:EL):Prop :=
 ∀ (pins:List (Addr × Obj)) (s:Shared) (σ:St) (H:Hp) (o i v:V) (ov iv u:Value) (Q:Hp->Prop),Inv X pins σ H s->bT o ov->bT i iv->bT v u->t o i v H Q ->
  wpAny (model X.prog X.w) X.A (setItem ov iv u) (λ_ s'=>∃ H',Inv X pins σ H' s'/\Q H') X.xe s
section
variable {X:Cx}{pos:Pos}
def gS (i:Nat):TG:=λv σ H Q=>Q (σ.set i (some v)) H
theorem cZ {i:Nat}{x:Str}(hN:X.N.Nodup) (hi:X.N[i]?=some x) (hx:Loc X.env.scope x) (hf:X.fn x=true\/X.env.scope.names.lookup x=some .local:=by first|exact .inl rfl|exact .inr rfl|assumption):PG X (.Name x pos) (gS i):=by
 intro pins s σ H v u Q I r h
 exact wpAny_assign_Name (qY I hN hi hx r (λs' I'=>⟨_,H,I',h⟩) hf)
def EI:TGs:=λvs σ H Q=>vs=[]/\Q σ H
def u9 (t:TG) (u:TGs):TGs:=λvs σ H Q=>∃ v r,vs=v :: r/\t v σ H λσ' H'=>u r σ' H' Q
theorem xQ:PGs X [] EI:=by
 intro pins s σ H vs us Q I r h
 obtain⟨e,h⟩:=h
 subst e
 cases r
 exact assignInOrder_nil ⟨σ,H,I,h⟩
theorem jn {e:Expr}{es:List Expr}{t:TG}{u:TGs}(h1:PG X e t) (h2:PGs X es u)
 (hs:(assignEach (e :: es) X.env).map (·.2)=assign e X.env :: (assignEach es X.env).map (·.2):=by rfl):PGs X (e :: es) (u9 t u):=by
 intro pins s σ H vs us Q I r h
 obtain⟨v,vr,e1,h⟩:=h
 subst e1
 cases r with
|cons r rr =>
  rw[hs]
  refine assignInOrder_cons (thn (h1 pins s σ H _ _ _ I r h) λ_ s1 ⟨σ1,H1,I1,q1⟩=>?_)
  exact h2 pins s1 σ1 H1 _ _ Q I1 rr q1
def EJ (K:PySem.W.Frag) (n:Nat) (t:TGs):TG:=λv σ H Q=>∃ a xs,v=.ref a/\SqT K H a xs/\xs.length=n/\t xs σ H Q
theorem BJ {es:List Expr}{k:Nat}{t:TGs}{n:Nat}(hc:X.calm=true) (h:PGs X es t)
 (hn:(assignEach es X.env).length=n:=by rfl) (hst:(assignEach es X.env).findIdx? (·.1)=none:=by rfl):PG X (.Tuple es k pos) (EJ X.K n t):=by
 intro pins s σ H v u Q I r hw
 obtain⟨a,xs,e1,hq,hl,hw⟩:=hw
 subst e1
 cases r
 obtain⟨its,rv,ht,hz⟩:=I.tuple hq
 refine assign_Tuple_tuple (I.ok.hd hc) ht (by simp[hn,<-hl,rv.length]) hst λh' hx=>?_
 have I1:Inv X pins σ H { s with heap:=h' }:=I.kept (t':=s.toks) λb o e=>hx b o (Nat.ne_of_lt (Heap.lt_size e)) e
 exact h pins _ σ H xs _ Q I1 (by simpa using rv) hw
def Gj (to ti:TE) (t:EL):TG:=λv σ H Q=>to σ H λo H1=>ti σ H1 λi H2=>t o i v H2 λH3=>Q σ H3
theorem mS {o i:Expr}{to ti:TE}{t:EL}(ho:PE X o to) (hi:PE X i ti) (hs:FL X t)
 (ha:∀ v,assign (.Subscript o i pos) X.env v=(do
  let ov <-holding [v] (eval o X.env)
  let iv <-holding [v,ov] (eval i X.env)
  standAt pos
  holding [v,ov,iv] (setItem ov iv v)
  release [v,ov,iv] []):=by intro _;rfl):PG X (.Subscript o i pos) (Gj to ti t):=by
 intro pins s σ H v u Q I r h
 rw[ha]
 refine wpAny_bind (wpAny_holding (thn (ho pins s σ H _ I h) λov s1 ⟨x,H1,I1,r1,q1⟩=>?_))
 refine wpAny_bind (wpAny_holding (thn (hi pins s1 σ H1 _ I1 q1) λiv s2 ⟨y,H2,I2,r2,q2⟩=>?_))
 refine wpAny_bind (wpAny_standAt (wpAny_bind (wpAny_holding (thn (hs pins s2 σ H2 x y v ov iv u _ I2 r1 r2 r q2) λ_ s3 ⟨H3,I3,q3⟩=>?_))))
 exact wpAny_release ⟨σ,H3,I3,q3⟩
def wY (te:TE) (g:TG):TS:=λD σ H=>te σ H λx H1=>g x σ H1 D.nx
theorem lP {tg e:Expr}{te:TE}{g:TG}(he:PE X e te) (hg:PG X tg g) (hs:swapsWithSole [tg] e pos.line X.env=pure false:=by rfl) (hw:swappedStores [tg] e X.env=pure none:=by rfl)
 (h1:(assignEach [tg] X.env).map (·.2)=[assign tg X.env]:=by rfl):PS X (.Assign [tg] e pos) (wY te g):=by
 intro pins s σ H D I h
 refine wpAny_Assign_stores (thn (he pins s σ H _ I h) λv s1 ⟨x,H1,I1,r1,q1⟩=>?_) hs hw
 rw[h1]
 exact thn (hg pins s1 σ H1 x v _ I1 r1 q1) λ_ s2 q=>q
theorem aB {i:Nat}{x:Str}{e:Expr}{te:TE}{pos':Pos}(hN:X.N.Nodup) (hi:X.N[i]?=some x) (hx:Loc X.env.scope x) (he:PE X e te) (hs:swapsWith e (some (.Name x pos')) pos.line X.env=pure false:=by rfl) (hf:X.fn x=true\/X.env.scope.names.lookup x=some .local:=by first|exact .inl rfl|exact .inr rfl|assumption) :
 PS X (.Assign [.Name x pos'] e pos) (wY te (gS i)):=by
 intro pins s σ H D I h
 refine wpAny_Assign_Name (thn (he pins s σ H _ I h) λv s1 ⟨y,H1,I1,r1,q1⟩=>?_) hs
 exact qY I1 hN hi hx r1 (λs2 I2=>⟨_,H1,I2,q1⟩) hf
end
section
variable {X:Cx}{pos:Pos}
def Di (c:TT) (tb:TS):TS:=λD σ H=>∃ W:Nat->St->Hp->Prop,(∃ m,W m σ H)/\∀ m σ H,W m σ H ->
 c σ H λb H1=>if b=true then ∃ N:St->Hp->Prop,(∀ σ' H',N σ' H'->∃ m',m' < m/\W m' σ' H')/\tb { D with nx:=N,ct:=N,bk:=D.nx } σ H1 else D.nx σ H1
theorem qe {c:Expr}{body:List Stmt}{tc:TT}{tb:TS}(hp:PassesOwn (model X.prog X.w) X.A X.env X.xe) (hc:PT X c tc) (hb:PSs X body tb):PS X (.While c body [] pos) (Di tc tb):=by
 intro pins s σ H D I h
 obtain⟨W,⟨m0,w0⟩,turn⟩:=h
 refine wpAny_While (codeAny_whileLoop (λn s'=>∃ σ' H',Inv X pins σ' H' s'/\W n σ' H') ?_ m0 ⟨σ,H,I,w0⟩)
 rintro n s1 ⟨σ1,H1,I1,w1⟩
 refine wpAny_passesOwn hp (thn (hc pins s1 σ1 H1 _ I1 (turn n σ1 H1 w1)) λb s2 ⟨H2,I2,q2⟩=>?_)
 cases b with
|true =>
  obtain⟨N,hN,q2⟩:=q2
  rw[if_pos rfl]
  refine wpAny_passesOwn hp (thn (hb pins s2 σ1 H2 _ I2 q2) λf s3 q3=>?_)
  cases f with
 |next =>
   obtain⟨σ3,H3,I3,n3⟩:=q3
   obtain⟨m',hm,w3⟩:=hN σ3 H3 n3
   exact⟨m',hm,σ3,H3,I3,w3⟩
 |cont =>
   obtain⟨σ3,H3,I3,n3⟩:=q3
   obtain⟨m',hm,w3⟩:=hN σ3 H3 n3
   exact⟨m',hm,σ3,H3,I3,w3⟩
 |brk=>exact q3
 |ret v=>exact q3
|false =>
  rw[if_neg Bool.false_ne_true]
  exact wpAny_execs_nil ⟨σ1,H2,I2,q2⟩
end
structure It where
 go:Nat->Hp->Prop
 yld:Nat->Hp->V->Hp->Prop
 stop:Nat->Hp->Prop
def r8 (X:Cx) (pins:List (Addr × Obj)) (H:Hp) (b:Addr):Prop :=
 H b=none/\b≠X.env.locals/\b ∉ X.fs/\(b∈X.ex\/X.s₀.heap.objs.size <= b)/\(∀ x c,X.env.cells.lookup x=some c->c≠b)/\∀ p∈X.pn++pins,p.1≠b
theorem Inv.fpOk {X:Cx}{pins:List (Addr × Obj)}{σ:St}{H H':Hp}{s:Shared}{b:Addr}(I:Inv X pins σ H s) (hb:s.heap.objs.size <= b) (hn:H' b=none):r8 X pins H' b:=by
 refine⟨hn,Nat.ne_of_gt (Nat.lt_of_lt_of_le I.lt hb),I.nofs hb,.inr (Nat.le_trans I.sz hb),λx c e z=>?_,λp hp z=>?_⟩
 . obtain⟨v,q⟩:=I.cell x c e
   exact absurd (Nat.lt_of_lt_of_le q.lt (by rw[z];exact hb)) (Nat.lt_irrefl _)
 . exact absurd (Nat.lt_of_lt_of_le (Heap.lt_size (I.pin p hp).1) (by rw[z];exact hb)) (Nat.lt_irrefl _)
structure Turn (P:Program) (w:World) (K:PySem.W.Frag) (tg:Expr) (J:It) (fp:List Addr) (it:Addr) (tn:Nat->Heap->Prop):Prop where
 mem:it∈fp
 obj:∀ i h,tn i h->∀ b∈fp,∃ o,h.get? b=some o/\∀ v,o.data≠.cell v
 keep:∀ i h h',tn i h->(∀ b∈fp,∀ o,h.get? b=some o->h'.get? b=some o)->tn i h'
 item:∀ (X:Cx),X.prog=P->X.w=w->X.K=K->X.calm=true->∀ (i:Nat) (pins:List (Addr × Obj)) (s:Shared) (σ:St) (H:Hp) (E:Value->Shared->Prop),Inv X pins σ H s->(∀ b∈fp,r8 X pins H b)->tn i s.heap->J.go i H ->
  wpAny (model P w) X.A (pyNext (.ref it)) (λr s1=>∃ u,r=some u /\
   wpAny (model P w) X.A (letOwnedTupleGo tg (.ref it) u) (λ_ s2=>∃ x H',Inv X pins σ H' s2/\bT x u/\J.yld i H x H'/\tn (i+1) s2.heap/\∀ b∈fp,H' b=none) E s1) E s
 done:∀ (X:Cx),X.prog=P->X.w=w->X.K=K->X.calm=true->∀ (i:Nat) (pins:List (Addr × Obj)) (s:Shared) (σ:St) (H:Hp) (E:Value->Shared->Prop),Inv X pins σ H s->(∀ b∈fp,r8 X pins H b)->tn i s.heap->J.stop i H ->
  wpAny (model P w) X.A (pyNext (.ref it)) (λr s1=>r=none/\Inv X pins σ H s1) E s
 self:∀ (A:Around) (i:Nat) (s:Shared) (Q:Value->Shared->Prop) (E:Value->Shared->Prop),tn i s.heap->Q (.ref it) s->wpAny (model P w) A (pyIter (.ref it)) Q E s
abbrev TI:=St->Hp->(It->Hp->Prop)->Prop
def PIE (X:Cx) (pins:List (Addr × Obj)) (σ:St) (tg:Expr) (R:It->Hp->Prop) (itv:Value) (s2:Shared):Prop :=
 ∃ (it:Addr) (fp:List Addr) (tn:Nat->Heap->Prop) (J:It) (H':Hp),itv=.ref it/\Inv X pins σ H' s2/\Turn X.prog X.w X.K tg J fp it tn/\tn 0 s2.heap/\(∀ b∈fp,r8 X pins H' b)/\R J H'
def PI (X:Cx) (tg iter:Expr) (wi:TI):Prop :=
 ∀ (pins:List (Addr × Obj)) (s:Shared) (σ:St) (H:Hp) (R:It->Hp->Prop),Inv X pins σ H s->wi σ H R ->
  wpAny (model X.prog X.w) X.A (eval iter X.env) (λv s1=>wpAny (model X.prog X.w) X.A (pyIter v) (PIE X pins σ tg R) X.xe s1) X.xe s
theorem yt {M:Model}{A:Around}{E:Value->Shared->Prop}{s:Shared}{tg:Expr}{it:Addr}{u:Value}{o:Obj}{n:String}{vs:Array Value}{Q:Unit->Shared->Prop}(ho:s.heap.get? it=some o) (hc:o.cls=.type n) (hd:o.data=.fields vs)
 (hn:["enumerate","zip","dict_itemiterator","dict_reverseitemiterator","odict_iterator","itertools.zip_longest","itertools.pairwise"].contains n=false) (hQ:Q () s):wpAny M A (letOwnedTupleGo tg (.ref it) u) Q E s:=by
 unfold letOwnedTupleGo
 cases tg<;>first
 |exact wpAny_pure hQ
 |(cases u<;>first
  |exact wpAny_pure hQ
  |(refine wpAny_bind (wpAny_load ho ?_)
    rw[hc,hd]
    show wpAny M A (if (["enumerate","zip","dict_itemiterator","dict_reverseitemiterator","odict_iterator","itertools.zip_longest","itertools.pairwise"].contains n && vs[0]? == some (rawInt _))=true then _ else _) Q E s
    rw[if_neg (by intro h;rw[hn,Bool.false_and]at h;cases h)]
    exact wpAny_pure hQ))
def Itl (K:PySem.W.Frag) (a:Addr):It :=
 ⟨λi H=>∃ xs x,SqL K H a xs/\xs[i]?=some x,λi H x H'=>H'=H/\∀ xs,SqL K H a xs->xs[i]?=some x,λi H=>∃ xs,SqL K H a xs/\xs.length <= i⟩
def Itt (K:PySem.W.Frag) (a:Addr):It :=
 ⟨λi H=>∃ xs x,SqT K H a xs/\xs[i]?=some x,λi H x H'=>H'=H/\∀ xs,SqT K H a xs->xs[i]?=some x,λi H=>∃ xs,SqT K H a xs/\xs.length <= i⟩
def Itr (lo:Int) (n:Nat):It:=⟨λi _=>i < n,λi H x H'=>H'=H/\x=.int (lo+i),λi _=>n <= i⟩
theorem xp {P:Program}{w:World}{K:PySem.W.Frag}{tg:Expr}(a it:Addr):Turn P w K tg (Itl K a) [it] it (λi h=>h.IsListIter it a i) where
 mem:=by simp
 obj:=λi h st b hb=>by
  have e:b=it:=by simpa using hb
  subst e
  obtain⟨o,e,c,d⟩:=st
  exact⟨o,e,λv z=>by rw[d]at z;cases z⟩
 keep:=λi h h' st k=>st.at λo e=>k it (by simp) o e
 item:=by
  intro X hP hw hK hc i pins s σ H E I hf st hg
  subst hP hw hK
  obtain⟨xs,x,hq,hx⟩:=hg
  obtain⟨its,rv,p,hz⟩:=I.list hq
  obtain⟨u,hu,ru⟩:=rv.get hx
  obtain⟨f0,f1,f2,f3,f4,f5⟩:=hf it (by simp)
  refine wpAny_pyNext_list_item st p.isList (x:=u) (by simpa using hu) λh' st' sb=>?_
  have I1:Inv X pins σ H { s with heap:=h' }:=I.turned (t':=s.toks) (λb o hb e=>(sb.2 b hb).trans e) f0 f1 f3 f4 f5
  obtain⟨o,e,c,d⟩:=id st'
  exact⟨u,rfl,yt (s:={ s with heap:=h' }) e c d (by decide) ⟨x,H,I1,ru,⟨rfl,λys hy=>by rw[I.list_inj hy hq];exact hx⟩,st',λb hb=>(hf b hb).1⟩⟩
 done:=by
  intro X hP hw hK hc i pins s σ H E I hf st hg
  subst hP hw hK
  obtain⟨xs,hq,hx⟩:=hg
  obtain⟨its,rv,p,hz⟩:=I.list hq
  obtain⟨f0,f1,f2,f3,f4,f5⟩:=hf it (by simp)
  have hl:=rv.length
  exact wpAny_pyNext_list_end (I.ok.hd hc) st p.isList (by simp;omega) λh' eb=>⟨rfl,I.turned (t':=s.toks) (λb o hb e=>eb b o hb e) f0 f1 f3 f4 f5⟩
 self:=λ_ _ _ _ _ st h=>wpAny_pyIter_listiter st h
theorem vO {P:Program}{w:World}{K:PySem.W.Frag}{tg:Expr}(a it:Addr):Turn P w K tg (Itt K a) [it] it (λi h=>h.IsTupleIter it a i) where
 mem:=by simp
 obj:=λi h st b hb=>by
  have e:b=it:=by simpa using hb
  subst e
  obtain⟨o,e,c,d⟩:=st
  exact⟨o,e,λv z=>by rw[d]at z;cases z⟩
 keep:=λi h h' st k=>st.at λo e=>k it (by simp) o e
 item:=by
  intro X hP hw hK hc i pins s σ H E I hf st hg
  subst hP hw hK
  obtain⟨xs,x,hq,hx⟩:=hg
  obtain⟨its,rv,p,hz⟩:=I.tuple hq
  obtain⟨u,hu,ru⟩:=rv.get hx
  obtain⟨f0,f1,f2,f3,f4,f5⟩:=hf it (by simp)
  refine wpAny_pyNext_tuple_item st (show s.heap.IsTuple a its.toArray from p) (x:=u) (by simpa using hu) λh' st' sb=>?_
  have I1:Inv X pins σ H { s with heap:=h' }:=I.turned (t':=s.toks) (λb o hb e=>(sb.2 b hb).trans e) f0 f1 f3 f4 f5
  obtain⟨o,e,c,d⟩:=id st'
  exact⟨u,rfl,yt (s:={ s with heap:=h' }) e c d (by decide) ⟨x,H,I1,ru,⟨rfl,λys hy=>by rw[I.tuple_inj hy hq];exact hx⟩,st',λb hb=>(hf b hb).1⟩⟩
 done:=by
  intro X hP hw hK hc i pins s σ H E I hf st hg
  subst hP hw hK
  obtain⟨xs,hq,hx⟩:=hg
  obtain⟨its,rv,p,hz⟩:=I.tuple hq
  obtain⟨f0,f1,f2,f3,f4,f5⟩:=hf it (by simp)
  have hl:=rv.length
  exact wpAny_pyNext_tuple_end (I.ok.hd hc) st (show s.heap.IsTuple a its.toArray from p) (by simp;omega) λh' eb=>⟨rfl,I.turned (t':=s.toks) (λb o hb e=>eb b o hb e) f0 f1 f3 f4 f5⟩
 self:=λ_ _ _ _ _ st h=>wpAny_pyIter_tupleiter st h
theorem wA {P:Program}{w:World}{K:PySem.W.Frag}{tg:Expr}(it:Addr) (lo:Int) (n:Nat):Turn P w K tg (Itr lo n) [it] it (λi h=>IsRangeIter h it (lo+(i:Nat) * 1) ((n:Int) - (i:Nat)) 1) where
 mem:=by simp
 obj:=λi h st b hb=>by
  have e:b=it:=by simpa using hb
  subst e
  exact⟨_,st,λv z=>by
   have z':Data.fields _=Data.cell v:=z
   cases z'⟩
 keep:=λi h h' st k=>k it (by simp) _ st
 item:=by
  intro X hP hw hK hc i pins s σ H E I hf st hg
  subst hP hw hK
  obtain⟨f0,f1,f2,f3,f4,f5⟩:=hf it (by simp)
  have W:=Walks.range (prog:=X.prog) (w:=X.w) (I.ok.hd hc) it lo 1 n
  refine W.item i s _ _ hg st λv h' tk hv st' kk=>?_
  obtain⟨t,rfl⟩:=hv
  have I1:Inv X pins σ H { s with heap:=h',toks:=tk }:=I.turned (λb o hb e=>kk b o (by simpa using hb) e) f0 f1 f3 f4 f5
  refine⟨_,rfl,yt (s:={ s with heap:=h',toks:=tk }) (n:="range_iterator") st' rfl rfl (by decide) ⟨.int (lo+i),H,I1,⟨t,?_⟩,⟨rfl,rfl⟩,st',λb hb=>(hf b hb).1⟩⟩
  rw[Int.mul_one]
 done:=by
  intro X hP hw hK hc i pins s σ H E I hf st hg
  subst hP hw hK
  obtain⟨f0,f1,f2,f3,f4,f5⟩:=hf it (by simp)
  exact wpAny_pyNext_range_end (I.ok.hd hc) st (by have:n <= i:=hg;omega) λh' eb=>⟨rfl,I.turned (t':=s.toks) (λb o hb e=>eb b o hb e) f0 f1 f3 f4 f5⟩
 self:=λ_ _ _ _ _ st h=>wpAny_pyIter_rangeiter st h
end L2
namespace L2
open PySem PySem.Spec PyProof.Rows
section
variable {X:Cx}{tg:Expr}
def Fb (K:PySem.W.Frag) (tl:TE):TI:=λσ H R=>tl σ H λx H1=>∃ a,x=.ref a/\(∃ xs,SqL K H1 a xs)/\R (Itl K a) H1
def Gp (K:PySem.W.Frag) (tl:TE):TI:=λσ H R=>tl σ H λx H1=>∃ a,x=.ref a/\(∃ xs,SqT K H1 a xs)/\R (Itt K a) H1
theorem l9 {l:Expr}{tl:TE}(hl:PE X l tl):PI X tg l (Fb X.K tl):=by
 intro pins s σ H R I h
 refine thn (hl pins s σ H _ I h) λv s1 ⟨x,H1,I1,r1,q1⟩=>?_
 obtain⟨a,e,⟨xs,hq⟩,q⟩:=q1
 subst e
 cases r1
 obtain⟨its,rv,p,hz⟩:=I1.list hq
 refine wpAny_pyIter_list p.isList ?_
 refine⟨s1.heap.objs.size,[s1.heap.objs.size],_,_,H1,rfl,I1.kept (t':=s1.toks) λb o e=>Heap.get?_push_of_some _ e,xp a _,⟨_,Heap.get?_push_size _ rfl,rfl,rfl⟩,λb hb=>?_,q⟩
 have e:b=s1.heap.objs.size:=by simpa using hb
 subst e
 exact I1.fpOk (Nat.le_refl _) (I1.hok.fresh (Nat.le_refl _))
theorem xw {l:Expr}{tl:TE}(hl:PE X l tl):PI X tg l (Gp X.K tl):=by
 intro pins s σ H R I h
 refine thn (hl pins s σ H _ I h) λv s1 ⟨x,H1,I1,r1,q1⟩=>?_
 obtain⟨a,e,⟨xs,hq⟩,q⟩:=q1
 subst e
 cases r1
 obtain⟨its,rv,p,hz⟩:=I1.tuple hq
 refine wpAny_pyIter_tuple (show s1.heap.IsTuple a its.toArray from p) ?_
 refine⟨s1.heap.objs.size,[s1.heap.objs.size],_,_,H1,rfl,I1.kept (t':=s1.toks) λb o e=>Heap.get?_push_of_some _ e,vO a _,⟨_,Heap.get?_push_size _ rfl,rfl,rfl⟩,λb hb=>?_,q⟩
 have e:b=s1.heap.objs.size:=by simpa using hb
 subst e
 exact I1.fpOk (Nat.le_refl _) (I1.hok.fresh (Nat.le_refl _))
theorem B1 {pins:List (Addr × Obj)}{σ:St}{H:Hp}{s:Shared}{R:It->Hp->Prop}{E:Value->Shared->Prop}{lo hi:Int}{t u v:Tok}{tk:Nat}(I:Inv X pins σ H s) (h1:-(2 ^ 62) <= lo) (h2:lo < 2 ^ 62) (h3:-(2 ^ 62) <= hi) (h4:hi < 2 ^ 62)
 (q:R (Itr lo (hi - lo).toNat) H):wpAny (model X.prog X.w) X.A (pyIter (.ref s.heap.objs.size)) (PIE X pins σ tg R) E { s with heap:=s.heap.push { cls:=.type "range",data:=.fields #[.int lo t,.int hi u,.int 1 v] },toks:=tk }:=by
 refine wpAny_pyIter_range (IsRange.new ..) (small_one h1 h2 h3 h4) ?_
 have I1:Inv X pins σ H { s with heap:=s.heap.push { cls:=.type "range",data:=.fields #[.int lo t,.int hi u,.int 1 v] },toks:=tk }:=I.kept λb o e=>Heap.get?_push_of_some _ e
 refine⟨(s.heap.push { cls:=.type "range",data:=.fields #[.int lo t,.int hi u,.int 1 v] }).objs.size,[(s.heap.push { cls:=.type "range",data:=.fields #[.int lo t,.int hi u,.int 1 v] }).objs.size],_,_,H,rfl,
  I1.kept (t':=tk) λb o e=>Heap.get?_push_of_some _ e,wA _ lo (hi - lo).toNat,?_,λb hb=>?_,q⟩
 . have e1:lo+((0:Nat):Int) * 1=lo:=by simp
   have e2:(((hi - lo).toNat:Nat):Int) - ((0:Nat):Int)=Builtin.Range.rangeSize lo hi 1:=by rw[rangeSize_one];split<;>omega
   show IsRangeIter _ _ (lo+((0:Nat):Int) * 1) ((((hi - lo).toNat:Nat):Int) - ((0:Nat):Int)) 1
   rw[e1,e2]
   exact Heap.get?_push_size _ rfl
 . have e:b=(s.heap.push { cls:=.type "range",data:=.fields #[.int lo t,.int hi u,.int 1 v] }).objs.size:=by simpa using hb
   subst e
   exact I1.fpOk (Nat.le_refl _) (I1.hok.fresh (Nat.le_refl _))
def F8 (ta:TA):TI:=λσ H R=>ta σ H λvs H1=>∃ j:Int,vs=[.int j]/\-(2 ^ 62) <= j/\j < 2 ^ 62/\R (Itr 0 j.toNat) H1
theorem yC {a:Expr}{ta:TA}{p pos:Pos}(hg:Gl X "range") (hm:X.mg "range"=none) (ha:PA X [a] ta) (hs:starEach [a] X.env=[(false,eval a X.env)]:=by rfl):PI X tg (.Call (.Name "range" p) [a] [] pos) (F8 ta):=by
 intro pins s σ H R I h
 refine Call_ (nP I hg hm boot_range (PyProof.Rows.callWith_type1 (thn (ha pos pins s σ H _ I h) λus s1 ⟨vs,H1,I1,r1,q1⟩=>?_) hs rfl))
 obtain⟨j,e,q1,q2,q⟩:=q1
 subst e
 cases r1 with
|cons r rr =>
  cases rr
  obtain⟨t,rfl⟩:=r
  exact call_range_1 (B1 I1 (by omega) (by omega) q1 q2 (by simpa using q))
def FY (wi:TI) (g:TG) (tb:TS):TS:=λD σ H=>wi σ H λJ H1=>∃ W:Nat->Nat->St->Hp->Prop,(∃ m,W 0 m σ H1)/\∀ i m σ H,W i m σ H ->
 (J.stop i H/\D.nx σ H)\/(J.go i H/\∃ N:St->Hp->Prop,(∀ σ' H',N σ' H'->∃ m',m' < m/\W (i+1) m' σ' H')/\∀ x H',J.yld i H x H'->g x σ H' λσ2 H2=>tb { D with nx:=N,ct:=N,bk:=D.nx } σ2 H2)
def pD (fp:List Addr) (h:Heap):List (Addr × Obj):=fp.filterMap λb=>(h.get? b).map λo=>(b,o)
theorem fP {fp:List Addr}{h:Heap}{b:Addr}{o:Obj}(hb:b∈fp) (e:h.get? b=some o):(b,o)∈pD fp h:=List.mem_filterMap.mpr ⟨b,hb,by rw[e];rfl⟩
theorem xu {fp:List Addr}{h:Heap}{p:Addr × Obj}(hp:p∈pD fp h):p.1∈fp/\h.get? p.1=some p.2:=by
 obtain⟨b,hb,e⟩:=List.mem_filterMap.mp hp
 cases q:h.get? b with
|none=>rw[q]at e;cases e
|some o =>
  rw[q]at e
  have e':(b,o)=p:=Option.some.inj e
  subst e'
  exact⟨hb,q⟩
theorem Inv.pinned {pins:List (Addr × Obj)}{σ:St}{H:Hp}{s:Shared}{fp:List Addr}(I:Inv X pins σ H s) (hf:∀ b∈fp,r8 X pins H b) (ho:∀ b∈fp,∃ o,s.heap.get? b=some o/\∀ v,o.data≠.cell v):Inv X (pins++pD fp s.heap) σ H s :=
 I.pins_of λp hp=>(List.mem_append.mp hp).elim (λz=>I.pin p (List.mem_append_right _ z)) λz=>by
  obtain⟨hb,e⟩:=xu z
  obtain⟨f0,f1,f2,_⟩:=hf p.1 hb
  obtain⟨o,e',d⟩:=ho p.1 hb
  rw[e]at e';cases e'
  exact⟨e,f0,f1,f2,d⟩
theorem Inv.unpinned {pins pl:List (Addr × Obj)}{σ:St}{H:Hp}{s:Shared}(I:Inv X (pins++pl) σ H s):Inv X pins σ H s:=I.pins_of λp hp=>I.pin p (List.mem_append_right _ (List.mem_append_left _ hp))
theorem kN {iter:Expr}{body:List Stmt}{wi:TI}{g:TG}{tb:TS}{pos:Pos}(hp:PassesOwn (model X.prog X.w) X.A X.env X.xe) (hc:X.calm=true) (hi:PI X tg iter wi) (hg:PG X tg g) (hb:PSs X body tb)
 (hs:∀ x,foldedSetIterable iter X.env x=pure x:=by intro _;rfl):PS X (.For tg iter body [] pos) (FY wi g tb):=by
 intro pins s σ H D I h
 refine wpAny_For (thn (hi pins s σ H _ I h) λv s1 h1=>thn h1 λitv s2 h2=>?_) hs
 obtain⟨it,fp,tn,J,H2,e,I2,T,st2,f2,W,⟨m0,w0⟩,turn⟩:=h2
 subst e
 have stat:∀ {H':Hp},(∀ b∈fp,H' b=none)->∀ b∈fp,r8 X pins H' b:=λhn b hb=>⟨hn b hb,(f2 b hb).2⟩
 refine codeAny_forLoop_any (λn s'=>∃ i σ' H',Inv X pins σ' H' s'/\tn i s'.heap/\(∀ b∈fp,H' b=none)/\W i n σ' H') ?_ m0 ⟨0,σ,H2,I2,st2,λb hb=>(f2 b hb).1,w0⟩
 rintro n s3 ⟨i,σ3,H3,I3,st3,fr3,w3⟩
 rcases turn i n σ3 H3 w3 with⟨stop,qn⟩|⟨go,N,hN,step⟩
 . refine wpAny_passesOwn hp (thn (T.done X rfl rfl rfl hc i pins s3 σ3 H3 X.xe I3 (stat fr3) st3 stop) λr s4 ⟨hr,I4⟩=>?_)
   subst hr
   exact wpAny_execs_nil ⟨σ3,H3,I4,qn⟩
 . refine wpAny_passesOwn hp (thn (T.item X rfl rfl rfl hc i pins s3 σ3 H3 X.xe I3 (stat fr3) st3 go) λr s4 ⟨u,hr,h4⟩=>?_)
   subst hr
   refine wpAny_passesOwn hp (thn h4 λ_ s5 ⟨x,H5,I5,r5,y5,st5,fr5⟩=>?_)
   have I5':=I5.pinned (stat fr5) (T.obj _ _ st5)
   refine wpAny_passesOwn hp (thn (hg _ s5 σ3 H5 x u _ I5' r5 (step x H5 y5)) λ_ s6 ⟨σ6,H6,I6,q6⟩=>?_)
   refine wpAny_passesOwn hp (thn (hb _ s6 σ6 H6 _ I6 q6) λf s7 q7=>?_)
   have again:∀ {σ7:St} {H7:Hp},Inv X (pins++pD fp s5.heap) σ7 H7 s7->N σ7 H7->∃ m,m < n/\∃ i σ' H',Inv X pins σ' H' s7/\tn i s7.heap/\(∀ b∈fp,H' b=none)/\W i m σ' H':=λ{σ7 H7} I7 n7=>by
    obtain⟨m',hm,w7⟩:=hN σ7 H7 n7
    refine⟨m',hm,i+1,σ7,H7,I7.unpinned,T.keep _ _ _ st5 λb hb o e=>(I7.pin (b,o) (List.mem_append_right _ (List.mem_append_right _ (fP hb e)))).1,λb hb=>?_,w7⟩
    obtain⟨o,e,d⟩:=T.obj _ _ st5 b hb
    exact(I7.pin (b,o) (List.mem_append_right _ (List.mem_append_right _ (fP hb e)))).2.1
   cases f with
  |next=>obtain⟨σ7,H7,I7,n7⟩:=q7;exact again I7 n7
  |cont=>obtain⟨σ7,H7,I7,n7⟩:=q7;exact again I7 n7
  |brk=>obtain⟨σ7,H7,I7,q7⟩:=q7;exact⟨σ7,H7,I7.unpinned,q7⟩
  |ret v=>obtain⟨x7,σ7,H7,I7,r7,q7⟩:=q7;exact⟨x7,σ7,H7,I7.unpinned,r7,q7⟩
end
theorem kY {K:PySem.W.Frag}{a:Addr}{xs:List V}{g:TG}{tb:TS}{D:Ends}{σ:St}{H:Hp}(Pv:Nat->St->Hp->Prop) (h0:Pv 0 σ H) (hl:∀ i σ H,i <= xs.length->Pv i σ H->SqL K H a xs)
 (hs:∀ i x σ H,xs[i]?=some x->Pv i σ H->g x σ H λσ2 H2=>tb { D with nx:=Pv (i+1),ct:=Pv (i+1),bk:=D.nx } σ2 H2) (hd:∀ σ H,Pv xs.length σ H->D.nx σ H) :
 ∃ W:Nat->Nat->St->Hp->Prop,(∃ m,W 0 m σ H)/\∀ i m σ H,W i m σ H ->
  ((Itl K a).stop i H/\D.nx σ H)\/((Itl K a).go i H/\∃ N:St->Hp->Prop,(∀ σ' H',N σ' H'->∃ m',m' < m/\W (i+1) m' σ' H')/\∀ x H',(Itl K a).yld i H x H'->g x σ H' λσ2 H2=>tb { D with nx:=N,ct:=N,bk:=D.nx } σ2 H2):=by
 refine⟨λi m σ H=>m=xs.length - i/\i <= xs.length/\Pv i σ H,⟨xs.length,by simp,Nat.zero_le _,h0⟩,?_⟩
 rintro i m σ H ⟨rfl,hi,p⟩
 have q:=hl i σ H hi p
 by_cases hlt:i < xs.length
 . refine .inr ⟨⟨xs,xs[i],q,by simp[hlt]⟩,Pv (i+1),λσ' H' p'=>⟨xs.length - (i+1),by omega,rfl,hlt,p'⟩,λx H' y=>?_⟩
   obtain⟨e,y⟩:=y
   subst e
   exact hs i x σ _ (y xs q) p
 . have e:i=xs.length:=by omega
   subst e
   exact .inl ⟨⟨xs,q,Nat.le_refl _⟩,hd σ H p⟩
theorem yK {K:PySem.W.Frag}{a:Addr}{xs:List V}{g:TG}{tb:TS}{D:Ends}{σ:St}{H:Hp}(Pv:Nat->St->Hp->Prop) (h0:Pv 0 σ H) (hl:∀ i σ H,i <= xs.length->Pv i σ H->SqT K H a xs)
 (hs:∀ i x σ H,xs[i]?=some x->Pv i σ H->g x σ H λσ2 H2=>tb { D with nx:=Pv (i+1),ct:=Pv (i+1),bk:=D.nx } σ2 H2) (hd:∀ σ H,Pv xs.length σ H->D.nx σ H) :
 ∃ W:Nat->Nat->St->Hp->Prop,(∃ m,W 0 m σ H)/\∀ i m σ H,W i m σ H ->
  ((Itt K a).stop i H/\D.nx σ H)\/((Itt K a).go i H/\∃ N:St->Hp->Prop,(∀ σ' H',N σ' H'->∃ m',m' < m/\W (i+1) m' σ' H')/\∀ x H',(Itt K a).yld i H x H'->g x σ H' λσ2 H2=>tb { D with nx:=N,ct:=N,bk:=D.nx } σ2 H2):=by
 refine⟨λi m σ H=>m=xs.length - i/\i <= xs.length/\Pv i σ H,⟨xs.length,by simp,Nat.zero_le _,h0⟩,?_⟩
 rintro i m σ H ⟨rfl,hi,p⟩
 have q:=hl i σ H hi p
 by_cases hlt:i < xs.length
 . refine .inr ⟨⟨xs,xs[i],q,by simp[hlt]⟩,Pv (i+1),λσ' H' p'=>⟨xs.length - (i+1),by omega,rfl,hlt,p'⟩,λx H' y=>?_⟩
   obtain⟨e,y⟩:=y
   subst e
   exact hs i x σ _ (y xs q) p
 . have e:i=xs.length:=by omega
   subst e
   exact .inl ⟨⟨xs,q,Nat.le_refl _⟩,hd σ H p⟩
theorem zc {lo:Int}{n:Nat}{g:TG}{tb:TS}{D:Ends}{σ:St}{H:Hp}(Pv:Nat->St->Hp->Prop) (h0:Pv 0 σ H)
 (hs:∀ i σ H,i < n->Pv i σ H->g (.int (lo+i)) σ H λσ2 H2=>tb { D with nx:=Pv (i+1),ct:=Pv (i+1),bk:=D.nx } σ2 H2) (hd:∀ σ H,Pv n σ H->D.nx σ H) :
 ∃ W:Nat->Nat->St->Hp->Prop,(∃ m,W 0 m σ H)/\∀ i m σ H,W i m σ H ->
  ((Itr lo n).stop i H/\D.nx σ H)\/((Itr lo n).go i H/\∃ N:St->Hp->Prop,(∀ σ' H',N σ' H'->∃ m',m' < m/\W (i+1) m' σ' H')/\∀ x H',(Itr lo n).yld i H x H'->g x σ H' λσ2 H2=>tb { D with nx:=N,ct:=N,bk:=D.nx } σ2 H2):=by
 refine⟨λi m σ H=>m=n - i/\i <= n/\Pv i σ H,⟨n,by simp,Nat.zero_le _,h0⟩,?_⟩
 rintro i m σ H ⟨rfl,hi,p⟩
 by_cases hlt:i < n
 . refine .inr ⟨hlt,Pv (i+1),λσ' H' p'=>⟨n - (i+1),by omega,rfl,hlt,p'⟩,λx H' y=>?_⟩
   obtain⟨e,y⟩:=y
   subst e y
   exact hs i σ _ hlt p
 . have e:i=n:=by omega
   subst e
   exact .inl ⟨Nat.le_refl _,hd σ H p⟩
end L2
namespace L2
open PySem PySem.Spec PyProof.Rows
abbrev R2:=V->V->Hp->VK->Prop
def OpR (X:Cx) (f:Value->Value->Sem Value) (r:R2):Prop :=
 ∀ (pins:List (Addr × Obj)) (s:Shared) (σ:St) (H:Hp) (x y:V) (v u:Value) (Q:VK),Inv X pins σ H s->bT x v->bT y u->r x y H Q ->
  wpAny (model X.prog X.w) X.A (f v u) (EP X pins σ Q) X.xe s
def UnR (X:Cx) (f:Value->Sem Value) (r:V->Hp->VK->Prop):Prop :=
 ∀ (pins:List (Addr × Obj)) (s:Shared) (σ:St) (H:Hp) (x:V) (v:Value) (Q:VK),Inv X pins σ H s->bT x v->r x H Q ->
  wpAny (model X.prog X.w) X.A (f v) (EP X pins σ Q) X.xe s
def lZ (X:Cx) (f:Value) (r:List V->Hp->VK->Prop):Prop :=
 ∀ (pins:List (Addr × Obj)) (s:Shared) (σ:St) (H:Hp) (xs:List V) (us:List Value) (Q:VK),Inv X pins σ H s->bC xs us->r xs H Q ->
  wpAny (model X.prog X.w) X.A (call f us) (EP X pins σ Q) X.xe s
def Go (X:Cx) (r:V->Hp->(Bool->Hp->Prop)->Prop):Prop :=
 ∀ (pins:List (Addr × Obj)) (s:Shared) (σ:St) (H:Hp) (x:V) (v:Value) (Q:Bool->Hp->Prop),Inv X pins σ H s->bT x v->r x H Q ->
  wpAny (model X.prog X.w) X.A (truthy v) (TP X pins σ Q) X.xe s
def tOp (r:R2) (ta tb:TE):TE:=λσ H Q=>ta σ H λx H1=>tb σ H1 λy H2=>r x y H2 Q
def tUn (r:V->Hp->VK->Prop) (ta:TE):TE:=λσ H Q=>ta σ H λx H1=>r x H1 Q
def rI (C:Int->Int->Prop) (g:Int->Int->V):R2:=λx y H Q=>∃ i j,x=.int i/\y=.int j/\C i j/\Q (g i j) H
def rI0 (g:Int->Int->V):R2:=λx y H Q=>∃ i j,x=.int i/\y=.int j/\Q (g i j) H
def rU (g:Int->V):V->Hp->VK->Prop:=λx H Q=>∃ i,x=.int i/\Q (g i) H
section
variable {X:Cx}{a b c:Expr}{ta tb tc:TE}{pos:Pos}
theorem Fx (ha:PE X a ta) (hb:PE X b tb) {pins:List (Addr × Obj)}{s:Shared}{σ:St}{H:Hp}{R:V->V->Hp->Prop}(I:Inv X pins σ H s)
 (h:ta σ H λx H1=>tb σ H1 λy H2=>R x y H2) {Q:Value->Shared->Prop} {f:Value->Value->Sem Value}
 (hf:∀ v u s2 x y H2,Inv X pins σ H2 s2->bT x v->bT y u->R x y H2->wpAny (model X.prog X.w) X.A (f v u) Q X.xe s2) :
 wpAny (model X.prog X.w) X.A (eval a X.env) (λv s₁=>wpAny (model X.prog X.w) X.A (eval b X.env) (λu s₂=>wpAny (model X.prog X.w) X.A (f v u) Q X.xe s₂) X.xe s₁) X.xe s:=by
 refine thn (ha pins s σ H _ I h) λv s1 ⟨x,H1,I1,r1,q1⟩=>?_
 refine thn (hb pins s1 σ H1 _ I1 q1) λu s2 ⟨y,H2,I2,r2,q2⟩=>?_
 exact hf v u s2 x y H2 I2 r1 r2 q2
theorem aA {op:Operator}{r:R2}(ho:OpR X (binaryOp op) r) (ha:PE X a ta) (hb:PE X b tb):PE X (.BinOp a op b pos) (tOp r ta tb):=by
 intro pins s σ H Q I h
 exact wpAny_BinOp (Fx ha hb I h λv u s2 x y H2 I2 rx ry q=>ho pins s2 σ H2 x y v u Q I2 rx ry q)
theorem oM {op:UnaryOp}{r:V->Hp->VK->Prop}(ho:UnR X (unaryOp op) r) (ha:PE X a ta):PE X (.UnaryOp op a pos) (tUn r ta):=by
 intro pins s σ H Q I h
 exact UnaryOp_ (thn (ha pins s σ H _ I h) λv s1 ⟨x,H1,I1,r1,q1⟩=>ho pins s1 σ H1 x v Q I1 r1 q1)
theorem opI {f:Value->Value->Sem Value}{C:Int->Int->Prop}{g:Int->Int->Int}
 (rule:∀ (i j:Int) (t u:Tok) (s:Shared) (Q:Value->Shared->Prop) (E:Value->Shared->Prop),C i j->Q (.int (g i j) s.toks) { s with toks:=s.toks+1 }->wpAny (model X.prog X.w) X.A (f (.int i t) (.int j u)) Q E s) :
 OpR X f (rI C λi j=>.int (g i j)):=by
 intro pins s σ H x y v u Q I rx ry h
 obtain⟨i,j,rfl,rfl,hc,q⟩:=h
 obtain⟨t,rfl⟩:=rx
 obtain⟨t',rfl⟩:=ry
 exact rule i j t t' s _ _ hc ⟨.int (g i j),H,I.tok _,⟨_,rfl⟩,q⟩
theorem FN {f:Value->Value->Sem Value}{g:Int->Int->Int}
 (rule:∀ (i j:Int) (t u:Tok) (s:Shared) (Q:Value->Shared->Prop) (E:Value->Shared->Prop),Q (.int (g i j) s.toks) { s with toks:=s.toks+1 }->wpAny (model X.prog X.w) X.A (f (.int i t) (.int j u)) Q E s) :
 OpR X f (rI0 λi j=>.int (g i j)):=by
 intro pins s σ H x y v u Q I rx ry h
 obtain⟨i,j,rfl,rfl,q⟩:=h
 obtain⟨t,rfl⟩:=rx
 obtain⟨t',rfl⟩:=ry
 exact rule i j t t' s _ _ ⟨.int (g i j),H,I.tok _,⟨_,rfl⟩,q⟩
theorem FE {f:Value->Value->Sem Value}{g:Int->Int->Bool}
 (rule:∀ (i j:Int) (t u:Tok) (s:Shared) (Q:Value->Shared->Prop) (E:Value->Shared->Prop),Q (.bool (g i j)) s->wpAny (model X.prog X.w) X.A (f (.int i t) (.int j u)) Q E s) :
 OpR X f (rI0 λi j=>.bl (g i j)):=by
 intro pins s σ H x y v u Q I rx ry h
 obtain⟨i,j,rfl,rfl,q⟩:=h
 obtain⟨t,rfl⟩:=rx
 obtain⟨t',rfl⟩:=ry
 exact rule i j t t' s _ _ ⟨.bl (g i j),H,I,rfl,q⟩
def Gx (i j:Int):Prop:=0 <= j/\j <= 1000000/\i.natAbs < 2 ^ 64
def EF (i j:Int):Prop:=(-(2 ^ 64) < i/\i < 2 ^ 64)\/(-(2 ^ 64) < j/\j < 2 ^ 64)
theorem EF.ok {i j:Int}(h:EF i j):IntMulOk i j:=by
 rcases h with⟨h1,h2⟩|⟨h1,h2⟩
 . exact .of_left (intBits_le_64 h1 h2)
 . exact .of_right (intBits_le_64 h1 h2)
theorem gp:OpR X (binaryOp .Add) (rI0 λi j=>.int (i+j)):=FN λ_ _ _ _ _ _ _ q=>add_int q
theorem lU:OpR X (binaryOp .Sub) (rI0 λi j=>.int (i - j)):=FN λ_ _ _ _ _ _ _ q=>sub_int q
theorem sh:OpR X (binaryOp .Mult) (rI EF λi j=>.int (i * j)):=opI λ_ _ _ _ _ _ _ hc q=>mul_int q hc.ok
theorem bh:OpR X (binaryOp .Mod) (rI (λ_ j=>0 < j) λi j=>.int (i % j)):=opI λi j _ _ _ _ _ hc q=>by
 have h1:(0:Int) < j:=hc
 exact mod_int' (by omega) (by rw[Int.fmod_eq_emod_of_nonneg i (by omega)];exact q)
theorem f9:OpR X (binaryOp .Pow) (rI Gx λi j=>.int (i ^ j.toNat)):=opI λ_ _ _ _ _ _ _ hc q=>pow_int_small hc.1 hc.2.1 hc.2.2 q
theorem unI {f:Value->Sem Value}{g:Int->Int}
 (rule:∀ (i:Int) (t:Tok) (s:Shared) (Q:Value->Shared->Prop) (E:Value->Shared->Prop),Q (.int (g i) s.toks) { s with toks:=s.toks+1 }->wpAny (model X.prog X.w) X.A (f (.int i t)) Q E s) :
 UnR X f (rU λi=>.int (g i)):=by
 intro pins s σ H x v Q I rx h
 obtain⟨i,rfl,q⟩:=h
 obtain⟨t,rfl⟩:=rx
 exact rule i t s _ _ ⟨.int (g i),H,I.tok _,⟨_,rfl⟩,q⟩
theorem jB:UnR X (unaryOp .USub) (rU λi=>.int (-i)):=unI λ_ _ _ _ _ q=>neg_int q
end
def FV:V->V->Bool
|.non,.non=>true|.non,.int _=>true|.int _,.non=>true|.non,.bl _=>true|.bl _,.non=>true|.non,.str _=>true|.str _,.non=>true
|.int _,.int _=>true|.bl _,.bl _=>true|.str _,.str _=>true|.byt _,.byt _=>true
|.int _,.str _=>true|.str _,.int _=>true|.bl _,.str _=>true|.str _,.bl _=>true
|_,_=>false
def rEq:R2:=λx y H Q=>FV x y=true/\Q (.bl (decide (x=y))) H
def rNe:R2:=λx y H Q=>FV x y=true/\Q (.bl (!decide (x=y))) H
theorem zf {i j:Int}:decide (V.int i=V.int j)=(i == j):=by
 rw[Bool.eq_iff_iff]
 simp
theorem BB {i j:Bool}:decide (V.bl i=V.bl j)=(i == j):=by
 rw[Bool.eq_iff_iff]
 simp
theorem xD {i j:Str}:decide (V.str i=V.str j)=(i == j):=by
 rw[Bool.eq_iff_iff]
 simp
theorem yA {i j:Array UInt8}:decide (V.byt i=V.byt j)=(i.toList == j.toList):=by
 rw[Bool.eq_iff_iff]
 cases i
 cases j
 simp
section
variable {X:Cx}{a b c:Expr}{ta tb tc:TE}{pos:Pos}
theorem bw {pins:List (Addr × Obj)}{σ:St}{H:Hp}{s:Shared}{Q:VK}{k k':Bool}(I:Inv X pins σ H s) (q:Q (.bl k) H) (e:k=k'):EP X pins σ Q (.bool k') s:=by
 subst e
 exact⟨.bl k,H,I,rfl,q⟩
theorem bN:OpR X (compareOp .Eq) rEq:=by
 intro pins s σ H x y v u Q I rx ry h
 obtain⟨hs,q⟩:=h
 cases x with
|non =>
  cases rx
  cases y with
 |non=>cases ry;exact PySem.EqNone.eq_none_none (bw I q (by simp))
 |bl j=>cases ry;exact PySem.EqNone.eq_none_bool (bw I q (by simp))
 |int j=>obtain⟨t',rfl⟩:=ry;exact PySem.EqNone.eq_none_int (bw I q (by simp))
 |str j=>obtain⟨t',rfl⟩:=ry;exact PySem.EqNone.eq_none_str (bw I q (by simp))
 |_=>exact absurd (show false=true from hs) Bool.false_ne_true
|bl i =>
  cases rx
  cases y with
 |non=>cases ry;exact PySem.EqNone.eq_bool_none (bw I q (by simp))
 |bl j=>cases ry;exact eq_bool (bw I q BB)
 |str j=>obtain⟨t',rfl⟩:=ry;exact PySem.EqMixed.eq_bool_str (bw I q (by simp))
 |_=>exact absurd (show false=true from hs) Bool.false_ne_true
|int i =>
  obtain⟨t,rfl⟩:=rx
  cases y with
 |non=>cases ry;exact PySem.EqNone.eq_int_none (bw I q (by simp))
 |int j=>obtain⟨t',rfl⟩:=ry;exact eq_int (bw I q zf)
 |str j=>obtain⟨t',rfl⟩:=ry;exact PySem.EqMixed.eq_int_str (bw I q (by simp))
 |_=>exact absurd (show false=true from hs) Bool.false_ne_true
|str i =>
  obtain⟨t,rfl⟩:=rx
  cases y with
 |non=>cases ry;exact PySem.EqNone.eq_str_none (bw I q (by simp))
 |bl j=>cases ry;exact PySem.EqMixed.eq_str_bool (bw I q (by simp))
 |int j=>obtain⟨t',rfl⟩:=ry;exact PySem.EqMixed.eq_str_int (bw I q (by simp))
 |str j=>obtain⟨t',rfl⟩:=ry;exact eq_str (bw I q xD)
 |_=>exact absurd (show false=true from hs) Bool.false_ne_true
|byt i =>
  obtain⟨t,rfl⟩:=rx
  cases y with
 |byt j=>obtain⟨t',rfl⟩:=ry;exact eq_bytes (bw I q yA)
 |_=>exact absurd (show false=true from hs) Bool.false_ne_true
|_=>cases y<;>exact absurd (show false=true from hs) Bool.false_ne_true
theorem mO:OpR X (compareOp .NotEq) rNe:=by
 intro pins s σ H x y v u Q I rx ry h
 obtain⟨hs,q⟩:=h
 cases x with
|non =>
  cases rx
  cases y with
 |non=>cases ry;exact PySem.EqNone.ne_none_none (bw I q (by simp))
 |bl j=>cases ry;exact PySem.EqNone.ne_none_bool (bw I q (by simp))
 |int j=>obtain⟨t',rfl⟩:=ry;exact PySem.EqNone.ne_none_int (bw I q (by simp))
 |str j=>obtain⟨t',rfl⟩:=ry;exact PySem.EqNone.ne_none_str (bw I q (by simp))
 |_=>exact absurd (show false=true from hs) Bool.false_ne_true
|bl i =>
  cases rx
  cases y with
 |non=>cases ry;exact PySem.EqNone.ne_bool_none (bw I q (by simp))
 |bl j=>cases ry;exact ne_bool (bw I q (congrArg not BB))
 |str j=>obtain⟨t',rfl⟩:=ry;exact PySem.EqMixed.ne_bool_str (bw I q (by simp))
 |_=>exact absurd (show false=true from hs) Bool.false_ne_true
|int i =>
  obtain⟨t,rfl⟩:=rx
  cases y with
 |non=>cases ry;exact PySem.EqNone.ne_int_none (bw I q (by simp))
 |int j=>obtain⟨t',rfl⟩:=ry;exact ne_int (bw I q (congrArg not zf))
 |str j=>obtain⟨t',rfl⟩:=ry;exact PySem.EqMixed.ne_int_str (bw I q (by simp))
 |_=>exact absurd (show false=true from hs) Bool.false_ne_true
|str i =>
  obtain⟨t,rfl⟩:=rx
  cases y with
 |non=>cases ry;exact PySem.EqNone.ne_str_none (bw I q (by simp))
 |bl j=>cases ry;exact PySem.EqMixed.ne_str_bool (bw I q (by simp))
 |int j=>obtain⟨t',rfl⟩:=ry;exact PySem.EqMixed.ne_str_int (bw I q (by simp))
 |str j=>obtain⟨t',rfl⟩:=ry;exact ne_str (bw I q (congrArg not xD))
 |_=>exact absurd (show false=true from hs) Bool.false_ne_true
|byt i =>
  obtain⟨t,rfl⟩:=rx
  cases y with
 |byt j=>obtain⟨t',rfl⟩:=ry;exact ne_bytes (bw I q (congrArg not yA))
 |_=>exact absurd (show false=true from hs) Bool.false_ne_true
|_=>cases y<;>exact absurd (show false=true from hs) Bool.false_ne_true
theorem F4:OpR X (compareOp .Lt) (rI0 λi j=>.bl (decide (i < j))):=FE λ_ _ _ _ _ _ _ q=>lt_int q
theorem DW:OpR X (compareOp .LtE) (rI0 λi j=>.bl (decide (i <= j))):=FE λ_ _ _ _ _ _ _ q=>le_int q
theorem Co:OpR X (compareOp .Gt) (rI0 λi j=>.bl (decide (j < i))):=FE λ_ _ _ _ _ _ _ q=>gt_int q
theorem xJ:OpR X (compareOp .Is) (λx y H Q=>y=.non/\Q (.bl (decide (x=.non))) H):=by
 intro pins s σ H x y v u Q I rx ry h
 obtain⟨rfl,q⟩:=h
 cases ry
 refine is_none_gen (bw I q ?_)
 cases x<;>first
 |(cases rx;rfl)
 |(obtain⟨t,rfl⟩:=rx;rfl)
theorem lv:OpR X (compareOp .IsNot) (λx y H Q=>y=.non/\Q (.bl (!decide (x=.non))) H):=by
 intro pins s σ H x y v u Q I rx ry h
 obtain⟨rfl,q⟩:=h
 cases ry
 refine isnot_none_gen (bw I q ?_)
 cases x<;>first
 |(cases rx;rfl)
 |(obtain⟨t,rfl⟩:=rx;rfl)
theorem az (b:Expr) {op:CmpOp}(h:op≠.In:=by decide) (h2:op≠.NotIn:=by decide):behindInMarks op b=false:=by
 have e1:(op == CmpOp.In)=false:=by cases op<;>first|rfl|exact absurd rfl h
 have e2:(op == CmpOp.NotIn)=false:=by cases op<;>first|rfl|exact absurd rfl h2
 cases b<;>simp[behindInMarks,e1,e2]
theorem ii {op:CmpOp}{r:R2}(ho:OpR X (compareOp op) r) (ha:PE X a ta) (hb:PE X b tb) (hm:behindInMarks op b=false):PE X (.Compare a [op] [b] pos) (tOp r ta tb):=by
 intro pins s σ H Q I h
 exact wpAny_Compare1 (Fx ha hb I h λv u s2 x y H2 I2 rx ry q=>ho pins s2 σ H2 x y v u Q I2 rx ry q) hm
def DA (t:TE):TT:=λσ H Q=>t σ H λx H'=>∃ k,x=.bl k/\Q k H'
theorem aq {op:CmpOp}{r:R2}(ho:OpR X (compareOp op) r) (ha:PE X a ta) (hb:PE X b tb) (hm:behindInMarks op b=false):PT X (.Compare a [op] [b] pos) (DA (tOp r ta tb)):=by
 intro pins s σ H Q I h
 refine wpAny_isTrue_Compare1 (thn (ha pins s σ H _ I h) λv s1 ⟨x,H1,I1,r1,q1⟩=>thn (hb pins s1 σ H1 _ I1 q1) λu s2 ⟨y,H2,I2,r2,q2⟩ =>
  thn (ho pins s2 σ H2 x y v u _ I2 r1 r2 q2) λc s3 ⟨z,H3,I3,r3,k,e,q3⟩=>?_) hm
 subst e
 cases r3
 exact wpAny_truthy_bool ⟨H3,I3,q3⟩
def E6 (r r':R2) (ta tb tc:TE):TE:=λσ H Q=>ta σ H λx H1=>tb σ H1 λy H2=>r x y H2 λz H3=>∃ k,z=.bl k /\
 (if k=true then tc σ H3 λw' H4=>r' y w' H4 Q else Q (.bl false) H3)
theorem Ab {op op':CmpOp}{r r':R2}(ho:OpR X (compareOp op) r) (ho':OpR X (compareOp op') r') (ha:PE X a ta) (hb:PE X b tb) (hc:PE X c tc)
 (hm:lastMarks [op,op'] [b,c]=false:=by with_unfolding_all rfl):PE X (.Compare a [op,op'] [b,c] pos) (E6 r r' ta tb tc):=by
 intro pins s σ H Q I h
 refine Compare_chain (thn (ha pins s σ H _ I h) λv s1 ⟨x,H1,I1,r1,q1⟩=>chain_link (thn (hb pins s1 σ H1 _ I1 q1) λu s2 ⟨y,H2,I2,r2,q2⟩ =>
  thn (ho pins s2 σ H2 x y v u _ I2 r1 r2 q2) λd s3 ⟨z,H3,I3,r3,k,e,q3⟩=>?_)) hm
 subst e
 cases r3
 refine wpAny_truthy_bool ?_
 cases k with
|false=>exact ite_ff ⟨.bl false,H3,I3,rfl,q3⟩
|true=>exact ite_tt (chain_last (thn (hc pins s3 σ H3 _ I3 q3) λw' s4 ⟨z',H4,I4,r4,q4⟩=>ho' pins s4 σ H4 y z' u w' Q I4 r2 r4 q4))
def FQ (K:PySem.W.Frag) (x:V) (H:Hp) (k:Bool):Prop :=
 match x with
|.non=>k=false
|.bl b=>k=b
|.int i=>k=(i != 0)
|.str y=>y.length <= sizeLine/\k=((y.length:Int) != 0)
|.byt y=>y.size <= sizeLine/\k=((y.size:Int) != 0)
|.ref p=>(∃ xs,SqL K H p xs/\k=!xs.isEmpty)\/(∃ xs,SqT K H p xs/\k=!xs.isEmpty)\/∃ kvs,H p=some (.dK kvs)/\k=!kvs.isEmpty
|_=>False
theorem vD {κ:Type}{kvs:List (κ × V)}{vs:List (κ × Value)}(r:KV kvs vs):(!vs.isEmpty)=!kvs.isEmpty:=by
 cases r<;>rfl
theorem pM {xs:List V}{its:List Value}(r:bC xs its):(!its.toArray.isEmpty)=!xs.isEmpty:=by
 cases r<;>simp
theorem si:(sizeLine:Nat) < 2 ^ 63:=by rw[sizeLine_eq];decide
theorem EC:Go X (λx H Q=>∃ k,FQ X.K x H k/\Q k H):=by
 intro pins s σ H x v Q I rx h
 obtain⟨k,e,q⟩:=h
 have hl:=si
 have hs:sizeLine=16777216:=sizeLine_eq
 cases x with
|non =>
  cases rx
  have e':k=false:=e
  subst e'
  exact truthy_none ⟨H,I,q⟩
|bl b =>
  cases rx
  have e':k=b:=e
  subst e'
  exact wpAny_truthy_bool ⟨H,I,q⟩
|int i =>
  obtain⟨t,rfl⟩:=rx
  have e':k=(i != 0):=e
  subst e'
  exact PySem.P.truthy_int ⟨H,I,q⟩
|str y =>
  obtain⟨t,rfl⟩:=rx
  obtain⟨hy,e'⟩:y.length <= sizeLine/\k=((y.length:Int) != 0):=e
  subst e'
  exact PySem.P.truthy_str (by omega) ⟨H,I.tok _,q⟩
|byt y =>
  obtain⟨t,rfl⟩:=rx
  obtain⟨hy,e'⟩:y.size <= sizeLine/\k=((y.size:Int) != 0):=e
  subst e'
  exact truthy_bytes (by omega) ⟨H,I.tok _,q⟩
|ref p =>
  cases rx
  have e':(∃ xs,SqL X.K H p xs/\k=!xs.isEmpty)\/(∃ xs,SqT X.K H p xs/\k=!xs.isEmpty)\/∃ kvs,H p=some (.dK kvs)/\k=!kvs.isEmpty:=e
  rcases e' with⟨xs,hx,e'⟩|⟨xs,hx,e'⟩|⟨kvs,hx,e'⟩
  . subst e'
    obtain⟨its,r,pl,hz⟩:=I.list hx
    have hlen:=r.length
    exact wpAny_truthy_list pl.isList (by simp only[List.size_toArray];omega) ⟨H,I.tok _,by rw[pM r];exact q⟩
  . subst e'
    obtain⟨its,r,pl,hz⟩:=I.tuple hx
    have hlen:=r.length
    exact truthy_tuple pl (by simp only[List.size_toArray];omega) ⟨H,I.tok _,by rw[pM r];exact q⟩
  . subst e'
    obtain⟨hz,hS,vs,r,m⟩:kvs.length <= sizeLine/\(p == sysModules)=false/\∃ vs,KV kvs vs/\s.heap.DictOf (bq X.prog X.w) p vs:=I.hok p _ hx
    have hlen:kvs.length=vs.length:=Paired.length r
    exact wpAny_truthy_dict hS m (by omega) ⟨H,I.tok _,by rw[vD r];exact q⟩
|_=>exact(show False from e).elim
theorem mE (ha:PE X a ta) (he:∀ whole,isTrue a X.env whole=(do let v <-whole;standAt a.pos;holding [v] (truthy v))) :
 PT X a (λσ H Q=>ta σ H λx H'=>∃ k,FQ X.K x H' k/\Q k H'):=by
 intro pins s σ H Q I h
 exact isTrue_plain (thn (ha pins s σ H _ I h) λv s1 ⟨x,H1,I1,r1,q1⟩=>EC pins s1 σ H1 x v Q I1 r1 q1) (he _)
theorem nq {x:V}{us:List Value}(r:bC [x] us):∃ u,us=[u]/\bT x u:=by
 cases r with
|cons r1 r2=>cases r2;exact⟨_,rfl,r1⟩
theorem A5 {x y:V}{us:List Value}(r:bC [x,y] us):∃ u w',us=[u,w']/\bT x u/\bT y w':=by
 cases r with
|cons r1 r2 =>
  cases r2 with
 |cons r3 r4=>cases r4;exact⟨_,_,rfl,r1,r3⟩
theorem xO:lZ X (.type "int") (λxs H Q=>(∃ i,xs=[.int i]/\Q (.int i) H)\/∃ k,xs=[.bl k]/\Q (.int (if k then 1 else 0)) H):=by
 intro pins s σ H xs us Q I r h
 rcases h with⟨i,rfl,q⟩|⟨k,rfl,q⟩
 . obtain⟨u,rfl,t,rfl⟩:=nq r
   exact call_int_int ⟨.int i,H,I,⟨_,rfl⟩,q⟩
 . obtain⟨u,rfl,r1⟩:=nq r
   cases r1
   exact call_int_bool ⟨.int (if k then 1 else 0),H,I.tok _,⟨_,rfl⟩,q⟩
end
end L2
namespace L2
open PySem PySem.Spec PyProof.Rows
structure ObjM (h:Heap) (x dx C:Addr) (mA:Str->Option Value):Prop where
 obj:h.get? x=some (instObj C dx)
 ns:h.Ns1 dx mA
 ne:dx≠x
theorem x5 {h:Heap}{dx:Addr}{mA:Str->Option Value}(n:h.Ns1 dx mA):∃ od,h.get? dx=some od/\∀ name,lookIn name od=some (mA name):=by
 obtain⟨o,es,ep,ho,hd,hk,_,hm⟩:=n
 refine⟨o,ho,λname=>?_⟩
 have e:=hm name
 unfold nsFind findBy at e
 rw[<-Array.find?_toList]at e
 unfold lookIn
 rw[hd]
 dsimp only
 split
 . rename_i y q
   rw[q]at e
   exact congrArg some e
 . rename_i q
   rw[q]at e
   have a:es.toList.any (·.refKey)=false:=by
    rw[List.any_eq_false]
    intro y hy
    obtain⟨z,t,hkey⟩:=hk y (Array.mem_toList_iff.mp hy)
    simp[DictEntry.refKey,hkey]
   have a':¬ es.toList.any (·.refKey)=true:=by rw[a];exact Bool.false_ne_true
   rw[if_neg a']
   exact congrArg some e
theorem ObjM.look {h:Heap}{x dx C:Addr}{mA:Str->Option Value}(I:ObjM h x dx C mA):∃ od,InstAt h x (instObj C dx) C (some od)/\∀ name,lookIn name od=some (mA name) :=
 let ⟨od,ho,hl⟩:=x5 I.ns
 ⟨od,⟨I.obj,rfl,rfl,ho⟩,hl⟩
section
variable {prog:Program}{w:World}{A:Around}{E:Value->Shared->Prop}{s:Shared}{K:PySem.W.Frag}{x dx C f:Addr}{mA:Str->Option Value}{name:Str}{v:Value}
theorem D9 {expr:Bool}{Q:Value->Shared->Prop}(X:K.In s.heap) (I:ObjM s.heap x dx C mA) (hg:plainGet K C name=true) (hh:hasDictIn K C=true)
 (ha:PySem.W.findIn K (.ref C) name=some none) (hv:mA name=some v) (hv':handedIn v=true) (h:Q v { s with toks:=s.toks+1 }) :
 wpAny (model prog w) A (getAttr (.ref x) name expr) Q E s:=by
 obtain⟨od,J,hl⟩:=I.look
 exact get_value X J (plainGet_of hg).1 (findObj_own hh ha rfl (by rw[hl,hv])) hv' h
theorem zH {pl:Sem Bool}{Q:Value × List Value->Shared->Prop}(X:K.In s.heap) (I:ObjM s.heap x dx C mA) (hg:plainGet K C name=true)
 (hf:PySem.W.findIn K (.ref C) name=some (some (.ref f))) (ht:isFn K (.ref f)=true) (hv:mA name=none) (h:Q (.ref f,[.ref x]) s) :
 wpAny (model prog w) A (getMethod (.ref x) name pl) Q E s:=by
 obtain⟨od,J,hl⟩:=I.look
 exact method_fn X J (plainGet_of hg).1 (plainGet_of hg).2 hf (beq_iff_eq.mp ht) (by show (lookIn name od).map (·.isSome)=some false;rw[hl,hv];rfl) h
theorem Cf {ns:List Str}{Q:Unit->Shared->Prop}(X:K.In s.heap) (I:ObjM s.heap x dx C mA)
 (hs:PySem.W.findIn K (.ref C) "__setattr__"=some (some (.builtin "object.__setattr__"))) (hp:plainOver K C=true) (ht:takerIn K C name=some none) (hh:hasDictIn K C=true)
 (hw:PySem.Within mA ns) (hsz:ns.length <= sizeLine)
 (h:∀ h',ObjM h' x dx C (λy=>if y=name then some v else mA y)->Heap.SameBut dx s.heap h'->Q () { s with heap:=h',toks:=s.toks+2 }) :
 wpAny (model prog w) A (setAttr (.ref x) name v) Q E s:=by
 obtain⟨od,J,hl⟩:=I.look
 refine set_plain X J hs (osa_open (s:={ s with toks:=s.toks+1 }) (r:=none) X J hp ht λb=>?_)
 obtain⟨cd,hc,hd'⟩:=any_some hh
 have hx:s.heap.get? x=some ⟨.ref C,some dx,.plain,#[]⟩:=I.obj
 refine wpAny_bind (wpAny_pure (wpAny_bind (wpAny_bind (wpAny_loadPart hx (wpAny_bind (PySem.W.Looks.here (s:={ s with toks:=s.toks+1 }) (looks_clsIn X hc) ?_))))))
 rw[hd']
 refine wpAny_pure (a:=some dx) (wpAny_bind (wpAny_pure (wpAny_bind ?_)))
 refine wpAny_nsSet1 (s:={ s with toks:=s.toks+1 }) I.ns λh' hn2 hs2=>?_
 obtain⟨oD,esD,epD,hoD,hdD,hcD⟩:=hn2.count (PySem.Within.cons name v hw)
 refine wpAny_bind (wpAny_lookBehind hoD (by rw[hdD];exact pastItsLine_dict (Nat.le_trans hcD (by rw[List.length_cons];omega))) ?_)
 exact wpAny_pure (h _ ⟨(hs2.2 _ (Ne.symm I.ne)).trans I.obj,hn2,I.ne⟩ hs2)
theorem Aw {R:Result->Shared->Prop}{vs:List Value}{kw:List (Str × Value)}(X:K.In s.heap) (hm:makesIn K C=true)
 (hi:PySem.W.findIn K (.ref C) "__init__"=some (some (.ref f))) (hf:typeIn K (.ref f)=some (.type "function"))
 (h:codeAny (model prog w) (A.under (.builtin "type.__call__" ⟨.ref C :: vs,kw⟩)) (.call (.ref f) ⟨.ref (s.heap.objs.size+1) :: vs,kw⟩) (InitBack (s.heap.objs.size+1) R)
  { s with heap:=(s.heap.push emptyDict).push (instObj C s.heap.objs.size) }) :
 codeAny (model prog w) A (.call (.ref C) ⟨vs,kw⟩) R s:=by
 obtain⟨hh,g,d,t,os⟩:=s
 exact make_core (makes_of X hm) (PySem.W.looks_findIn X hi) (λself=>bind_fn X self hf) (.inl rfl) h
end
def bP (f:Str) (v:V):List (Str × V)->List (Str × V)
|[]=>[(f,v)]
|(g,x) :: r=>if g=f then (g,v) :: r else (g,x) :: bP f v r
theorem aa (f g:Str) (v:V):∀ fs:List (Str × V),(bP f v fs).lookup g=if g=f then some v else fs.lookup g
|[]=>by
  show List.lookup g [(f,v)]=_
  by_cases h:g=f
  . have hb:(g == f)=true:=beq_iff_eq.mpr h
    simp only[List.lookup,hb,if_pos h]
  . have hb:(g == f)=false:=beq_eq_false_iff_ne.mpr h
    simp only[List.lookup,hb,if_neg h]
|(k,x) :: r=>by
  have ih:=aa f g v r
  rw[show bP f v ((k,x) :: r)=(if k=f then (k,v) :: r else (k,x) :: bP f v r) from rfl]
  by_cases hk:k=f
  . rw[if_pos hk]
    by_cases h:g=k
    . have hb:(g == k)=true:=beq_iff_eq.mpr h
      simp only[List.lookup,hb,if_pos (h.trans hk)]
    . have hb:(g == k)=false:=beq_eq_false_iff_ne.mpr h
      simp only[List.lookup,hb,if_neg (λe:g=f=>h (e.trans hk.symm))]
  . rw[if_neg hk]
    by_cases h:g=k
    . have hb:(g == k)=true:=beq_iff_eq.mpr h
      simp only[List.lookup,hb,if_neg (λe:g=f=>hk (h.symm.trans e))]
    . have hb:(g == k)=false:=beq_eq_false_iff_ne.mpr h
      simp only[List.lookup,hb]
      exact ih
theorem nF (f:Str) (v:V):∀ fs:List (Str × V),f∈(bP f v fs).map (·.1)/\∀ g,g∈fs.map (·.1)->g∈(bP f v fs).map (·.1)
|[]=>⟨by simp[bP],λg h=>by simp at h⟩
|(k,x) :: r=>by
  obtain⟨i1,i2⟩:=nF f v r
  rw[show bP f v ((k,x) :: r)=(if k=f then (k,v) :: r else (k,x) :: bP f v r) from rfl]
  by_cases hk:k=f
  . rw[if_pos hk]
    subst hk
    exact⟨by simp,λg h=>by simpa using h⟩
  . rw[if_neg hk]
    refine⟨?_,λg h=>?_⟩
    . rw[List.map_cons]
      exact List.mem_cons_of_mem _ i1
    . rw[List.map_cons]at h |-
      rcases List.mem_cons.mp h with e|e
      . exact List.mem_cons.mpr (.inl e)
      . exact List.mem_cons_of_mem _ (i2 g e)
theorem oh (f:Str) (v:V):∀ fs:List (Str × V),(bP f v fs).length <= fs.length+1
|[]=>by simp[bP]
|(k,x) :: r=>by
  have ih:=oh f v r
  rw[show bP f v ((k,x) :: r)=(if k=f then (k,v) :: r else (k,x) :: bP f v r) from rfl]
  by_cases hk:k=f
  . rw[if_pos hk,List.length_cons,List.length_cons];omega
  . rw[if_neg hk,List.length_cons,List.length_cons];omega
theorem tq.some_of {v:V}{o:Option Value}(r:tq (some v) o):∃ u,o=some u/\bT v u:=by
 cases o with
|none=>exact(show False from r).elim
|some u=>exact⟨u,rfl,r⟩
theorem tq.none_of {o:Option Value}(r:tq none o):o=none:=by
 cases o with
|none=>rfl
|some u=>exact(show False from r).elim
theorem ya {v:V}{u:Value}(r:bT v u):handedIn u=true:=by
 cases v with
|non=>cases (show u=Value.none from r);rfl
|bl b=>cases (show u=Value.bool b from r);rfl
|int i=>obtain⟨t,e⟩:=(show ∃ t,u=Value.int i t from r);cases e;rfl
|str x=>obtain⟨t,e⟩:=(show ∃ t,u=Value.str x t from r);cases e;rfl
|byt b=>obtain⟨t,e⟩:=(show ∃ t,u=Value.bytes b t from r);cases e;rfl
|flt b=>obtain⟨t,e⟩:=(show ∃ t,u=Value.float b t from r);cases e;rfl
|ref a=>cases (show u=Value.ref a from r);rfl
|ty n=>cases (show u=Value.type n from r);rfl
section
variable {P:Program}{w:World}{H H':Hp}{h h':Heap}{a C dx:Addr}{fs fs':List (Str × V)}
theorem qv (hok:HOk P w H h) (e:H a=some (.ins C dx fs)):∃ mA,ObjM h a dx C mA/\(∀ f,tq (fs.lookup f) (mA f))/\PySem.Within mA (fs.map (·.1))/\fs.length <= 1000/\H dx=some (.own a):=by
 obtain⟨d,z,ne,ob,mA,n,r,q⟩:=(show cp P w H h a (.ins C dx fs) from hok a _ e)
 exact⟨mA,⟨ob,n,ne⟩,r,q,z,d⟩
end
structure Cls (K:PySem.W.Frag) (C:Addr):Prop where
 pg:plainGet K C Str.empty=true
 hd:hasDictIn K C=true
 po:plainOver K C=true
 sa:PySem.W.findIn K (.ref C) "__setattr__"=some (some (.builtin "object.__setattr__"))
theorem Cls.get {K:PySem.W.Frag}{C:Addr}(c:Cls K C) (f:Str):plainGet K C f=true:=c.pg
def b6 (K:PySem.W.Frag) (C:Addr) (f:Str):Prop:=PySem.W.findIn K (.ref C) f=some none
theorem b6.taker {K:PySem.W.Frag}{C:Addr}{f:Str}(n:b6 K C f):takerIn K C f=some none:=by
 unfold takerIn
 rw[show PySem.W.findIn K (.ref C) f=some none from n]
 rfl
structure Meth (K:PySem.W.Frag) (C:Addr) (m:Str) (f:Addr):Prop where
 at_:PySem.W.findIn K (.ref C) m=some (some (.ref f))
 fn:isFn K (.ref f)=true
 kp:keepIn K (.ref f)=true
section
variable {X:Cx}{pins:List (Addr × Obj)}{σ:St}{H:Hp}{s:Shared}{a C dx:Addr}{fs:List (Str × V)}{f:Str}{v:V}{A:Around}{E:Value->Shared->Prop}
theorem vJ {b:Bool}{Q:Value->Shared->Prop}(I:Inv X pins σ H s) (e:H a=some (.ins C dx fs)) (c:Cls X.K C) (n:b6 X.K C f) (l:fs.lookup f=some v)
 (h:∀ u s',Inv X pins σ H s'->bT v u->Q u s'):wpAny (model X.prog X.w) A (getAttr (.ref a) f b) Q E s:=by
 obtain⟨mA,O,r,_,_,_⟩:=qv I.hok e
 obtain⟨u,hu,ru⟩:=tq.some_of (v:=v) (o:=mA f) (by rw[<-l];exact r f)
 exact D9 I.kIn O (c.get f) c.hd n hu (ya ru) (h u _ (I.tok _) ru)
theorem lA {m:Str}{g:Addr}{pl:Sem Bool}{Q:Value × List Value->Shared->Prop}(I:Inv X pins σ H s) (e:H a=some (.ins C dx fs)) (c:Cls X.K C) (k:Meth X.K C m g) (l:fs.lookup m=none)
 (h:Q (.ref g,[.ref a]) s):wpAny (model X.prog X.w) A (getMethod (.ref a) m pl) Q E s:=by
 obtain⟨mA,O,r,_,_,_⟩:=qv I.hok e
 have hn:mA m=none:=tq.none_of (by rw[<-l];exact r m)
 exact zH I.kIn O (c.get m) k.at_ k.fn hn h
theorem wb {y:V}{u:Value}{Q:Unit->Shared->Prop}(I:Inv X pins σ H s) (e:H a=some (.ins C dx fs)) (c:Cls X.K C) (n:b6 X.K C f) (hl:fs.length < 1000) (ry:bT y u)
 (h:∀ s',Inv X pins σ (upd H a (.ins C dx (bP f y fs))) s'->Q () s'):wpAny (model X.prog X.w) A (setAttr (.ref a) f u) Q E s:=by
 obtain⟨mA,O,r,wi,_,ho⟩:=qv I.hok e
 have hz:(fs.map (·.1)).length <= sizeLine:=by rw[List.length_map,sizeLine_eq];omega
 refine Cf I.kIn O c.sa c.po n.taker c.hd wi hz λh' O' sb=>h _ ?_
 have hd:∃ o,h'.get? dx=some o:=let ⟨o,_,_,e',_⟩:=O'.ns;⟨o,e'⟩
 refine I.write (x:=a) (e:=dx) (by rw[e];exact True.intro) (.inr ho) (λb q hb z=>(sb.2 b hb).trans z) hd ?_
 refine⟨by rw[ag O.ne];exact ho,?_,O.ne,O'.obj,_,O'.ns,λg=>?_,λg hg=>?_⟩
 . have:=oh f y fs;omega
 . show tq ((bP f y fs).lookup g) (if g=f then some u else mA g)
   rw[aa]
   by_cases q:g=f
   . rw[if_pos q,if_pos q];exact ry
   . rw[if_neg q,if_neg q];exact r g
 . by_cases q:g=f
   . rw[q];exact(nF f y fs).1
   . refine(nF f y fs).2 g (wi g λz=>hg ?_)
     show (if g=f then some u else mA g)=none
     rw[if_neg q];exact z
theorem Inv.made (I:Inv X pins σ H s):Inv X pins σ (upd (upd H s.heap.objs.size (.own (s.heap.objs.size+1))) (s.heap.objs.size+1) (.ins C s.heap.objs.size []))
 { s with heap:=(s.heap.push emptyDict).push (instObj C s.heap.objs.size) }:=by
 have e1:(s.heap.push emptyDict).get? s.heap.objs.size=some emptyDict:=Heap.get?_push_size s.heap rfl
 have e2:((s.heap.push emptyDict).push (instObj C s.heap.objs.size)).get? (s.heap.objs.size+1)=some (instObj C s.heap.objs.size):=by
  have:=Heap.get?_push_size (s.heap.push emptyDict) (o:=instObj C s.heap.objs.size) rfl
  rwa [Heap.size_push]at this
 have e3:(s.heap.push emptyDict).Ns s.heap.objs.size (λ_=>none):=⟨emptyDict,#[],_,e1,rfl,(λe he=>absurd he (by simp)),λ_=>rfl⟩
 have I1:=I.laid (a:=s.heap.objs.size) (o:=.own (s.heap.objs.size+1)) (h':=s.heap.push emptyDict) (t':=s.toks) (λb u q=>Heap.get?_push_of_some _ q) (Nat.le_refl _) ⟨_,e1⟩
 refine I1.laid (a:=s.heap.objs.size+1) (o:=.ins C s.heap.objs.size []) (t':=s.toks) (λb u q=>Heap.get?_push_of_some _ q) (Nat.le_of_eq (Heap.size_push _ _)) ?_
 have ne:s.heap.objs.size≠s.heap.objs.size+1:=Nat.ne_of_lt (Nat.lt_succ_self _)
 refine⟨by rw[ag ne,a8],Nat.zero_le _,ne,e2,λ_=>none,(Heap.Ns1.of_empty e3).at λo q=>Heap.get?_push_of_some _ q,λ_=>True.intro,λy hy=>absurd rfl hy⟩
theorem BT {prog:Program}{w:World}{env:Env}{e:Expr}{f:Str}{pos:Pos}{s:Shared}{Q:Value->Shared->Prop}(hb:attributeBase e f env (eval e env)=eval e env)
 (h:wpAny (model prog w) A (eval e env) (λo s₁=>wpAny (model prog w) A (getAttr o f true) Q E s₁) E s):wpAny (model prog w) A (eval (.Attribute e f pos) env) Q E s :=
 Attribute_any_ h (by rw[arm_eval_Attribute,hb])
end
def F5 (K:PySem.W.Frag) (ta:TE) (f:Str):TE:=λσ H Q=>ta σ H λx H1=>∃ a C dx fs v,x=.ref a/\H1 a=some (.ins C dx fs)/\Cls K C/\b6 K C f/\fs.lookup f=some v/\Q v H1
def FW (K:PySem.W.Frag) (ta tv:TE) (f:Str):TS:=λD σ H=>tv σ H λy H1=>ta σ H1 λx H2=>∃ a C dx fs,x=.ref a/\H2 a=some (.ins C dx fs)/\Cls K C/\b6 K C f/\fs.length < 1000 /\
 D.nx σ (upd H2 a (.ins C dx (bP f y fs)))
section
variable {X:Cx}{o e value:Expr}{f:Str}{pos pos' tpos:Pos}{ta tv:TE}
theorem am (he:PE X e ta) (hb:attributeBase e f X.env (eval e X.env)=eval e X.env):PE X (.Attribute e f pos) (F5 X.K ta f):=by
 intro pins s σ H Q I h
 refine BT hb (thn (he pins s σ H _ I h) λu s1 ⟨x,H1,I1,rx,a,C,dx,fs,v,ex,ea,c,n,l,q⟩=>?_)
 subst ex
 obtain rfl:u=Value.ref a:=rx
 exact vJ I1 ea c n l λu' s2 I2 ru=>⟨v,H1,I2,ru,q⟩
theorem bF (ha:PE X o ta) (hv:PE X value tv) (hs:swapsWith value (some (.Attribute o f pos')) pos.line X.env=pure false):PS X (.Assign [.Attribute o f pos'] value pos) (FW X.K ta tv f):=by
 intro pins s σ H D I h
 refine plainObj_wpAny_Assign_Attribute (thn (hv pins s σ H _ I h) λu s1 ⟨y,H1,I1,ry,q⟩=>thn (ha pins s1 σ H1 _ I1 q) λov s2 ⟨x,H2,I2,rx,a,C,dx,fs,ex,ea,c,n,l,q2⟩=>?_) hs
 subst ex
 obtain rfl:ov=Value.ref a:=rx
 exact wb I2 ea c n l ry λs3 I3=>⟨σ,_,I3,q2⟩
end
section
variable {X:Cx}{pins:List (Addr × Obj)}{σ:St}{H:Hp}{s:Shared}{A:Around}{E:Value->Shared->Prop}{Q:Value->Shared->Prop}{c:Value}{b:Bool}
inductive TyOf (K:PySem.W.Frag) (H:Hp):V->Value->Prop where
|non:TyOf K H .non (.type "NoneType")
|bl (x:Bool):TyOf K H (.bl x) (.type "bool")
|int (i:Int):TyOf K H (.int i) (.type "int")
|str (x:Str):TyOf K H (.str x) (.type "str")
|flt (x:UInt64):TyOf K H (.flt x) (.type "float")
|lst {a:Addr} {xs:List V} (e:H a=some (.lst xs)):TyOf K H (.ref a) (.type "list")
|frz {a:Addr} {o:Obj} {xs:List V} (e:H a=some (.frz o (.lst xs))):TyOf K H (.ref a) (.type "list")
|tup {a:Addr} {xs:List V} (e:H a=some (.tup xs)):TyOf K H (.ref a) (.type "tuple")
|dK {a:Addr} {kvs:List (Key × V)} (e:H a=some (.dK kvs)):TyOf K H (.ref a) (.type "dict")
|dT {a:Addr} {kvs:List (List Key × V)} (e:H a=some (.dT kvs)):TyOf K H (.ref a) (.type "dict")
|ins {a C dx:Addr} {fs:List (Str × V)} (e:H a=some (.ins C dx fs)) (cl:Cls K C) (ha:PySem.W.findIn K (.ref C) "__class__"=some (some (.builtin "object.__class__")))
  (hn:specialIn K (.builtin "object.__class__") "__get__"=some (some (.builtin "getset_descriptor.__get__"))) (htk:takesIn K (.builtin "object.__class__")=some true)
  (hm:PySem.W.mroIn K C (.type "object")=some true):TyOf K H (.ref a) (.ref C)
theorem zr {x:V}{u t:Value}(I:Inv X pins σ H s) (rx:bT x u) (ty:TyOf X.K H x t) (e:kitOne X.K t c=some b) (h:∀ tk,Q (.bool b) { s with toks:=tk }) :
 wpAny (model X.prog X.w) A (call (.builtin "isinstance") [u,c]) Q E s:=by
 cases ty with
|non=>cases (show u=Value.none from rx);exact kia_one kitx_none I.kIn True.intro e (λz=>nomatch z) h
|bl y=>cases (show u=Value.bool y from rx);exact kia_one kitx_bool I.kIn True.intro e (λz=>nomatch z) h
|int i=>obtain⟨t,q⟩:=(show ∃ t,u=Value.int i t from rx);cases q;exact kia_one kitx_int I.kIn True.intro e (λz=>nomatch z) h
|str y=>obtain⟨t,q⟩:=(show ∃ t,u=Value.str y t from rx);cases q;exact kia_one kitx_str I.kIn True.intro e (λz=>nomatch z) h
|flt y=>obtain⟨t,q⟩:=(show ∃ t,u=Value.float y t from rx);cases q;exact kia_one kitx_float I.kIn True.intro e (λz=>nomatch z) h
|@lst a xs ea =>
  cases (show u=Value.ref a from rx)
  obtain⟨_,_,n,_,h1⟩:=(show cp X.prog X.w H s.heap a (.lst xs) from I.hok a _ ea)
  exact kia_one kitx_list I.kIn ⟨_,h1,rfl⟩ e (λz=>nomatch z) h
|@frz a ob xs ea =>
  cases (show u=Value.ref a from rx)
  obtain⟨_,_,_,n,_,h1⟩:=(show cp X.prog X.w H s.heap a (.frz ob (.lst xs)) from I.hok a _ ea)
  exact kia_one kitx_list I.kIn ⟨_,h1,rfl⟩ e (λz=>nomatch z) h
|@tup a xs ea =>
  cases (show u=Value.ref a from rx)
  obtain⟨_,_,_,p⟩:=(show cp X.prog X.w H s.heap a (.tup xs) from I.hok a _ ea)
  obtain⟨o,h1,h2,_⟩:=p
  exact kia_one kitx_tuple I.kIn ⟨o,h1,h2⟩ e (λz=>nomatch z) h
|@dK a kvs ea =>
  cases (show u=Value.ref a from rx)
  obtain⟨_,_,vs,_,p⟩:=(show cp X.prog X.w H s.heap a (.dK kvs) from I.hok a _ ea)
  obtain⟨o,es,ep,h1,h2,_⟩:=p
  exact kia_one kitx_dict I.kIn ⟨o,h1,h2.1⟩ e (λz=>nomatch z) h
|@dT a kvs ea =>
  cases (show u=Value.ref a from rx)
  obtain⟨_,_,xs,_,o,es,ep,h1,h2,_⟩:=(show cp X.prog X.w H s.heap a (.dT kvs) from I.hok a _ ea)
  exact kia_one kitx_dict I.kIn ⟨o,h1,h2.1⟩ e (λz=>nomatch z) h
|@ins a C dx fs ea cl ha hn htk hm =>
  cases (show u=Value.ref a from rx)
  obtain⟨mA,O,_⟩:=qv I.hok ea
  obtain⟨od,J,_⟩:=O.look
  exact kia_one (kitx_own (cl.get _) cl.hd ha hn htk hm) I.kIn J e (λz=>nomatch z) h
end
end L2
namespace L2
open PySem PySem.Spec PyProof.Rows
structure Room (k:Nat) (A:Around):Prop where
 hd:A.handled=none
 dp:A.depth+3 * k+5 < recursionLimit
 un:A.units+16 * k+200 < cLine
theorem Room.mono {j k:Nat}{A:Around}(r:Room k A) (h:j <= k):Room j A:=⟨r.hd,by have:=r.dp;omega,by have:=r.un;omega⟩
theorem Room.deeper {k:Nat}{A:Around}(r:Room (k+1) A) (env:Env):Room k (A.deeper env) :=
 ⟨r.hd,by have:=r.dp;show A.depth+1+3 * k+5 < _;omega,by have:=r.un;show A.units+3+16 * k+200 < _;omega⟩
theorem wC {A:Around}{C:Addr}{us:List Value}{kw:List (Str × Value)}:(A.under (.builtin "type.__call__" ⟨.ref C :: us,kw⟩)).depth=A.depth+1:=by
 first|rfl|simp[Around.under,Code.weight,Code.isCreation,Code.isGuard,Code.isCaller,Code.frames,Code.isFrame,guardIds]
theorem vC {A:Around}{C:Addr}{us:List Value}{kw:List (Str × Value)}:(A.under (.builtin "type.__call__" ⟨.ref C :: us,kw⟩)).units=A.units+1:=by
 first|rfl|simp[Around.under,Code.cUnits,Code.frames,Code.isFrame]
theorem Room.make {k:Nat}{A:Around}(r:Room (k+1) A) (C:Addr) (us:List Value) (kw:List (Str × Value)):Room k (A.under (.builtin "type.__call__" ⟨.ref C :: us,kw⟩)) :=
 ⟨r.hd,by have:=r.dp;rw[wC];omega,by have:=r.un;rw[vC];omega⟩
theorem Room.depth {k:Nat}{A:Around}(r:Room k A):A.depth < recursionLimit:=by have:=r.dp;omega
theorem Room.units {k:Nat}{A:Around}(r:Room k A):A.units+64 < cLine:=by have:=r.un;omega
def zu:TA:=λ_ H Q=>Q [] H
def o6 (ta:TE) (tr:TA):TA:=λσ H Q=>ta σ H λx H1=>tr σ H1 λxs H2=>Q (x :: xs) H2
section
variable {X:Cx}{e:Expr}{es:List Expr}{te:TE}{t:TA}{pos:Pos}
theorem a9:PA X [] zu:=λ_ _ _ _ H Q I h=>Calls.spliced_nil ⟨[],H,I,.nil,h⟩
theorem a6 (ha:PE X e te) (hr:PA X es t) (hs:starEach (e :: es) X.env=(false,eval e X.env) :: starEach es X.env:=by rfl):PA X (e :: es) (o6 te t):=by
 intro pos pins s σ H Q I h
 rw[hs]
 show wpAny _ _ (spliced ((false,eval e X.env) :: backTo pos (starEach es X.env))) _ _ s
 refine Calls.spliced_cons (thn (ha pins s σ H _ I h) λu s1 ⟨x,H1,I1,r1,q1⟩=>?_)
 exact thn (hr pos pins s1 σ H1 _ I1 q1) λus s2 ⟨xs,H2,I2,r2,q2⟩=>⟨x :: xs,H2,I2,.cons r1 r2,q2⟩
def DM (t:TA):TE:=λσ H Q=>t σ H λxs H1=>xs.length <= sizeLine/\∀ p,H1 p=none->Q (.ref p) (upd H1 p (.tup xs))
def tG (t:TA):TE:=λσ H Q=>t σ H λxs H1=>xs.length <= sizeLine/\∀ p,H1 p=none->Q (.ref p) (upd H1 p (.lst xs))
theorem av {x1}(h:PA X es t):PE X (.Tuple es x1 pos) (DM t):=by
 intro pins s σ H Q I hq
 refine wpAny_Tuple_spliced (thn (h pos pins s σ H _ I hq) λus s1 ⟨xs,H1,I1,r,z,q⟩=>⟨by rw[<-r.length];exact z,?_⟩)
 have hf:H1 s1.heap.objs.size=none:=I1.hok.fresh (Nat.le_refl _)
 refine⟨.ref s1.heap.objs.size,upd H1 s1.heap.objs.size (.tup xs),I1.laid (t':=s1.toks) (λb u e=>Heap.get?_push_of_some _ e) (Nat.le_refl _) ?_,rfl,q _ hf⟩
 exact⟨z,us,r,⟨_,Heap.get?_push_size _ rfl,rfl,_,rfl⟩⟩
theorem bc (h:PA X es t):PE X (.List es pos) (tG t):=by
 intro pins s σ H Q I hq
 refine wpAny_List_spliced (thn (h pos pins s σ H _ I hq) λus s1 ⟨xs,H1,I1,r,z,q⟩=>⟨by rw[<-r.length];exact z,?_⟩)
 have hf:H1 s1.heap.objs.size=none:=I1.hok.fresh (Nat.le_refl _)
 refine⟨.ref s1.heap.objs.size,upd H1 s1.heap.objs.size (.lst xs),I1.laid (t':=s1.toks) (λb u e=>Heap.get?_push_of_some _ e) (Nat.le_refl _) ?_,rfl,q _ hf⟩
 exact⟨z,us,0,r,Heap.get?_push_size _ rfl⟩
end
abbrev Sp:=List V->Hp->VK->XK->Prop
abbrev CXT:=List Env->Hp->Shared->XK->Value->Shared->Prop
structure Env0 (P:Program) (w:World) (K:PySem.W.Frag) (mg:Str->Option Value) (base:Heap) (A:Around) (outer:List Env) (s:Shared) (H:Hp):Prop where
 frames:A.frames=some outer
 mod:Mod K mg base
 bs:∀ b o,base.get? b=some o->s.heap.get? b=some o/\H b=none
 bsz:base.objs.size <= s.heap.objs.size
 funs:s.heap.FunFrames base outer
 frf:∀ b∈frs outer,H b=none
 hok:HOk P w H s.heap
 bare:AllBare s.gens
def CE (outer:List Env) (P:Program) (w:World) (H:Hp) (s:Shared) (Q:VK) (u:Value) (s':Shared):Prop :=
 ∃ v H',s'.os=s.os/\AllBare s'.gens/\Un (frs outer) [] H H' s.heap s'.heap/\HOk P w H' s'.heap/\bT v u/\Q v H'
def CR (CX:CXT) (outer:List Env) (P:Program) (w:World) (H:Hp) (s:Shared) (Q:VK) (E:XK) (r:Result) (s':Shared):Prop :=
 match r with
|.ok (.ret u)=>CE outer P w H s Q u s'
|.ok _=>False
|.error e=>CX outer H s E e s'
structure FnOk (P:Program) (w:World) (K:PySem.W.Frag) (mg:Str->Option Value) (base:Heap) (CX:CXT) (k:Nat) (f:Addr) (fd:FuncData) (ps:List Str) (sp:Sp):Prop where
 len:∀ vs H Q E,sp vs H Q E->vs.length=ps.length
 run:∀ (A:Around) (outer:List Env) (s:Shared) (H:Hp) (args:Args) (us:List Value) (vs:List V) (Q:VK) (E:XK),Room k A->Env0 P w K mg base A outer s H->BindsTo s fd args (ps.zip us)->bC vs us->sp vs H Q E ->
  codeAny (model P w) A (.call (.ref f) args) (CR CX outer P w H s Q E) s
theorem FnOk.imp {P:Program}{w:World}{K:PySem.W.Frag}{mg:Str->Option Value}{base:Heap}{CX:CXT}{k:Nat}{f:Addr}{fd:FuncData}{ps:List Str}{sp sp':Sp}(F:FnOk P w K mg base CX k f fd ps sp)
 (h:∀ vs H Q E,sp' vs H Q E->sp vs H Q E):FnOk P w K mg base CX k f fd ps sp' :=
 ⟨λvs H Q E q=>F.len vs H Q E (h _ _ _ _ q),λA outer s H args us vs Q E hr he hb hv hs=>F.run A outer s H args us vs Q E hr he hb hv (h _ _ _ _ hs)⟩
theorem Env0.make {P:Program}{w:World}{K:PySem.W.Frag}{mg:Str->Option Value}{base:Heap}{A:Around}{outer:List Env}{s:Shared}{H:Hp}(e:Env0 P w K mg base A outer s H) (C:Addr) (us:List Value) (kw:List (Str × Value)) :
 Env0 P w K mg base (A.under (.builtin "type.__call__" ⟨.ref C :: us,kw⟩)) outer s H:=⟨by first|exact e.frames|(simpa [Around.under,Code.envs,Code.isFrame,pushEnvs] using e.frames),e.mod,e.bs,e.bsz,e.funs,e.frf,e.hok,e.bare⟩
theorem Env0.in1 {P:Program}{w:World}{K:PySem.W.Frag}{mg:Str->Option Value}{base:Heap}{A:Around}{outer:List Env}{s:Shared}{H:Hp}(e:Env0 P w K mg base A outer s H) :
 Env0 P w K mg base A.in1 outer s H:=⟨e.frames,e.mod,e.bs,e.bsz,e.funs,e.frf,e.hok,e.bare⟩
section
variable {X:Cx}{pins:List (Addr × Obj)}{σ:St}{H:Hp}{s s':Shared}
theorem Inv.env0 (I:Inv X pins σ H s):Env0 X.prog X.w X.K X.mg X.base X.A X.stack s H :=
 ⟨I.ok.frames,I.ok.mod,I.bs,Nat.le_trans I.ok.bsz I.sz,I.stack,I.stkFree,I.hok,I.bare⟩
theorem Inv.after {Q:VK}{u:Value}(I:Inv X pins σ H s) (h:CE X.stack X.prog X.w H s Q u s'):EP X pins σ Q u s':=by
 obtain⟨v,H',os,bare,un,hok,r,q⟩:=h
 obtain⟨hh,g,d,t,os'⟩:=s'
 obtain rfl:os'=s.os:=os
 exact⟨v,H',I.call (h':=hh) (g':=g) (d':=d) (t':=t) (ch:=[]) un hok bare (λb z=>absurd z (by simp)),r,q⟩
end
def C0 (sp:Sp) (dvs:List V) (E:XK) (t:TA):TE:=λσ H Q=>t σ H λvs H1=>sp (vs++dvs) H1 Q E
def CM (C:Addr) (m:Str) (sp:Sp) (dvs:List V) (E:XK) (ta:TE) (t:TA):TE:=λσ H Q=>ta σ H λx H1=>∃ a dx fs,x=.ref a/\H1 a=some (.ins C dx fs)/\fs.lookup m=none /\
 t σ H1 λvs H2=>sp (x :: (vs++dvs)) H2 Q E
def DK (C:Addr) (sp:Sp) (dvs:List V) (E:XK) (t:TA):TE:=λσ H Q=>t σ H λvs H1=>∀ x dx,H1 x=none->H1 dx=none->dx≠x ->
 sp (.ref x :: (vs++dvs)) (upd (upd H1 dx (.own x)) x (.ins C dx [])) (λv H2=>v=.non/\Q (.ref x) H2) E
def aG (K:PySem.W.Frag) (fd:FuncData) (ps:List Str) (ds:List Value):Prop :=
 ∀ (s:Shared) (us:List Value),K.In s.heap->(us++ds).length=ps.length->BindsTo s fd ⟨us,[]⟩ (ps.zip (us++ds))
theorem aG.all {K:PySem.W.Frag}{fd:FuncData}{ps:List Str}(h:∀ us:List Value,us.length=ps.length->bindArgs fd ⟨us,[]⟩=pure (ps.zip us)):aG K fd ps []:=λs us _ hl=>by
 rw[List.append_nil]at hl |-
 exact .of_eq (h us hl)
def jI (CX:CXT) (X:Cx) (E:XK):Prop:=∀ (pins:List (Addr × Obj)) (σ:St) (H:Hp) (s:Shared) (e:Value) (s':Shared),Inv X pins σ H s->CX X.stack H s E e s'->X.xe e s'
section
variable {X:Cx}{CX:CXT}{k:Nat}{f C:Addr}{fd:FuncData}{ps:List Str}{sp:Sp}{dvs:List V}{ds:List Value}{E:XK}{x m:Str}{p pos apos:Pos}{e o:Expr}{es:List Expr}{ta:TE}{t:TA}
theorem yG {pins:List (Addr × Obj)}{σ:St}{H:Hp}{s:Shared}{Q:VK}{us:List Value}{vs:List V}(F:FnOk X.prog X.w X.K X.mg X.base CX k f fd ps sp) (hr:Room k X.A) (hb:aG X.K fd ps ds) (hd:bC dvs ds) (hx:jI CX X E)
 (I:Inv X pins σ H s) (r:bC vs us) (h:sp (vs++dvs) H Q E):wpAny (model X.prog X.w) X.A (call (.ref f) us) (EP X pins σ Q) X.xe s:=by
 have r2:bC (vs++dvs) (us++ds):=r.append hd
 have hl:(us++ds).length=ps.length:=by rw[<-r2.length];exact F.len _ _ _ _ h
 refine wpAny_call (codeAny_mono (F.run X.A X.stack s H ⟨us,[]⟩ (us++ds) (vs++dvs) Q E hr I.env0 (hb s us I.kIn hl) r2 h) λr s' hq=>?_)
 cases r with
|error e=>exact hx pins σ H s e s' I hq
|ok fl =>
  cases fl with
 |ret u=>exact I.after hq
 |next=>exact False.elim hq
 |brk=>exact False.elim hq
 |cont=>exact False.elim hq
theorem aP (F:FnOk X.prog X.w X.K X.mg X.base CX k f fd ps sp) (hr:Room k X.A) (hg:Gl X x) (hm:X.mg x=some (.ref f)) (hk:keepIn X.K (.ref f)=true) (hb:aG X.K fd ps ds) (hd:bC dvs ds) (hx:jI CX X E)
 (ha:PA X (e :: es) t) (hdb:(x == ("__debug__":Str))=false:=by decide) (he:starEach (e :: es) X.env=(false,eval e X.env) :: starEach es X.env:=by rfl) (hpl:(backTo pos (starEach es X.env)).any (·.1)=false:=by rfl) :
 PE X (.Call (.Name x p) (e :: es) [] pos) (C0 sp dvs E t):=by
 intro pins s σ H Q I h
 refine wpAny_Call_Name_kw (gz I hg hm ?_ hdb)
 refine callWith_K (h₀:=X.base) I.ok.mod.kin hk (thn (ha pos pins s σ H _ I h) λus s1 ⟨vs,H1,I1,r,q⟩=>⟨I1.kIn,?_⟩) he hpl
 exact yG F hr hb hd hx I1 r q
theorem au {pl:Sem Bool}(he:PE X o ta) (c:Cls X.K C) (hm:Meth X.K C m f) (F:FnOk X.prog X.w X.K X.mg X.base CX k f fd ps sp) (hr:Room k X.A) (hb:aG X.K fd ps ds) (hd:bC dvs ds) (hx:jI CX X E) (ha:PA X (e :: es) t)
 (hst:starEach (e :: es) X.env=(false,eval e X.env) :: starEach es X.env:=by rfl) (hpl:(backTo pos (starEach es X.env)).any (·.1)=false:=by rfl)
 (ht:eval (.Call (.Attribute o m apos) (e :: es) [] pos) X.env=(do
  let ov <-eval o X.env
  standAt apos.atName
  let (f,first) <-holding [ov] (getMethod ov m pl)
  callWith pos f first (backTo pos (starEach (e :: es) X.env)) (backToKw pos (keywordEach [] X.env))):=by rfl) :
 PE X (.Call (.Attribute o m apos) (e :: es) [] pos) (CM C m sp dvs E ta t):=by
 intro pins s σ H Q I h
 refine methodCall_KW (pl:=pl) (thn (he pins s σ H _ I h) λu s1 ⟨x,H1,I1,rx,a,dx,fs,ex,ea,l,q⟩=>?_) ht
 subst ex
 obtain rfl:u=Value.ref a:=rx
 refine lA I1 ea c hm l ?_
 refine callWith_K (first:=[.ref a]) (h₀:=X.base) I.ok.mod.kin hm.kp (thn (ha pos pins s1 σ H1 _ I1 q) λus s2 ⟨vs,H2,I2,r,q2⟩=>⟨I2.kIn,?_⟩) hst hpl
 exact yG (us:=.ref a :: us) (vs:=.ref a :: vs) F hr hb hd hx I2 (.cons rfl r) q2
theorem aX {pl:Sem Bool}(he:PE X o ta) (c:Cls X.K C) (hm:Meth X.K C m f) (F:FnOk X.prog X.w X.K X.mg X.base CX k f fd ps sp) (hr:Room k X.A) (hb:aG X.K fd ps ds) (hd:bC dvs ds) (hx:jI CX X E)
 (ht:eval (.Call (.Attribute o m apos) [] [] pos) X.env=(do
  let ov <-eval o X.env
  standAt apos.atName
  let (f,first) <-holding [ov] (getMethod ov m pl)
  callWith pos f first (backTo pos (starEach [] X.env)) (backToKw pos (keywordEach [] X.env))):=by rfl) :
 PE X (.Call (.Attribute o m apos) [] [] pos) (CM C m sp dvs E ta zu):=by
 intro pins s σ H Q I h
 refine methodCall_KW (pl:=pl) (thn (he pins s σ H _ I h) λu s1 ⟨x,H1,I1,rx,a,dx,fs,ex,ea,l,q⟩=>?_) ht
 subst ex
 obtain rfl:u=Value.ref a:=rx
 refine lA I1 ea c hm l ?_
 exact callWith_K0 (first:=[.ref a]) I1.kIn hm.kp (yG (us:=[.ref a]) (vs:=[.ref a]) F hr hb hd hx I1 (.cons rfl .nil) q)
structure Mk (K:PySem.W.Frag) (C f:Addr):Prop where
 makes:makesIn K C=true
 init:PySem.W.findIn K (.ref C) "__init__"=some (some (.ref f))
 fn:isFn K (.ref f)=true
 kp:keepIn K (.ref C)=true
theorem vg {pins:List (Addr × Obj)}{σ:St}{H:Hp}{s:Shared}{Q:VK}{us:List Value}{vs:List V}(M:Mk X.K C f) (F:FnOk X.prog X.w X.K X.mg X.base CX k f fd ps sp) (hr:Room (k+1) X.A) (hb:aG X.K fd ps ds) (hd:bC dvs ds)
 (hx:jI CX X E) (I:Inv X pins σ H s) (r:bC vs us)
 (h:∀ x dx,H x=none->H dx=none->dx≠x->sp (.ref x :: (vs++dvs)) (upd (upd H dx (.own x)) x (.ins C dx [])) (λv H2=>v=.non/\Q (.ref x) H2) E) :
 wpAny (model X.prog X.w) X.A (call (.ref C) us) (EP X pins σ Q) X.xe s:=by
 have hq:=h (s.heap.objs.size+1) s.heap.objs.size (I.hok.fresh (Nat.le_succ _)) (I.hok.fresh (Nat.le_refl _)) (Nat.ne_of_lt (Nat.lt_succ_self _))
 have I2:=Inv.made (C:=C) I
 have r2:bC (V.ref (s.heap.objs.size+1) :: (vs++dvs)) (Value.ref (s.heap.objs.size+1) :: (us++ds)):=.cons rfl (r.append hd)
 have hl:(Value.ref (s.heap.objs.size+1) :: us++ds).length=ps.length:=by
  have e:=r2.length
  rw[F.len _ _ _ _ hq]at e
  exact e.symm
 refine wpAny_call (Aw (f:=f) I.kIn M.makes M.init (beq_iff_eq.mp M.fn) (codeAny_mono (F.run _ X.stack _ _ ⟨Value.ref (s.heap.objs.size+1) :: us,[]⟩ (Value.ref (s.heap.objs.size+1) :: (us++ds)) _ _ E (hr.make C us [])
  (I2.env0.make C us []) (hb _ (Value.ref (s.heap.objs.size+1) :: us) I2.kIn hl) r2 hq) λr s' hq'=>?_))
 cases r with
|error e=>exact hx pins σ _ _ e s' I2 hq'
|ok fl =>
  cases fl with
 |ret u =>
   obtain⟨v,H',I3,rv,ev,q3⟩:=I2.after hq'
   subst ev
   exact⟨rv,⟨V.ref (s.heap.objs.size+1),H',I3,rfl,q3⟩⟩
 |next=>exact False.elim hq'
 |brk=>exact False.elim hq'
 |cont=>exact False.elim hq'
theorem jO (M:Mk X.K C f) (F:FnOk X.prog X.w X.K X.mg X.base CX k f fd ps sp) (hr:Room (k+1) X.A) (hg:Gl X x) (hm:X.mg x=some (.ref C)) (hb:aG X.K fd ps ds) (hd:bC dvs ds) (hx:jI CX X E)
 (ha:PA X (e :: es) t) (hdb:(x == ("__debug__":Str))=false:=by decide) (he:starEach (e :: es) X.env=(false,eval e X.env) :: starEach es X.env:=by rfl) (hpl:(backTo pos (starEach es X.env)).any (·.1)=false:=by rfl) :
 PE X (.Call (.Name x p) (e :: es) [] pos) (DK C sp dvs E t):=by
 intro pins s σ H Q I h
 refine wpAny_Call_Name_kw (gz I hg hm ?_ hdb)
 refine callWith_K (h₀:=X.base) I.ok.mod.kin M.kp (thn (ha pos pins s σ H _ I h) λus s1 ⟨vs,H1,I1,r,q⟩=>⟨I1.kIn,?_⟩) he hpl
 exact vg M F hr hb hd hx I1 r q
theorem AW (M:Mk X.K C f) (F:FnOk X.prog X.w X.K X.mg X.base CX k f fd ps sp) (hr:Room (k+1) X.A) (hg:Gl X x) (hm:X.mg x=some (.ref C)) (hb:aG X.K fd ps ds) (hd:bC dvs ds) (hx:jI CX X E)
 (hdb:(x == ("__debug__":Str))=false:=by decide):PE X (.Call (.Name x p) [] [] pos) (DK C sp dvs E zu):=by
 intro pins s σ H Q I h
 refine wpAny_Call_Name_kw (gz I hg hm ?_ hdb)
 exact callWith_K0 I.kIn M.kp (vg (us:=[]) M F hr hb hd hx I .nil h)
end
section
variable {X:Cx}{CX:CXT}{k:Nat}{f C:Addr}{fd:FuncData}{ps ks:List Str}{sp:Sp}{E:XK}{x m:Str}{p pos apos kpos:Pos}{e o:Expr}{es:List Expr}{kws:List Keyword}{te ta:TE}{t tk:TA}{nm:Option Str}
variable {g:List Value->List Value->List Value}{gV:List V->List V->List V}
end
structure FnScope (N P:List Str) (sc:Scope):Prop where
 kind:sc.kind=.function
 co:sc.isCoroutine=false
 gen:sc.isGenerator=false
 nd:N.Nodup
 pre:N.take P.length=P
 par:∀ x∈P,sc.names.lookup x=some .local\/sc.names.lookup x=some .cell
 nofree:∀ y∈sc.names,y.2≠.free
theorem se {kindOf:Str->Option NameKind}{x:Str}:∀ {binds:List (Str × Value)}{m:Str->Option Value},(∀ v,(x,v) ∉ binds)->bindL kindOf binds m x=m x
|[],_,_=>rfl
|(n,v) :: r,m,h=>by
  unfold bindL
  rw[se λw hw=>h w (List.mem_cons_of_mem _ hw)]
  split
  . have:x≠n:=by rintro rfl;exact h v List.mem_cons_self
    simp[this]
  . rfl
theorem rg {kindOf:Str->Option NameKind}{x:Str}:∀ {binds:List (Str × Value)}{m:Str->Option Value},(∀ v,(x,v) ∉ binds)->bindC kindOf binds m x=m x
|[],_,_=>rfl
|(n,v) :: r,m,h=>by
  unfold bindC
  rw[rg λw hw=>h w (List.mem_cons_of_mem _ hw)]
  split
  . rfl
  . have:x≠n:=by rintro rfl;exact h v List.mem_cons_self
    simp[this]
theorem sM {kindOf:Str->Option NameKind}{x:Str}{v:Value}:∀ {P:List Str}{vs:List Value}{i:Nat}{m:Str->Option Value},P.Nodup->P[i]?=some x->vs[i]?=some v->kindOf x=some .local ->
 bindL kindOf (P.zip vs) m x=some v
|[],_,_,_,_,h,_,_=>by simp at h
|_ :: _,[],_,_,_,_,h,_=>by simp at h
|p :: P,w :: vs,0,m,nd,h1,h2,hk=>by
  simp at h1 h2;subst h1;subst h2
  show bindL kindOf ((p,w) :: P.zip vs) m p=_
  unfold bindL
  rw[se λv hv=>(List.nodup_cons.mp nd).1 (List.of_mem_zip hv).1,if_pos hk]
  simp
|p :: P,w :: vs,i+1,m,nd,h1,h2,hk=>by
  show bindL kindOf ((p,w) :: P.zip vs) m x=_
  unfold bindL
  exact sM (i:=i) (List.nodup_cons.mp nd).2 (by simpa using h1) (by simpa using h2) hk
theorem sr {kindOf:Str->Option NameKind}{x:Str}{v:Value}:∀ {P:List Str}{vs:List Value}{i:Nat}{m:Str->Option Value},P.Nodup->P[i]?=some x->vs[i]?=some v->kindOf x≠some .local ->
 bindC kindOf (P.zip vs) m x=some v
|[],_,_,_,_,h,_,_=>by simp at h
|_ :: _,[],_,_,_,_,h,_=>by simp at h
|p :: P,w :: vs,0,m,nd,h1,h2,hk=>by
  simp at h1 h2;subst h1;subst h2
  show bindC kindOf ((p,w) :: P.zip vs) m p=_
  unfold bindC
  rw[rg λv hv=>(List.nodup_cons.mp nd).1 (List.of_mem_zip hv).1,if_neg hk]
  simp
|p :: P,w :: vs,i+1,m,nd,h1,h2,hk=>by
  show bindC kindOf ((p,w) :: P.zip vs) m x=_
  unfold bindC
  exact sr (i:=i) (List.nodup_cons.mp nd).2 (by simpa using h1) (by simpa using h2) hk
def qa (N:List Str) (vs:List V):St:=vs.map some++List.replicate (N.length - vs.length) none
def Br (CX:CXT) (P:Program) (w:World) (K:PySem.W.Frag) (mg:Str->Option Value) (base:Heap) (N:List Str) (qual:Str) (scope:Scope) (f:Addr) (cd:Value) (A:Around) (outer:List Env) (s:Shared) (H:Hp) (E:XK):Cx where
 prog:=P
 w:=w
 K:=K
 mg:=mg
 base:=base
 A:=A.deeper (envOfC qual scope s.heap.objs.size f cd)
 N:=N
 s₀:=s
 H₀:=H
 env:=envOfC qual scope s.heap.objs.size f cd
 outer:=outer
 stack:=envOfC qual scope s.heap.objs.size f cd :: outer
 ex:=[]
 calm:=true
 fn:=λ_=>true
 pn:=[]
 xe:=λe s'=>wpAny (model P w) (A.deeper (envOfC qual scope s.heap.objs.size f cd)) (leaving (envOfC qual scope s.heap.objs.size f cd) e) (λ_ s''=>CX outer H s E e s'') (λe' s''=>CX outer H s E e' s'') s'
theorem vf {sc:Scope}{n:Nat}{x:Str}(h:sc.names.lookup x=some .cell):∃ c,(cellsFrom n sc.names []).lookup x=some c:=by
 have q:=cellsFrom_some sc.names n [] (.inl h)
 exact Option.isSome_iff_exists.mp q
theorem zj {CX:CXT}{P:Program}{w:World}{K:PySem.W.Frag}{mg:Str->Option Value}{base:Heap}{N ps:List Str}{qual:Str}{scope:Scope}{f:Addr}{cd:Value}{A:Around}{outer:List Env}{s s1:Shared}{H:Hp}{E:XK}{us:List Value}{vs:List V}
 (S:FnScope N ps scope) (hd:A.handled=none) (e0:Env0 P w K mg base A outer s H) (hl:vs.length=ps.length) (r:bC vs us)
 (x:InCallC s s.heap.objs.size (bindL (envOfC qual scope s.heap.objs.size f cd).kindOf (ps.zip us) λ_=>none) (cellsFrom (s.heap.objs.size+1) scope.names []) (bindC (envOfC qual scope s.heap.objs.size f cd).kindOf (ps.zip us) λ_=>none) s1) :
 Inv (Br CX P w K mg base N qual scope f cd A outer s H E) [] (qa N vs) H s1:=by
 have hpl:ps.length <= N.length:=by have:=congrArg List.length S.pre;rw[List.length_take]at this;omega
 obtain⟨h1,tk,rfl,hk⟩:=x.done
 have noA:∀ b:Addr,b ∉ (Br CX P w K mg base N qual scope f cd A outer s H E).ex:=λb z=>absurd (show b∈([]:List Addr) from z) (by simp)
 refine⟨⟨e0.mod,S.kind,rfl,rfl,Nat.le_refl _,λy z c h1 h2=>?_,λy hy=>?_,λy c _ h=>?_,λ_=>hd,Around.frames_deeper e0.frames,.inr ⟨rfl,rfl⟩,λb z=>absurd z (noA b),e0.bs,e0.bsz,λb _ _=>noA b,λb z=>absurd z (noA b),e0.funs,e0.frf⟩,
  rfl,e0.bare,Un.kept hk,⟨_,x.toInCall.ns,λi y v h1 h2 h3=>?_⟩,λy c h=>⟨_,x.cell y c h⟩,e0.hok.fresh (Nat.le_refl _),λy c h=>?_,λp hp=>absurd (show p∈([]:List (Addr × Obj)) from hp) (by simp),e0.hok.kept hk,?_⟩
 . exact name_of_addr x.apart (PySem.mem_of_lookup h1) (PySem.mem_of_lookup h2)
 . have hy:scope.names.lookup y=some .cell\/scope.names.lookup y=some .free:=hy
   rcases hy with hy|hy
   . exact vf hy
   . exact absurd rfl (S.nofree _ (PySem.mem_of_lookup hy))
 . exact Nat.le_of_lt (x.above y c (PySem.mem_of_lookup h))
 . have hi:i < vs.length:=by
    unfold qa at h2
    by_cases hi:i < vs.length
    . exact hi
    . rw[List.getElem?_append_right (by simpa using hi)]at h2
      rw[List.getElem?_replicate]at h2
      split at h2<;>cases h2
   have ha:vs[i]?=some v:=by
    unfold qa at h2
    rw[List.getElem?_append_left (by simpa using hi),List.getElem?_map]at h2
    cases e:vs[i]? with
   |none=>rw[e]at h2;cases h2
   |some a=>rw[e]at h2;cases h2;rfl
   obtain⟨u,hu,rv⟩:=r.get ha
   have hp:ps[i]?=some y:=by
    rw[<-S.pre,List.getElem?_take_of_lt (by omega)];exact h1
   have ndP:ps.Nodup:=by rw[<-S.pre];exact S.nd.sublist (List.take_sublist _ _)
   refine⟨u,rv,?_⟩
   rcases S.par y (List.mem_of_getElem? hp) with k|k
   . exact .inl ⟨k,sM ndP hp hu k⟩
   . obtain⟨c,e⟩:=vf (n:=s.heap.objs.size+1) k
     refine .inr ⟨.inl k,c,e,?_⟩
     have q:=x.cell y c e
     rw[sr ndP hp hu (by show scope.names.lookup y≠_;rw[k];decide)]at q
     exact q
 . exact e0.hok.fresh (Nat.le_of_lt (x.above y c (PySem.mem_of_lookup h)))
 . unfold qa
   show _=N.length
   rw[List.length_append,List.length_map,List.length_replicate]
   omega
theorem Do {CX:CXT}{P:Program}{w:World}{K:PySem.W.Frag}{mg:Str->Option Value}{base:Heap}{k:Nat}{f:Addr}{name qual:Str}{params:Arguments}{body:List Stmt}{scope:Scope}{dV kV doc pm cdv ct oc:Value}{an od:Option Addr}
 {osl:Array (Option Value)} {N ps:List Str} {sp:Sp} (lk:K.lookup f=some ⟨oc,od,.func (fnOf name qual params body scope dV kV doc pm an cdv ct),osl⟩) (hcd:codeIn K cdv qual=true) (S:FnScope N ps scope)
 (len:∀ vs H Q E,sp vs H Q E->vs.length=ps.length)
 (hbody:∀ (A:Around) (outer:List Env) (s:Shared) (H:Hp) (vs:List V) (Q:VK) (E:XK),Room k (A.deeper (envOfC qual scope s.heap.objs.size f cdv))->sp vs H Q E ->
  ∃ t,PSs (Br CX P w K mg base N qual scope f cdv A outer s H E) body t/\t { nx:=λ_ H'=>Q .non H',rt:=Q } (qa N vs) H) :
 FnOk P w K mg base CX (k+1) f (fnOf name qual params body scope dV kV doc pm an cdv ct) ps sp:=by
 refine⟨len,λA outer s H args us vs Q E hr e0 hb r hsp=>?_⟩
 have hl:=len _ _ _ _ hsp
 have KX:K.In s.heap:=e0.mod.kin.keeps λb o e=>(e0.bs b o e).1
 have lim:s.heap.NoLimit:=e0.mod.nolimit.keeps λb o e=>(e0.bs b o e).1
 have hkind:∀ y∈ps.zip us,scope.names.lookup y.1=some .local\/(scope.names.lookup y.1=some .cell/\((cellsFrom (s.heap.objs.size+1) scope.names []).lookup y.1).isSome=true):=λ⟨n,v⟩ hy=>by
  rcases S.par n (List.of_mem_zip hy).1 with q|q
  . exact .inl q
  . exact .inr ⟨q,cellsFrom_some _ _ _ (.inl q)⟩
 refine codeAny_call_function hr.depth (KX _ _ lk) rfl S.co S.gen rfl (codeRec_of KX hcd) (hb _ _ _ _ ?_)
 refine wpAny_newFunctionEnv_cells S.kind hkind λenv he s1 x=>?_
 subst he
 refine⟨lim.keeps x.toInCall.keep,codeAny_func ?_⟩
 obtain⟨t,ht,hq⟩:=hbody A outer s H vs Q E (hr.deeper _) hsp
 have I:Inv (Br CX P w K mg base N qual scope f cdv A outer s H E) [] (qa N vs) H s1:=zj S hr.hd e0 hl r x
 refine wpAny_mono (ht [] s1 (qa N vs) H _ I hq) (λfl s' hs=>?_) λe s' hs=>hs
 have fin:∀ {σ':St} {H':Hp} {v:V} {u:Value},Inv (Br CX P w K mg base N qual scope f cdv A outer s H E) [] σ' H' s'->bT v u->Q v H'->CE outer P w H s Q u s' :=
  λ{σ' H' v u} J rv q=>⟨v,H',J.os,J.bare,J.base,J.hok,rv,q⟩
 cases fl with
|ret u =>
  obtain⟨v,σ',H',J,rv,q⟩:=hs
  exact fin J rv q
|next =>
  obtain⟨σ',H',J,q⟩:=hs
  exact fin (v:=V.non) (u:=Value.none) J rfl q
|brk =>
  obtain⟨_,_,_,q⟩:=hs
  exact False.elim q
|cont =>
  obtain⟨_,_,_,q⟩:=hs
  exact False.elim q
end L2
namespace L2
open PySem PySem.Spec PyProof.Rows
section
variable {X:Cx}{x:Str}{p pos:Pos}{e:Expr}{es:List Expr}{t:TA}{id T:String}{r:List V->Hp->VK->Prop}
def tCB (r:List V->Hp->VK->Prop) (t:TA):TE:=λσ H Q=>t σ H λvs H1=>r vs H1 Q
theorem aZ (hc:lZ X (.builtin id) r) (hg:Gl X x) (hm:X.mg x=none) (hv:bootBuiltins x=some (.builtin id)) (ha:PA X (e :: es) t) (hn:x≠"__name__":=by decide) (hdb:(x == ("__debug__":Str))=false:=by decide)
 (he:starEach (e :: es) X.env=(false,eval e X.env) :: starEach es X.env:=by rfl) (hpl:(backTo pos (starEach es X.env)).any (·.1)=false:=by rfl):PE X (.Call (.Name x p) (e :: es) [] pos) (tCB r t):=by
 intro pins s σ H Q I h
 refine wpAny_Call_Name_kw (nP I hg hm hv ?_ hn hdb)
 exact PyProof.Rows.callWith_builtin1 (thn (ha pos pins s σ H _ I h) λus s1 ⟨vs,H1,I1,r1,q1⟩=>hc pins s1 σ H1 vs us Q I1 r1 q1) he hpl
theorem cx (hc:lZ X (.type T) r) (hg:Gl X x) (hm:X.mg x=none) (hv:bootBuiltins x=some (.type T)) (ha:PA X (e :: es) t) (hn:x≠"__name__":=by decide) (hdb:(x == ("__debug__":Str))=false:=by decide)
 (he:starEach (e :: es) X.env=(false,eval e X.env) :: starEach es X.env:=by rfl) (hpl:(backTo pos (starEach es X.env)).any (·.1)=false:=by rfl):PE X (.Call (.Name x p) (e :: es) [] pos) (tCB r t):=by
 intro pins s σ H Q I h
 refine wpAny_Call_Name_kw (nP I hg hm hv ?_ hn hdb)
 exact PyProof.Rows.callWith_type1 (thn (ha pos pins s σ H _ I h) λus s1 ⟨vs,H1,I1,r1,q1⟩=>hc pins s1 σ H1 vs us Q I1 r1 q1) he hpl
end
end L2
namespace HT
open PySem PyProof.Rows
section
open PySem.SeqAt
open PySem.AutoSeq1 (wpAny_loadPart')
open PySem.MeetsSeq PySem.MeetsSeq2 PySem.MeetsSeq3
end
section
variable {prog:Program}{w:World}{A:Around}{E:Value->Shared->Prop}{s:Shared}
def sIx (n d:Nat):Option Int->Nat
|none=>d
|some v=>if v < 0 then (v+(n:Int)).toNat else min v.toNat n
theorem sIx_nat (n d k:Nat):sIx n d (some (k:Int))=min k n:=by
 show (if (k:Int) < 0 then ((k:Int)+(n:Int)).toNat else min (k:Int).toNat n)=min k n
 rw[if_neg (by omega),Int.toNat_natCast]
theorem Eh (n d:Nat) (hd:d <= n) (o:Option Int):sIx n d o <= n:=by
 cases o with
|none=>exact hd
|some v =>
  show (if v < 0 then (v+(n:Int)).toNat else min v.toNat n) <= n
  by_cases hv:v < 0
  . rw[if_pos hv];omega
  . rw[if_neg hv];exact Nat.min_le_right _ _
theorem yy (v:Int) (n d:Nat):(if v < 0 then max (v+(n:Int)) 0 else min v (n:Int))=((sIx n d (some v):Nat):Int):=by
 show (if v < 0 then max (v+(n:Int)) 0 else min v (n:Int))=(((if v < 0 then (v+(n:Int)).toNat else min v.toNat n):Nat):Int)
 by_cases hv:v < 0
 . simp only[if_pos hv];omega
 . simp only[if_neg hv];omega
theorem wX (lo hi:Option Int) (n:Nat):Builtin.Slice.sliceAdjust lo hi 1 (n:Int)=(((sIx n 0 lo:Nat):Int),((sIx n n hi:Nat):Int)):=by
 have h1:¬ ((1:Int) < 0):=by omega
 unfold Builtin.Slice.sliceAdjust
 simp only[h1,if_false]
 refine Prod.ext ?_ ?_
 . cases lo with
  |none=>rfl
  |some v=>exact yy v n 0
 . cases hi with
  |none=>rfl
  |some v=>exact yy v n n
theorem wN (i j:Nat):Builtin.Slice.slicePlaces (i:Int) (j:Int) 1=j - i:=by
 unfold Builtin.Slice.slicePlaces
 have h1:(1:Int) > 0:=by omega
 simp only[h1,if_true,Int.ediv_one]
 split<;>omega
theorem pp {v:Value}{o:Option Int}{Q:Option Int->Shared->Prop}(p:IsPart v o) (h:Q o s):wpAny (model prog w) A (Builtin.Slice.slicePartIndex v) Q E s:=by
 cases p with
|none=>exact slicePart_none h
|int i t=>exact slicePart_int h
theorem mj {sl:Addr}{vl vu:Value}{lo hi:Option Int}{n:Nat}{Q:Int × Int × Nat->Shared->Prop}(hs:s.heap.IsSliceOf sl vl vu .none) (pl:IsPart vl lo) (pu:IsPart vu hi)
 (h:Q (((sIx n 0 lo:Nat):Int),1,sIx n n hi - sIx n 0 lo) s):wpAny (model prog w) A (Builtin.Slice.sliceApplied (.ref sl) (pure (n:Int))) Q E s:=by
 obtain⟨os,hos,hcs,hds⟩:=id hs
 unfold Builtin.Slice.sliceApplied Builtin.Slice.sliceFields
 refine wpAny_bind (wpAny_bind (wpAny_field hos hds (x:=vl) rfl (wpAny_bind (wpAny_field hos hds (x:=vu) rfl (wpAny_bind (wpAny_field hos hds (x:=.none) rfl (wpAny_pure ?_)))))))
 refine wpAny_bind (slicePart_none ?_)
 show wpAny _ _ (if ((1:Int) == 0)=true then _ else _) _ _ s
 rw[if_neg (by decide)]
 refine wpAny_bind (pp pl (wpAny_bind (pp pu (wpAny_bind (wpAny_pure ?_)))))
 show wpAny _ _ (match Builtin.Slice.sliceAdjust lo hi 1 (n:Int) with|(lo,hi)=>pure (lo,(1:Int),Builtin.Slice.slicePlaces lo hi 1)) _ _ s
 rw[wX lo hi n]
 show wpAny _ _ (pure (((sIx n 0 lo:Nat):Int),(1:Int),Builtin.Slice.slicePlaces ((sIx n 0 lo:Nat):Int) ((sIx n n hi:Nat):Int) 1)) _ _ s
 rw[wN]
 exact wpAny_pure h
theorem A3 (xs:Array Value) (i k:Nat):((List.range k).filterMap λ(m:Nat)=>xs[((i:Int)+(m:Int) * 1).toNat]?).toArray=((xs.toList.drop i).take k).toArray:=by
 have e:(λ(m:Nat)=>xs[((i:Int)+(m:Int) * 1).toNat]?)=λm=>xs[i+m]?:=by
  funext m
  have:((i:Int)+(m:Int) * 1).toNat=i+m:=by omega
  rw[this]
 rw[e]
 have:=pick_run xs i k
 rw[List.filterMap_map]at this
 have e2:((λx=>xs[x]?) ∘ λx=>i+x)=λm=>xs[i+m]?:=rfl
 rw[e2]at this
 rw[this]
theorem getItem_tuple_cut {t sl:Addr}{items:Array Value}{vl vu:Value}{lo hi:Option Int}{Q:Value->Shared->Prop}(ht:IsTup s.heap t items) (hs:s.heap.IsSliceOf sl vl vu .none) (pl:IsPart vl lo) (pu:IsPart vu hi)
 (hw:¬ (sIx items.size 0 lo=0/\sIx items.size items.size hi=items.size))
 (h:Q (.ref s.heap.objs.size) { s with heap:=s.heap.push { cls:=.type "tuple",data:=.seq ((items.toList.drop (sIx items.size 0 lo)).take (sIx items.size items.size hi - sIx items.size 0 lo)).toArray } })
 (hsz:items.size <= sizeLine):wpAny (model prog w) A (getItem (.ref t) (.ref sl)) Q E s:=by
 have htake:sizeOk (.seq ((items.toList.drop (sIx items.size 0 lo)).take (sIx items.size items.size hi - sIx items.size 0 lo)).toArray):=by
  show ((items.toList.drop (sIx items.size 0 lo)).take (sIx items.size items.size hi - sIx items.size 0 lo)).toArray.size <= sizeLine
  rw[List.size_toArray,List.length_take,List.length_drop,Array.length_toList]
  omega
 have hj:sIx items.size items.size hi <= items.size:=Eh _ _ (Nat.le_refl _) hi
 obtain⟨os,hos,hcs,hds⟩:=id hs
 have hTs:s.TypeIs (.ref sl) "slice":=⟨os,hos,hcs⟩
 unfold getItem
 try with_reducible refine wpAny_holding ?_
 first|refine wpAny_bind (wpAny_pure ?_)|skip
 refine wpAny_bind (wpAny_sequenceKey ht.typeIs (by decide) ?_)
 refine wpAny_bind (wpAny_callSpecial?_slot (name:=Str.ofString "__getitem__") ht.typeIs PyProof.Rows.slot_tuple_getitem
  (wpAny_call_entry PyProof.Rows.slot_tuple_getitem ht.typeIs entry_tuple_getitem ?_ (args_tuple_getitem _ _)))
 show wpAny _ _ (Builtin.Tuple.tupleItemsOf (.ref t) >>= _) _ _ s
 refine wpAny_bind (tupleItemsOf_ ht ?_)
 refine wpAny_bind (wpAny_typeOf hTs ?_)
 rw[if_pos (by decide)]
 refine wpAny_bind (mj hs pl pu ?_)
 have hno:¬ ((((sIx items.size 0 lo:Nat):Int) == 0 && (1:Int) == 1 && (sIx items.size items.size hi - sIx items.size 0 lo) == items.size)=true):=by
  intro q
  rw[Bool.and_eq_true,Bool.and_eq_true]at q
  have q1:((sIx items.size 0 lo:Nat):Int)=0:=eq_of_beq q.1.1
  have q2:sIx items.size items.size hi - sIx items.size 0 lo=items.size:=eq_of_beq q.2
  exact hw ⟨by omega,by omega⟩
 show wpAny _ _ (if (((sIx items.size 0 lo:Nat):Int) == 0 && (1:Int) == 1 && (sIx items.size items.size hi - sIx items.size 0 lo) == items.size)=true then _ else _) _ _ s
 rw[if_neg hno,A3]
 first
 |exact wpAny_bind (m:=Builtin.Tuple.tupleExact _) (wpAny_newObj_type (wpAny_pure ⟨_,rfl,wpAny_pure h⟩) htake)
 |exact wpAny_bind (m:=Builtin.Tuple.tupleExact _) (wpAny_newObj_type (wpAny_bind (wpAny_pure (wpAny_pure ⟨_,rfl,wpAny_pure h⟩))) htake)
 |exact wpAny_bind (wpAny_bind (m:=Builtin.Tuple.tupleExact _) (wpAny_newObj_type (wpAny_pure (wpAny_pure ⟨_,rfl,wpAny_pure h⟩)) htake))
 |exact wpAny_bind (wpAny_bind (m:=Builtin.Tuple.tupleExact _) (wpAny_newObj_type (wpAny_pure ⟨_,rfl,wpAny_pure h⟩) htake))
end
end HT
namespace L2
open PySem PySem.Spec PyProof.Rows
abbrev TO:=St->Hp->(Option Int->Hp->Prop)->Prop
def PO (X:Cx) (e:Option Expr) (t:TO):Prop :=
 ∀ (pins:List (Addr × Obj)) (s:Shared) (σ:St) (H:Hp) (Q:Option Int->Hp->Prop),Inv X pins σ H s->t σ H Q ->
  wpAny (model X.prog X.w) X.A (evalPart e X.env) (λu s'=>∃ o H',Inv X pins σ H' s'/\IsPart u o/\Q o H') X.xe s
def C5:TO:=λ_ H Q=>Q none H
def FI (t:TE):TO:=λσ H Q=>t σ H λx H1=>∃ i,x=.int i/\Q (some i) H1
theorem we {ns:List Int}:∀ {us:List Value},bC (ns.map V.int) us->IntsAre us ns:=by
 induction ns with
|nil=>intro us r;rw[List.map_nil]at r;cases r;exact .nil
|cons n ns ih =>
  intro us r
  rw[List.map_cons]at r
  cases r with
 |cons r1 r2 =>
   obtain⟨t,e⟩:=r1
   subst e
   exact .cons n t (ih r2)
section
variable {X:Cx}{e:Expr}{te:TE}{lo hi:Option Expr}{tl th:TO}{pos p2:Pos}
theorem nG:PO X none C5:=by
 intro pins s σ H Q I h
 rw[evalPart_none]
 exact wpAny_pure ⟨none,H,I,.none,h⟩
theorem iA (h:PE X e te):PO X (some e) (FI te):=by
 intro pins s σ H Q I hw
 rw[evalPart_some]
 refine thn (h pins s σ H _ I hw) λu s1 ⟨x,H1,I1,r1,q1⟩=>?_
 obtain⟨i,rfl,q⟩:=q1
 obtain⟨t,rfl⟩:=r1
 exact⟨some i,H1,I1,.int i t,q⟩
def SlR (X:Cx) (r:V->Option Int->Option Int->Hp->VK->Prop):Prop :=
 ∀ (pins:List (Addr × Obj)) (s:Shared) (σ:St) (H:Hp) (x:V) (v vl vu:Value) (lo hi:Option Int) (sl:Addr) (Q:VK),Inv X pins σ H s->bT x v->s.heap.IsSliceOf sl vl vu .none->IsPart vl lo->IsPart vu hi->r x lo hi H Q ->
  ∃ T id,typeLookup (.type T) "__getitem__"=pure (some (.builtin id))/\s.TypeIs v T/\wpAny (model X.prog X.w) X.A (getItem v (.ref sl)) (EP X pins σ Q) X.xe s
def tSl (r:V->Option Int->Option Int->Hp->VK->Prop) (te:TE) (tl th:TO):TE:=λσ H Q=>te σ H λx H1=>tl σ H1 λl H2=>th σ H2 λu H3=>r x l u H3 Q
theorem iw {r:V->Option Int->Option Int->Hp->VK->Prop}(hr:SlR X r) (he:PE X e te) (hl:PO X lo tl) (hu:PO X hi th):PE X (.Subscript e (.Slice lo hi none p2) pos) (tSl r te tl th):=by
 intro pins s σ H Q I h
 refine Subscript_ (thn (he pins s σ H _ I h) λv s1 ⟨x,H1,I1,r1,q1⟩=>?_)
 refine wpAny_Slice (thn (hl pins s1 σ H1 _ I1 q1) λvl s2 ⟨l,H2,I2,pl,q2⟩=>thn (hu pins s2 σ H2 _ I2 q2) λvu s3 ⟨u,H3,I3,pu,q3⟩=>?_)
 rw[evalPart_none]
 refine wpAny_pure ?_
 have I4:Inv X pins σ H3 { s3 with heap:=s3.heap.push { cls:=.type "slice",data:=.fields #[vl,vu,.none] } }:=I3.kept (t':=s3.toks) λb ob q=>Heap.get?_push_of_some _ q
 obtain⟨T,id,hT,ht,hg⟩:=hr pins { s3 with heap:=s3.heap.push { cls:=.type "slice",data:=.fields #[vl,vu,.none] } } σ H3 x v vl vu l u s3.heap.objs.size Q I4 r1 (Heap.IsSliceOf.new ..) pl pu q3
 show wpAny (model X.prog X.w) X.A (subscriptTail e (.Slice lo hi none p2) v (.ref s3.heap.objs.size)) (EP X pins σ Q) X.xe { s3 with heap:=s3.heap.push { cls:=.type "slice",data:=.fields #[vl,vu,.none] } }
 exact tail_any (ops:=[.ref s3.heap.objs.size,v]) ht hT hg (by with_unfolding_all rfl)
def lS (xs:List V) (lo hi:Option Int):List V:=(xs.drop (HT.sIx xs.length 0 lo)).take (HT.sIx xs.length xs.length hi - HT.sIx xs.length 0 lo)
theorem nW (xs:List V) (lo hi:Option Int):(lS xs lo hi).length <= xs.length:=by
 unfold lS
 rw[List.length_take,List.length_drop]
 omega
def Ge (K:PySem.W.Frag):V->Option Int->Option Int->Hp->VK->Prop:=λx lo hi H Q=>∃ a xs,x=.ref a/\SqT K H a xs /\
 ¬ (HT.sIx xs.length 0 lo=0/\HT.sIx xs.length xs.length hi=xs.length)/\∀ p,H p=none->Q (.ref p) (upd H p (.tup (lS xs lo hi)))
theorem Bg:SlR X (Ge X.K):=by
 intro pins s σ H x v vl vu lo hi sl Q I rx hs pl pu h
 obtain⟨a,xs,rfl,hx,hw,q⟩:=h
 cases rx
 obtain⟨its,r,ht,hz⟩:=I.tuple hx
 have hlen:its.toArray.size=xs.length:=by rw[List.size_toArray];exact r.length.symm
 refine⟨"tuple",_,PyProof.Rows.slot_tuple_getitem.lookup,ht.typeIs,?_⟩
 refine HT.getItem_tuple_cut ht hs pl pu (by rw[hlen];exact hw) ?_ (by rw[hlen];exact hz)
 rw[hlen]
 refine⟨.ref s.heap.objs.size,_,I.laid (t':=s.toks) (o:=.tup (lS xs lo hi)) (λb ob q=>Heap.get?_push_of_some _ q) (Nat.le_refl _) ?_,rfl,q _ (I.hok.fresh (Nat.le_refl _))⟩
 exact⟨Nat.le_trans (nW xs lo hi) hz,_,(r.drop (HT.sIx xs.length 0 lo)).take (HT.sIx xs.length xs.length hi - HT.sIx xs.length 0 lo),IsTup.new _ _⟩
end
end L2
namespace L2
open PySem PySem.Spec PyProof.Rows
def ixN (n:Nat) (i:Int):Option Nat:=if 0 <= i then (if i < n then some i.toNat else none) else if -(n:Int) <= i then some (i+n).toNat else none
def atI {α:Type}(xs:List α) (i:Int):Option α:=(ixN xs.length i).bind λj=>xs[j]?
theorem yg {n:Nat}{i:Int}{j:Nat}(h:ixN n i=some j):seqIndex? i n=some j/\j < n/\-(n:Int) <= i/\i < n:=by
 unfold ixN at h
 by_cases h0:0 <= i
 . rw[if_pos h0]at h
   by_cases h1:i < n
   . rw[if_pos h1]at h
     have e:i.toNat=j:=Option.some.inj h
     exact⟨by rw[seqIndex_of h0 h1,e],by omega,by omega,h1⟩
   . rw[if_neg h1]at h;cases h
 . rw[if_neg h0]at h
   by_cases h1:-(n:Int) <= i
   . rw[if_pos h1]at h
     have e:(i+n).toNat=j:=Option.some.inj h
     exact⟨by rw[seqIndex_neg (by omega) h1,e],by omega,h1,by omega⟩
   . rw[if_neg h1]at h;cases h
theorem yO {α:Type}{xs:List α}{i:Int}{v:α}(h:atI xs i=some v):∃ j,seqIndex? i xs.length=some j/\xs[j]?=some v/\j < xs.length/\-(xs.length:Int) <= i/\i < xs.length:=by
 unfold atI at h
 cases e:ixN xs.length i with
|none=>rw[e]at h;cases h
|some j =>
  rw[e]at h
  obtain⟨h1,h2,h3,h4⟩:=yg e
  exact⟨j,h1,h,h2,h3,h4⟩
theorem z9 {α:Type}{xs:List α}{j:Nat}{v:α}(h:xs[j]?=some v):atI xs (j:Int)=some v:=by
 have hj:j < xs.length:=(List.getElem?_eq_some_iff.mp h).1
 have e:ixN xs.length (j:Int)=some j:=by
  unfold ixN
  rw[if_pos (by omega),if_pos (by omega)];simp
 unfold atI;rw[e];exact h
def CI (b:Expr):Prop:=∀ o i,subscripted b false o i=operate [o,i] (getItem o i)
def IxR (X:Cx) (r:R2):Prop :=
 ∀ (value slice:Expr) (pins:List (Addr × Obj)) (s:Shared) (σ:St) (H:Hp) (x y:V) (v u:Value) (Q:VK),Inv X pins σ H s->bT x v->bT y u->r x y H Q ->
  subscripted slice false v u=operate [v,u] (getItem v u)->wpAny (model X.prog X.w) X.A (subscriptTail value slice v u) (EP X pins σ Q) X.xe s
def MtR (X:Cx) (id:String) (r:V->List V->Hp->VK->Prop):Prop :=
 ∀ (pins:List (Addr × Obj)) (s:Shared) (σ:St) (H:Hp) (x:V) (xs:List V) (v:Value) (us:List Value) (Q:VK),Inv X pins σ H s->bT x v->bC xs us->r x xs H Q ->
  wpAny (model X.prog X.w) X.A (call (.builtin id) (v :: us)) (EP X pins σ Q) X.xe s
section
variable {X:Cx}{a b:Expr}{ta tb:TE}{pos:Pos}
theorem aK {r:R2}(hr:IxR X r) (ha:PE X a ta) (hb:PE X b tb) (hs:CI b):PE X (.Subscript a b pos) (tOp r ta tb):=by
 intro pins s σ H Q I h
 exact Subscript_ (Fx ha hb I h λv u s2 x y H2 I2 rx ry q=>hr a b pins s2 σ H2 x y v u Q I2 rx ry q (hs _ _))
def Gm (K:PySem.W.Frag):R2:=λx y H Q=>∃ p xs i v,x=.ref p/\y=.int i/\SqL K H p xs/\atI xs i=some v/\Q v H
def G8 (K:PySem.W.Frag):R2:=λx y H Q=>∃ p xs i v,x=.ref p/\y=.int i/\SqT K H p xs/\atI xs i=some v/\Q v H
theorem bz:IxR X (Gm X.K):=by
 intro value slice pins s σ H x y v u Q I rx ry h hs
 obtain⟨p,xs,i,z,rfl,rfl,hq,he,q⟩:=h
 cases rx
 obtain⟨t,rfl⟩:=ry
 obtain⟨its,r,pl,hz⟩:=I.list hq
 obtain⟨j,h1,h2,h3,h4,h5⟩:=yO he
 obtain⟨w,ew,rw'⟩:=r.get h2
 have hl:=r.length
 have hn:=si
 have fin:EP X pins σ Q w s:=⟨z,H,I,rw',q⟩
 by_cases h0:0 <= i
 . have hj:i.toNat=j:=by
    rw[seqIndex_of h0 h5]at h1
    exact Option.some.inj h1
   exact item_listR pl.isList h0 (by omega) (by rw[hj];simpa using ew) fin hs
 . have hj:(i+(its.toArray.size:Int)).toNat=j:=by
    rw[seqIndex_neg (by omega) h4]at h1
    rw[List.size_toArray,<-hl]
    exact Option.some.inj h1
   exact subscriptTail_builtinR (x:=w) pl.isList.typeIs slot_list_getitem.lookup
    (wpAny_getItem_list_neg (Q:=λr s'=>r=w/\EP X pins σ Q r s') pl.isList (by omega) (by rw[List.size_toArray]<;>omega) (by omega) (by rw[hj];simpa using ew) ⟨rfl,fin⟩) hs
theorem aC:IxR X (G8 X.K):=by
 intro value slice pins s σ H x y v u Q I rx ry h hs
 obtain⟨p,xs,i,z,rfl,rfl,hq,he,q⟩:=h
 cases rx
 obtain⟨t,rfl⟩:=ry
 obtain⟨its,r,pl,hz⟩:=I.tuple hq
 obtain⟨j,h1,h2,h3,h4,h5⟩:=yO he
 obtain⟨w,ew,rw'⟩:=r.get h2
 have hl:=r.length
 have hn:=si
 have fin:EP X pins σ Q w s:=⟨z,H,I,rw',q⟩
 exact subscriptTail_builtinR (x:=w) pl.typeIs slot_tuple_getitem.lookup
  (getItem_tuple (j:=j) (Q:=λr s'=>r=w/\EP X pins σ Q r s') pl (by omega) (by omega) (by rw[List.size_toArray,<-hl];exact h1) (by simpa using ew) ⟨rfl,fin⟩) hs
theorem vM (its:List Value) (n j:Nat) (u:Value):Obj.mapSeq (·.setIfInBounds j u) { cls:=.type "list",data:=.seq its.toArray n }={ cls:=.type "list",data:=.seq (its.set j u).toArray n }:=by
 simp[Obj.mapSeq]
theorem Inv.lst {pins:List (Addr × Obj)}{σ:St}{H:Hp}{s:Shared}{p:Addr}{xs:List V}(I:Inv X pins σ H s) (h:H p=some (.lst xs)) :
 ∃ (its:List Value) (n:Nat),bC xs its/\s.heap.get? p=some { cls:=.type "list",data:=.seq its.toArray n }/\xs.length <= sizeLine:=by
 obtain⟨z,its,n,r,e⟩:=I.hok p _ h
 exact⟨its,n,r,e,z⟩
theorem Inv.lstUpd {pins:List (Addr × Obj)}{σ:St}{H:Hp}{s:Shared}{p:Addr}{xs ys:List V}{its its':List Value}{n n':Nat}{f:Obj->Obj}(I:Inv X pins σ H s) (h:H p=some (.lst xs))
 (ho:s.heap.get? p=some { cls:=.type "list",data:=.seq its.toArray n }) (hf:f { cls:=.type "list",data:=.seq its.toArray n }={ cls:=.type "list",data:=.seq its'.toArray n' }) (r:bC ys its') (hz:ys.length <= sizeLine) (t:Nat) :
 Inv X pins σ (upd H p (.lst ys)) { s with heap:=s.heap.update p f,toks:=t }:=by
 have e:(s.heap.update p f).get? p=some { cls:=.type "list",data:=.seq its'.toArray n' }:=by
  rw[Heap.get?_update_self f ho (by rw[hf]<;>rfl),hf]
 refine I.write (x:=p) (e:=p) (by rw[h];trivial) (.inl rfl) (λb u hb q=>(Heap.get?_update_other _ _ (Ne.symm hb)).trans q) ⟨_,e⟩ ?_
 exact⟨hz,its',n',r,e⟩
def FJ:V->V->V->Hp->(Hp->Prop)->Prop:=λo i v H Q=>∃ p xs k j,o=.ref p/\i=.int k/\H p=some (.lst xs)/\ixN xs.length k=some j/\Q (upd H p (.lst (xs.set j v)))
theorem gZ:FL X FJ:=by
 intro pins s σ H o i v ov iv u Q I ro ri rv h
 obtain⟨p,xs,k,j,rfl,rfl,hp,hj,q⟩:=h
 cases ro
 obtain⟨t,rfl⟩:=ri
 obtain⟨its,n,r,ho,hz⟩:=I.lst hp
 obtain⟨h1,h2,h3,h4⟩:=yg hj
 have hl:=r.length
 have hn:=si
 have I':Inv X pins σ (upd H p (.lst (xs.set j v))) { s with heap:=s.heap.update p (Obj.mapSeq (·.setIfInBounds j u)) } :=
  I.lstUpd hp ho (vM its n j u) (r.set rv j) (by rw[List.length_set];exact hz) s.toks
 by_cases h0:0 <= k
 . have hk:k.toNat=j:=by
    rw[seqIndex_of h0 h4]at h1
    exact Option.some.inj h1
   exact ki_setAt ho h0 (by omega) (by rw[List.size_toArray,<-hl];exact h4) (by rw[hk];exact⟨_,I',q⟩)
 . have hk:(k+(its.toArray.size:Int)).toNat=j:=by
    rw[seqIndex_neg (by omega) h3]at h1
    rw[List.size_toArray,<-hl]
    exact Option.some.inj h1
   exact ki_setBack ho (by omega) (by rw[List.size_toArray,<-hl];exact h3) (by omega) (by rw[hk];exact⟨_,I',q⟩)
theorem sW (lo hi:Option Int) (n:Nat):(sliceBounds lo hi none n).1=((HT.sIx n 0 lo:Nat):Int)/\(sliceBounds lo hi none n).2.1=((HT.sIx n n hi:Nat):Int)/\(sliceBounds lo hi none n).2.2=1:=by
 refine⟨?_,?_,rfl⟩
 . cases lo with
  |none=>simp[sliceBounds,HT.sIx]
  |some i =>
    simp only[sliceBounds,HT.sIx,Option.getD_none,show (1:Int) > 0 by decide,if_true]
    by_cases h:i < 0
    . simp only[h,if_true]<;>omega
    . simp only[h,if_false]<;>omega
 . cases hi with
  |none=>simp[sliceBounds,HT.sIx]
  |some i =>
    simp only[sliceBounds,HT.sIx,Option.getD_none,show (1:Int) > 0 by decide,if_true]
    by_cases h:i < 0
    . simp only[h,if_true]<;>omega
    . simp only[h,if_false]<;>omega
theorem r6 (its:List Value) (lo hi:Option Int):slicePick its.toArray lo hi none=((its.drop (HT.sIx its.length 0 lo)).take (HT.sIx its.length its.length hi - HT.sIx its.length 0 lo)).toArray:=by
 obtain⟨h1,h2,h3⟩:=sW lo hi its.toArray.size
 unfold slicePick
 rw[h1,h2,h3]
 simp only[sliceRange_one,pick_run,List.size_toArray]<;>rfl
def Gn (K:PySem.W.Frag):V->Option Int->Option Int->Hp->VK->Prop:=λx lo hi H Q=>∃ a xs,x=.ref a/\SqL K H a xs/\∀ p,H p=none->Q (.ref p) (upd H p (.lst (lS xs lo hi)))
theorem mL:SlR X (Gn X.K):=by
 intro pins s σ H x v vl vu lo hi sl Q I rx hs pl pu h
 obtain⟨a,xs,rfl,hx,q⟩:=h
 cases rx
 obtain⟨its,r,ht,hz⟩:=I.list hx
 have hlen:=r.length
 refine⟨"list",_,slot_list_getitem.lookup,ht.isList.typeIs,?_⟩
 refine wpAny_getItem_list_slice ht.isList hs pl pu .none (by simp) ?_ (by rw[List.size_toArray]<;>omega)
 rw[r6,<-hlen]
 refine⟨.ref s.heap.objs.size,_,I.laid (t':=s.toks) (o:=.lst (lS xs lo hi)) (λb ob q=>Heap.get?_push_of_some _ q) (Nat.le_refl _) ?_,rfl,q _ (I.hok.fresh (Nat.le_refl _))⟩
 exact⟨Nat.le_trans (nW xs lo hi) hz,_,0,(r.drop (HT.sIx xs.length 0 lo)).take (HT.sIx xs.length xs.length hi - HT.sIx xs.length 0 lo),Heap.get?_push_size _ rfl⟩
def oH:V->Bool
|.non=>true
|.bl _=>true
|.int _=>true
|.str _=>true
|_=>false
def eqV:V->V->Bool
|.non,.non=>true
|.bl a,.bl b=>a == b
|.bl a,.int b=>(if a then 1 else 0) == b
|.int a,.bl b=>a == (if b then 1 else 0)
|.int a,.int b=>a == b
|.str a,.str b=>a == b
|_,_=>false
theorem Dr {A:Around}{s:Shared}{y x:V}{u v:Value}(ry:bT y u) (rx:bT x v) (fy:oH y=true) (fx:oH x=true):SeqAt.EqAt A s u v (eqV y x):=by
 cases y with
|non =>
  cases ry
  cases x with
 |non=>cases rx;exact SeqAt.EqAt.same _
 |bl b=>cases rx;exact SeqAt.EqAt.none_bool b
 |int b=>obtain⟨t,rfl⟩:=rx;exact SeqAt.EqAt.none_int b t
 |str b=>obtain⟨t,rfl⟩:=rx;exact SeqAt.EqAt.none_str b t
 |_=>exact absurd (show false=true from fx) Bool.false_ne_true
|bl a =>
  cases ry
  cases x with
 |non=>cases rx;exact SeqAt.EqAt.bool_none a
 |bl b=>cases rx;exact SeqAt.EqAt.bool_bool a b
 |int b=>obtain⟨t,rfl⟩:=rx;exact SeqAt.EqAt.bool_int a b t
 |str b=>obtain⟨t,rfl⟩:=rx;exact SeqAt.EqAt.bool_str a b t
 |_=>exact absurd (show false=true from fx) Bool.false_ne_true
|int a =>
  obtain⟨t',rfl⟩:=ry
  cases x with
 |non=>cases rx;exact SeqAt.EqAt.int_none a t'
 |bl b=>cases rx;exact SeqAt.EqAt.int_bool a t' b
 |int b=>obtain⟨t,rfl⟩:=rx;exact SeqAt.EqAt.int_int a t' b t
 |str b=>obtain⟨t,rfl⟩:=rx;exact SeqAt.EqAt.int_str a t' b t
 |_=>exact absurd (show false=true from fx) Bool.false_ne_true
|str a =>
  obtain⟨t',rfl⟩:=ry
  cases x with
 |non=>cases rx;exact SeqAt.EqAt.str_none a t'
 |bl b=>cases rx;exact SeqAt.EqAt.str_bool a t' b
 |int b=>obtain⟨t,rfl⟩:=rx;exact SeqAt.EqAt.str_int a t' b t
 |str b=>obtain⟨t,rfl⟩:=rx;exact SeqAt.EqAt.str_str a t' b t
 |_=>exact absurd (show false=true from fx) Bool.false_ne_true
|_=>exact absurd (show false=true from fy) Bool.false_ne_true
def eqU (x:V) (u:Value):Bool:=match u with
|.none=>eqV .non x
|.bool b=>eqV (.bl b) x
|.int i _=>eqV (.int i) x
|.str z _=>eqV (.str z) x
|_=>false
theorem B8 {x y:V}{u:Value}(r:bT y u) (f:oH y=true):eqU x u=eqV y x:=by
 cases y with
|non=>cases r;rfl
|bl b=>cases r;rfl
|int i=>obtain⟨t,rfl⟩:=r;rfl
|str z=>obtain⟨t,rfl⟩:=r;rfl
|_=>exact absurd (show false=true from f) Bool.false_ne_true
theorem oi {x:V}:∀ {xs:List V}{us:List Value},bC xs us->xs.all oH=true->us.any (eqU x)=xs.any λy=>eqV y x
|_,_,.nil,_=>rfl
|y :: xs,u :: us,.cons r t,f=>by
  rw[List.all_cons,Bool.and_eq_true]at f
  rw[List.any_cons,List.any_cons,B8 r f.1,oi t f.2]
theorem kC {A:Around}{s:Shared}{x:V}{v:Value}(rx:bT x v) (fx:oH x=true):∀ {xs:List V}{us:List Value},bC xs us->xs.all oH=true->∀ u∈us,SeqAt.EqAt A s u v (eqU x u)
|_,_,.nil,_=>λu hu=>by cases hu
|y :: xs,u :: us,.cons r t,f=>λu' hu=>by
  rw[List.all_cons,Bool.and_eq_true]at f
  rcases List.mem_cons.mp hu with rfl|hu
  . rw[B8 r f.1];exact Dr r rx f.1 fx
  . exact kC rx fx t f.2 u' hu
def inV (x:V) (xs:List V):Bool:=xs.any λy=>eqV y x
def rIn (K:PySem.W.Frag) (neg:Bool):R2:=λx y H Q=>∃ p xs,y=.ref p/\(SqL K H p xs\/SqT K H p xs)/\oH x=true/\xs.all oH=true/\Q (.bl (if neg then !inV x xs else inV x xs)) H
theorem gM:OpR X (compareOp .In) (rIn X.K false):=by
 intro pins s σ H x y v u Q I rx ry h
 obtain⟨p,xs,rfl,hq,fx,fs,q⟩:=h
 cases ry
 rcases hq with hq|hq
 . obtain⟨its,r,pl,hz⟩:=I.list hq
   refine SeqAt.in_listAt (eqU x) pl.isList (λw hw=>kC rx fx r fs w (by simpa using hw)) ⟨.bl _,H,I,rfl,?_⟩
   rw[show its.toArray.any (eqU x)=its.any (eqU x) by simp,oi r fs]
   exact q
 . obtain⟨its,r,pl,hz⟩:=I.tuple hq
   refine SeqAt.in_tupleAt (eqU x) pl (λw hw=>kC rx fx r fs w (by simpa using hw)) ⟨.bl _,H,I,rfl,?_⟩
   rw[show its.toArray.any (eqU x)=its.any (eqU x) by simp,oi r fs]
   exact q
theorem gl:OpR X (compareOp .NotIn) (rIn X.K true):=by
 intro pins s σ H x y v u Q I rx ry h
 obtain⟨p,xs,rfl,hq,fx,fs,q⟩:=h
 cases ry
 rcases hq with hq|hq
 . obtain⟨its,r,pl,hz⟩:=I.list hq
   refine SeqAt.notIn_listAt (eqU x) pl.isList (λw hw=>kC rx fx r fs w (by simpa using hw)) ⟨.bl _,H,I,rfl,?_⟩
   rw[show its.toArray.any (eqU x)=its.any (eqU x) by simp,oi r fs]
   exact q
 . obtain⟨its,r,pl,hz⟩:=I.tuple hq
   refine SeqAt.notIn_tupleAt (eqU x) pl (λw hw=>kC rx fx r fs w (by simpa using hw)) ⟨.bl _,H,I,rfl,?_⟩
   rw[show its.toArray.any (eqU x)=its.any (eqU x) by simp,oi r fs]
   exact q
theorem bH:lZ X (.builtin "len") (λxs H Q=>∃ p ys,xs=[.ref p]/\(SqL X.K H p ys\/SqT X.K H p ys)/\Q (.int ys.length) H):=by
 intro pins s σ H xs us Q I r h
 obtain⟨p,ys,rfl,hq,q⟩:=h
 obtain⟨u,rfl,rx⟩:=nq r
 cases rx
 have hn:=si
 rcases hq with hq|hq
 . obtain⟨its,r',pl,hz⟩:=I.list hq
   have hlen:=r'.length
   exact Calls.call_len_list pl.isList (by simp only[List.size_toArray]<;>omega) ⟨.int ys.length,H,I.tok _,⟨s.toks+1,by rw[List.size_toArray,hlen]⟩,q⟩
 . obtain⟨its,r',pl,hz⟩:=I.tuple hq
   have hlen:=r'.length
   exact len_tuple pl (by simp only[List.size_toArray]<;>omega) ⟨.int ys.length,H,I.tok _,⟨s.toks+1,by rw[List.size_toArray,hlen]⟩,q⟩
theorem lM:lZ X (.type "list") (λxs H Q=>∃ p ys,xs=[.ref p]/\(SqL X.K H p ys\/SqT X.K H p ys)/\∀ l,H l=none->Q (.ref l) (upd H l (.lst ys))):=by
 intro pins s σ H xs us Q I r h
 obtain⟨p,ys,rfl,hq,q⟩:=h
 obtain⟨u,rfl,rx⟩:=nq r
 cases rx
 have fin:∀ (its:List Value),bC ys its->ys.length <= sizeLine->∀ (h':Heap) (c':Nat),(∀ b o',s.heap.get? b=some o'->h'.get? b=some o') ->
  h'.get? s.heap.objs.size=some { cls:=.type "list",dict:=none,data:=.seq its.toArray c',slots:=#[] }->EP X pins σ Q (.ref s.heap.objs.size) { s with heap:=h' }:=λits r' hz h' c' kp e =>
  ⟨.ref s.heap.objs.size,_,I.laid (t':=s.toks) kp (Nat.le_refl _) (show cp X.prog X.w _ h' _ (.lst ys) from ⟨hz,its,c',r',e⟩),rfl,q _ (I.hok.fresh (Nat.le_refl _))⟩
 rcases hq with hq|hq
 . obtain⟨its,r',pl,hz⟩:=I.list hq
   have hlen:=r'.length
   obtain⟨o,ho,hc,n,hd⟩:=pl.isList
   exact call_list_seq p (.inl rfl) ho hc hd (λh' c' kp e=>fin its r' hz h' c' kp e) (by simp only[List.size_toArray]<;>omega)
 . obtain⟨its,r',pl,hz⟩:=I.tuple hq
   have hlen:=r'.length
   obtain⟨o,ho,hc,n,hd⟩:=pl
   exact call_list_seq p (.inr rfl) ho hc hd (λh' c' kp e=>fin its r' hz h' c' kp e) (by simp only[List.size_toArray]<;>omega)
theorem cc:lZ X (.type "tuple") (λxs H Q=>∃ p ys,xs=[.ref p]/\((SqL X.K H p ys/\∀ l,H l=none->Q (.ref l) (upd H l (.tup ys)))\/(SqT X.K H p ys/\Q (.ref p) H))):=by
 intro pins s σ H xs us Q I r h
 obtain⟨p,ys,rfl,h⟩:=h
 obtain⟨u,rfl,rx⟩:=nq r
 cases rx
 rcases h with⟨hq,q⟩|⟨hq,q⟩
 . obtain⟨its,r',pl,hz⟩:=I.list hq
   have hlen:=r'.length
   refine call_tuple_list pl.isList (λh' kp=>?_) (by simp only[List.size_toArray]<;>omega)
   have I1:Inv X pins σ H { s with heap:=h' }:=I.kept (t':=s.toks) kp
   have I2:Inv X pins σ (upd H h'.objs.size (.tup ys)) { s with heap:=h'.push { cls:=.type "tuple",data:=.seq its.toArray } } :=
    I1.laid (t':=s.toks) (λb o e=>Heap.get?_push_of_some _ e) (Nat.le_refl _) (show cp X.prog X.w _ _ _ (.tup ys) from ⟨hz,its,r',IsTup.new _ _⟩)
   exact⟨.ref h'.objs.size,_,I2,rfl,q _ (I1.hok.fresh (Nat.le_refl _))⟩
 . obtain⟨its,r',pl,hz⟩:=I.tuple hq
   exact call_tuple_same pl ⟨.ref p,H,I,rfl,q⟩
def tyV (K:PySem.W.Frag) (T:String) (x:V) (H:Hp):Prop:=match x with
|.str _=>T="str"
|.int _=>T="int"
|.ref p=>(T="list"/\∃ xs,SqL K H p xs)\/(T="tuple"/\∃ o,K.lookup p=some o/\o.cls=.type "tuple"/\o.dict=none) \/
  (T="dict"/\((∃ kvs,H p=some (.dK kvs))\/∃ kvs,H p=some (.dT kvs)))\/(T="set"/\∃ S n,H p=some (.set S n))
|_=>False
theorem E5 {pins:List (Addr × Obj)}{σ:St}{H:Hp}{s:Shared}{T:String}{x:V}{v:Value}(I:Inv X pins σ H s) (r:bT x v) (ty:tyV X.K T x H) :
 s.TypeIs v T/\∀ a,v=.ref a->∃ ob,s.heap.get? a=some ob/\ob.dict=none:=by
 cases x with
|str z =>
  obtain⟨t,rfl⟩:=r
  cases (show T="str" from ty)
  exact⟨typeIs_str s z t,λ_ e=>nomatch e⟩
|int i =>
  obtain⟨t,rfl⟩:=r
  cases (show T="int" from ty)
  exact⟨typeIs_int s i t,λ_ e=>nomatch e⟩
|ref p =>
  cases r
  rcases ty with⟨rfl,xs,hq⟩|⟨rfl,o,hk,hc,hd⟩|⟨rfl,hk⟩|⟨rfl,S,n,hk⟩
  . obtain⟨its,_,pl,_⟩:=I.list hq
    refine⟨pl.isList.typeIs,λa e=>?_⟩
    cases e
    obtain⟨o,n,e,c,hd,_⟩:=pl
    exact⟨o,e,hd⟩
  . refine⟨⟨o,I.kIn p o hk,hc⟩,λa e=>?_⟩
    cases e
    exact⟨o,I.kIn _ o hk,hd⟩
  . have z:∃ o,s.heap.get? p=some o/\o.ExactDict:=by
     rcases hk with⟨kvs,hk⟩|⟨kvs,hk⟩
     . obtain⟨_,_,_,_,o,_,_,e,ex,_⟩:=I.hok p _ hk
       exact⟨o,e,ex⟩
     . obtain⟨_,_,_,_,o,_,_,e,ex,_⟩:=I.hok p _ hk
       exact⟨o,e,ex⟩
    obtain⟨o,e,ex⟩:=z
    refine⟨⟨o,e,ex.1⟩,λa e2=>?_⟩
    cases e2
    exact⟨o,e,ex.2.1⟩
  . obtain⟨o,_,_,_,e,ex,_⟩:=I.hok p _ hk
    refine⟨⟨o,e,ex.1⟩,λa e2=>?_⟩
    cases e2
    exact⟨o,e,ex.2.1⟩
|_=>exact False.elim ty
def tBM (K:PySem.W.Frag) (T:String) (r:V->List V->Hp->VK->Prop) (to:TE) (t:TA):TE:=λσ H Q=>to σ H λx H1=>tyV K T x H1/\t σ H1 λxs H2=>r x xs H2 Q
variable {o e:Expr}{es:List Expr}{to:TE}{t:TA}{name:Str}{apos cpos:Pos}{T id:String}{r:V->List V->Hp->VK->Prop}
theorem mf (pa:PlainAttrs T) (slot:Slot T name id) (hty:typeOf (.builtin id)=pure (.type "method_descriptor")) (hm:MtR X id r) (ho:PE X o to) (ha:PA X (e :: es) t)
 (hbase:attributeBase o name X.env (eval o X.env)=eval o X.env:=by rfl)
 (hfew:((backTo cpos (starEach (e :: es) X.env)).all (λx=>!x.1) && (backToKw cpos (keywordEach [] X.env)).all (λx=>x.1.isSome)
  && decide ((e :: es).length+([]:List Keyword).length+(if ([]:List Keyword).isEmpty then 0 else 1) < 30))=true:=by rfl)
 (hline:(apos.endLine == cpos.line)=true:=by rfl) (hs:starEach (e :: es) X.env=(false,eval e X.env) :: starEach es X.env:=by rfl) (hplain:(backTo cpos (starEach es X.env)).any (·.1)=false:=by rfl) :
 PE X (.Call (.Attribute o name apos) (e :: es) [] cpos) (tBM X.K T r to t):=by
 intro pins s σ H Q I h
 refine wpAny_Call_method_late hbase hfew hline rfl (thn (ho pins s σ H _ I h) λv s1 ⟨x,H1,I1,r1,ty,q1⟩=>?_)
 obtain⟨h1,h2⟩:=E5 I1 r1 ty
 refine⟨T,id,pa,slot,hty,h1,h2,?_⟩
 have hA:=ha cpos pins s1 σ H1 _ I1 q1
 rw[hs]at hA |-
 refine Calls.callWith_builtin (by show (false || (backTo cpos (starEach es X.env)).any (·.1))=false;rw[hplain]<;>rfl) (Calls.evalArgs_plain ?_)
 exact thn hA λus s2 ⟨vs,H2,I2,r2,q2⟩=>hm pins s2 σ H2 x vs v us Q I2 r1 r2 q2
end
end L2
namespace L2
open PySem PySem.Spec PyProof.Rows
def MtM (X:Cx) (id:String) (r:V->List V->Hp->VK->Prop):Prop :=
 ∀ (pins:List (Addr × Obj)) (s:Shared) (σ:St) (H:Hp) (x:V) (xs:List V) (v:Value) (us:List Value) (Q:VK),Inv X pins σ H s->bT x v->bC xs us->r x xs H Q ->
  wpAny (model X.prog X.w) X.A (call (.builtin id) (v :: us)) (EP X pins σ Q) X.xe s
theorem bC.one:∀ {x:V}{us:List Value},bC [x] us->∃ u,us=[u]/\bT x u
|_,_,.cons r .nil=>⟨_,rfl,r⟩
theorem bC.zero:∀ {us:List Value},bC [] us->us=[]
|_,.nil=>rfl
theorem bC.eraseIdx:∀ {xs:List V}{us:List Value}(i:Nat),bC xs us->bC (xs.eraseIdx i) (us.eraseIdx i)
|_,_,_,.nil=>.nil
|_,_,0,.cons _ t=>t
|_,_,i+1,.cons r t=>.cons r (bC.eraseIdx i t)
theorem sD {α:Type}:∀ (l:List α) (i:Nat),(l.eraseIdx i).length <= l.length
|[],_=>Nat.le_refl _
|_ :: _,0=>Nat.le_succ _
|_ :: r,i+1=>Nat.succ_le_succ (sD r i)
section
variable {X:Cx}{pins:List (Addr × Obj)}{σ:St}{H:Hp}{s:Shared}{l b:Addr}{xs ys zs:List V}
theorem Inv.lset {its its':List Value}{n:Nat}{f:Array Value->Array Value}{t':Nat}(I:Inv X pins σ H s) (hH:H l=some (.lst xs))
 (e:s.heap.get? l=some { cls:=.type "list",data:=.seq its.toArray n }) (hf:f its.toArray=its'.toArray) (hv:bC ys its') (hz:ys.length <= sizeLine) :
 Inv X pins σ (upd H l (.lst ys)) { s with heap:=s.heap.update l (Obj.mapSeq f),toks:=t' }:=by
 have q:=PySem.IsL.update e f
 rw[hf]at q
 refine I.write (x:=l) (e:=l) (by rw[hH];exact trivial) (.inl rfl) (λb' u hb hu=>(Heap.get?_update_other s.heap (Obj.mapSeq f) (Ne.symm hb)).trans hu) ⟨_,q⟩ ?_
 exact⟨hz,its',_,hv,q⟩
theorem Inv.lnew {its:List Value}{t':Nat}(I:Inv X pins σ H s) (hv:bC ys its) (hz:ys.length <= sizeLine) :
 Inv X pins σ (upd H s.heap.objs.size (.lst ys)) { s with heap:=s.heap.push { cls:=.type "list",data:=.seq its.toArray },toks:=t' } :=
 I.laid (λ_ _ q=>Heap.get?_push_of_some _ q) (Nat.le_refl _) ⟨hz,its,0,hv,Heap.get?_push_size _ rfl⟩
theorem Inv.fresh (I:Inv X pins σ H s):H s.heap.objs.size=none:=I.hok.fresh (Nat.le_refl _)
theorem Inv.lstM (I:Inv X pins σ H s) (hH:H l=some (.lst xs)):xs.length <= sizeLine/\∃ (its:List Value) (n:Nat),bC xs its/\xs.length=its.length/\s.heap.get? l=some { cls:=.type "list",data:=.seq its.toArray n }:=by
 obtain⟨z,its,n,r,e⟩:=I.hok l _ hH
 exact⟨z,its,n,r,r.length,e⟩
end
section
variable {X:Cx}
def Cu:V->List V->Hp->VK->Prop:=λx vs H Q=>∃ l xs y,x=.ref l/\vs=[y]/\H l=some (.lst xs)/\xs.length < sizeLine/\Q .non (upd H l (.lst (xs++[y])))
theorem cq:MtM X "list.append" Cu:=by
 intro pins s σ H x vs v us Q I rx rv h
 obtain⟨l,xs,y,rfl,rfl,hH,hz,q⟩:=h
 cases rx
 obtain⟨u,rfl,ru⟩:=rv.one
 obtain⟨z,its,n,r,hl,e⟩:=I.lstM hH
 refine call_meets F.slot_list_append ⟨_,e,rfl⟩ F.entry_list_append (F.args_list_append_2 _ _) (PySem.list_append l its.toArray n u (by rw[List.size_toArray];omega)) ⟨e,?_⟩
 refine⟨.non,_,I.lset (its':=its++[u]) hH e (by simp) (r.append (.cons ru .nil)) ?_,rfl,q⟩
 rw[List.length_append,List.length_singleton]
 omega
def EN:V->List V->Hp->VK->Prop:=λx vs H Q=>∃ l b xs zs,x=.ref l/\vs=[.ref b]/\H l=some (.lst xs)/\H b=some (.lst zs)/\xs.length+zs.length <= sizeLine/\Q .non (upd H l (.lst (xs++zs)))
def DR:V->List V->Hp->VK->Prop:=λx vs H Q=>∃ l xs i k y,x=.ref l/\vs=[.int i]/\H l=some (.lst xs)/\-(2 ^ 63) <= i/\i < 2 ^ 63/\seqIndex? i xs.length=some k/\xs[k]?=some y/\Q y (upd H l (.lst (xs.eraseIdx k)))
theorem AS:MtM X "list.pop" DR:=by
 intro pins s σ H x vs v us Q I rx rv h
 obtain⟨l,xs,i,k,y,rfl,rfl,hH,h1,h2,hk,hy,q⟩:=h
 cases rx
 obtain⟨u,rfl,ru⟩:=rv.one
 obtain⟨t,rfl⟩:=ru
 obtain⟨z,its,n,r,hl,e⟩:=I.lstM hH
 obtain⟨w,hw,rw'⟩:=r.get hy
 refine call_meets F.slot_list_pop ⟨_,e,rfl⟩ F.entry_list_pop (F.args_list_pop_2 _ _)
  (MeetsSeq.list_pop_at l its.toArray n i t k w (fitsIndex_both h1 h2) (by rw[List.size_toArray,<-hl];exact hk) (by rw[<-Array.getElem?_toList];exact hw) (by rw[List.size_toArray];omega)) ⟨e,?_⟩
 refine⟨y,_,I.lset (its':=its.eraseIdx k) hH e ?_ (r.eraseIdx k) ?_,rw',q⟩
 . show its.toArray.eraseIdxIfInBounds k=(its.eraseIdx k).toArray
   rw[List.eraseIdxIfInBounds_toArray]
 . have:=sD xs k
   omega
def xi:R2:=λx y H Q=>∃ l b xs zs,x=.ref l/\y=.ref b/\H l=some (.lst xs)/\H b=some (.lst zs)/\xs.length+zs.length <= sizeLine/\∀ p,H p=none->Q (.ref p) (upd H p (.lst (xs++zs)))
theorem jx:OpR X (binaryOp .Add) xi:=by
 intro pins s σ H x y v u Q I rx ry h
 obtain⟨l,b,xs,zs,rfl,rfl,hH,hB,hz,q⟩:=h
 cases rx
 cases ry
 obtain⟨z,its,n,r,hl,e⟩:=I.lstM hH
 obtain⟨z2,its2,n2,r2,hl2,e2⟩:=I.lstM hB
 refine PySem.P.add_list e e2 ?_ (by rw[List.size_toArray,List.size_toArray];omega)
 have ea:its.toArray++its2.toArray=(its++its2).toArray:=by simp
 rw[ea]
 exact⟨.ref _,_,I.lnew (t':=s.toks) (r.append r2) (by rw[List.length_append];omega),rfl,q _ I.fresh⟩
end
section
variable {prog:Program}{w:World}{A:Around}{E:Value->Shared->Prop}{s:Shared}
set_option maxRecDepth 100000 in
end
section
variable {X:Cx}
end
end L2
namespace L2
open PySem PySem.Spec PyProof.Rows
section
variable {κ:Type} [DecidableEq κ]
def oX (kvs:List (κ × V)) (k:κ):Option V:=(kvs.find? λkv=>decide (kv.1=k)).map (·.2)
def tD (kvs:List (κ × V)) (k:κ) (v:V):List (κ × V) :=
 if (kvs.any λkv=>decide (kv.1=k))=true then kvs.map (λkv=>if kv.1=k then (kv.1,v) else kv) else kvs++[(k,v)]
def rq (kvs:List (κ × V)) (k:κ):List (κ × V):=kvs.filter λkv=>decide (kv.1≠k)
theorem mC {p:κ × V}{r:List (κ × V)}{k:κ}(e:p.1=k):oX (p :: r) k=some p.2:=by simp[oX,List.find?_cons,e]
theorem my {p:κ × V}{r:List (κ × V)}{k:κ}(e:¬ p.1=k):oX (p :: r) k=oX r k:=by simp[oX,List.find?_cons,e]
theorem mr (k:κ):∀ kvs:List (κ × V),(kvs.any λkv=>decide (kv.1=k))=(oX kvs k).isSome
|[]=>rfl
|p :: r=>by
  rw[List.any_cons]
  by_cases e:p.1=k
  . simp only[mC e,decide_eq_true e,Bool.true_or,Option.isSome_some]
  . rw[my e,decide_eq_false e,Bool.false_or];exact mr k r
theorem nN (kvs:List (κ × V)) (k:κ) (v:V):(tD kvs k v).length <= kvs.length+1:=by
 unfold tD
 split
 . rw[List.length_map];omega
 . rw[List.length_append,List.length_cons,List.length_nil];omega
theorem tq.isSome_eq {o:Option V}{u:Option Value}(r:tq o u):o.isSome=u.isSome:=by
 cases o with
|none=>cases u with
 |none=>rfl
 |some _=>exact(show False from r).elim
|some _=>cases u with
 |none=>exact(show False from r).elim
 |some _=>rfl
theorem KV.val {kvs:List (κ × V)}{vs:List (κ × Value)}(r:KV kvs vs) (k:κ):tq (oX kvs k) (valueAt vs k):=by
 unfold KV at r
 induction r with
|nil=>exact True.intro
|@cons p q ps qs h t ih =>
  obtain⟨h1,h2⟩:=h
  by_cases e:p.1=k
  . have e':q.1=k:=h1.symm.trans e
    have b:valueAt (q :: qs) k=some q.2:=by simp[valueAt,List.find?_cons,e']
    rw[mC e,b];exact h2
  . have e':¬ q.1=k:=λz=>e (h1.trans z)
    have b:valueAt (q :: qs) k=valueAt qs k:=by simp[valueAt,List.find?_cons,e']
    rw[my e,b];exact ih
theorem KV.any {kvs:List (κ × V)}{vs:List (κ × Value)}(r:KV kvs vs) (k:κ):(kvs.any λkv=>decide (kv.1=k))=vs.any λkv=>decide (kv.1=k):=by
 unfold KV at r
 induction r with
|nil=>rfl
|cons h t ih=>rw[List.any_cons,List.any_cons,ih,h.1]
theorem KV.repl {kvs:List (κ × V)}{vs:List (κ × Value)}(r:KV kvs vs) (k:κ) {y:V}{u:Value}(ry:bT y u) :
 KV (kvs.map λkv=>if kv.1=k then (kv.1,y) else kv) (vs.map λkv=>if kv.1=k then (kv.1,u) else kv):=by
 unfold KV at r |-
 induction r with
|nil=>exact .nil
|@cons p q ps qs h t ih =>
  rw[List.map_cons,List.map_cons]
  refine .cons ?_ ih
  obtain⟨h1,h2⟩:=h
  by_cases e:p.1=k
  . rw[if_pos e,if_pos (h1.symm.trans e)];exact⟨h1,ry⟩
  . rw[if_neg e,if_neg (λz=>e (h1.trans z))];exact⟨h1,h2⟩
theorem KV.put {kvs:List (κ × V)}{vs:List (κ × Value)}(r:KV kvs vs) (k:κ) {y:V}{u:Value}(ry:bT y u):KV (tD kvs k y) (stored vs k u):=by
 unfold tD stored
 rw[r.any k]
 by_cases e:(vs.any λkv=>decide (kv.1=k))=true
 . rw[if_pos e,if_pos e];exact r.repl k ry
 . rw[if_neg e,if_neg e];exact Paired.snoc r ⟨rfl,ry⟩
theorem KV.drop {kvs:List (κ × V)}{vs:List (κ × Value)}(r:KV kvs vs) (k:κ):KV (rq kvs k) (without vs k):=by
 unfold KV at r |-
 unfold rq without
 induction r with
|nil=>exact .nil
|@cons p q ps qs h t ih =>
  obtain⟨h1,h2⟩:=h
  rw[List.filter_cons,List.filter_cons]
  by_cases e:p.1=k
  . have a:¬ decide (p.1≠k)=true:=by simp[e]
    have b:¬ decide (q.1≠k)=true:=by simp[h1.symm.trans e]
    rw[if_neg a,if_neg b];exact ih
  . have e':¬ q.1=k:=λz=>e (h1.trans z)
    have a:decide (p.1≠k)=true:=by simp[e]
    have b:decide (q.1≠k)=true:=by simp[e']
    rw[if_pos a,if_pos b];exact .cons ⟨h1,h2⟩ ih
theorem KV.keys {kvs:List (κ × V)}{vs:List (κ × Value)}(r:KV kvs vs):kvs.map (·.1)=vs.map (·.1):=by
 unfold KV at r
 induction r with
|nil=>rfl
|cons h t ih=>rw[List.map_cons,List.map_cons,ih,h.1]
theorem KV.length {kvs:List (κ × V)}{vs:List (κ × Value)}(r:KV kvs vs):kvs.length=vs.length:=Paired.length r
theorem As (kvs:List (κ × V)) (k:κ):(rq kvs k).length <= kvs.length:=List.length_filter_le _ _
end
theorem z0 {P:Program}{w:World}{k:Key}{u:Value}(r:bT (kV k) u):(bq P w).is k u=true:=by
 cases k with
|inl i=>obtain⟨t,e⟩:=(show ∃ t,u=Value.int i t from r);subst e;exact tQ P w i t
|inr x=>obtain⟨t,e⟩:=(show ∃ t,u=Value.str x t from r);subst e;exact uo P w x t
theorem rZ {P:Program}{w:World}:∀ {ks:List Key}{us:List Value},bC (ks.map kV) us->ItemsAre (bq P w) ks us
|[],_,r=>by rw[List.map_nil]at r;cases r;exact .nil
|k :: ks,_,r=>by
  rw[List.map_cons]at r
  cases r with
 |cons h t=>exact .cons (z0 h) (rZ t)
abbrev KT (H:Hp):List (List Key × V)->List (List Key × Addr × Value)->Prop:=Paired λp q=>p.1=q.1/\H q.2.1=some (.tup (p.1.map kV))/\bT p.2 q.2.2
theorem KT.val {H:Hp}{kvs:List (List Key × V)}{xs:List (List Key × Addr × Value)}(r:KT H kvs xs) (k:List Key):tq (oX kvs k) ((atKey xs k).map (·.2)):=by
 induction r with
|nil=>exact True.intro
|@cons p q ps qs h t ih =>
  obtain⟨h1,_,h2⟩:=h
  by_cases e:p.1=k
  . have e':q.1=k:=h1.symm.trans e
    have b:atKey (q :: qs) k=some q.2:=by simp[atKey,List.find?_cons,e']
    rw[mC e,b];exact h2
  . have e':¬ q.1=k:=λz=>e (h1.trans z)
    have b:atKey (q :: qs) k=atKey qs k:=by simp[atKey,List.find?_cons,e']
    rw[my e,b];exact ih
theorem KT.repl {H:Hp}{kvs:List (List Key × V)}{xs:List (List Key × Addr × Value)}(r:KT H kvs xs) (k:List Key) {y:V}{u:Value}(ry:bT y u) :
 KT H (kvs.map λkv=>if kv.1=k then (kv.1,y) else kv) (xs.map (putAt k u)):=by
 induction r with
|nil=>exact .nil
|@cons p q ps qs h t ih =>
  rw[List.map_cons,List.map_cons]
  refine .cons ?_ ih
  obtain⟨h1,h2,h3⟩:=h
  unfold putAt
  by_cases e:p.1=k
  . rw[if_pos e,if_pos (h1.symm.trans e)];exact⟨h1,h2,ry⟩
  . rw[if_neg e,if_neg (λz=>e (h1.trans z))];exact⟨h1,h2,h3⟩
theorem KT.put {H:Hp}{kvs:List (List Key × V)}{xs:List (List Key × Addr × Value)}(r:KT H kvs xs) (k:List Key) {b:Addr}{y:V}{u:Value}(hb:H b=some (.tup (k.map kV))) (ry:bT y u) :
 KT H (tD kvs k y) (storedH xs k b u):=by
 have e:(kvs.any λkv=>decide (kv.1=k))=(atKey xs k).isSome:=by
  rw[mr,(r.val k).isSome_eq,Option.isSome_map]
 unfold tD storedH
 rw[e]
 by_cases q:(atKey xs k).isSome=true
 . rw[if_pos q,if_pos q];exact r.repl k ry
 . rw[if_neg q,if_neg q];exact Paired.snoc r ⟨rfl,hb,ry⟩
theorem KT.keeps {H H':Hp}{kvs:List (List Key × V)}{xs:List (List Key × Addr × Value)}(r:KT H kvs xs) (ht:∀ b ys,H b=some (.tup ys)->H' b=some (.tup ys)):KT H' kvs xs :=
 Paired.mapP r λ_ _ z=>⟨z.1,ht _ _ z.2.1,z.2.2⟩
section
variable {P:Program}{w:World}{H:Hp}{h:Heap}{a:Addr}
theorem DC {u:HO}(ok:HOk P w H h) (e:Rd H a u):cp P w H h a u:=e.ok ok
theorem C9 {kvs:List (Key × V)}(ok:HOk P w H h) (e:Rd H a (.dK kvs)):kvs.length <= sizeLine/\(a == sysModules)=false/\∃ vs,KV kvs vs/\h.DictOf (bq P w) a vs :=
 show cp P w H h a (.dK kvs) from DC ok e
theorem xI {kvs:List (Key × V)}(ok:HOk P w H h) (e:H a=some (.dK kvs)):kvs.length <= sizeLine/\(a == sysModules)=false/\∃ vs,KV kvs vs/\h.DictOf (bq P w) a vs:=C9 ok (.inl e)
theorem zd {ks:List Key}(ok:HOk P w H h) (e:H a=some (.tup (ks.map kV))):(tupleKind (bq P w)).is h ks a:=by
 obtain⟨_,its,r,o,h1,h2,n,h3⟩:=(show cp P w H h a (.tup (ks.map kV)) from ok a _ e)
 exact⟨o,its.toArray,n,h1,h2,h3,by simpa using rZ r⟩
theorem Ch {kvs:List (List Key × V)}(ok:HOk P w H h) (e:Rd H a (.dT kvs)):kvs.length <= sizeLine/\(a == sysModules)=false /\
 ∃ xs,KT H kvs xs/\h.DictOfH (tupleKind (bq P w)) a xs:=by
 obtain⟨z,y,xs,r,o,es,ep,h1,h2,h3,h4,h5⟩:=(show cp P w H h a (.dT kvs) from DC ok e)
 refine⟨z,y,xs,r,o,es,ep,h1,h2,h3,h4,λx hx=>?_,h5⟩
 have all:∀ {l:List (List Key × V)} {m:List (List Key × Addr × Value)},KT H l m->∀ x∈m,(tupleKind (bq P w)).is h x.1 x.2.1:=by
  intro l m q
  induction q with
 |nil=>intro x hx;exact nomatch hx
 |@cons p q ps qs hq t ih =>
   intro x hx
   rcases List.mem_cons.mp hx with e|hx
   . subst e
     exact zd ok (by rw[<-hq.1];exact hq.2.1)
   . exact ih x hx
 exact all r x hx
theorem Fe {kvs:List (List Key × V)}(ok:HOk P w H h) (e:H a=some (.dT kvs)):kvs.length <= sizeLine/\(a == sysModules)=false /\
 ∃ xs,KT H kvs xs/\h.DictOfH (tupleKind (bq P w)) a xs:=Ch ok (.inl e)
end
def Dc (H:Hp) (a:Addr) (y:V) (r:Option V):Prop :=
 (∃ kvs k,Rd H a (.dK kvs)/\y=kV k/\r=oX kvs k)\/∃ kvs k b,Rd H a (.dT kvs)/\y=.ref b/\H b=some (.tup (k.map kV))/\r=oX kvs k
def Da (H:Hp) (a:Addr) (y v:V) (H':Hp):Prop :=
 (∃ kvs k,H a=some (.dK kvs)/\y=kV k/\kvs.length < sizeLine/\H'=upd H a (.dK (tD kvs k v))) \/
 ∃ kvs k b,H a=some (.dT kvs)/\y=.ref b/\H b=some (.tup (k.map kV))/\kvs.length < sizeLine/\H'=upd H a (.dT (tD kvs k v))
theorem Dc.k {H:Hp}{a:Addr}{kvs:List (Key × V)}{k:Key}(e:H a=some (.dK kvs)):Dc H a (kV k) (oX kvs k):=.inl ⟨kvs,k,.inl e,rfl,rfl⟩
theorem Da.k {H:Hp}{a:Addr}{kvs:List (Key × V)}{k:Key}{v:V}(e:H a=some (.dK kvs)) (hl:kvs.length < sizeLine):Da H a (kV k) v (upd H a (.dK (tD kvs k v))):=.inl ⟨kvs,k,e,rfl,hl,rfl⟩
section
variable {X:Cx}{pins:List (Addr × Obj)}{σ:St}{H:Hp}{s:Shared}{a:Addr}{y v:V}{u r:Value}{o:Option V}{A:Around}{E:Value->Shared->Prop}
theorem Inv.big (I:Inv X pins σ H s):sysModules < s.heap.objs.size:=by
 have h:mainGlobals < s.heap.objs.size:=(I.mod.glob.keeps I.bk).lt
 exact Nat.lt_trans (by decide) h
theorem CL {Q:Value->Shared->Prop}(hu:A.units+1 < cLine) (I:Inv X pins σ H s) (g:Dc H a y o) (ry:bT y u) (h:∀ s',Inv X pins σ H s'->Q (.bool (!o.isSome)) s') :
 wpAny (model X.prog X.w) A (compareOp .NotIn u (.ref a)) Q E s:=by
 rcases g with⟨kvs,k,e,ey,l⟩|⟨kvs,k,b,e,ey,eb,l⟩
 . subst ey
   obtain⟨z,hd,vs,rel,dd⟩:=C9 I.hok e
   refine wpAny_notIn_of (z0 ry) hd dd.mapOf ?_
   rw[<-(rel.val k).isSome_eq,<-l]
   exact h _ (I.tok _)
 . subst ey
   cases (show u=Value.ref b from ry)
   obtain⟨z,hd,xs,rel,dd⟩:=Ch I.hok e
   refine wpAny_notIn_heap (tupleKind_room_in1 hu) (zd I.hok eb) hd dd ?_
   have q:=(rel.val k).isSome_eq
   rw[Option.isSome_map]at q
   rw[<-q,<-l]
   exact h _ (I.tok _)
theorem qP {h':Heap}{t':Nat}{ob:HO}(I:Inv X pins σ H s) (mu:Mut (H a)) (hs:Heap.SameBut a s.heap h') (he:∃ q,h'.get? a=some q) (new:cp X.prog X.w (upd H a ob) h' a ob) :
 Inv X pins σ (upd H a ob) { s with heap:=h',toks:=t' } :=
 I.write (x:=a) (e:=a) mu (.inl rfl) (λb q hb z=>(hs.2 b hb).trans z) he new
theorem Bf {P:Program}{w:World}{H':Hp}{h':Heap}{kvs:List (Key × V)}{vs:List (Key × Value)}(z:kvs.length <= sizeLine) (hd:(a == sysModules)=false) (rel:KV kvs vs) (dd:h'.DictOf (bq P w) a vs) :
 cp P w H' h' a (.dK kvs):=⟨z,hd,vs,rel,dd⟩
theorem yX {H':Hp}{Q:Unit->Shared->Prop}(hu:A.units+1 < cLine) (I:Inv X pins σ H s) (g:Da H a y v H') (ry:bT y u) (rv:bT v r) (h:∀ s',Inv X pins σ H' s'->Q () s') :
 wpAny (model X.prog X.w) A (setItem (.ref a) u r) Q E s:=by
 rcases g with⟨kvs,k,e,ey,l,eH⟩|⟨kvs,k,b,e,ey,eb,l,eH⟩
 . subst ey eH
   obtain⟨z,hd,vs,rel,dd⟩:=xI I.hok e
   have hz:vs.length <= sizeLine:=by rw[<-rel.length];exact z
   have hl:(tD kvs k v).length <= sizeLine:=by have:=nN kvs k v;omega
   refine wpAny_setItem_pairs (hsz:=hz) (z0 ry) dd λh' dd' hs=>h _ ?_
   have he:∃ q,h'.get? a=some q:=let ⟨q,_,_,hq,_⟩:=dd';⟨q,hq⟩
   exact qP I (by rw[e];exact True.intro) hs he (Bf hl hd (rel.put k rv) dd')
 . subst ey eH
   cases (show u=Value.ref b from ry)
   obtain⟨z,hd,xs,rel,dd⟩:=Fe I.hok e
   have hz:xs.length <= sizeLine:=by rw[<-Paired.length rel];exact z
   have hl:(tD kvs k v).length <= sizeLine:=by have:=nN kvs k v;omega
   refine wpAny_setItem_heap (hsz:=hz) (tupleKind_room_in1 hu) (zd I.hok eb) dd λh' dd' hs=>h _ ?_
   obtain⟨q,es,ep,hq,h2,h3,h4,_,h5⟩:=dd'
   refine qP I (by rw[e];exact True.intro) hs ⟨q,hq⟩ ⟨hl,hd,_,(rel.put k eb rv).keeps λc ys ec=>?_,q,es,ep,hq,h2,h3,h4,h5⟩
   rw[ag (hZ ec e (λz=>nomatch z))]
   exact ec
end
section
variable {X:Cx}{pins:List (Addr × Obj)}{σ:St}{H:Hp}{s:Shared}{a:Addr}{kvs:List (Key × V)}{k:Key}{u:Value}{A:Around}{E:Value->Shared->Prop}
theorem Dx {v:V}{more:List Value}{Q:Value->Shared->Prop}(I:Inv X pins σ H s) (e:H a=some (.dK kvs)) (ry:bT (kV k) u) (l:oX kvs k=some v) (hm:more=[]\/∃ x,more=[x])
 (h:∀ w' s',Inv X pins σ (upd H a (.dK (rq kvs k))) s'->bT v w'->Q w' s'):wpAny (model X.prog X.w) A (call (.builtin "dict.pop") (.ref a :: u :: more)) Q E s:=by
 obtain⟨z,hd,vs,rel,dd⟩:=xI I.hok e
 obtain⟨w',hw,rw'⟩:=tq.some_of (v:=v) (o:=valueAt vs k) (by rw[<-l];exact rel.val k)
 have hp:(keyPart u).isSome=true:=by
  cases k with
 |inl i=>obtain⟨t,q⟩:=(show ∃ t,u=Value.int i t from ry);subst q;rfl
 |inr x=>obtain⟨t,q⟩:=(show ∃ t,u=Value.str x t from ry);subst q;rfl
 have ha:argsOk "dict.pop" ⟨.ref a :: u :: more,[]⟩:=by
  rcases hm with q|⟨x,q⟩
  . subst q;exact PySem.F.args_dict_pop_2 _ _
  . subst q;exact PySem.F.args_dict_pop_3 _ _ _
 refine call_meetsIn PySem.F.slot_dict_pop dd.typeIs PySem.F.entry_dict_pop ha (meets_dict_pop_there (bq X.prog X.w) a (z0 ry) more hm hp)
  ⟨vs,w',dd,by rw[<-rel.length];exact z,hw,λh' dd' hs=>h w' _ ?_ rw'⟩
 have he:∃ q,h'.get? a=some q:=let ⟨q,_,_,hq,_⟩:=dd';⟨q,hq⟩
 exact qP I (by rw[e];exact True.intro) hs he (Bf (Nat.le_trans (As kvs k) z) hd (rel.drop k) dd')
theorem Eu {r:Value}{Q:Value->Shared->Prop}(I:Inv X pins σ H s) (e:H a=some (.dK kvs)) (ry:bT (kV k) u) (l:oX kvs k=none) (h:∀ s',Inv X pins σ H s'->Q r s') :
 wpAny (model X.prog X.w) A (call (.builtin "dict.pop") [.ref a,u,r]) Q E s:=by
 obtain⟨z,hd,vs,rel,dd⟩:=xI I.hok e
 have hn:valueAt vs k=none:=tq.none_of (by rw[<-l];exact rel.val k)
 have hp:(keyPart u).isSome=true:=by
  cases k with
 |inl i=>obtain⟨t,q⟩:=(show ∃ t,u=Value.int i t from ry);subst q;rfl
 |inr x=>obtain⟨t,q⟩:=(show ∃ t,u=Value.str x t from ry);subst q;rfl
 exact call_meetsIn PySem.F.slot_dict_pop dd.typeIs PySem.F.entry_dict_pop (PySem.F.args_dict_pop_3 _ _ _) (meets_dict_pop_default (bq X.prog X.w) a (z0 ry) hd hp r) ⟨vs,dd,hn,h _ (I.tok _)⟩
end
def FP (i:Expr):Prop:=∀ ov iv,subscripted i false ov iv=operate [ov,iv] (getItem ov iv)
theorem BZ {prog:Program}{w:World}{A:Around}{E:Value->Shared->Prop}{s:Shared}{env:Env}{value slice:Expr}{pos:Pos}{T id:String}{Q:Value->Shared->Prop}
 (hl:typeLookup (.type T) "__getitem__"=pure (some (.builtin id))) (hs:FP slice)
 (h:wpAny (model prog w) A (eval value env) (λo s₁=>wpAny (model prog w) A (eval slice env) (λi s₂=>s₂.TypeIs o T/\wpAny (model prog w) A (getItem o i) Q E s₂) E s₁) E s) :
 wpAny (model prog w) A (eval (.Subscript value slice pos) env) Q E s:=by
 refine Subscript_ (wpAny_mono h (λo s₁ h₁=>wpAny_mono h₁ (λi s₂ h₂=>?_) λ_ _ x=>x) λ_ _ x=>x)
 obtain⟨hT,h₂⟩:=h₂
 unfold subscriptTail
 refine wpAny_bind ?_
 rw[getitemInPython_of_ne hT.not_modules]
 refine wpAny_bind (wpAny_specialOf hT hl ?_)
 have fin:wpAny (model prog w) A (subscripted slice false o i) (λr s₃=>wpAny (model prog w) A (letTemporaryGo value o r >>= λ_=>pure r) Q E s₃) E s₂:=by
  rw[hs o i]
  exact wpAny_operating (wpAny_mono h₂ (λr s₃ h₃=>wpAny_bind (wpAny_letTemporaryGo (wpAny_pure h₃))) λ_ _ x=>x)
 first
 |exact wpAny_pure (wpAny_bind fin)
 |exact wpAny_bind (wpAny_pure (wpAny_bind fin))
 |exact wpAny_bind fin
def CP (ty td:TE):TE:=λσ H Q=>ty σ H λy H1=>td σ H1 λx H2=>∃ a o,x=.ref a/\Dc H2 a y o/\Q (.bl (!o.isSome)) H2
def EW (td ty tv:TE):TS:=λD σ H=>tv σ H λv H1=>td σ H1 λx H2=>ty σ H2 λy H3=>∃ a H4,x=.ref a/\Da H3 a y v H4/\D.nx σ H4
section
variable {X:Cx}{o i e value:Expr}{pos pos' tpos:Pos}{td ty tv:TE}
theorem t9 (hu:X.A.units+1 < cLine) (hi:PE X i ty) (ho:PE X o td):PC X .NotIn i o (CP ty td):=by
 intro pins s σ H Q I h
 refine thn (hi pins s σ H _ I h) λiv s1 ⟨y,H1,I1,ry,q1⟩=>thn (ho pins s1 σ H1 _ I1 q1) λu s2 ⟨x,H2,I2,rx,a,ov,ex,g,q2⟩=>?_
 subst ex
 obtain rfl:u=Value.ref a:=rx
 exact CL hu I2 g ry λs3 I3=>⟨.bl (!ov.isSome),H2,I3,rfl,q2⟩
theorem zg (hu:X.A.units+1 < cLine) (ho:PE X o td) (hi:PE X i ty) (hv:PE X value tv) (hs:swapsWith value (some (.Subscript o i pos')) pos.line X.env=pure false) :
 PS X (.Assign [.Subscript o i pos'] value pos) (EW td ty tv):=by
 intro pins s σ H D I h
 refine wpAny_Assign_Subscript (thn (hv pins s σ H _ I h) λr s1 ⟨v,H1,I1,rv,q1⟩=>thn (ho pins s1 σ H1 _ I1 q1) λu s2 ⟨x,H2,I2,rx,q2⟩=>thn (hi pins s2 σ H2 _ I2 q2) λiv s3 ⟨y,H3,I3,ry,a,H4,ex,g,q3⟩=>?_) hs
 subst ex
 obtain rfl:u=Value.ref a:=rx
 exact yX hu I3 g ry rv λs4 I4=>⟨σ,H4,I4,q3⟩
end
theorem A9 {P:Program}{w:World}{H:Hp}(h:Heap) (hb:sysModules < h.objs.size):cp P w H (h.push { cls:=.type "dict",data:=.dict #[] }) h.objs.size (.dK []) :=
 ⟨Nat.zero_le _,beq_eq_false_iff_ne.mpr (Ne.symm (Nat.ne_of_lt hb)),[],.nil,Heap.DictOf.new h⟩
def Bt:TE:=λ_ H Q=>∀ p,H p=none->Q (.ref p) (upd H p (.dK []))
section
variable {X:Cx}{pos:Pos}
theorem qg:PE X (.Dict [] [] pos) Bt:=λpins s σ H Q I h =>
 wpAny_Dict_empty ⟨.ref s.heap.objs.size,_,I.laid (a:=s.heap.objs.size) (o:=.dK []) (t':=s.toks) (λ_ _ q=>Heap.get?_push_of_some _ q) (Nat.le_refl _) (A9 s.heap I.big),rfl,h _ (I.hok.fresh (Nat.le_refl _))⟩
end
structure M1 (X:Cx) (o:Expr) (m:Str) (apos:Pos) (e:Expr) (cpos:Pos):Prop where
 base:attributeBase o m X.env (eval o X.env)=eval o X.env
 few:((backTo cpos (starEach [e] X.env)).all (λx=>!x.1) && (backToKw cpos (keywordEach [] X.env)).all (λx=>x.1.isSome)
  && decide (([e]:List Expr).length+([]:List Keyword).length+(if ([]:List Keyword).isEmpty then 0 else 1) < 30))=true
 line:(apos.endLine == cpos.line)=true
 trees:backTo cpos (starEach [e] X.env)=[(false,eval e X.env)]
structure M2 (X:Cx) (o:Expr) (m:Str) (apos:Pos) (e f:Expr) (cpos:Pos):Prop where
 base:attributeBase o m X.env (eval o X.env)=eval o X.env
 few:((backTo cpos (starEach [e,f] X.env)).all (λx=>!x.1) && (backToKw cpos (keywordEach [] X.env)).all (λx=>x.1.isSome)
  && decide (([e,f]:List Expr).length+([]:List Keyword).length+(if ([]:List Keyword).isEmpty then 0 else 1) < 30))=true
 line:(apos.endLine == cpos.line)=true
 trees:backTo cpos (starEach [e,f] X.env)=[(false,eval e X.env),(false,eval f X.env)]
def IsD (H:Hp) (a:Addr):Prop:=(∃ kvs,Rd H a (.dK kvs))\/∃ kvs,Rd H a (.dT kvs)
theorem BF {X:Cx}{pins:List (Addr × Obj)}{σ:St}{H:Hp}{s:Shared}{a:Addr}(I:Inv X pins σ H s) (d:IsD H a) :
 s.TypeIs (.ref a) "dict"/\(∀ b,Value.ref a=.ref b->∃ ob,s.heap.get? b=some ob/\ob.dict=none)/\(a == sysModules)=false:=by
 rcases d with⟨kvs,e⟩|⟨kvs,e⟩
 . obtain⟨_,hd,vs,_,dd⟩:=C9 I.hok e
   refine⟨dd.typeIs,λb q=>?_,hd⟩
   cases q
   obtain⟨ob,_,_,h1,h2,_⟩:=dd
   exact⟨ob,h1,h2.2.1⟩
 . obtain⟨_,hd,xs,_,dd⟩:=Ch I.hok e
   refine⟨dd.typeIs,λb q=>?_,hd⟩
   cases q
   obtain⟨ob,_,_,h1,h2,_⟩:=dd
   exact⟨ob,h1,h2.2.1⟩
section
variable {X:Cx}{pins:List (Addr × Obj)}{σ:St}{H:Hp}{s:Shared}{a:Addr}{y d:V}{u r:Value}{o:Option V}{A:Around}{E:Value->Shared->Prop}
end
def Ea (td ty:TE):TE:=λσ H Q=>td σ H λx H1=>∃ a,x=.ref a/\IsD H1 a/\ty σ H1 λy H2=>∃ kvs k v,H2 a=some (.dK kvs)/\y=kV k/\oX kvs k=some v/\Q v (upd H2 a (.dK (rq kvs k)))
section
variable {X:Cx}{o e f:Expr}{apos cpos:Pos}{td ty tx:TE}
theorem A6 (ho:PE X o td) (he:PE X e ty) (m:M1 X o "pop" apos e cpos):PE X (.Call (.Attribute o "pop" apos) [e] [] cpos) (Ea td ty):=by
 intro pins s σ H Q I h
 refine wpAny_Call_method m.base m.few m.line PySem.F.plainAttrs_dict PySem.F.slot_dict_pop PySem.F.type_dict_pop (thn (ho pins s σ H _ I h) λu s1 ⟨x,H1,I1,rx,a,ex,d,q1⟩=>?_)
 subst ex
 obtain rfl:u=Value.ref a:=rx
 obtain⟨t1,t2,_⟩:=BF I1 d
 refine⟨t1,t2,?_⟩
 rw[m.trees]
 refine Calls.callWith_builtin rfl (Calls.evalArgs_plain (Calls.spliced_cons (thn (he pins s1 σ H1 _ I1 q1) λiv s2 ⟨y,H2,I2,ry,kvs,k,v,ea,ey,l,q2⟩=>Calls.spliced_nil ?_)))
 subst ey
 exact Dx I2 ea ry l (.inl rfl) λw' s3 I3 rw'=>⟨v,_,I3,rw',q2⟩
end
section
variable {X:Cx}{pins:List (Addr × Obj)}{σ:St}{H:Hp}{s:Shared}{a:Addr}{kvs:List (Key × V)}{A:Around}{E:Value->Shared->Prop}
end
section
variable {X:Cx}{pins:List (Addr × Obj)}{σ:St}{H:Hp}{s:Shared}{a:Addr}{y:V}{u:Value}{A:Around}{E:Value->Shared->Prop}
end
end L2
namespace Att
open PySem PySem.W PySem.Calls PyProof.Rows
theorem nK {P:Params}{h:Heap}:∀ (ns:List Int) (vs:List Value),WellAll P h vs (ns.map WData.int)->IntsAre vs ns:=by
 intro ns
 induction ns with
|nil =>
  intro vs w
  rw[List.map_nil]at w
  cases w
  exact .nil
|cons n ns ih =>
  intro vs w
  rw[List.map_cons]at w
  cases w with
 |cons a b =>
   cases a
   exact .cons _ _ (ih _ b)
theorem yW {l:OpenLaw}{n:Nat}(hn:l.most=some n) {P:Params}{h:Heap}{args:List WData}{vals:List Value}
 (hpre:l.row.toRowW.claim.pre args=true) (hwl:WellAll P h vals args) :
 ∃ a vs ns,vals=[Value.ref a]/\args=[WData.list (ns.map WData.int)]/\h.get? a=some { cls:=.type "list",data:=.seq vs.toArray }/\IntsAre vs ns/\ns.length <= n:=by
 have hsh:WShape.hasAll [] args [.list .int]=true:=(pre_splitW hpre).1
 have hc:l.pre.holds [] { args:=args }=true:=(pre_splitW hpre).2
 obtain⟨d,r,rfl,h1,h2⟩:=hasAllW_cons hsh
 obtain rfl:=hasAllW_nil h2
 obtain⟨xs,rfl,h3⟩:=hasW_list h1
 obtain⟨ns,rfl⟩:=items_int h3
 have hlen:ns.length <= n:=by
  unfold OpenLaw.pre at hc
  have h4:(WTm.not (.lt (.lit (.int (n:Int))) (.len (.arg 0)))).holds [] { args:=[.list (ns.map .int)] }=true:=by
   have h4:=(holds_andW hc).1
   rw[hn]at h4
   exact h4
  have h5:=condW_of h4 (w_not (w_lt w_lit (w_len_list (w_arg rfl))))
  rw[List.length_map]at h5
  refine Nat.le_of_not_lt λq=>?_
  have q':(n:Int) < ((ns.length:Nat):Int):=by omega
  first
  |(rw[decide_eq_true q']at h5;exact absurd h5 (by decide))
  |(simp at h5;omega)
 cases hwl with
|cons w1 w2 =>
  cases w2
  cases w1 with
 |list ho hall=>exact⟨_,_,ns,rfl,rfl,ho,nK ns _ hall,hlen⟩
theorem x9 (l:OpenLaw) (args:List WData):l.row.toRowW.claim.post args (.bool true) args=true :=
 postW_of (r:=l.row.toRowW) (X:=(true == true))
  (show WShape.has [] (.bool true) .bool=true by first|rfl|decide|simp[WShape.has,WShape.arms,WShape.armsAll])
  (show (WTm.eq .res (.lit (.bool true))).value [] { args:=args,res:=some (.bool true),after:=args }=some (.bool (true == true)) from w_eq_bool (w_res rfl) w_lit) rfl
theorem attach_call {l:OpenLaw}{n:Nat}{q:Program}{loose:List Str}{XP:(Str->Option Value)->Heap->Prop}{YP:World->Heap->Prop}{d:DefRec}
 (hn:l.most=some n) (hdf:d.params.defaults=[])
 (call:∀ (w:World) (s₀ s₁:Shared) (mg mb:Str->Option Value) (fa:Addr) (o:Obj) (pm cd doc:Value) (a:Addr) (vs:List Value) (ns:List Int),
  Ground q loose [] XP w s₀ mg mb s₁.heap->YP w s₁.heap ->
  s₁.heap.get? fa=some o->o.data=.func (docDef d.name d.params d.body d.scope pm cd doc)->s₁.heap.CodeRec cd d.name->mg d.name=some (.ref fa) ->
  s₁.heap.get? a=some { cls:=.type "list",data:=.seq vs.toArray }->IntsAre vs ns->ns.length <= n->s₁.gens=#[] ->
  codeAny (model l.prog w) callerA (.call (.ref fa) ⟨[.ref a],[]⟩) (λr s'=>r=.ok (.ret (.bool true))/\OldK s₁.heap s'.heap/\s'.os=s₁.os/\AllBare s'.gens) s₁) :
 WalkO q loose XP YP l.row.toRowW d [] (λf vs=>PySem.call f vs):=by
 intro w s₀ s₁ mg mb G Y fa o pm cd doc dV kV ho hd hcd hD hmg hg args vals as hpre hlay hrd hwl hlo
 obtain rfl:dV=.none:=Dflts.none hD hdf
 obtain rfl:kV=.none:=Dflts.noKw hD
 obtain⟨a,vs,ns,rfl,rfl,hobj,hints,hlen⟩:=yW hn hpre hwl
 refine enter_call (codeAny_mono (call w s₀ s₁ mg mb fa o pm cd doc a vs ns G Y ho (fd_plain hd) hcd hmg hobj hints hlen hg) λr s' hq=>?_)
 obtain⟨rfl,h2,h3,h4⟩:=hq
 exact⟨.inl ⟨.bool true,.bool true,[],rfl,λ_=>rfl,.bool true,x9 l _,λ_=>⟨List.Pairwise.nil,λ_ hm=>(nomatch hm)⟩⟩,h2,h3,h4⟩
section
variable {prog:Program}{w:World}{A:Around}{E:Value->Shared->Prop}{s:Shared}{K:Frag}
def FM (h:Heap) (L d:Addr):List (Addr × Obj):=(List.range h.objs.size).filterMap λa=>if a=L\/a=d then none else (h.get? a).map λo=>(a,o)
end
end Att
namespace L2
open PySem PySem.Spec PyProof.Rows
theorem sG:∀ {vs:List Value}{ns:List Int},IntsAre vs ns->bC (ns.map V.int) vs
|_,_,.nil=>.nil
|_,_,.cons n t h=>.cons ⟨t,rfl⟩ (sG h)
def FK (H:Hp):Prop:=∀ b,H b=none\/∃ o xs,H b=some (.frz o (.lst xs))
theorem Az {P:Program}{w:World}{K:PySem.W.Frag}{mg mb:Str->Option Value}{CX:CXT}{k:Nat}{fa a:Addr}{fd:FuncData}{x:Str}{sp:Sp}{s₁:Shared}{vs:List Value}{ns:List Int}
 (KX:K.In s₁.heap) (hns:s₁.heap.Ns mainGlobals mg) (hb:s₁.heap.Ns builtinsNs mb) (hbb:∀ x:Str,x≠"__name__"->mb x=bootBuiltins x) (hlim:s₁.heap.NoLimit) (hg:s₁.gens=#[])
 (ha:s₁.heap.get? a=some { cls:=.type "list",data:=.seq vs.toArray }) (hi:IntsAre vs ns) (hl:ns.length <= sizeLine) (hr:Room k callerA)
 (F:∀ base:Heap,K.In base->base.Ns mainGlobals mg->FnOk P w K mg base CX k fa fd [x] sp) (hbind:∀ (s:Shared) (u:Value),BindsTo s fd ⟨[u],[]⟩ [(x,u)])
 (hsp:∀ H:Hp,FK H->SqL K H a (ns.map V.int)->sp [.ref a] H (λv _=>v=.bl true) λ_ _ _=>False)
 (hCX:∀ H e s',CX [] H s₁ (λ_ _ _=>False) e s'->False) :
 codeAny (model P w) callerA (.call (.ref fa) ⟨[.ref a],[]⟩) (λr s'=>r=.ok (.ret (.bool true))/\OldK s₁.heap s'.heap/\s'.os=s₁.os/\AllBare s'.gens) s₁:=by
 have rv:=sG hi
 have lenV:=hi.length
 have core:∀ H:Hp,FK H->SqL K H a (ns.map V.int)->HOk P w H s₁.heap->(∀ b,H b≠none->b=a)->(H a≠none->K.lookup a=none) ->
  codeAny (model P w) callerA (.call (.ref fa) ⟨[.ref a],[]⟩) (λr s'=>r=.ok (.ret (.bool true))/\OldK s₁.heap s'.heap/\s'.os=s₁.os/\AllBare s'.gens) s₁:=by
  intro H hO hS hok hA hK
  have base_of:∀ {b:Addr} {o:Obj},s₁.heap.get? b=some o->H b=none->(zW s₁.heap H).get? b=some o:=λe n=>zR e n
  have noA:∀ {b:Addr} {o:Obj} {es:Array DictEntry} {ep:Nat},s₁.heap.get? b=some o->o.data=.dict es ep->H b=none:=λ{b o es ep} e d=>by
   cases q:H b with
  |none=>rfl
  |some u =>
    have e':b=a:=hA b (by rw[q];simp)
    subst e'
    rw[ha]at e;cases e
    have d':Data.seq vs.toArray _=Data.dict es ep:=d
    cases d'
  have nsK:∀ {b:Addr} {m:Str->Option Value},s₁.heap.Ns b m->(zW s₁.heap H).Ns b m:=λ{b m} ⟨o,es,ep,e,d,r⟩=>⟨o,es,ep,base_of e (noA e d),d,r⟩
  have hKb:K.In (zW s₁.heap H):=λb o e=>base_of (KX b o e) (by
   cases q:H b with
  |none=>rfl
  |some u =>
    have e':b=a:=hA b (by rw[q];simp)
    subst e'
    rw[hK (by rw[q];simp)]at e;cases e)
  have hM:Mod K mg (zW s₁.heap H):=⟨hKb,nsK hns,⟨mb,nsK hb,hbb⟩,let ⟨mc,h1,h2⟩:=hlim;⟨mc,nsK h1,h2⟩⟩
  have e0:Env0 P w K mg (zW s₁.heap H) callerA [] s₁ H:=⟨rfl,hM,λb o e=>D1 e,Nat.le_of_eq (yU _ _),trivial,λb hb=>absurd (show b∈([]:List Addr) from hb) (by simp),hok,.of_eq hg⟩
  refine codeAny_mono ((F _ hKb (nsK hns)).run callerA [] s₁ H ⟨[.ref a],[]⟩ [.ref a] [.ref a] _ _ hr e0 (hbind s₁ (.ref a)) (.cons rfl .nil) (hsp H hO hS)) λr s' h=>?_
  cases r with
 |error e=>exact(hCX H e s' h).elim
 |ok fl =>
   cases fl with
  |next=>exact False.elim h
  |brk=>exact False.elim h
  |cont=>exact False.elim h
  |ret u =>
    obtain⟨v,H',os,bare,un,hok',r',q⟩:=h
    have q':v=.bl true:=q
    subst q'
    obtain rfl:u=Value.bool true:=r'
    refine⟨rfl,OldK.of_keep λb o e=>?_,os,bare⟩
    cases q:H b with
   |none=>exact un.keep b o e q (by intro z;exact absurd (show b∈([]:List Addr) from z) (by simp)) (by simp)
   |some u =>
     rcases hO b with z|⟨ob,xs,z⟩
     . rw[q]at z;cases z
     . have z2:=un.frzs b ob _ z
       obtain⟨e1,_⟩:=hok b _ z
       obtain⟨e2,_⟩:=hok' b _ z2
       rw[e]at e1;cases e1
       exact e2
 cases hk:K.lookup a with
|some o =>
  have e:=KX a o hk
  rw[ha]at e
  cases e
  refine core (λ_=>none) (λ_=>.inl rfl) (.inr ⟨_,vs.toArray,_,hk,rfl,rfl,rfl,by rw[List.size_toArray,lenV];exact hl,by simpa using rv⟩) (λb u z=>by have z':(none:Option HO)=some u:=z;cases z') (λb z=>absurd rfl z) λz=>absurd rfl z
|none =>
  refine core (λb=>if b=a then some (.frz { cls:=.type "list",data:=.seq vs.toArray } (.lst (ns.map V.int))) else none) (λb=>?_) (.inl (.inr ⟨{ cls:=.type "list",data:=.seq vs.toArray },if_pos rfl⟩)) (λb u z=>?_) (λb z=>?_) λ_=>hk
  . by_cases hb:b=a
    . exact .inr ⟨_,_,if_pos hb⟩
    . exact .inl (if_neg hb)
  . by_cases hb:b=a
    . have z':=(if_pos hb).symm.trans z
      cases z'
      subst hb
      exact⟨ha,by rw[List.length_map];exact hl,vs,_,rv,ha⟩
    . have z':=(if_neg hb).symm.trans z
      cases z'
  . by_cases hb:b=a
    . exact hb
    . exact absurd (if_neg hb) z
end L2
namespace L2
open PySem PySem.Spec PyProof.Rows
theorem walk_of {l:PySem.W.OpenLaw}{n k:Nat}{q:Program}{loose:List Str}{XP:(Str->Option Value)->Heap->Prop}{YP:World->Heap->Prop}{d:DefRec}{K:Params->PySem.W.Frag}{CX:World->CXT}{sp:World->Sp}{x:Str}
 (hn:l.most=some n) (hn2:n <= sizeLine) (hdf:d.params.defaults=[]) (hr:Room k callerA)
 (hY:∀ (w:World) (h:Heap),YP w h->(K w.params).In h)
 (F:∀ (w:World) (mg:Str->Option Value) (fa:Addr) (h:Heap),(K w.params).In h->h.Ns mainGlobals mg->mg d.name=some (.ref fa) ->
  ∃ fd:FuncData,(∀ (s:Shared) (u:Value),BindsTo s fd ⟨[u],[]⟩ [(x,u)]) /\
   ∀ base:Heap,(K w.params).In base->base.Ns mainGlobals mg->FnOk l.prog w (K w.params) mg base (CX w) k fa fd [x] (sp w))
 (hsp:∀ (w:World) (H:Hp) (a:Addr) (ns:List Int),ns.length <= n->FK H->SqL (K w.params) H a (ns.map V.int)->sp w [.ref a] H (λv _=>v=.bl true) λ_ _ _=>False)
 (hCX:∀ (w:World) (H:Hp) (s:Shared) (e:Value) (s':Shared),CX w [] H s (λ_ _ _=>False) e s'->False) :
 PySem.W.WalkO q loose XP YP l.row.toRowW d [] (λf vs=>PySem.call f vs):=by
 refine Att.attach_call hn hdf λw s₀ s₁ mg mb fa o pm cd doc a vs ns G Y ho hd hcd hmg hobj hints hlen hg=>?_
 have KX:=hY w _ Y
 obtain⟨fd,hb,hF⟩:=F w mg fa _ KX G.T.g hmg
 exact Az KX G.T.g G.T.b G.T.builtins G.T.nolimit hg hobj hints (Nat.le_trans hlen hn2) hr hF hb (λH hO hS=>hsp w H a ns hlen hO hS) λH e s'=>hCX w H s₁ e s'
end L2
namespace L2
open PySem PySem.Spec PyProof.Rows
def aJ (s:Stmt) (j:Nat):Stmt:=match s with
|.ClassDef _ _ _ body _ _ _ _ _ _ _=>body.getD j (.Pass ⟨0,0,0,0⟩)
|_=>.Pass ⟨0,0,0,0⟩
def fR (s:Stmt):Arguments:=match s with
|.FunctionDef _ a _ _ _ _ _ _ _ _=>a
|_=>{ posonlyargs:=[],args:=[],vararg:=none,kwonlyargs:=[],kw_defaults:=[],kwarg:=none,defaults:=[] }
def eJ (s:Stmt):List Stmt:=match s with
|.FunctionDef _ _ b _ _ _ _ _ _ _=>b
|_=>[]
def ak (s:Stmt):Scope:=match s with
|.FunctionDef _ _ _ _ _ _ sc _ _ _=>sc
|_=>{ kind:=.function,names:=[],isGenerator:=false,isCoroutine:=false }
abbrev CX0:CXT:=λ_ _ _ _ _ _=>False
abbrev E0:XK:=λ_ _ _=>False
theorem ax {X:Cx}:jI CX0 X E0:=λ_ _ _ _ _ _ _ h=>h.elim
structure Fun (K:PySem.W.Frag) (x qual:Str) (st:Stmt) (f:Addr) (fd:FuncData):Prop where
 ex:∃ (oc:Value) (od:Option Addr) (kV doc pm:Value) (an:Option Addr) (cdv ct:Value) (osl:Array (Option Value)),
  fd=fnOf x qual (fR st) (eJ st) (ak st) .none kV doc pm an cdv ct/\K.lookup f=some ⟨oc,od,.func fd,osl⟩/\codeIn K cdv qual=true
 kp:keepIn K (.ref f)=true
section
variable {P:Program}{w:World}{K:PySem.W.Frag}{mg:Str->Option Value}{base:Heap}
theorem Fun.ok {x qual:Str}{st:Stmt}{f:Addr}{fd:FuncData}{N ps:List Str}{k:Nat}{sp:Sp}(F:Fun K x qual st f fd) (S:FnScope N ps (ak st)) (len:∀ vs H Q E,sp vs H Q E->vs.length=ps.length)
 (hbody:∀ (cdv:Value) (A:Around) (outer:List Env) (s:Shared) (H:Hp) (vs:List V) (Q:VK) (E:XK),Room k (A.deeper (envOfC qual (ak st) s.heap.objs.size f cdv))->sp vs H Q E ->
  ∃ t,PSs (Br CX0 P w K mg base N qual (ak st) f cdv A outer s H E).nox (eJ st) t/\t { nx:=λ_ H'=>Q .non H',rt:=Q } (qa N vs) H):FnOk P w K mg base CX0 (k+1) f fd ps sp:=by
 obtain⟨oc,od,kV,doc,pm,an,cdv,ct,osl,rfl,lk,hcd⟩:=F.ex
 refine Do lk hcd S len λA outer s H vs Q E hr hsp=>?_
 obtain⟨t,h,q⟩:=hbody cdv A outer s H vs Q E hr hsp
 exact⟨t,h.nox,q⟩
theorem Fun.binds {x qual:Str}{st:Stmt}{f:Addr}{fd:FuncData}{ps:List Str}(F:Fun K x qual st f fd)
 (h:∀ (kV doc pm:Value) (an:Option Addr) (cdv ct:Value) (us:List Value),us.length=ps.length->bindArgs (fnOf x qual (fR st) (eJ st) (ak st) .none kV doc pm an cdv ct) ⟨us,[]⟩=pure (ps.zip us)):aG K fd ps []:=by
 obtain⟨oc,od,kV,doc,pm,an,cdv,ct,osl,rfl,lk,hcd⟩:=F.ex
 exact .all (h kV doc pm an cdv ct)
theorem fun_mk {x qual:Str}{st:Stmt}{f:Addr}{oc:Value}{od an:Option Addr}{osl:Array (Option Value)}{kV doc pm cdv ct:Value}(l:K.lookup f=some ⟨oc,od,.func (fnOf x qual (fR st) (eJ st) (ak st) .none kV doc pm an cdv ct),osl⟩)
 (c:codeIn K cdv qual=true) (k:keepIn K (.ref f)=true):Fun K x qual st f (fnOf x qual (fR st) (eJ st) (ak st) .none kV doc pm an cdv ct):=⟨⟨oc,od,kV,doc,pm,an,cdv,ct,osl,rfl,l,c⟩,k⟩
end
theorem eC {A:Around}{k:Nat}(hr:Room k A):A.units+1 < cLine:=Nat.lt_of_le_of_lt (Nat.add_le_add_left (by decide:1 <= 64) _) hr.units
section
variable {X:Cx}
theorem pv (i:Nat) {x:Str}{pos:Pos}(hN:X.N[i]?=some x:=by rfl) (hv:Vis X.env.scope x:=by first|exact Or.inl rfl|exact Or.inr (Or.inl rfl)|exact Or.inr (Or.inr rfl)) (hd:(x == ("__debug__":Str))=false:=by decide)
 (hcd:(x == ("__classdict__":Str))=false:=by decide):PE X (.Name x pos) (ou i):=DL hN hv hd hcd
end
theorem fw {A B:Prop}(h:B):if false=true then A else B:=by
 rw[if_neg Bool.false_ne_true]
 exact h
theorem iT {A B:Prop}(h:A):if true=true then A else B:=by
 rw[if_pos rfl]
 exact h
theorem u7 {c A B:Prop} [Decidable c] (h1:c->A) (h2:¬ c->B):if c then A else B:=by
 by_cases h:c
 . rw[if_pos h]
   exact h1 h
 . rw[if_neg h]
   exact h2 h
def bU (H H':Hp):Prop:=∀ b o,H b=some o->H' b=some o
theorem bU.trans {H H1 H2:Hp}(a:bU H H1) (b:bU H1 H2):bU H H2:=λc o h=>b c o (a c o h)
theorem bU.seq {K:PySem.W.Frag}{H H':Hp}{a:Addr}{xs:List V}(e:bU H H') (h:SqL K H a xs):SqL K H' a xs:=by
 rcases h with (h|⟨o,h⟩)|h
 . exact .inl (.inl (e _ _ h))
 . exact .inl (.inr ⟨o,e _ _ h⟩)
 . exact .inr h
end L2
namespace L2
open PySem PySem.Spec PyProof.Rows
section
variable {X:Cx}
end
section
variable {κ:Type} [DecidableEq κ]
end
end L2
namespace L2
open PySem PySem.Spec PyProof.Rows
theorem Bv:bootBuiltins "int"=some (.type "int"):=by decide +kernel
theorem CG:bootBuiltins "bool"=some (.type "bool"):=by decide +kernel
theorem yI:bootBuiltins "list"=some (.type "list"):=by decide +kernel
theorem dX:bootBuiltins "tuple"=some (.type "tuple"):=by decide +kernel
theorem yQ:bootBuiltins "str"=some (.type "str"):=by decide +kernel
theorem ue:bootBuiltins "reversed"=some (.type "reversed"):=by decide +kernel
theorem ba:bootBuiltins "isinstance"=some (.builtin "isinstance"):=by decide +kernel
theorem kK:bootBuiltins "len"=some (.builtin "len"):=by decide +kernel
section
variable {X:Cx}
theorem cB:lZ X (.builtin "isinstance") (λxs H Q=>∃ x c t b,xs=[x,V.ty c]/\TyOf X.K H x t/\kitOne X.K t (.type c)=some b/\Q (.bl b) H):=by
 intro pins s σ H xs us Q I r h
 obtain⟨x,c,t,b,rfl,ty,e,q⟩:=h
 obtain⟨u,w',rfl,ru,rw⟩:=A5 r
 cases rw
 exact zr I ru ty e λtk=>⟨.bl b,H,I.tok _,rfl,q⟩
def ES (_i j:Int):Prop:=0 < j/\j < 2 ^ 40
theorem bB:OpR X (binaryOp .FloorDiv) (rI ES λi j=>.int (i / j)):=opI λi j _ _ _ _ _ hc q=>by
 have h1:(0:Int) < j:=hc.1
 have h2:j < 2 ^ 40:=hc.2
 refine floordiv_int (by omega) (by rw[Int.fdiv_eq_ediv_of_nonneg i (by omega)];exact q) (.inl (PyProof.noPylong_of_log2 ?_))
 have h3:j.natAbs≠0:=by omega
 have h4:j.natAbs.log2 < 40:=(Nat.log2_lt h3).mpr (by omega)
 omega
end
theorem jv {c A B:Prop} [Decidable c] (hc:c) (h:A):if c then A else B:=by
 rw[if_pos hc];exact h
theorem cP {c A B:Prop} [Decidable c] (hc:¬ c) (h:B):if c then A else B:=by
 rw[if_neg hc];exact h
theorem nL {i j:Int}(h0:0 <= i) (h1:i < 4294967296):EF i j:=.inl ⟨Int.lt_of_lt_of_le (by decide) h0,Int.lt_trans h1 (by decide)⟩
theorem Fh {xs:List V}{i:Int}(h0:0 <= i) (h1:i < xs.length):∃ v,atI xs i=some v/\v∈xs:=by
 obtain⟨n,rfl⟩:=Int.eq_ofNat_of_zero_le h0
 have hn:n < xs.length:=by omega
 exact⟨xs[n],z9 (List.getElem?_eq_getElem hn),List.getElem_mem hn⟩
theorem ah {H:Hp}{p:Addr}{o:HO}(h:H p=none):bU H (upd H p o):=λb u e=>by
 rw[ag (aj e h)];exact e
end L2
namespace L2
open PySem PySem.Spec PyProof.Rows
section
variable {X:Cx}
end
end L2
set_option Elab.async false
set_option maxRecDepth 100000
set_option maxHeartbeats 4000000
namespace MX
open PySem PySem.W
mutual
def kd:PyData->Bool
|.int _=>true
|.str x=>PyData.strOk x
|.tuple xs=>kds xs
|.none=>false
|.bool _=>false
|.list _=>false
|.dict _=>false
def kds:List PyData->Bool
|[]=>true
|x :: xs=>kd x && kds xs
end
mutual
def hashD (w:World):PyData->Int
|.int i=>hashInt i
|.str x=>hashStr w x
|.tuple xs=>reduceHash (Builtin.Tuple.tupleHashOf (ss w xs))
|.none=>0
|.bool _=>0
|.list _=>0
|.dict _=>0
def ss (w:World):List PyData->List Int
|[]=>[]
|x :: xs=>hashD w x :: ss w xs
end
mutual
theorem kd_lay:∀ d:PyData,kd d=true->d.canLay0=true
|.int _,_=>rfl
|.str _,h=>h
|.tuple xs,h=>xj xs h
|.none,h=>by cases h
|.bool _,h=>by cases h
|.list _,h=>by cases h
|.dict _,h=>by cases h
theorem xj:∀ xs:List PyData,kds xs=true->PyData.canLayAll0 xs=true
|[],_=>rfl
|x :: xs,h=>by
  have h':(kd x && kds xs)=true:=h
  rw[Bool.and_eq_true]at h'
  show (x.canLay0 && PyData.canLayAll0 xs)=true
  rw[kd_lay x h'.1,xj xs h'.2];rfl
end
theorem B9 {p q:Prop}(h1:¬ p) (h2:¬ q):p ↔ q:=⟨λz=>(h1 z).elim,λz=>(h2 z).elim⟩
mutual
theorem eqv_iff:∀ d e:PyData,kd d=true->kd e=true->(PyData.eqv d e=true ↔ d=e)
|.int a,.int b,_,_=>by
  show (a == b)=true ↔ _
  rw[beq_iff_eq];exact⟨λz=>by rw[z],λz=>by injection z⟩
|.str a,.str b,_,_=>by
  show (a == b)=true ↔ _
  rw[beq_iff_eq];exact⟨λz=>by rw[z],λz=>by injection z⟩
|.tuple xs,.tuple ys,h1,h2=>by
  have q:=uM xs ys h1 h2
  show PyData.eqvAll xs ys=true ↔ _
  rw[q];exact⟨λz=>by rw[z],λz=>by injection z⟩
|.int _,.str _,_,_=>B9 (λz=>by cases z) (λz=>by cases z)
|.int _,.tuple _,_,_=>B9 (λz=>by cases z) (λz=>by cases z)
|.str _,.int _,_,_=>B9 (λz=>by cases z) (λz=>by cases z)
|.str _,.tuple _,_,_=>B9 (λz=>by cases z) (λz=>by cases z)
|.tuple _,.int _,_,_=>B9 (λz=>by cases z) (λz=>by cases z)
|.tuple _,.str _,_,_=>B9 (λz=>by cases z) (λz=>by cases z)
theorem uM:∀ xs ys:List PyData,kds xs=true->kds ys=true->(PyData.eqvAll xs ys=true ↔ xs=ys)
|[],[],_,_=>⟨λ_=>rfl,λ_=>rfl⟩
|[],_ :: _,_,_=>B9 (λz=>by cases z) (λz=>by cases z)
|_ :: _,[],_,_=>B9 (λz=>by cases z) (λz=>by cases z)
|x :: xs,y :: ys,h1,h2=>by
  have h1':(kd x && kds xs)=true:=h1
  have h2':(kd y && kds ys)=true:=h2
  rw[Bool.and_eq_true]at h1' h2'
  show (PyData.eqv x y && PyData.eqvAll xs ys)=true ↔ _
  rw[Bool.and_eq_true,eqv_iff x y h1'.1 h2'.1,uM xs ys h1'.2 h2'.2]
  exact⟨λz=>by rw[z.1,z.2],λz=>by injection z with a b;exact⟨a,b⟩⟩
end
section
variable {prog:Program}{w:World}{E:Value->Shared->Prop}
mutual
theorem tO:∀ (k:PyData) (v:Value) (as:List Addr) (A:Around) (s:Shared) (Q:Int->Shared->Prop),kd k=true->Reads s.heap v k as->A.units+k.depth < cLine ->
 (∀ tk,Q (hashD w k) { s with toks:=tk })->wpAny (model prog w) A (pyHash v) Q E s
|.int i,_,_,A,s,Q,_,x,_,h=>by cases x;exact wpAny_pyHash_int (h _)
|.str y,_,_,A,s,Q,_,x,_,h=>by cases x;exact wpAny_pyHash_str (h _)
|.tuple xs,_,_,A,s,Q,hk,x,hu,h=>by
  cases x with
 |@tuple a o vs n _ _ hg hc hdt hw =>
   refine pyHash_slot (T:="tuple") ⟨_,hg,hc⟩ F.slot_tuple_hash F.entry_tuple_hash (F.args_tuple_hash_1 _) (beq_builtin_none _) (.inr (Nat.lt_of_le_of_lt (Nat.le_add_right _ _) hu)) ?_
   show wpAny _ _ (Builtin.Tuple.tupleItemsOf (.ref a) >>= _) _ _ s
   refine wpAny_bind (wpAny_tupleItemsOf hg hdt (wpAny_bind ?_))
   rw[<-Array.forIn_toList]
   refine uv xs _ _ A.in1 s #[] _ hk hw (by simp only[PyData.depth,Around.in1_units]at hu |-;omega) λtk b hb=>?_
   show wpAny _ _ (retInt (Builtin.Tuple.tupleHashOf b.toList)) _ _ _
   rw[hb]
   exact wpAny_bind (wpAny_mkInt (wpAny_pure ⟨_,_,rfl,h _⟩))
|.none,_,_,_,_,_,h,_,_,_=>by cases h
|.bool _,_,_,_,_,_,h,_,_,_=>by cases h
|.list _,_,_,_,_,_,h,_,_,_=>by cases h
|.dict _,_,_,_,_,_,h,_,_,_=>by cases h
theorem uv:∀ (xs:List PyData) (vs:List Value) (as:List Addr) (A:Around) (s:Shared) (b:Array Int) (Q:Array Int->Shared->Prop),kds xs=true->ReadsAll s.heap vs xs as->A.units+PyData.depthAll xs < cLine ->
 (∀ tk b',b'.toList=b.toList++ss w xs->Q b' { s with toks:=tk }) ->
 wpAny (model prog w) A (forIn vs b λx r=>do let h <-pyHash x;pure PUnit.unit;pure (ForInStep.yield (r.push h))) Q E s
|[],_,_,A,s,b,Q,_,x,_,h=>by cases x;exact wpAny_pure (h s.toks b (by simp[ss]))
|k :: xs,_,_,A,s,b,Q,hk,x,hu,h=>by
  cases x with
 |cons x1 x2 =>
   have hk':(kd k && kds xs)=true:=hk
   rw[Bool.and_eq_true]at hk'
   simp only[PyData.depthAll]at hu
   rw[List.forIn_cons]
   refine wpAny_bind (wpAny_bind (tO k _ _ A s _ hk'.1 x1 (by omega) λtk=>wpAny_bind (wpAny_pure (wpAny_pure ?_))))
   exact uv xs _ _ A _ _ Q hk'.2 x2 (by omega) λtk' b' hb=>h tk' b' (by simp[hb,ss])
end
theorem uz:∀ (n:Nat) (k:PyData) (v:Value) (as:List Addr) (A:Around) (s:Shared) (Q:Bool->Shared->Prop),kd k=true->Reads s.heap v k as->k.depth <= n ->
 Q true s->wpAny (model prog w) A (eqIsQuiet n v) Q E s:=by
 intro n
 induction n with
|zero =>
  intro k v as A s Q hk x hu h
  cases x with
 |int i t=>rw[eqIsQuiet_byValue 0 rfl];exact wpAny_pure h
 |str i t=>rw[eqIsQuiet_byValue 0 rfl];exact wpAny_pure h
 |tuple=>simp only[PyData.depth]at hu;omega
 |none=>cases hk
 |bool=>cases hk
 |list=>cases hk
 |dict=>cases hk
|succ n ih =>
  intro k v as A s Q hk x hu h
  cases x with
 |int i t=>rw[eqIsQuiet_byValue _ rfl];exact wpAny_pure h
 |str i t=>rw[eqIsQuiet_byValue _ rfl];exact wpAny_pure h
 |none=>cases hk
 |bool=>cases hk
 |list=>cases hk
 |dict=>cases hk
 |@tuple a o vs m xs _ hg hc hdt hw =>
   have hT:s.TypeIs (.ref a) "tuple":=⟨_,hg,hc⟩
   unfold eqIsQuiet
   refine wpAny_bind (wpAny_specialOf hT F.slot_tuple_eq.lookup ?_)
   show wpAny _ _ (isInstance (.ref a) (.type "tuple") >>= _) _ _ s
   refine wpAny_bind (wpAny_isInstance hT isSubtype_tuple_tuple ?_)
   simp only[Bool.not_true,Bool.false_eq_true,if_false]
   refine wpAny_bind (wpAny_seqItems hg hdt (wpAny_bind ?_))
   show wpAny _ _ (forIn vs _ _) _ _ s
   rw[<-Array.forIn_toList]
   refine wpAny_forIn_list _ (λbS r s'=>r.1=none/\s'=s/\∃ ys bs,ReadsAll s.heap bS ys bs/\kds ys=true/\PyData.depthAll ys <= n) _ ?_ ?_ _ _
    ⟨rfl,rfl,xs,_,hw,hk,by simp only[PyData.depth]at hu;omega⟩
   . rintro y bS r s' ⟨hr,rfl,ys,bs,rd,hks,hdp⟩
     cases rd with
    |@cons _ _ d ds _ _ r1 r2 =>
      have hks':(kd d && kds ds)=true:=hks
      rw[Bool.and_eq_true]at hks'
      simp only[PyData.depthAll]at hdp
      refine wpAny_bind (ih d _ _ A _ _ hks'.1 r1 (by omega) ?_)
      simp only[Bool.not_true,Bool.false_eq_true,if_false]
      exact wpAny_pure ⟨rfl,rfl,ds,_,r2,hks'.2,by omega⟩
   . rintro⟨r1,r2⟩ s' ⟨hr,rfl,_⟩
     simp only at hr
     subst hr
     exact wpAny_pure h
def Ent (w:World) (h:Heap) (k:PyData) (e:DictEntry):Prop:=kd k=true/\k.depth <= 8/\(∃ as,Reads h e.key k as)/\e.hash=hashD w k
def Ask (h:Heap) (k:PyData) (v:Value):Prop:=kd k=true/\k.depth <= 8/\(∃ as,Reads h v k as)/\((∃ x t,v=.str x t)\/∃ a,v=.ref a)
abbrev Ents (w:World) (h:Heap) (ks:List PyData) (es:List DictEntry):Prop:=Paired (Ent w h) ks es
theorem f2_get {α β:Type}{R:α->β->Prop}:∀ {xs:List α}{ys:List β},Paired R xs ys->∀ (j:Nat) (y:β),ys[j]?=some y->∃ x,xs[j]?=some x/\R x y
|_,_,.nil,j,y,h=>by simp at h
|_,_,.cons r t,0,y,h=>by simp at h;subst h;exact⟨_,rfl,r⟩
|_,_,.cons r t,j+1,y,h=>by
  obtain⟨x,e,q⟩:=f2_get t j y (by simpa using h)
  exact⟨x,by simpa using e,q⟩
theorem f2_get' {α β:Type}{R:α->β->Prop}:∀ {xs:List α}{ys:List β},Paired R xs ys->∀ (j:Nat) (x:α),xs[j]?=some x->∃ y,ys[j]?=some y/\R x y
|_,_,.nil,j,y,h=>by simp at h
|_,_,.cons r t,0,y,h=>by simp at h;subst h;exact⟨_,rfl,r⟩
|_,_,.cons r t,j+1,y,h=>by
  obtain⟨x,e,q⟩:=f2_get' t j y (by simpa using h)
  exact⟨x,by simpa using e,q⟩
theorem vL {n:Nat}{f:Nat->Option Int}{h:Int}{j:Nat}(hj:j < n) (e:f j=some h):j∈placesWithHash n f h:=by
 unfold placesWithHash
 exact List.mem_filter.mpr ⟨List.mem_range.mpr hj,by rw[e];simp⟩
theorem nJ {n:Nat}{f:Nat->Option Int}{h:Int}{j:Nat}(hj:j∈placesWithHash n f h):j < n:=by
 unfold placesWithHash at hj
 exact List.mem_range.mp (List.mem_filter.mp hj).1
theorem sT {n:Nat}{f:Nat->Option Int}{h:Int}:(placesWithHash n f h).Nodup:=by
 unfold placesWithHash
 exact List.Nodup.sublist List.filter_sublist List.nodup_range
theorem Em {α:Type}{xs:List α}(hn:xs.Nodup) {i j:Nat}{k:α}(hi:xs[i]?=some k) (hj:xs[j]?=some k):i=j :=
 (List.getElem?_inj (List.getElem?_eq_some_iff.mp hi).1 hn).mp (hi.trans hj.symm)
variable {A:Around}{s:Shared}
theorem Bb {d:Addr}{o:Obj}{es:Array DictEntry}{ep:Nat}{ks:List PyData}{k:PyData}{key:Value}{Q:Option Nat->Shared->Prop}(hu:A.units+8 < cLine) (hk:Ask s.heap k key)
 (ho:s.heap.get? d=some o) (hd:o.data=.dict es ep) (hes:Ents w s.heap ks es.toList) (hn:ks.Nodup) (hnone:k ∉ ks->Q none s) (hsome:∀ j:Nat,ks[j]?=some k->Q (some j) s) :
 wpAny (model prog w) A (dictFind d key (hashD w k)) Q E s:=by
 obtain⟨kk,kdp,⟨as,kr⟩,ksh⟩:=hk
 have hget:∀ (j:Nat) (e:DictEntry),es[j]?=some e->∃ k',ks[j]?=some k'/\Ent w s.heap k' e:=λj e h=>f2_get hes j e (by rw[Array.getElem?_toList];exact h)
 have hget':∀ (j:Nat) (k':PyData),ks[j]?=some k'->∃ e,es[j]?=some e/\Ent w s.heap k' e:=λj k' h=>by
  obtain⟨e,h1,h2⟩:=f2_get' hes j k' h
  exact⟨e,by rw[<-Array.getElem?_toList];exact h1,h2⟩
 have hplace:∀ j:Nat,ks[j]?=some k->j∈placesWithHash es.size (λi=>es[i]?.map (·.hash)) (hashD w k):=λj h=>by
  obtain⟨e,h1,_,_,_,h2⟩:=hget' j k h
  exact vL (Array.getElem?_eq_some_iff.mp h1).1 (by rw[h1,<-h2];rfl)
 have heq:∀ (k':PyData) (e:DictEntry) (R:Bool->Shared->Prop),Ent w s.heap k' e->(k'=k->R true s)->(k'≠k->R false s)->wpAny (model prog w) A (eqBool e.key key) R E s:=λk' e R h h1 h2=>by
  obtain⟨ek,ed,⟨bs,er⟩,_⟩:=h
  refine SeqAt.eqAt_reads k' k A s _ _ _ _ er kr (kd_lay _ ek) (kd_lay _ kk) (by omega) prog w E R ?_
  by_cases z:k'=k
  . rw[(eqv_iff k' k ek kk).mpr z];exact h1 z
  . have:PyData.eqv k' k=false:=by
     cases q:PyData.eqv k' k with
    |false=>rfl
    |true=>exact absurd ((eqv_iff k' k ek kk).mp q) z
    rw[this];exact h2 z
 have none_of:(∀ j:Nat,ks[j]?=some k->j∈([]:List Nat))->Q none s:=λh=>hnone λm=>by
  obtain⟨j,hj⟩:=List.mem_iff_getElem?.mp m
  exact absurd (h j hj) (by simp)
 have plain:wpAny (model prog w) A (dictWalkPlain d key (hashD w k) es (placesWithHash es.size (λi=>es[i]?.map (·.hash)) (hashD w k))) Q E s:=by
  refine wpAny_bind ?_
  refine wpAny_forIn_list _ (λbS b s'=>s'=s/\b=(none,())/\(∀ j:Nat,ks[j]?=some k->j∈bS)/\∀ j∈bS,j < es.size) _ ?_ ?_ _ _ ⟨rfl,rfl,hplace,λj=>nJ⟩
  . rintro x bS b s' ⟨rfl,rfl,hin,hlt⟩
    have hx:=hlt x List.mem_cons_self
    have hlt':∀ j∈bS,j < es.size:=λj hj=>hlt j (List.mem_cons_of_mem _ hj)
    obtain⟨k',hk',he⟩:=hget x es[x] (Array.getElem?_eq_getElem hx)
    have next:k'≠k->∀ j:Nat,ks[j]?=some k->j∈bS:=λz j hj=>by
     rcases List.mem_cons.mp (hin j hj) with q|q
     . subst q;rw[hk']at hj;exact absurd (Option.some.inj hj) z
     . exact q
    simp only[Array.getElem?_eq_getElem hx]
    by_cases hh:(es[x].hash == hashD w k)=true
    . rw[if_pos hh]
      refine wpAny_bind (wpAny_dictEpoch ho hd (wpAny_bind (heq k' es[x] _ he (λz=>wpAny_bind (wpAny_dictEpoch ho hd ?_)) (λz=>wpAny_bind (wpAny_dictEpoch ho hd ?_)))))
      . show wpAny _ _ (if (ep != ep)=true then _ else _) _ E _
        rw[if_neg (by simp)]
        exact wpAny_bind (wpAny_rule (wpAny_pure (wpAny_pure (hsome x (z ▸ hk')))))
      . show wpAny _ _ (if (ep != ep)=true then _ else _) _ E _
        rw[if_neg (by simp)]
        exact wpAny_bind (wpAny_rule (wpAny_pure ⟨rfl,rfl,next z,hlt'⟩))
    . rw[if_neg hh]
      refine wpAny_pure ⟨rfl,rfl,next λz=>hh ?_,hlt'⟩
      rw[he.2.2.2,z];simp
  . rintro b s' ⟨rfl,rfl,hin,_⟩
    exact wpAny_pure (none_of hin)
 have hstored:∀ v∈(placesWithHash es.size (λi=>es[i]?.map (·.hash)) (hashD w k)).filterMap (λi=>es[i]?.map (·.key)),∃ k' bs,kd k'=true/\k'.depth <= 8/\Reads s.heap v k' bs:=λv hv=>by
  obtain⟨i,_,hi⟩:=List.mem_filterMap.mp hv
  cases q:es[i]? with
 |none=>rw[q]at hi;cases hi
 |some e =>
   rw[q]at hi
   have z:e.key=v:=by simpa using hi
   obtain⟨k',_,h1,h2,⟨bs,h3⟩,_⟩:=hget i e q
   exact⟨k',bs,h1,h2,z ▸ h3⟩
 have htell:∀ (R:Bool->Shared->Prop),R false s->wpAny (model prog w) A (tableMayTell key ((placesWithHash es.size (λi=>es[i]?.map (·.hash)) (hashD w k)).filterMap (λi=>es[i]?.map (·.key)))) R E s:=λR h=>by
  unfold tableMayTell
  split
  . exact wpAny_pure h
  . refine wpAny_bind (uz 8 k key _ A s _ kk kr kdp ?_)
    simp only[Bool.not_true,Bool.false_eq_true,if_false]
    refine wpAny_bind ?_
    refine wpAny_forIn_list _ (λbS r s'=>s'=s/\r=(none,())/\∀ v∈bS,∃ k' bs,kd k'=true/\k'.depth <= 8/\Reads s.heap v k' bs) _ ?_ ?_ _ _ ⟨rfl,rfl,hstored⟩
    . rintro x bS r s' ⟨rfl,rfl,hr⟩
      obtain⟨k',bs,h1,h2,h3⟩:=hr x List.mem_cons_self
      refine wpAny_bind (uz 8 k' x _ A _ _ h1 h3 h2 ?_)
      simp only[Bool.not_true,Bool.false_eq_true,if_false]
      exact wpAny_pure ⟨rfl,rfl,λv hv=>hr v (List.mem_cons_of_mem _ hv)⟩
    . rintro r s' ⟨rfl,rfl,_⟩
      exact wpAny_pure h
 have hany:∀ a:Addr,key=.ref a->¬ (es.any λe=>e.key == Value.ref a && e.hash != hashD w k)=true:=by
  rintro a rfl h
  rw[<-Array.any_toList,List.any_eq_true]at h
  obtain⟨e,hin,hc⟩:=h
  obtain⟨j,hj⟩:=List.mem_iff_getElem?.mp hin
  obtain⟨k',hk',h1,h2,⟨bs,h3⟩,h4⟩:=hget j e (by rw[<-Array.getElem?_toList];exact hj)
  rw[Bool.and_eq_true]at hc
  have z1:e.key=.ref a:=beq_iff_eq.mp hc.1
  rw[z1]at h3
  have z2:=SeqAt.Reads.unique k' k _ _ _ (kd_lay _ h1) h3 kr
  rw[h4,z2]at hc
  simp at hc
 unfold dictFind
 refine wpAny_holding ?_
 refine wpAny_bind (wpAny_dictEntries ho hd ?_)
 dsimp only
 rcases ksh with⟨x,t,rfl⟩|⟨a,rfl⟩
 . dsimp only
   by_cases hstr:(es.all λe=>isExactStrKey e.key)=true
   . rw[if_pos hstr]
     unfold foundByValue
     have kx:k=.str x:=by cases kr;rfl
     have hkey:∀ (j:Nat) (e:DictEntry),es[j]?=some e->∃ k',ks[j]?=some k'/\Ent w s.heap k' e/\(e.key.isStr x=true ↔ k'=k):=λj e h=>by
      obtain⟨k',h1,h2⟩:=hget j e h
      refine⟨k',h1,h2,?_⟩
      have hs:isExactStrKey e.key=true:=by
       have q:=Array.all_eq_true.mp hstr
       obtain⟨hl,he⟩:=Array.getElem?_eq_some_iff.mp h
       have:=q j hl
       rw[he]at this;exact this
      obtain⟨_,_,⟨bs,h3⟩,_⟩:=h2
      cases hv:e.key with
     |str y u =>
       rw[hv]at h3
       cases h3
       show (y == x)=true ↔ _
       rw[kx,beq_iff_eq]
       exact⟨λz=>by rw[z],λz=>by injection z⟩
     |_=>rw[hv]at hs;cases hs
     cases hf:es.findIdx? (λe=>e.key.isStr x) with
    |none =>
      refine wpAny_pure (hnone λm=>?_)
      obtain⟨j,hj⟩:=List.mem_iff_getElem?.mp m
      obtain⟨e,he,_⟩:=hget' j k hj
      obtain⟨k',h1,_,h2⟩:=hkey j e he
      rw[hj]at h1
      have h3:=Array.findIdx?_eq_none_iff.mp hf e (Array.mem_of_getElem? he)
      rw[h2.mpr (Option.some.inj h1).symm]at h3
      cases h3
    |some i =>
      obtain⟨hlt,hi,_⟩:=Array.findIdx?_eq_some_iff_getElem.mp hf
      obtain⟨k',h1,h2,h3⟩:=hkey i es[i] (Array.getElem?_eq_getElem hlt)
      have z:k'=k:=h3.mp hi
      simp only[Array.getElem?_eq_getElem hlt]
      refine wpAny_bind (wpAny_dictEpoch ho hd (wpAny_bind (heq k' es[i] _ h2 (λ_=>wpAny_bind (wpAny_dictEpoch ho hd ?_)) (λq=>absurd z q))))
      rw[if_neg (by simp)]
      simp only[if_true]
      exact wpAny_bind (wpAny_rule (wpAny_pure (hsome i (z ▸ h1))))
   . rw[if_neg hstr]
     by_cases hall:((Value.str x t :: (placesWithHash es.size (λi=>es[i]?.map (·.hash)) (hashD w k)).filterMap (λi=>es[i]?.map (·.key))).all carriedByValue)=true
     . rw[if_pos hall]
       exact plain
     . rw[if_neg hall]
       by_cases hone:(((placesWithHash es.size (λi=>es[i]?.map (·.hash)) (hashD w k)).filterMap (λi=>es[i]?.map (·.key))) == [Value.str x t])=true
       all_goals
        first
        |(rw[if_pos hone];refine wpAny_bind (wpAny_pure ?_))
        |(rw[if_neg hone];refine wpAny_bind (htell _ ?_))
        rw[if_neg (by simp)]
        refine wpAny_bind (wpAny_forIn_list _ (λbS b s'=>s'=s/\∃ hit,b=(none,hit)/\((hit=none/\∀ j:Nat,ks[j]?=some k->j∈bS)\/∃ j,hit=some j/\ks[j]?=some k/\j ∉ bS)/\(∀ j∈bS,j < es.size)/\bS.Nodup) _ ?_ ?_ _ _
         ⟨rfl,none,rfl,.inl ⟨rfl,hplace⟩,λj=>nJ,sT⟩)
        . rintro x bS b s' ⟨rfl,hit,rfl,hin,hlt,hnd⟩
          have hx:=hlt x List.mem_cons_self
          have hlt':∀ j∈bS,j < es.size:=λj hj=>hlt j (List.mem_cons_of_mem _ hj)
          obtain⟨hxr,hnd'⟩:=List.nodup_cons.mp hnd
          obtain⟨k',hk',he⟩:=hget x es[x] (Array.getElem?_eq_getElem hx)
          have next:k'≠k->((hit=none/\∀ j:Nat,ks[j]?=some k->j∈bS)\/∃ j,hit=some j/\ks[j]?=some k/\j ∉ bS):=λz=>by
           rcases hin with⟨h0,hin⟩|⟨j,h0,hj,hjr⟩
           . refine .inl ⟨h0,λj hj=>?_⟩
             rcases List.mem_cons.mp (hin j hj) with q|q
             . subst q;rw[hk']at hj;exact absurd (Option.some.inj hj) z
             . exact q
           . exact .inr ⟨j,h0,hj,λq=>hjr (List.mem_cons_of_mem _ q)⟩
          simp only[Array.getElem?_eq_getElem hx]
          by_cases hh:(es[x].hash == hashD w k)=true
          . rw[if_pos hh]
            refine wpAny_bind (wpAny_dictEpoch ho hd (wpAny_bind (heq k' es[x] _ he (λz=>wpAny_bind (wpAny_dictEpoch ho hd ?_)) (λz=>wpAny_bind (wpAny_dictEpoch ho hd ?_)))))
            . rw[if_neg (by simp)]
              have hkx:ks[x]?=some k:=z ▸ hk'
              rcases hin with⟨rfl,hin⟩|⟨j,_,hj,hjr⟩
              . simp only[Option.isSome_none,Bool.false_eq_true,if_false,if_true]
                refine wpAny_bind (wpAny_rule ?_)
                split
                . exact wpAny_pure (wpAny_pure (hsome x hkx))
                . exact wpAny_pure ⟨rfl,some x,rfl,.inr ⟨x,rfl,hkx,hxr⟩,hlt',hnd'⟩
              . exact absurd (Em hn hj hkx ▸ List.mem_cons_self) hjr
            . rw[if_neg (by simp)]
              simp only[Bool.false_eq_true,if_false]
              refine wpAny_bind (wpAny_rule ?_)
              try rw[if_neg (by simp)]
              exact wpAny_pure ⟨rfl,hit,rfl,next z,hlt',hnd'⟩
          . rw[if_neg hh]
            refine wpAny_pure ⟨rfl,hit,rfl,next λz=>hh ?_,hlt',hnd'⟩
            rw[he.2.2.2,z];simp
        . rintro b s' ⟨rfl,hit,rfl,hin,_⟩
          rcases hin with⟨rfl,hin⟩|⟨j,rfl,hj,_⟩
          . exact wpAny_pure (none_of hin)
          . exact wpAny_pure (hsome j hj)
 . dsimp only
   rw[if_neg (show ¬ ((Value.ref a :: (placesWithHash es.size (λi=>es[i]?.map (·.hash)) (hashD w k)).filterMap (λi=>es[i]?.map (·.key))).all carriedByValue)=true from by simp[carriedByValue]),if_neg (hany a rfl)]
   by_cases hone:(((placesWithHash es.size (λi=>es[i]?.map (·.hash)) (hashD w k)).filterMap (λi=>es[i]?.map (·.key))) == [Value.ref a])=true
   all_goals
    first
    |(rw[if_pos hone];refine wpAny_bind (wpAny_pure ?_))
    |(rw[if_neg hone];refine wpAny_bind (htell _ ?_))
    rw[if_neg (by simp)]
    refine wpAny_bind (wpAny_forIn_list _ (λbS b s'=>s'=s/\∃ hit,b=(none,hit)/\((hit=none/\∀ j:Nat,ks[j]?=some k->j∈bS)\/∃ j,hit=some j/\ks[j]?=some k/\j ∉ bS)/\(∀ j∈bS,j < es.size)/\bS.Nodup) _ ?_ ?_ _ _
     ⟨rfl,none,rfl,.inl ⟨rfl,hplace⟩,λj=>nJ,sT⟩)
    . rintro x bS b s' ⟨rfl,hit,rfl,hin,hlt,hnd⟩
      have hx:=hlt x List.mem_cons_self
      have hlt':∀ j∈bS,j < es.size:=λj hj=>hlt j (List.mem_cons_of_mem _ hj)
      obtain⟨hxr,hnd'⟩:=List.nodup_cons.mp hnd
      obtain⟨k',hk',he⟩:=hget x es[x] (Array.getElem?_eq_getElem hx)
      have next:k'≠k->((hit=none/\∀ j:Nat,ks[j]?=some k->j∈bS)\/∃ j,hit=some j/\ks[j]?=some k/\j ∉ bS):=λz=>by
       rcases hin with⟨h0,hin⟩|⟨j,h0,hj,hjr⟩
       . refine .inl ⟨h0,λj hj=>?_⟩
         rcases List.mem_cons.mp (hin j hj) with q|q
         . subst q;rw[hk']at hj;exact absurd (Option.some.inj hj) z
         . exact q
       . exact .inr ⟨j,h0,hj,λq=>hjr (List.mem_cons_of_mem _ q)⟩
      simp only[Array.getElem?_eq_getElem hx]
      by_cases hh:(es[x].hash == hashD w k)=true
      . rw[if_pos hh]
        refine wpAny_bind (wpAny_dictEpoch ho hd (wpAny_bind (heq k' es[x] _ he (λz=>wpAny_bind (wpAny_dictEpoch ho hd ?_)) (λz=>wpAny_bind (wpAny_dictEpoch ho hd ?_)))))
        . rw[if_neg (by simp)]
          have hkx:ks[x]?=some k:=z ▸ hk'
          rcases hin with⟨rfl,hin⟩|⟨j,_,hj,hjr⟩
          . simp only[Option.isSome_none,Bool.false_eq_true,if_false,if_true]
            refine wpAny_bind (wpAny_rule ?_)
            split
            . exact wpAny_pure (wpAny_pure (hsome x hkx))
            . exact wpAny_pure ⟨rfl,some x,rfl,.inr ⟨x,rfl,hkx,hxr⟩,hlt',hnd'⟩
          . exact absurd (Em hn hj hkx ▸ List.mem_cons_self) hjr
        . rw[if_neg (by simp)]
          simp only[Bool.false_eq_true,if_false]
          refine wpAny_bind (wpAny_rule ?_)
          try rw[if_neg (by simp)]
          exact wpAny_pure ⟨rfl,hit,rfl,next z,hlt',hnd'⟩
      . rw[if_neg hh]
        refine wpAny_pure ⟨rfl,hit,rfl,next λz=>hh ?_,hlt',hnd'⟩
        rw[he.2.2.2,z];simp
    . rintro b s' ⟨rfl,hit,rfl,hin,_⟩
      rcases hin with⟨rfl,hin⟩|⟨j,rfl,hj,_⟩
      . exact wpAny_pure (none_of hin)
      . exact wpAny_pure (hsome j hj)
def DictE (h:Heap) (d:Addr) (es:List DictEntry) (ep:Nat):Prop:=∃ o,h.get? d=some o/\o.ExactDict/\o.data=.dict es.toArray ep
def iK (h:Heap) (d:Addr) (es:List DictEntry):Prop:=∃ o ep,h.get? d=some o/\o.ExactDict/\o.data=.dict es.toArray ep
theorem iK.ep {h:Heap}{d:Addr}{es:List DictEntry}(x:iK h d es):∃ ep,DictE h d es ep:=let ⟨o,ep,e⟩:=x;⟨ep,o,e⟩
theorem DictE.es {h:Heap}{d:Addr}{es:List DictEntry}{ep:Nat}(x:DictE h d es ep):iK h d es:=let ⟨o,e⟩:=x;⟨o,ep,e⟩
theorem DictE.typeIs {s:Shared}{d:Addr}{es:List DictEntry}{ep:Nat}(x:DictE s.heap d es ep):s.TypeIs (.ref d) "dict":=let ⟨o,ho,hc,_⟩:=x;⟨o,ho,hc.1⟩
theorem iK.typeIs {s:Shared}{d:Addr}{es:List DictEntry}(x:iK s.heap d es):s.TypeIs (.ref d) "dict":=let ⟨o,_,ho,hc,_⟩:=x;⟨o,ho,hc.1⟩
theorem DF {d:Addr}{es:List DictEntry}{ks:List PyData}{k:PyData}{key:Value}{Q:Option Value->Shared->Prop}(hu:A.units+8 < cLine) (hk:Ask s.heap k key)
 (hm:iK s.heap d es) (hes:Ents w s.heap ks es) (hn:ks.Nodup) (hnone:k ∉ ks->∀ tk,Q none { s with toks:=tk })
 (hsome:∀ (j:Nat) (e:DictEntry),ks[j]?=some k->es[j]?=some e->∀ tk,Q (some e.val) { s with toks:=tk }):wpAny (model prog w) A (dictGet d key) Q E s:=by
 obtain⟨o,ep,ho,hc,hd⟩:=hm
 obtain⟨kk,kdp,⟨as,kr⟩,ksh⟩:=id hk
 unfold dictGet
 refine wpAny_holding (wpAny_bind (tO k key as A s _ kk kr (by omega) λtk=>wpAny_bind (Bb (s:={ s with toks:=tk }) hu hk ho hd hes hn ?_ ?_)))
 . exact λh=>wpAny_pure (hnone h tk)
 . intro j hj
   refine wpAny_bind (wpAny_dictEntries (s:={ s with toks:=tk }) ho hd ?_)
   obtain⟨e,he,_⟩:=f2_get' hes j k hj
   have q:es.toArray[j]?=some e:=by rw[List.getElem?_toArray];exact he
   rw[q]
   exact wpAny_pure (hsome j e hj he tk)
theorem Ff {d:Addr}{es:List DictEntry}{ks:List PyData}{k:PyData}{key v:Value}{Q:Unit->Shared->Prop}(hu:A.units+8 < cLine) (hk:Ask s.heap k key)
 (hm:iK s.heap d es) (hes:Ents w s.heap ks es) (hn:ks.Nodup) (hsz:es.length <= sizeLine)
 (hQ:∀ (h':Heap) (tk:Nat) (es':List DictEntry),iK h' d es'->Heap.SameBut d s.heap h'->((k ∉ ks/\es'=es++[⟨hashD w k,key,v⟩])\/∃ j:Nat,ks[j]?=some k/\es'=es.modify j λe=>{ e with val:=v }) ->
  Q () { s with heap:=h',toks:=tk }):wpAny (model prog w) A (dictSet d key v) Q E s:=by
 obtain⟨o,ep,ho,hc,hd⟩:=hm
 obtain⟨kk,kdp,⟨as,kr⟩,ksh⟩:=id hk
 unfold dictSet
 refine wpAny_holding (wpAny_bind (tO k key as A s _ kk kr (by omega) λtk=>?_))
 unfold dictSetHashed
 refine wpAny_holding (wpAny_bind (Bb (s:={ s with toks:=tk }) hu hk ho hd hes hn ?_ ?_))
 . intro h
   refine wpAny_bind (wpAny_rule (wpAny_updateDictKeys (hz:=by simpa using hsz) (s:={ s with toks:=tk }) ho hd (hQ _ tk (es++[⟨hashD w k,key,v⟩]) ⟨_,ep+1,Heap.get?_update_self _ ho (Obj.isFreed_of_dict (Obj.data_mapDictKeys hd _)),hc.mapDictKeys _,?_⟩ (Heap.SameBut.update ..) (.inl ⟨h,rfl⟩))))
   rw[Obj.data_mapDictKeys hd _]
   simp
 . intro j hj
   refine wpAny_bind (wpAny_rule (wpAny_bind (wpAny_updateDict (s:={ s with toks:=tk }) ho hd (wpAny_point (hQ _ tk (es.modify j λe=>{ e with val:=v }) ⟨_,ep,Heap.get?_update_self _ ho (Obj.isFreed_of_dict (Obj.data_mapDict hd _)),hc.mapDict _,?_⟩ (Heap.SameBut.update ..) (.inr ⟨j,hj,rfl⟩))))))
   rw[Obj.data_mapDict hd _]
   simp
theorem meets_D (d:Addr) (key dflt:Value) (hd:(d == sysModules)=false) :
 MeetsIn prog w (Builtin.«dict.get» ⟨[.ref d,key,dflt],[]⟩) (λA R s=>A.in1.units+8 < cLine/\∃ k ks es,Ask s.heap k key/\iK s.heap d es/\Ents w s.heap ks es/\ks.Nodup /\
  (k ∉ ks->∀ tk,R (.ok (.ret dflt)) { s with toks:=tk })/\∀ (j:Nat) (e:DictEntry),ks[j]?=some k->es[j]?=some e->∀ tk,R (.ok (.ret e.val)) { s with toks:=tk }) :=
 .of_wp λA R s ⟨hu,k,ks,es,hk,hm,hes,hn,h1,h2⟩=>by
  show wpAny _ _ (dictGet d key >>= _) _ _ s
  refine wpAny_bind (DF hu hk hm hes hn (λh tk=>?_) λj e hj he tk=>wpAny_pure ⟨_,rfl,h2 j e hj he tk⟩)
  show wpAny _ _ (Builtin.Dict.missed d key >>= _) _ _ _
  exact wpAny_bind (wpAny_missed_other hd (wpAny_pure ⟨dflt,rfl,h1 h tk⟩))
theorem item_D {d:Addr}{es:List DictEntry}{ks:List PyData}{k:PyData}{key:Value}{Q:Value->Shared->Prop}(hu:A.in1.units+8 < cLine) (hk:Ask s.heap k key)
 (hm:iK s.heap d es) (hes:Ents w s.heap ks es) (hn:ks.Nodup) (hin:k∈ks)
 (hsome:∀ (j:Nat) (e:DictEntry),ks[j]?=some k->es[j]?=some e->∀ tk,Q e.val { s with toks:=tk }):wpAny (model prog w) A (getItem (.ref d) key) Q E s:=by
 unfold getItem
 refine wpAny_holding (wpAny_bind (wpAny_sequenceKey hm.typeIs (by decide) (wpAny_bind (wpAny_callSpecial?_slot (name:=Str.ofString "__getitem__") hm.typeIs slot_dict_getitem
  (wpAny_call_entry slot_dict_getitem hm.typeIs entry_dict_getitem ?_ (args_dict_getitem _ _))))))
 show wpAny _ _ (dictGet d key >>= _) _ _ s
 exact wpAny_bind (DF hu hk hm hes hn (λh _=>absurd hin h) λj e hj he tk=>wpAny_pure ⟨_,rfl,wpAny_pure (hsome j e hj he tk)⟩)
theorem put_D {d:Addr}{es:List DictEntry}{ks:List PyData}{k:PyData}{key v:Value}{Q:Unit->Shared->Prop}(hu:A.in1.units+8 < cLine) (hk:Ask s.heap k key)
 (hm:iK s.heap d es) (hes:Ents w s.heap ks es) (hn:ks.Nodup) (hsz:es.length <= sizeLine)
 (hQ:∀ (h':Heap) (tk:Nat) (es':List DictEntry),iK h' d es'->Heap.SameBut d s.heap h'->((k ∉ ks/\es'=es++[⟨hashD w k,key,v⟩])\/∃ j:Nat,ks[j]?=some k/\es'=es.modify j λe=>{ e with val:=v }) ->
  Q () { s with heap:=h',toks:=tk }):wpAny (model prog w) A (setItem (.ref d) key v) Q E s:=by
 unfold setItem
 refine wpAny_holding (wpAny_bind (wpAny_sequenceKey hm.typeIs (by decide) (wpAny_bind (wpAny_callSpecial?_slot (name:=Str.ofString "__setitem__") hm.typeIs slot_dict_setitem
  (wpAny_call_entry slot_dict_setitem hm.typeIs entry_dict_setitem ?_ (args_dict_setitem _ _ _))))))
 show wpAny _ _ (Builtin.Dict.notOrdered "__setitem__" ⟨[.ref d,key,v],[]⟩ >>= _) _ _ s
 refine wpAny_bind (wpAny_notOrdered_dict hm.typeIs ?_)
 show wpAny _ _ (dictSet d key v >>= _) _ _ s
 exact wpAny_bind (Ff hu hk hm hes hn hsz λh' tk es' a b c=>wpAny_pure ⟨.none,rfl,wpAny_pure (hQ h' tk es' a b c)⟩)
theorem keys_iter {d:Addr}{es:List DictEntry}{ep:Nat}{Q:Value->Shared->Prop}(hd:(d == sysModules)=false) (hm:DictE s.heap d es ep)
 (hQ:∀ h',h'.IsKeyIter s.heap.objs.size d 0 es.length ep->(∀ b o,s.heap.get? b=some o->h'.get? b=some o)->Q (.ref s.heap.objs.size) { s with heap:=h' }):wpAny (model prog w) A (pyIter (.ref d)) Q E s:=by
 obtain⟨o,ho,hc,hdat⟩:=id hm
 refine wpAny_pyIter_slot hm.typeIs F.slot_dict_iter (wpAny_call_entry F.slot_dict_iter hm.typeIs F.entry_dict_iter ?_ (F.args_dict_iter_1 _))
 unfold Builtin.«dict.__iter__» Builtin.Dict.dictSlotNone
 refine wpAny_bind (wpAny_bind (wpAny_notOrdered_dict hm.typeIs (wpAny_pure ?_)))
 have hne:¬ (d == sysModules)=true:=by rw[hd];decide
 unfold Builtin.Dict.showsAll
 refine wpAny_bind (wpAny_of_eq (a:=d) rfl (wpAny_bind ?_))
 rw[if_neg hne]
 refine wpAny_pure (wpAny_bind (wpAny_dictEntries ho hdat (wpAny_bind (wpAny_dictEpoch ho hdat ?_))))
 refine wpAny_bind (wpAny_newObj_type (wpAny_pure ⟨_,rfl,"dict_keyiterator",_,⟨_,Heap.get?_push_size _ rfl,rfl⟩,F.slot_dict_keyiterator_next.lookup,?_⟩))
 exact hQ _ ⟨_,Heap.get?_push_size _ rfl,rfl,by simp[rawInt]⟩ λb o' e=>Heap.get?_push_of_some _ e
theorem keys_next {it d:Addr}{i ep:Nat}{es:List DictEntry}{e:DictEntry}{Q:Option Value->Shared->Prop}(hit:s.heap.IsKeyIter it d i es.length ep) (hm:DictE s.heap d es ep) (hx:es[i]?=some e)
 (hQ:∀ h',h'.IsKeyIter it d (i+1) es.length ep->Heap.SameBut it s.heap h'->Q (some e.key) { s with heap:=h' }):wpAny (model prog w) A (pyNext (.ref it)) Q E s:=by
 obtain⟨o,ho,hc,hd⟩:=id hit
 obtain⟨od,hod,hcd,hdd⟩:=id hm
 obtain⟨hlt,he⟩:=List.getElem?_eq_some_iff.mp hx
 have hown:Builtin.Dict_items.ownsTuple "dict_keyiterator"=false:=by decide
 have hga:es.toArray[i]?=some e:=by rw[List.getElem?_toArray];exact hx
 unfold pyNext
 refine wpAny_bind (wpAny_attempt (wpAny_callSpecial?_slot (name:=Str.ofString "__next__") hit.typeIs F.slot_dict_keyiterator_next (wpAny_call_entry F.slot_dict_keyiterator_next hit.typeIs F.entry_dict_keyiterator_next ?_ (F.args_dict_keyiterator_next_1 _))))
 refine wpAny_bind (wpAny_pure (wpAny_bind (wpAny_bind ?_)))
 first|refine wpAny_bind (wpAny_typeNameOfWhole_keyiter hit.typeIs (wpAny_pure (wpAny_bind (wpAny_fieldsOf ho hd ?_))))|refine wpAny_bind (wpAny_typeNameOf_keyiter hit.typeIs (wpAny_pure (wpAny_bind (wpAny_fieldsOf ho hd ?_))))
 simp only[hown,Bool.false_eq_true,if_false]
 show wpAny _ _ (if (Value.ref d == Value.none)=true then _ else _) _ _ s
 rw[if_neg (show ¬ ((Value.ref d == Value.none)=true) from Bool.false_ne_true)]
 refine wpAny_bind (wpAny_pure (wpAny_bind (wpAny_dictEntries hod hdd ?_)))
 rw[if_neg (by simp)]
 refine wpAny_bind (wpAny_pure (wpAny_bind (wpAny_dictEpoch hod hdd ?_)))
 rw[if_neg (by simp)]
 refine wpAny_pure ?_
 simp only[show ¬ ((i:Int) < 0) from by omega,if_false,Int.toNat_natCast,hga]
 refine wpAny_bind ?_
 first|refine wpAny_bind (wpAny_typeNameOfWhole_keyiter hit.typeIs (wpAny_pure (wpAny_bind (wpAny_isOneOf_keyiter hit.typeIs ?_))))|refine wpAny_bind (wpAny_typeNameOf_keyiter hit.typeIs (wpAny_pure (wpAny_bind (wpAny_isOneOf_keyiter hit.typeIs ?_))))
 show wpAny _ _ (setField (.ref it) 1 (rawInt ((i:Int)+1)) >>= _) _ _ s
 have hit2:(s.heap.update it (Obj.mapFields (·.setIfInBounds 1 (rawInt ((i:Int)+1))))).IsKeyIter it d (i+1) es.length ep:=by
  refine⟨_,Heap.get?_update_self _ ho (Obj.isFreed_of_fields (Obj.data_mapFields hd _)),(Obj.cls_mapFields ..).trans hc,?_⟩
  rw[Obj.data_mapFields hd];simp[rawInt]
 refine wpAny_bind (wpAny_setField ho hd (by simp) (wpAny_bind (wpAny_holding ?_)))
 refine wpAny_bind (wpAny_isOneOf_keyiter (s:={ s with heap:=s.heap.update it (Obj.mapFields (·.setIfInBounds 1 (rawInt ((i:Int)+1)))) }) hit2.typeIs ?_)
 show wpAny _ _ (pure e.key) _ _ _
 exact wpAny_pure (wpAny_pure ⟨_,rfl,wpAny_pure (hQ _ hit2 (Heap.SameBut.update ..))⟩)
theorem keys_end {it d:Addr}{i ep:Nat}{es:List DictEntry}{Q:Option Value->Shared->Prop}(hh:A.handled=none) (hit:s.heap.IsKeyIter it d i es.length ep) (hm:DictE s.heap d es ep) (hx:es.length <= i)
 (hQ:∀ h',Heap.ExtBut it s.heap h'->Q none { s with heap:=h' }):wpAny (model prog w) A (pyNext (.ref it)) Q E s:=by
 obtain⟨o,ho,hc,hd⟩:=id hit
 obtain⟨od,hod,hcd,hdd⟩:=id hm
 have hown:Builtin.Dict_items.ownsTuple "dict_keyiterator"=false:=by decide
 have hga:es.toArray[i]?=none:=by rw[List.getElem?_toArray];exact List.getElem?_eq_none hx
 unfold pyNext
 refine wpAny_bind (wpAny_attempt (wpAny_callSpecial?_slot (name:=Str.ofString "__next__") hit.typeIs F.slot_dict_keyiterator_next (wpAny_call_entry F.slot_dict_keyiterator_next hit.typeIs F.entry_dict_keyiterator_next ?_ (F.args_dict_keyiterator_next_1 _))))
 refine wpAny_bind (wpAny_pure (wpAny_bind (wpAny_bind ?_)))
 first|refine wpAny_bind (wpAny_typeNameOfWhole_keyiter hit.typeIs (wpAny_pure (wpAny_bind (wpAny_fieldsOf ho hd ?_))))|refine wpAny_bind (wpAny_typeNameOf_keyiter hit.typeIs (wpAny_pure (wpAny_bind (wpAny_fieldsOf ho hd ?_))))
 simp only[hown,Bool.false_eq_true,if_false]
 show wpAny _ _ (if (Value.ref d == Value.none)=true then _ else _) _ _ s
 rw[if_neg (show ¬ ((Value.ref d == Value.none)=true) from Bool.false_ne_true)]
 refine wpAny_bind (wpAny_pure (wpAny_bind (wpAny_dictEntries hod hdd ?_)))
 rw[if_neg (by simp)]
 refine wpAny_bind (wpAny_pure (wpAny_bind (wpAny_dictEpoch hod hdd ?_)))
 rw[if_neg (by simp)]
 refine wpAny_pure ?_
 simp only[show ¬ ((i:Int) < 0) from by omega,if_false,Int.toNat_natCast,hga]
 refine wpAny_bind ?_
 first|refine wpAny_bind (wpAny_typeNameOfWhole_keyiter hit.typeIs (wpAny_pure ?_))|refine wpAny_bind (wpAny_typeNameOf_keyiter hit.typeIs (wpAny_pure ?_))
 show wpAny _ _ (setField (.ref it) 0 .none >>= _) _ _ s
 refine wpAny_bind (wpAny_setField ho hd (by simp) ?_)
 show wpAny _ _ (newExc (.type "StopIteration") [] >>= _) _ _ _
 refine wpAny_bind ?_
 simp only[newExc,newTuple]
 refine wpAny_bind (wpAny_newObj_type (wpAny_bind (m:=firstArgMember _ _) (wpAny_of_eq (a:=Value.none) (by first|rfl|(simp only[firstArgMember];rfl)) (wpAny_newObj_type ?_ (by size_fits)))) (by size_fits))
 simp only[raiseNew]
 refine wpAny_bind (wpAny_handled ?_)
 rw[show A.in1.handled=none from hh]
 refine wpAny_bind (wpAny_pure (wpAny_throw ?_))
 refine wpAny_bind (wpAny_isInstance (T:="StopIteration") (b:=true) ⟨_,Heap.get?_push_size _ rfl,rfl⟩ isSubtype_stop (wpAny_pure (hQ _ (((Heap.SameBut.update ..).extBut.push _).push _))))
end
end MX
namespace L2
open PySem PySem.Spec PyProof.Rows
mutual
def DV (H:Hp):PyData->V->Prop
|.none,x=>x=.non
|.bool b,x=>x=.bl b
|.int i,x=>x=.int i
|.str t,x=>x=.str t
|.list ds,x=>∃ (a:Addr) (vs:List V),x=.ref a/\H a=some (.lst vs)/\DVs H ds vs
|.tuple ds,x=>∃ (a:Addr) (vs:List V),x=.ref a/\H a=some (.tup vs)/\DVs H ds vs
|.dict _,_=>False
def DVs (H:Hp):List PyData->List V->Prop
|[],vs=>vs=[]
|d :: ds,vs=>∃ (v:V) (r:List V),vs=v :: r/\DV H d v/\DVs H ds r
end
section
variable {P:Program}{w:World}{H H':Hp}{h:Heap}
mutual
theorem DV.reads (ok:HOk P w H h):∀ (d:PyData) (x:V) (u:Value),DV H d x->bT x u->∃ as,Reads h u d as
|.none,_,_,e,r=>by cases e;cases r;exact⟨_,.none⟩
|.bool b,_,_,e,r=>by cases e;cases r;exact⟨_,.bool b⟩
|.int i,_,_,e,r=>by cases e;obtain⟨t,rfl⟩:=r;exact⟨_,.int i t⟩
|.str y,_,_,e,r=>by cases e;obtain⟨t,rfl⟩:=r;exact⟨_,.str y t⟩
|.list ds,_,_,e,r=>by
  obtain⟨a,vs,rfl,ha,hv⟩:=e
  cases r
  obtain⟨_,its,n,rv,hg⟩:=ok a _ ha
  obtain⟨as,q⟩:=DVs.reads ok ds vs its hv rv
  exact⟨_,.list hg rfl rfl (by simpa using q)⟩
|.tuple ds,_,_,e,r=>by
  obtain⟨a,vs,rfl,ha,hv⟩:=e
  cases r
  obtain⟨_,its,rv,o,hg,hc,n,hd⟩:=ok a _ ha
  obtain⟨as,q⟩:=DVs.reads ok ds vs its hv rv
  exact⟨_,.tuple hg hc hd (by simpa using q)⟩
|.dict _,_,_,e,_=>False.elim e
theorem DVs.reads (ok:HOk P w H h):∀ (ds:List PyData) (vs:List V) (us:List Value),DVs H ds vs->bC vs us->∃ as,ReadsAll h us ds as
|[],_,_,e,r=>by cases e;cases r;exact⟨_,.nil⟩
|d :: ds,_,_,e,r=>by
  obtain⟨v,vs,rfl,h1,h2⟩:=e
  cases r with
 |cons r1 r2 =>
   obtain⟨as,q1⟩:=DV.reads ok d _ _ h1 r1
   obtain⟨bs,q2⟩:=DVs.reads ok ds _ _ h2 r2
   exact⟨_,.cons q1 q2⟩
end
mutual
theorem DV.mono (hs:∀ b vs,H b=some (.lst vs)->H' b=some (.lst vs)) (ht:∀ b vs,H b=some (.tup vs)->H' b=some (.tup vs)):∀ (d:PyData) (x:V),DV H d x->DV H' d x
|.none,_,e=>e
|.bool _,_,e=>e
|.int _,_,e=>e
|.str _,_,e=>e
|.list ds,_,⟨a,vs,e,ha,hv⟩=>⟨a,vs,e,hs _ _ ha,DVs.mono hs ht ds vs hv⟩
|.tuple ds,_,⟨a,vs,e,ha,hv⟩=>⟨a,vs,e,ht _ _ ha,DVs.mono hs ht ds vs hv⟩
|.dict _,_,e=>e
theorem DVs.mono (hs:∀ b vs,H b=some (.lst vs)->H' b=some (.lst vs)) (ht:∀ b vs,H b=some (.tup vs)->H' b=some (.tup vs)):∀ (ds:List PyData) (vs:List V),DVs H ds vs->DVs H' ds vs
|[],_,e=>e
|d :: ds,_,⟨v,r,e,h1,h2⟩=>⟨v,r,e,DV.mono hs ht d v h1,DVs.mono hs ht ds r h2⟩
end
mutual
theorem DV.keep (ht:∀ b vs,H b=some (.tup vs)->H' b=some (.tup vs)):∀ (d:PyData) (x:V),MX.kd d=true->DV H d x->DV H' d x
|.int _,_,_,e=>e
|.str _,_,_,e=>e
|.tuple ds,_,k,⟨a,vs,e,ha,hv⟩=>⟨a,vs,e,ht _ _ ha,DVs.keep ht ds vs k hv⟩
|.none,_,k,_=>by cases k
|.bool _,_,k,_=>by cases k
|.list _,_,k,_=>by cases k
|.dict _,_,k,_=>by cases k
theorem DVs.keep (ht:∀ b vs,H b=some (.tup vs)->H' b=some (.tup vs)):∀ (ds:List PyData) (vs:List V),MX.kds ds=true->DVs H ds vs->DVs H' ds vs
|[],_,_,e=>e
|d :: ds,_,k,⟨v,r,e,h1,h2⟩=>by
  have k':(MX.kd d && MX.kds ds)=true:=k
  rw[Bool.and_eq_true]at k'
  exact⟨v,r,e,DV.keep ht d v k'.1 h1,DVs.keep ht ds r k'.2 h2⟩
end
theorem DVs.snoc:∀ {ds:List PyData}{vs:List V}{d:PyData}{v:V},DVs H ds vs->DV H d v->DVs H (ds++[d]) (vs++[v])
|[],_,d,v,e,h=>by cases e;exact⟨v,[],rfl,h,rfl⟩
|c :: ds,_,d,v,⟨v',r,e,h1,h2⟩,h=>by subst e;exact⟨v',r++[v],rfl,h1,DVs.snoc h2 h⟩
end
def tt (d:PyData):Prop:=d.canLay0=true/\d.depth <= 16
theorem tt.key {d:PyData}(h:MX.kd d=true) (h2:d.depth <= 8):tt d:=⟨MX.kd_lay d h,by omega⟩
theorem tt.int (i:Int):tt (.int i):=⟨rfl,by show 0 <= 16;decide⟩
def EV (neg:Bool):R2:=λx y H Q=>∃ d e,DV H d x/\DV H e y/\tt d/\tt e/\Q (.bl (if neg then !PyData.eqv d e else PyData.eqv d e)) H
section
variable {X:Cx}
theorem Ee (hu:X.A.units+64 < cLine):OpR X (compareOp .Eq) (EV false):=by
 intro pins s σ H x y v u Q I rx ry h
 obtain⟨d,e,h1,h2,l1,l2,q⟩:=h
 obtain⟨as,r1⟩:=DV.reads I.hok d x v h1 rx
 obtain⟨bs,r2⟩:=DV.reads I.hok e y u h2 ry
 exact SeqAt.compareEq_reads r1 r2 l1.1 l2.1 (by have:=l1.2;omega) ⟨.bl _,H,I,rfl,q⟩
theorem vp (hu:X.A.units+64 < cLine):OpR X (compareOp .NotEq) (EV true):=by
 intro pins s σ H x y v u Q I rx ry h
 obtain⟨d,e,h1,h2,l1,l2,q⟩:=h
 obtain⟨as,r1⟩:=DV.reads I.hok d x v h1 rx
 obtain⟨bs,r2⟩:=DV.reads I.hok e y u h2 ry
 exact SeqAt.neOverData X.prog X.w X.A X.xe s v u d e as bs _ r1 r2 l1.1 l2.1 (by have:=l1.2;omega) ⟨.bl _,H,I,rfl,q⟩
end
def km (a:Addr) (es:List DictEntry) (ep:Nat):HO:=.ext λh=>(a == sysModules)=false/\MX.DictE h a es ep
def xF (w:World) (H:Hp) (p:PyData × V) (e:DictEntry):Prop:=MX.kd p.1=true/\p.1.depth <= 8/\e.hash=MX.hashD w p.1/\(∃ x,bT x e.key/\DV H p.1 x)/\bT p.2 e.val
def MD (w:World) (H:Hp) (a:Addr) (kvs:List (PyData × V)):Prop:=∃ es ep,H a=some (km a es ep)/\Paired (xF w H) kvs es/\(kvs.map (·.1)).Nodup/\kvs.length <= sizeLine
def mv (H:Hp) (k:PyData) (y:V):Prop:=MX.kd k=true/\k.depth <= 8/\DV H k y/\((∃ t,y=.str t)\/∃ b,y=.ref b)
def cu (kvs:List (PyData × V)) (k:PyData):Option V:=(kvs.find? λp=>PyData.eqv p.1 k).map (·.2)
def tz (kvs:List (PyData × V)) (k:PyData) (v:V):List (PyData × V) :=
 if (kvs.any λp=>PyData.eqv p.1 k)=true then kvs.map (λp=>if PyData.eqv p.1 k=true then (p.1,v) else p) else kvs++[(k,v)]
theorem km.ok {P:Program}{w:World}{H:Hp}{h:Heap}{a:Addr}{es:List DictEntry}{ep:Nat}(hs:(a == sysModules)=false) (hm:MX.DictE h a es ep):cp P w H h a (km a es ep):=by
 refine⟨⟨hs,hm⟩,?_,λh1 h2 ⟨z,o,e,r⟩ k=>⟨z,o,k o e,r⟩⟩
 obtain⟨o,e,_⟩:=hm
 exact⟨o,e⟩
theorem km.of {P:Program}{w:World}{H:Hp}{h:Heap}{a:Addr}{es:List DictEntry}{ep:Nat}(ok:HOk P w H h) (e:H a=some (km a es ep)):(a == sysModules)=false/\MX.DictE h a es ep:=by
 obtain⟨q,_⟩:=ok a _ e
 exact q
theorem Paired.keys {w:World}{H:Hp}:∀ {kvs:List (PyData × V)}{es:List DictEntry},Paired (xF w H) kvs es->kvs.length=es.length
|_,_,.nil=>rfl
|_,_,.cons _ t=>by rw[List.length_cons,List.length_cons,Paired.keys t]
theorem qF {P:Program}{w:World}{H:Hp}{h:Heap}(ok:HOk P w H h):∀ {kvs:List (PyData × V)}{es:List DictEntry},Paired (xF w H) kvs es->MX.Ents w h (kvs.map (·.1)) es
|_,_,.nil=>.nil
|_,_,.cons ⟨k1,k2,k3,⟨x,rx,dx⟩,_⟩ t=>.cons ⟨k1,k2,DV.reads ok _ _ _ dx rx,k3⟩ (qF ok t)
theorem yY {P:Program}{w:World}{H:Hp}{h:Heap}{k:PyData}{y:V}{u:Value}(ok:HOk P w H h) (hk:mv H k y) (r:bT y u):MX.Ask h k u:=by
 obtain⟨k1,k2,k3,k4⟩:=hk
 refine⟨k1,k2,DV.reads ok _ _ _ k3 r,?_⟩
 rcases k4 with⟨t,rfl⟩|⟨b,rfl⟩
 . obtain⟨tk,rfl⟩:=r;exact .inl ⟨_,_,rfl⟩
 . cases r;exact .inr ⟨_,rfl⟩
section
variable {w:World}{H:Hp}
theorem eY {d e:PyData}(h1:MX.kd d=true) (h2:MX.kd e=true) (n:d≠e):PyData.eqv d e=false:=by
 cases q:PyData.eqv d e with
|false=>rfl
|true=>exact absurd ((MX.eqv_iff d e h1 h2).mp q) n
theorem cQ {d:PyData}(h1:MX.kd d=true):PyData.eqv d d=true:=(MX.eqv_iff d d h1 h1).mpr rfl
def KK (kvs:List (PyData × V)):Prop:=∀ p∈kvs,MX.kd p.1=true
theorem KK.of {kvs:List (PyData × V)}{es:List DictEntry}:Paired (xF w H) kvs es->KK kvs:=by
 intro r
 induction r with
|nil=>intro p h;cases h
|cons a _ ih =>
  intro p h
  rcases List.mem_cons.mp h with rfl|h
  . exact a.1
  . exact ih p h
theorem mw {k:PyData}(hk:MX.kd k=true):∀ {kvs:List (PyData × V)}{j:Nat},KK kvs->(kvs.map (·.1)).Nodup->(kvs.map (·.1))[j]?=some k->∃ v,kvs[j]?=some (k,v)/\cu kvs k=some v
|[],j,_,_,e=>by simp at e
|(a,v) :: r,0,kk,_,e=>by
  simp at e;subst e
  refine⟨v,rfl,?_⟩
  unfold cu
  rw[List.find?_cons,cQ hk];rfl
|(a,v) :: r,j+1,kk,nd,e=>by
  have nd':(a :: r.map (·.1)).Nodup:=nd
  obtain⟨n1,n2⟩:=List.nodup_cons.mp nd'
  have e':(r.map (·.1))[j]?=some k:=by simpa using e
  obtain⟨v',h1,h2⟩:=mw hk (λp h=>kk p (List.mem_cons_of_mem _ h)) n2 e'
  refine⟨v',by simpa using h1,?_⟩
  have ne:a≠k:=λz=>n1 (by rw[z];exact List.mem_of_getElem? e')
  unfold cu at h2 |-
  rw[List.find?_cons,eY (kk _ List.mem_cons_self) hk ne]
  exact h2
theorem qW {k:PyData}(hk:MX.kd k=true) {kvs:List (PyData × V)}(kk:KK kvs) (n:k ∉ kvs.map (·.1)):cu kvs k=none:=by
 unfold cu
 rw[List.find?_eq_none.mpr λp hp=>?_]
 . rfl
 . rw[eY (kk p hp) hk λz=>n (List.mem_map.mpr ⟨p,hp,z⟩)];decide
theorem yo {k:PyData}(hk:MX.kd k=true) {kvs:List (PyData × V)}(kk:KK kvs) (n:k ∉ kvs.map (·.1)) (v:V):tz kvs k v=kvs++[(k,v)]:=by
 unfold tz
 rw[if_neg]
 intro h
 obtain⟨p,hp,e⟩:=List.any_eq_true.mp h
 exact n (List.mem_map.mpr ⟨p,hp,(MX.eqv_iff _ _ (kk p hp) hk).mp e⟩)
theorem vN {k:PyData}(hk:MX.kd k=true) {kvs:List (PyData × V)}(kk:KK kvs) (n:k ∉ kvs.map (·.1)) (v:V):kvs.map (λp=>if PyData.eqv p.1 k=true then (p.1,v) else p)=kvs:=by
 induction kvs with
|nil=>rfl
|cons p r ih =>
  have hp:p.1≠k:=λz=>n (List.mem_map.mpr ⟨p,List.mem_cons_self,z⟩)
  rw[List.map_cons,eY (kk p List.mem_cons_self) hk hp,ih (λq h=>kk q (List.mem_cons_of_mem _ h)) λh=>n (by rw[List.map_cons];exact List.mem_cons_of_mem _ h)]
  simp
theorem Bx {k:PyData}(hk:MX.kd k=true) {v:V}{u:Value}(rv:bT v u):∀ {kvs:List (PyData × V)}{es:List DictEntry}{j:Nat},Paired (xF w H) kvs es->(kvs.map (·.1)).Nodup->(kvs.map (·.1))[j]?=some k ->
 Paired (xF w H) (kvs.map (λp=>if PyData.eqv p.1 k=true then (p.1,v) else p)) (es.modify j λe=>{ e with val:=u })
|_,_,j,.nil,_,e=>by simp at e
|(a,v') :: r,e0 :: es,0,.cons q t,nd,e=>by
  simp at e;subst e
  have nd':(a :: r.map (·.1)).Nodup:=nd
  rw[List.map_cons,cQ hk,vN hk (KK.of t) (List.nodup_cons.mp nd').1]
  exact .cons ⟨q.1,q.2.1,q.2.2.1,q.2.2.2.1,rv⟩ t
|(a,v') :: r,e0 :: es,j+1,.cons q t,nd,e=>by
  have nd':(a :: r.map (·.1)).Nodup:=nd
  obtain⟨n1,n2⟩:=List.nodup_cons.mp nd'
  have e':(r.map (·.1))[j]?=some k:=by simpa using e
  have ne:a≠k:=λz=>n1 (by rw[z];exact List.mem_of_getElem? e')
  rw[List.map_cons,eY q.1 hk ne]
  exact .cons q (Bx hk rv t n2 e')
theorem E4 {k:PyData}(hk:MX.kd k=true) {kvs:List (PyData × V)}{j:Nat}(e:(kvs.map (·.1))[j]?=some k):(kvs.any λp=>PyData.eqv p.1 k)=true:=by
 obtain⟨p,hp,z⟩:=List.mem_map.mp (List.mem_of_getElem? e)
 exact List.any_eq_true.mpr ⟨p,hp,by rw[z];exact cQ hk⟩
theorem yh {k:PyData}{v:V}{kvs:List (PyData × V)}:(kvs.map (λp=>if PyData.eqv p.1 k=true then (p.1,v) else p)).map (·.1)=kvs.map (·.1):=by
 rw[List.map_map]
 congr 1
 funext p
 show (if PyData.eqv p.1 k=true then (p.1,v) else p).1=p.1
 split<;>rfl
theorem zX (kvs:List (PyData × V)) (k:PyData) (v:V):(tz kvs k v).length <= kvs.length+1:=by
 unfold tz
 split
 . rw[List.length_map];omega
 . rw[List.length_append];exact Nat.le_refl _
end
section
variable {w:World}{H H':Hp}{a:Addr}{kvs:List (PyData × V)}
theorem xF.keep (ht:∀ b vs,H b=some (.tup vs)->H' b=some (.tup vs)) {p:PyData × V}{e:DictEntry}(q:xF w H p e):xF w H' p e:=by
 obtain⟨k1,k2,k3,⟨x,rx,dx⟩,k5⟩:=q
 exact⟨k1,k2,k3,⟨x,rx,DV.keep ht _ _ k1 dx⟩,k5⟩
theorem MD.keep (m:MD w H a kvs) (ha:H' a=H a) (ht:∀ b vs,H b=some (.tup vs)->H' b=some (.tup vs)):MD w H' a kvs:=by
 obtain⟨es,ep,h1,h2,h3⟩:=m
 exact⟨es,ep,by rw[ha];exact h1,Paired.mapP h2 λ_ _ q=>q.keep ht,h3⟩
end
section
variable {X:Cx}{pins:List (Addr × Obj)}{σ:St}{H:Hp}{s:Shared}{a:Addr}{kvs:List (PyData × V)}{k:PyData}{y v d:V}{u r:Value}{A:Around}{E:Value->Shared->Prop}
theorem Fo {A:Around}(hu:A.units+64 < cLine):A.in1.units+8 < cLine:=by
 rw[Around.in1_units];omega
theorem CF {Q:Value->Shared->Prop}(hu:A.units+64 < cLine) (I:Inv X pins σ H s) (m:MD X.w H a kvs) (hk:mv H k y) (ry:bT y u) (rd:bT d r) (h:∀ w' s',Inv X pins σ H s'->bT ((cu kvs k).getD d) w'->Q w' s') :
 wpAny (model X.prog X.w) A (call (.builtin "dict.get") [.ref a,u,r]) Q E s:=by
 obtain⟨es,ep,h1,h2,h3,h4⟩:=m
 obtain⟨hs,hme⟩:=km.of I.hok h1
 have hm:=hme.es
 refine call_meetsIn PySem.F.slot_dict_get hm.typeIs PySem.F.entry_dict_get (PySem.F.args_dict_get_3 _ _ _) (MX.meets_D a u r hs) ⟨Fo hu,k,_,es,yY I.hok hk ry,hm,qF I.hok h2,h3,λn tk=>h _ _ (I.tok _) ?_,λj e hj he tk=>h _ _ (I.tok _) ?_⟩
 . rw[qW hk.1 (KK.of h2) n];exact rd
 . obtain⟨v',g1,g2⟩:=mw hk.1 (KK.of h2) h3 hj
   rw[g2]
   obtain⟨p,e1,e2⟩:=MX.f2_get h2 j e he
   rw[g1]at e1;cases e1
   exact e2.2.2.2.2
theorem D6 {Q:Value->Shared->Prop}(hu:A.units+64 < cLine) (I:Inv X pins σ H s) (m:MD X.w H a kvs) (hk:mv H k y) (ry:bT y u) (hl:cu kvs k=some v) (h:∀ w' s',Inv X pins σ H s'->bT v w'->Q w' s') :
 wpAny (model X.prog X.w) A (getItem (.ref a) u) Q E s:=by
 obtain⟨es,ep,h1,h2,h3,h4⟩:=m
 obtain⟨hs,hme⟩:=km.of I.hok h1
 have hm:=hme.es
 have hin:k∈kvs.map (·.1):=Classical.byContradiction λn=>by rw[qW hk.1 (KK.of h2) n]at hl;cases hl
 refine MX.item_D (Fo hu) (yY I.hok hk ry) hm (qF I.hok h2) h3 hin λj e hj he tk=>h _ _ (I.tok _) ?_
 obtain⟨v',g1,g2⟩:=mw hk.1 (KK.of h2) h3 hj
 rw[g2]at hl;cases hl
 obtain⟨p,e1,e2⟩:=MX.f2_get h2 j e he
 rw[g1]at e1;cases e1
 exact e2.2.2.2.2
theorem Dj {Q:Unit->Shared->Prop}(hu:A.units+64 < cLine) (I:Inv X pins σ H s) (m:MD X.w H a kvs) (hl:kvs.length < sizeLine) (hk:mv H k y) (ry:bT y u) (rv:bT v r)
 (h:∀ H' s',Inv X pins σ H' s'->(∀ b,b≠a->H' b=H b)->MD X.w H' a (tz kvs k v)->Q () s'):wpAny (model X.prog X.w) A (setItem (.ref a) u r) Q E s:=by
 obtain⟨es,ep,h1,h2,h3,h4⟩:=m
 obtain⟨hs,hme⟩:=km.of I.hok h1
 have hm:=hme.es
 have kk:=KK.of h2
 have hz:es.length <= sizeLine:=by rw[<-Paired.keys h2];omega
 refine MX.put_D (Fo hu) (yY I.hok hk ry) hm (qF I.hok h2) h3 hz λh' tk es' hm' hsb hor=>?_
 obtain⟨ep',hm2⟩:=hm'.ep
 have I':Inv X pins σ (upd H a (km a es' ep')) { s with heap:=h',toks:=tk }:=qP I (by rw[h1];exact True.intro) hsb (let ⟨o,e,_⟩:=hm2;⟨o,e⟩) (km.ok hs hm2)
 refine h _ _ I' (λb hb=>ag hb) ⟨es',ep',a8,?_⟩
 have ht:∀ b vs,H b=some (.tup vs)->upd H a (km a es' ep') b=some (.tup vs):=λb vs e=>by
  rw[ag (hZ e h1 (by intro z;cases z))];exact e
 rcases hor with⟨n,rfl⟩|⟨j,hj,rfl⟩
 . rw[yo hk.1 kk n]
   refine⟨?_,?_,by rw[List.length_append];show kvs.length+1 <= sizeLine;omega⟩
   . refine Paired.snoc (Paired.mapP h2 λ_ _ q=>q.keep ht) ⟨hk.1,hk.2.1,rfl,⟨y,ry,DV.keep ht _ _ hk.1 hk.2.2.1⟩,rv⟩
   . rw[List.map_append]
     exact nd_snocP h3 n
 . have e:tz kvs k v=kvs.map (λp=>if PyData.eqv p.1 k=true then (p.1,v) else p):=by
    unfold tz;rw[if_pos (E4 hk.1 hj)]
   rw[e]
   exact⟨Paired.mapP (Bx hk.1 rv h2 h3 hj) λ_ _ q=>q.keep ht,by rw[yh];exact h3,by rw[List.length_map];exact h4⟩
where
 nd_snocP {l:List PyData} {k:PyData} (hn:l.Nodup) (hk:k ∉ l):(l++[k]).Nodup:=by
  rw[List.nodup_append]
  exact⟨hn,by simp,λx hx y hy=>by
   rw[List.mem_singleton.mp hy];exact λz=>hk (z ▸ hx)⟩
end
end L2
namespace L2
open PySem PySem.Spec PyProof.Rows
def Fk:TE:=λ_ H Q=>∀ p,H p=none->Q (.ref p) (upd H p (km p [] 0))
def ER (w:World) (td ty tv:TE):TS:=λD σ H=>tv σ H λv H1=>td σ H1 λx H2=>ty σ H2 λy H3=>∃ a kvs k,x=.ref a/\MD w H3 a kvs/\kvs.length < sizeLine/\mv H3 k y /\
 ∀ H4,(∀ b,b≠a->H4 b=H3 b)->MD w H4 a (tz kvs k v)->D.nx σ H4
def Dk (w:World) (td ty tx:TE):TE:=λσ H Q=>td σ H λx H1=>∃ a,x=.ref a/\(∃ kvs,MD w H1 a kvs)/\ty σ H1 λy H2=>tx σ H2 λz H3=>∃ kvs k,MD w H3 a kvs/\mv H3 k y/\Q ((cu kvs k).getD z) H3
def BG (w:World) (td ty:TE):TE:=λσ H Q=>td σ H λx H1=>ty σ H1 λy H2=>∃ a kvs k v,x=.ref a/\MD w H2 a kvs/\mv H2 k y/\cu kvs k=some v/\Q v H2
section
variable {X:Cx}{o i e f value:Expr}{pos pos' apos cpos:Pos}{td ty tv tx:TE}
theorem Ca:PE X (.Dict [] [] pos) Fk:=λpins s σ H Q I h =>
 wpAny_Dict_empty ⟨.ref s.heap.objs.size,_,I.laid (a:=s.heap.objs.size) (o:=km s.heap.objs.size [] 0) (t':=s.toks) (λ_ _ q=>Heap.get?_push_of_some _ q) (Nat.le_refl _)
  (km.ok (beq_eq_false_iff_ne.mpr (Ne.symm (Nat.ne_of_lt I.big))) ⟨_,Heap.get?_push_size _ rfl,⟨rfl,rfl,rfl⟩,rfl⟩),rfl,h _ (I.hok.fresh (Nat.le_refl _))⟩
theorem CW (hu:X.A.units+64 < cLine) (ho:PE X o td) (hi:PE X i ty) (hv:PE X value tv) (hs:swapsWith value (some (.Subscript o i pos')) pos.line X.env=pure false) :
 PS X (.Assign [.Subscript o i pos'] value pos) (ER X.w td ty tv):=by
 intro pins s σ H D I h
 refine wpAny_Assign_Subscript (thn (hv pins s σ H _ I h) λr s1 ⟨v,H1,I1,rv,q1⟩=>thn (ho pins s1 σ H1 _ I1 q1) λu s2 ⟨x,H2,I2,rx,q2⟩=>thn (hi pins s2 σ H2 _ I2 q2) λiv s3 ⟨y,H3,I3,ry,a,kvs,k,ex,m,hl,hk,q3⟩=>?_) hs
 subst ex
 obtain rfl:u=Value.ref a:=rx
 exact Dj hu I3 m hl hk ry rv λH4 s4 I4 g1 g2=>⟨σ,H4,I4,q3 H4 g1 g2⟩
theorem Ah (hu:X.A.units+64 < cLine) (ho:PE X o td) (he:PE X e ty) (hf:PE X f tx) (m:M2 X o "get" apos e f cpos):PE X (.Call (.Attribute o "get" apos) [e,f] [] cpos) (Dk X.w td ty tx):=by
 intro pins s σ H Q I h
 refine wpAny_Call_method m.base m.few m.line PySem.F.plainAttrs_dict PySem.F.slot_dict_get PySem.F.type_dict_get (thn (ho pins s σ H _ I h) λu s1 ⟨x,H1,I1,rx,a,ex,⟨kv0,es,ep,e1,_⟩,q1⟩=>?_)
 subst ex
 obtain rfl:u=Value.ref a:=rx
 obtain⟨_,ob,g1,g2,g3⟩:=km.of I1.hok e1
 refine⟨⟨ob,g1,g2.1⟩,λb eb=>by injection eb with eb;subst eb;exact⟨ob,g1,g2.2.1⟩,?_⟩
 rw[m.trees]
 refine Calls.callWith_builtin rfl (Calls.evalArgs_plain (Calls.spliced_cons (thn (he pins s1 σ H1 _ I1 q1) λiv s2 ⟨y,H2,I2,ry,q2⟩ =>
  Calls.spliced_cons (thn (hf pins s2 σ H2 _ I2 q2) λfv s3 ⟨z,H3,I3,rz,kvs,k,md,hk,q3⟩=>Calls.spliced_nil ?_))))
 exact CF hu I3 md hk ry rz λw' s4 I4 rw'=>⟨_,H3,I4,rw',q3⟩
theorem AI (hu:X.A.units+64 < cLine) (ho:PE X o td) (hi:PE X i ty) (hs:FP i):PE X (.Subscript o i pos) (BG X.w td ty):=by
 intro pins s σ H Q I h
 refine BZ (T:="dict") (id:="dict.__getitem__") slot_dict_getitem.lookup hs (thn (ho pins s σ H _ I h) λu s1 ⟨x,H1,I1,rx,q1⟩=>thn (hi pins s1 σ H1 _ I1 q1) λiv s2 ⟨y,H2,I2,ry,a,kvs,k,v,ex,md,hk,hl,q⟩=>?_)
 subst ex
 obtain rfl:u=Value.ref a:=rx
 obtain⟨es,ep,e1,_⟩:=id md
 obtain⟨_,ob,g1,g2,g3⟩:=km.of I2.hok e1
 exact⟨⟨ob,g1,g2.1⟩,D6 hu I2 md hk ry hl λw' s4 I4 rw'=>⟨v,H2,I4,rw',q⟩⟩
end
def Itv (K:PySem.W.Frag) (a:Addr) (n:Nat):It :=
 ⟨λi H=>i < n/\∃ xs,SqL K H a xs/\xs.length=n,λi H x H'=>H'=H/\∀ xs,SqL K H a xs->xs[n - 1 - i]?=some x,λi _=>i=n⟩
theorem AK {P:Program}{w:World}{K:PySem.W.Frag}{tg:Expr}(a it:Addr) (n:Nat):Turn P w K tg (Itv K a n) [it] it (λi h=>h.IsRevIter it a ((n:Int) - 1 - i)) where
 mem:=List.mem_singleton.mpr rfl
 obj:=λi h st b hb=>by
  obtain rfl:b=it:=List.mem_singleton.mp hb
  obtain⟨o,e,c,d⟩:=st
  exact⟨o,e,λv z=>by rw[d]at z;cases z⟩
 keep:=λi h h' st k=>st.at λo e=>k it (List.mem_singleton.mpr rfl) o e
 item:=by
  intro X hP hw hK hc i pins s σ H E I hf st hg
  subst hP hw hK
  obtain⟨hi,xs,hq,hn⟩:=hg
  obtain⟨its,rv,p,hz⟩:=I.list hq
  have hlt:n - 1 - i < xs.length:=by omega
  obtain⟨u,hu,ru⟩:=rv.get (List.getElem?_eq_getElem hlt)
  obtain⟨f0,f1,f2,f3,f4,f5⟩:=hf it (List.mem_singleton.mpr rfl)
  have ei:(n:Int) - 1 - i=((n - 1 - i:Nat):Int):=by omega
  rw[ei]at st
  refine wpAny_pyNext_rev_item st p.isList (x:=u) (by simpa using hu) λh' st' sb=>?_
  have I1:Inv X pins σ H { s with heap:=h' }:=I.turned (t':=s.toks) (λb o hb e=>(sb.2 b hb).trans e) f0 f1 f3 f4 f5
  have ej:((n - 1 - i:Nat):Int) - 1=(n:Int) - 1 - ((i+1:Nat):Int):=by omega
  rw[ej]at st'
  obtain⟨o,e,c,d⟩:=id st'
  exact⟨u,rfl,yt (s:={ s with heap:=h' }) e c d (by decide) ⟨_,H,I1,ru,⟨rfl,λys hy=>by rw[I.list_inj hy hq];exact List.getElem?_eq_getElem hlt⟩,st',λb hb=>(hf b hb).1⟩⟩
 done:=by
  intro X hP hw hK hc i pins s σ H E I hf st hg
  subst hP hw hK
  obtain⟨f0,f1,f2,f3,f4,f5⟩:=hf it (List.mem_singleton.mpr rfl)
  have hg':i=n:=hg
  have ei:(n:Int) - 1 - i=-1:=by omega
  rw[ei]at st
  exact wpAny_pyNext_rev_end (I.ok.hd hc) st λh' eb=>⟨rfl,I.turned (t':=s.toks) (λb o hb e=>eb b o hb e) f0 f1 f3 f4 f5⟩
 self:=λ_ _ _ _ _ st h=>wpAny_pyIter_revIter st h
def G0 (K:PySem.W.Frag) (ta:TA):TI:=λσ H R=>ta σ H λvs H1=>∃ a xs,vs=[.ref a]/\SqL K H1 a xs/\R (Itv K a xs.length) H1
section
variable {X:Cx}{tg:Expr}
theorem EA {l:Expr}{ta:TA}{p pos:Pos}(hg:Gl X "reversed") (hm:X.mg "reversed"=none) (ha:PA X [l] ta) (hs:starEach [l] X.env=[(false,eval l X.env)]:=by rfl):PI X tg (.Call (.Name "reversed" p) [l] [] pos) (G0 X.K ta):=by
 intro pins s σ H R I h
 refine Call_ (nP I hg hm ue (PyProof.Rows.callWith_type1 (thn (ha pos pins s σ H _ I h) λus s1 ⟨vs,H1,I1,r1,a,xs,ev,hq,q⟩=>?_) hs rfl))
 subst ev
 obtain⟨u,rfl,ru⟩:=nq r1
 cases ru
 obtain⟨its,rv,pl,hz⟩:=I1.list hq
 have hlen:=rv.length
 refine call_reversed_list pl.isList ?_
 have sz:((its.toArray.size:Nat):Int) - 1=(xs.length:Int) - 1 - ((0:Nat):Int):=by simp;omega
 rw[sz]
 have st0:(s1.heap.push (revObj a ((xs.length:Int) - 1 - ((0:Nat):Int)))).IsRevIter s1.heap.objs.size a ((xs.length:Int) - 1 - ((0:Nat):Int)):=⟨_,Heap.get?_push_size _ rfl,rfl,rfl⟩
 refine wpAny_pyIter_revIter (s:={ s1 with heap:=s1.heap.push (revObj a ((xs.length:Int) - 1 - ((0:Nat):Int))) }) st0 ?_
 refine⟨s1.heap.objs.size,[s1.heap.objs.size],_,_,H1,rfl,I1.kept (t':=s1.toks) λb o e=>Heap.get?_push_of_some _ e,AK a _ xs.length,st0,λb hb=>?_,q⟩
 obtain rfl:b=s1.heap.objs.size:=List.mem_singleton.mp hb
 exact I1.fpOk (Nat.le_refl _) (I1.hok.fresh (Nat.le_refl _))
theorem Ce {K:PySem.W.Frag}{a:Addr}{xs:List V}{g:TG}{tb:TS}{D:Ends}{σ:St}{H:Hp}(Pv:Nat->St->Hp->Prop) (h0:Pv 0 σ H) (hl:∀ i σ H,i <= xs.length->Pv i σ H->SqL K H a xs)
 (hs:∀ i x σ H,i < xs.length->xs[xs.length - 1 - i]?=some x->Pv i σ H->g x σ H λσ2 H2=>tb { D with nx:=Pv (i+1),ct:=Pv (i+1),bk:=D.nx } σ2 H2) (hd:∀ σ H,Pv xs.length σ H->D.nx σ H) :
 ∃ W:Nat->Nat->St->Hp->Prop,(∃ m,W 0 m σ H)/\∀ i m σ H,W i m σ H->((Itv K a xs.length).stop i H/\D.nx σ H)\/((Itv K a xs.length).go i H/\∃ N:St->Hp->Prop,(∀ σ' H',N σ' H'->∃ m',m' < m/\W (i+1) m' σ' H') /\
  ∀ x H',(Itv K a xs.length).yld i H x H'->g x σ H' λσ2 H2=>tb { D with nx:=N,ct:=N,bk:=D.nx } σ2 H2):=by
 refine⟨λi m σ H=>Pv i σ H/\i <= xs.length/\m=xs.length - i,⟨_,h0,Nat.zero_le _,rfl⟩,?_⟩
 rintro i m σ H ⟨hp,hi,rfl⟩
 by_cases z:i=xs.length
 . subst z
   exact .inl ⟨rfl,hd σ H hp⟩
 . have hlt:i < xs.length:=by omega
   refine .inr ⟨⟨hlt,xs,hl i σ H hi hp,rfl⟩,Pv (i+1),λσ' H' q=>⟨xs.length - (i+1),by omega,q,hlt,rfl⟩,?_⟩
   rintro x H' ⟨rfl,hx⟩
   exact hs i x σ H' hlt (hx xs (hl i σ H' hi hp)) hp
end
def Gi (K:PySem.W.Frag) (neg:Bool):R2:=λx y H Q=>∃ a b xs,x=.ref a/\y=.ref b/\SqL K H a xs/\SqL K H b []/\Q (.bl (if neg then !xs.isEmpty else xs.isEmpty)) H
section
variable {X:Cx}
theorem vm (hu:X.A.units+64 < cLine):OpR X (compareOp .NotEq) (Gi X.K true):=by
 intro pins s σ H x y v u Q I rx ry h
 obtain⟨a,b,xs,rfl,rfl,h1,h2,q⟩:=h
 cases rx
 cases ry
 obtain⟨its,r1,p1,_⟩:=I.list h1
 obtain⟨it2,r2,p2,_⟩:=I.list h2
 have e2:it2=[]:=bC.zero r2
 subst e2
 have hl:=r1.length
 cases xs with
|nil =>
  have e1:its=[]:=bC.zero r1
  subst e1
  exact SeqAt.RcNeAt.lists (e:=λ_=>true) p1.isList p2.isList rfl (by omega) (λj h1 _=>absurd h1 (Nat.not_lt_zero _)) X.prog X.w X.xe _ ⟨.bl false,H,I,rfl,q⟩
|cons z zs =>
  have hne:(its.toArray.size != ([]:List Value).toArray.size)=true:=by
   rw[List.length_cons]at hl
   rw[bne_iff_ne,List.size_toArray,List.size_toArray,List.length_nil]
   omega
  exact SeqAt.RcNeAt.lists_lengths p1.isList p2.isList hne (by omega) X.prog X.w X.xe _ ⟨.bl true,H,I,rfl,q⟩
end
def Itm (w:World) (a:Addr) (es:List DictEntry) (ep:Nat) (kvs:List (PyData × V)):It :=
 ⟨λi H=>H a=some (km a es ep)/\Paired (xF w H) kvs es/\i < kvs.length,λi H x H'=>H'=H/\∃ k v,kvs[i]?=some (k,v)/\mv H k x,λi H=>H a=some (km a es ep)/\kvs.length=es.length/\kvs.length <= i⟩
def EH (kvs:List (PyData × V)):Prop:=∀ p∈kvs,(∃ t,p.1=.str t)\/∃ ds,p.1=.tuple ds
theorem xn {P:Program}{w:World}{K:PySem.W.Frag}{tg:Expr}(a it:Addr) (es:List DictEntry) (ep:Nat) (kvs:List (PyData × V)) (top:EH kvs) (hlen:kvs.length=es.length):Turn P w K tg (Itm w a es ep kvs) [it] it (λi h=>h.IsKeyIter it a i es.length ep) where
 mem:=List.mem_singleton.mpr rfl
 obj:=λi h st b hb=>by
  obtain rfl:b=it:=List.mem_singleton.mp hb
  obtain⟨o,e,c,d⟩:=st
  exact⟨o,e,λv z=>by rw[d]at z;cases z⟩
 keep:=λi h h' st k=>st.at λo e=>k it (List.mem_singleton.mpr rfl) o e
 item:=by
  intro X hP hw hK hc i pins s σ H E I hf st hg
  subst hP hw hK
  obtain⟨h1,h2,hi⟩:=hg
  obtain⟨hs,hm⟩:=km.of I.hok h1
  have hx:=List.getElem?_eq_getElem hi
  obtain⟨e,he,k1,k2,k3,⟨x,rx,dx⟩,k5⟩:=MX.f2_get' h2 i _ hx
  obtain⟨f0,f1,f2,f3,f4,f5⟩:=hf it (List.mem_singleton.mpr rfl)
  refine MX.keys_next st hm he λh' st' sb=>?_
  have I1:Inv X pins σ H { s with heap:=h' }:=I.turned (t':=s.toks) (λb o hb e=>(sb.2 b hb).trans e) f0 f1 f3 f4 f5
  obtain⟨o,e',c,d⟩:=id st'
  refine⟨e.key,rfl,yt (s:={ s with heap:=h' }) e' c d (by decide) ⟨x,H,I1,rx,⟨rfl,_,_,hx,k1,k2,dx,?_⟩,st',λb hb=>(hf b hb).1⟩⟩
  rcases top _ (List.mem_of_getElem? hx) with⟨t,z⟩|⟨ds,z⟩
  . rw[z]at dx;exact .inl ⟨t,dx⟩
  . rw[z]at dx;obtain⟨b,_,e2,_⟩:=dx;exact .inr ⟨b,e2⟩
 done:=by
  intro X hP hw hK hc i pins s σ H E I hf st hg
  subst hP hw hK
  obtain⟨h1,h2,hi⟩:=hg
  obtain⟨hs,hm⟩:=km.of I.hok h1
  obtain⟨f0,f1,f2,f3,f4,f5⟩:=hf it (List.mem_singleton.mpr rfl)
  exact MX.keys_end (I.ok.hd hc) st hm (by omega) λh' eb=>⟨rfl,I.turned (t':=s.toks) (λb o hb e=>eb b o hb e) f0 f1 f3 f4 f5⟩
 self:=λ_ _ _ _ _ st h=>wpAny_pyIter_keyiter st h
def Fs (w:World) (tl:TE):TI:=λσ H R=>tl σ H λx H1=>∃ a es ep kvs,x=.ref a/\H1 a=some (km a es ep)/\Paired (xF w H1) kvs es/\EH kvs/\R (Itm w a es ep kvs) H1
theorem BN {X:Cx}{tg l:Expr}{tl:TE}(hl:PE X l tl):PI X tg l (Fs X.w tl):=by
 intro pins s σ H R I h
 refine thn (hl pins s σ H _ I h) λv s1 ⟨x,H1,I1,r1,a,es,ep,kvs,ex,h1,h2,top,q⟩=>?_
 subst ex
 cases r1
 obtain⟨hs,hm⟩:=km.of I1.hok h1
 refine MX.keys_iter hs hm λh' st hk=>?_
 refine⟨s1.heap.objs.size,[s1.heap.objs.size],_,_,H1,rfl,I1.kept (t':=s1.toks) hk,xn a _ es ep kvs top (Paired.keys h2),st,λb hb=>?_,q⟩
 obtain rfl:b=s1.heap.objs.size:=List.mem_singleton.mp hb
 exact I1.fpOk (Nat.le_refl _) (I1.hok.fresh (Nat.le_refl _))
end L2
namespace L2
open PySem PySem.Spec PyProof.Rows
theorem nhr:¬ (("held":Str)="rows"):=by decide +kernel
def stF (hd rl:Addr):List (Str × V):=bP "rows" (.ref rl) (bP "held" (.ref hd) [])
theorem mI {hd rl:Addr}:(stF hd rl).lookup ("held":Str)=some (.ref hd):=by
 unfold stF
 rw[aa,if_neg nhr,aa,if_pos rfl]
theorem jm {hd rl:Addr}:(stF hd rl).lookup ("rows":Str)=some (.ref rl):=by
 unfold stF
 rw[aa,if_pos rfl]
theorem cw {hd rl:Addr}{m:Str}(h1:¬ m="rows") (h2:¬ m="held"):(stF hd rl).lookup m=none:=by
 unfold stF
 rw[aa,if_neg h1,aa,if_neg h2]
 all_goals rfl
def sdI:Bool->Int
|false=>0
|true=>1
theorem pJ {l:Bool->Addr}(b:Bool):atI [V.ref (l false),V.ref (l true)] (sdI b)=some (.ref (l b)):=by
 cases b<;>rfl
theorem mv.keep {H H':Hp}{k:PyData}{y:V}(h:mv H k y) (ht:∀ b vs,H b=some (.tup vs)->H' b=some (.tup vs)):mv H' k y :=
 ⟨h.1,h.2.1,DV.keep ht _ _ h.1 h.2.2.1,h.2.2.2⟩
def Wt (H:Hp) (p:PyData × V) (tv:V):Prop:=∃ t cv,tv=.ref t/\H t=some (.tup [cv,p.2])/\mv H p.1 cv
theorem Wt.keep {H H':Hp}{p:PyData × V}{tv:V}(h:Wt H p tv) (ht:∀ b vs,H b=some (.tup vs)->H' b=some (.tup vs)):Wt H' p tv:=by
 obtain⟨t,cv,e,h1,h2⟩:=h
 exact⟨t,cv,e,ht _ _ h1,h2.keep ht⟩
def zp (H:Hp) (l:Addr) (es:List (PyData × V)):Prop:=∃ ts:List V,H l=some (.lst ts)/\Paired (Wt H) es ts
theorem zp.keep {H H':Hp}{l:Addr}{es:List (PyData × V)}(h:zp H l es) (hl:∀ o,H l=some o->H' l=some o) (ht:∀ b vs,H b=some (.tup vs)->H' b=some (.tup vs)):zp H' l es:=by
 obtain⟨ts,h1,h2⟩:=h
 exact⟨ts,hl _ h1,Paired.mapP h2 λ_ _ q=>q.keep ht⟩
theorem bA {α β:Type}{F:α->β->Prop}:∀ {xs:List α}{ys:List β},Paired F xs ys->xs.length=ys.length
|_,_,.nil=>rfl
|_,_,.cons _ t=>by rw[List.length_cons,List.length_cons,bA t]
def bt {α:Type}(r:Bool->α) (b:Bool) (v:α):Bool->α:=λc=>if c=b then v else r c
theorem aS {α:Type}{r:Bool->α}{b:Bool}{v:α}:bt r b v b=v:=if_pos rfl
theorem ff {α:Type}{r:Bool->α}{b c:Bool}{v:α}(h:c≠b):bt r b v c=r c:=if_neg h
structure Sto (w:World) (C:Addr) (H:Hp) (x hd rl:Addr) (l:Bool->Addr) (M:List (PyData × V)) (r:Bool->List (PyData × V)):Prop where
 ob:∃ dx,H x=some (.ins C dx (stF hd rl))
 me:MD w H hd M
 ro:H rl=some (.lst [.ref (l false),.ref (l true)])
 rw:∀ b,zp H (l b) (r b)
 nl:l false≠l true
 nr:∀ b,l b≠rl
def Kp (xs:List Addr) (H H':Hp):Prop:=∀ c o,c ∉ xs->H c=some o->H' c=some o
theorem Kp.refl (xs:List Addr) (H:Hp):Kp xs H H:=λ_ _ _ e=>e
theorem Kp.trans {xs:List Addr}{H H1 H2:Hp}(a:Kp xs H H1) (b:Kp xs H1 H2):Kp xs H H2:=λc o n e=>b c o n (a c o n e)
theorem Kp.mono {xs ys:List Addr}{H H':Hp}(a:Kp xs H H') (h:∀ c,c∈xs->c∈ys):Kp ys H H':=λc o n e=>a c o (λz=>n (h c z)) e
section
variable {w:World}{C:Addr}{H H':Hp}{x hd rl:Addr}{l:Bool->Addr}{M:List (PyData × V)}{r:Bool->List (PyData × V)}
theorem MD.there (m:MD w H hd M):∃ ee:List DictEntry × Nat,H hd=some (km hd ee.1 ee.2):=let ⟨es,ep,h,_⟩:=m;⟨(es,ep),h⟩
theorem MD.keepS (m:MD w H hd M) (ha:∀ o,H hd=some o->H' hd=some o) (ht:∀ b vs,H b=some (.tup vs)->H' b=some (.tup vs)):MD w H' hd M:=by
 obtain⟨es,ep,h1,h2⟩:=id m
 exact m.keep ((ha _ h1).trans h1.symm) ht
theorem Sto.keep (S:Sto w C H x hd rl l M r) (h:∀ c o,(c=x\/c=hd\/c=rl\/∃ b,c=l b)->H c=some o->H' c=some o) (ht:∀ b vs,H b=some (.tup vs)->H' b=some (.tup vs)):Sto w C H' x hd rl l M r:=by
 obtain⟨dx,e⟩:=S.ob
 exact⟨⟨dx,h _ _ (.inl rfl) e⟩,S.me.keepS (λo=>h _ o (.inr (.inl rfl))) ht,h _ _ (.inr (.inr (.inl rfl))) S.ro,λb=>(S.rw b).keep (λo=>h _ o (.inr (.inr (.inr ⟨b,rfl⟩)))) ht,S.nl,S.nr⟩
theorem Sto.same (S:Sto w C H x hd rl l M r) (h:bU H H'):Sto w C H' x hd rl l M r:=S.keep (λc o _ e=>h c o e) λb vs e=>h b _ e
def Sto.own (x hd rl:Addr) (l:Bool->Addr) (c:Addr):Prop:=c=x\/c=hd\/c=rl\/c=l false\/c=l true
theorem Sto.there (S:Sto w C H x hd rl l M r) {c:Addr}(h:Sto.own x hd rl l c):∃ o,H c=some o/\(∀ xs,o≠.tup xs):=by
 rcases h with rfl|rfl|rfl|rfl|rfl
 . obtain⟨dx,e⟩:=S.ob;exact⟨_,e,λ_ z=>by cases z⟩
 . obtain⟨es,e⟩:=S.me.there;exact⟨_,e,λ_ z=>by cases z⟩
 . exact⟨_,S.ro,λ_ z=>by cases z⟩
 . obtain⟨ts,e,_⟩:=S.rw false;exact⟨_,e,λ_ z=>by cases z⟩
 . obtain⟨ts,e,_⟩:=S.rw true;exact⟨_,e,λ_ z=>by cases z⟩
end
def kU (M:List (PyData × V)) (es:List (PyData × V)):List (PyData × V):=es.foldl (λM p=>tz M p.1 p.2) M
def cr (M es:List (PyData × V)) (k:PyData):V:=match es.reverse.find? (λp=>PyData.eqv p.1 k) with
|some p=>p.2
|none=>(cu M k).getD (.int 0)
def AG (es:List (PyData × V)) (k:PyData):Option V:=(es.reverse.find? λp=>PyData.eqv p.1 k).map (·.2)
theorem uF (M es:List (PyData × V)) (k:PyData):cr M es k=((AG es k).or (cu M k)).getD (.int 0):=by
 unfold cr AG
 cases es.reverse.find? (λp=>PyData.eqv p.1 k)<;>rfl
theorem uR {k k':PyData}(h:MX.kd k=true) (h':MX.kd k'=true) (v:V):∀ {M:List (PyData × V)},KK M->cu (M.map λp=>if PyData.eqv p.1 k'=true then (p.1,v) else p) k=(cu M k).map λx=>if PyData.eqv k' k=true then v else x
|[],_=>rfl
|p :: r,kk=>by
  have ih:=uR h h' v (M:=r) λq hq=>kk q (List.mem_cons_of_mem _ hq)
  have kp:=kk p List.mem_cons_self
  unfold cu at ih |-
  rw[List.map_cons,List.find?_cons,List.find?_cons]
  have e1:(if PyData.eqv p.1 k'=true then (p.1,v) else p).1=p.1:=by split<;>rfl
  rw[e1]
  cases z:PyData.eqv p.1 k with
 |false=>exact ih
 |true =>
   have pk:=(MX.eqv_iff _ _ kp h).mp z
   show some (if PyData.eqv p.1 k'=true then (p.1,v) else p).2=some (if PyData.eqv k' k=true then v else p.2)
   by_cases y:k'=k
   . subst y
     rw[cQ h',z];rfl
   . rw[eY h' h y,pk,eY h h' λq=>y q.symm];rfl
theorem vk {M:List (PyData × V)}{k k':PyData}(kk:KK M) (h':MX.kd k'=true) (h:MX.kd k=true) (v:V):cu (tz M k' v) k=if PyData.eqv k' k=true then some v else cu M k:=by
 by_cases n:k'∈M.map (·.1)
 . obtain⟨p,hp,e⟩:=List.mem_map.mp n
   have ha:(M.any λp=>PyData.eqv p.1 k')=true:=List.any_eq_true.mpr ⟨p,hp,by rw[e];exact cQ h'⟩
   unfold tz
   rw[if_pos ha,uR h h' v kk]
   by_cases y:k'=k
   . subst y
     rw[cQ h']
     have:(cu M k').isSome=true:=by
      unfold cu
      rw[Option.isSome_map,List.find?_isSome]
      exact⟨p,hp,by rw[e];exact cQ h'⟩
     cases z:cu M k' with
    |none=>rw[z]at this;cases this
    |some x=>rfl
   . rw[eY h' h y]
     cases cu M k<;>rfl
 . rw[yo h' kk n]
   unfold cu
   rw[List.find?_append,List.find?_cons]
   by_cases y:k'=k
   . subst y
     have z:=qW h' kk n
     unfold cu at z
     rw[Option.map_eq_none_iff]at z
     rw[z,cQ h'];rfl
   . rw[eY h' h y]
     cases M.find? (λp=>PyData.eqv p.1 k)<;>rfl
mutual
theorem xa {H:Hp}{D:Addr}{o:HO}(hD:H D=none) (ho:∀ xs,o≠.tup xs):∀ {k:PyData}{y:V},MX.kd k=true->DV (upd H D o) k y->DV H k y
|.int _,_,_,e=>e
|.str _,_,_,e=>e
|.tuple ds,_,h,⟨a,vs,e,ha,hv⟩=>by
  have ne:a≠D:=λz=>by
   rw[z,a8]at ha
   exact ho vs (Option.some.inj ha)
  exact⟨a,vs,e,by rw[ag ne]at ha;exact ha,uL hD ho h hv⟩
|.none,_,h,_=>by cases h
|.bool _,_,h,_=>by cases h
|.list _,_,h,_=>by cases h
|.dict _,_,h,_=>by cases h
theorem uL {H:Hp}{D:Addr}{o:HO}(hD:H D=none) (ho:∀ xs,o≠.tup xs):∀ {ds:List PyData}{vs:List V},MX.kds ds=true->DVs (upd H D o) ds vs->DVs H ds vs
|[],_,_,e=>e
|d :: ds,_,h,⟨v,r,e,h1,h2⟩=>by
  have h':(MX.kd d && MX.kds ds)=true:=h
  rw[Bool.and_eq_true]at h'
  exact⟨v,r,e,xa hD ho h'.1 h1,uL hD ho h'.2 h2⟩
end
end L2
namespace L2
open PySem PySem.Spec PyProof.Rows
theorem mem_of_lookup {β:Type}{y:Str}{c:β}:∀ {l:List (Str × β)},l.lookup y=some c->(y,c)∈l
|[],h=>by cases h
|(k,v) :: r,h=>by
  rw[List.lookup_cons]at h
  cases e:y == k with
 |true =>
   rw[e]at h
   cases h
   rw[beq_iff_eq.mp e]
   exact List.mem_cons_self
 |false =>
   rw[e]at h
   exact List.mem_cons_of_mem _ (mem_of_lookup h)
def gj (X:Cx) (scope:Scope) (cl:List (Str × Addr)) (C:Addr) (x:Str) (N':List Str) (s₃:Shared) (H₃:Hp) (pins:List (Addr × Obj)) (ex:List Addr) (E':Value->Shared->Prop):Cx :=
 { X with N:=N',s₀:=s₃,H₀:=H₃,env:=compEnvC scope cl C X.env,outer:=X.stack,stack:=X.stack,ex:=ex,fn:=λy=>y == x,pn:=X.pn++pins,xe:=E' }
structure CompOk (X:Cx) (scope:Scope) (cl:List (Str × Addr)) (x:Str):Prop where
 kind:scope.kind=.function
 clos:closureFor scope X.env=pure cl
 nocell:∀ y∈scope.names,y.2≠.cell
 names:∀ y∈scope.names,y.2=.local->scope.names.lookup y.1=some .local
 xloc:scope.names.lookup x=some .local
 sub:∀ p∈cl,X.env.cells.lookup p.1=some p.2
 has:∀ p∈scope.names,p.2=.free->∃ c,cl.lookup p.1=some c
 nox:cl.lookup x=none
def PTs (X:Cx) (ifs:List Expr) (t:TT):Prop :=
 ∀ (pins:List (Addr × Obj)) (s:Shared) (σ:St) (H:Hp) (Q:Bool->Hp->Prop),Inv X pins σ H s->t σ H Q ->
  wpAny (model X.prog X.w) X.A (forIn ifs true λc r=>if r=true then do let ok <-isTrue c X.env (eval c X.env);pure (ForInStep.yield ok) else pure (ForInStep.yield r)) (TP X pins σ Q) X.xe s
theorem mH {X:Cx}:PTs X [] (λ_ H Q=>Q true H):=λpins s σ H Q I h=>by
 rw[List.forIn_nil]
 exact wpAny_pure ⟨H,I,h⟩
theorem BQ {X:Cx}{c:Expr}{t:TT}(h:PT X c t):PTs X [c] t:=λpins s σ H Q I q=>wpAny_tests_one (h pins s σ H Q I q)
def rJ (σ:St) (js:List Nat):St:=js.map λj=>(σ[j]?).getD none
def ET (wi:TI) (js:List Nat) (tc:TT) (te:TE):TE:=λσ H Q=>wi σ H λJ H1=>∀ D,H1 D=none->∃ W:Nat->Nat->List V->Hp->Prop,(∃ m,W 0 m [] (upd H1 D (.lst []))) /\
 ∀ i m ys H2,W i m ys H2->H2 D=some (.lst ys)/\ys.length < sizeLine/\((J.stop i H2/\Q (.ref D) H2)\/(J.go i H2/\∀ x H3,J.yld i H2 x H3 ->
  tc (some x :: rJ σ js) H3 λb H4=>if b=true then te (some x :: rJ σ js) H4 λy H5=>H5 D=some (.lst ys)/\∃ m',m' < m/\W (i+1) m' (ys++[y]) (upd H5 D (.lst (ys++[y])))
   else ∃ m',m' < m/\W (i+1) m' ys H4))
section
variable {X:Cx}{scope:Scope}{cl:List (Str × Addr)}{x:Str}{N':List Str}
theorem o9 {names:List (Str × NameKind)}{env:Env}{y:Str}{k:NameKind}(h:(names.map λ(n,k)=>if (k == NameKind.free && env.scope.kind == .function && env.kindOf n == some .cell) then (n,NameKind.cell) else (n,k)).lookup y=some k) (hk:k=.cell\/k=.free) (hn:∀ p∈names,p.2≠.cell):∃ p∈names,p.1=y/\p.2=.free:=by
 obtain⟨⟨n,k0⟩,hp,e⟩:=List.mem_map.mp (mem_of_lookup h)
 dsimp only at e
 split at e
 . rename_i hc
   injection e with e1 e2
   refine⟨_,hp,e1,?_⟩
   rw[Bool.and_eq_true,Bool.and_eq_true]at hc
   exact beq_iff_eq.mp hc.1.1
 . injection e with e1 e2
   refine⟨_,hp,e1,?_⟩
   rcases hk with rfl|rfl
   . exact absurd e2 (hn _ hp)
   . exact e2
theorem xE {pins:List (Addr × Obj)}{σ:St}{H₃:Hp}{s₃:Shared}{ex:List Addr}{E':Value->Shared->Prop}(O:CompOk X scope cl x) (I:Inv X pins σ H₃ s₃) (hf:∀ b∈ex,r8 X pins H₃ b/\b < s₃.heap.objs.size) :
 (gj X scope cl s₃.heap.objs.size x N' s₃ H₃ pins ex E').Ok where
 mod:=I.ok.mod
 kind:=O.kind
 glob:=I.ok.glob
 blt:=I.ok.blt
 above:=Nat.le_refl _
 inj:=λy z c h1 h2=>I.ok.inj y z c (O.sub _ (mem_of_lookup h1)) (O.sub _ (mem_of_lookup h2))
 has:=λy h=>by
  have h':∃ k,(relabel scope X.env).names.lookup y=some k/\(k=.cell\/k=.free):=by
   rcases h with h|h
   . exact⟨_,h,.inl rfl⟩
   . exact⟨_,h,.inr rfl⟩
  obtain⟨k,e,hk⟩:=h'
  obtain⟨p,hp,rfl,e2⟩:=o9 e hk O.nocell
  exact O.has p hp e2
 cab:=λy c h1 h2=>by
  have:y=x:=beq_iff_eq.mp h1
  subst this
  have h2':cl.lookup y=some c:=h2
  rw[O.nox]at h2';cases h2'
 hd:=I.ok.hd
 frames:=I.ok.frames
 stk:=.inl rfl
 exf:=λb hb=>⟨Nat.ne_of_lt (hf b hb).2,λy c e=>(hf b hb).1.2.2.2.2.1 y c (O.sub _ (mem_of_lookup e))⟩
 bs:=I.bs
 bsz:=Nat.le_trans I.ok.bsz I.sz
 noex:=λb o e hb=>by
  obtain⟨_,_,_,h4,_⟩:=(hf b hb).1
  rcases h4 with z|z
  . exact I.ok.noex b o e z
  . have g1:b < X.base.objs.size:=Heap.lt_size e
    exact absurd (Nat.lt_of_lt_of_le g1 (Nat.le_trans I.ok.bsz z)) (Nat.lt_irrefl _)
 exfs:=λb hb z=>by
  obtain⟨_,h2,h3,_⟩:=(hf b hb).1
  rcases List.mem_cons.mp (I.stkSub b z) with q|q
  . exact h2 q
  . exact h3 q
 funs:=I.stack
 frf:=I.stkFree
theorem Inv.block {pins:List (Addr × Obj)}{σ σ':St}{H₃ H':Hp}{s₃ s':Shared}{ex:List Addr}{E':Value->Shared->Prop}{h':Heap}(I:Inv X pins σ H₃ s₃) (hf:∀ b∈ex,r8 X pins H₃ b)
 (I':Inv (gj X scope cl s₃.heap.objs.size x N' s₃ H₃ pins ex E') [] σ' H' s') (hs:Heap.SameBut s₃.heap.objs.size s'.heap h'):Inv X pins σ H' { s' with heap:=h' }:=by
 have ne:∀ b o,s₃.heap.get? b=some o->b≠s₃.heap.objs.size:=λb o e=>Nat.ne_of_lt (Heap.lt_size e)
 have fr:H' s₃.heap.objs.size=none:=I'.free
 have hok:HOk X.prog X.w H' h':=λa o e=>by
  refine(I'.hok a o e).stay (λb u hb q=>(hs.2 b ?_).trans q) (λ_ q=>q) λ_ _ q=>q
  rintro rfl
  rcases hb with z|z
  . rw[<-z,fr]at e;cases e
  . rw[fr]at z;cases z
 have u:Un (frs X.stack) ex H₃ H' s₃.heap h':=by
  obtain⟨k1,k2,k3,k4,k5,k6,k7⟩:=I'.base
  refine⟨λb o q n hb hx=>(hs.2 b (ne b o q)).trans (k1 b o q n hb hx),λb o q n hb hx=>?_,k3,λb o q hx=>?_,k5,k6,k7⟩
  . obtain⟨sl,e⟩:=k2 b o q n hb hx
    exact⟨sl,(hs.2 b (ne b o q)).trans e⟩
  . obtain⟨o',e⟩:=k4 b o q hx
    exact⟨o',(hs.2 b (ne b o q)).trans e⟩
 exact I.call' (s':={ s' with heap:=h' }) I'.os u hok I'.bare λb hb=>⟨(hf b hb).2.2.2.1,(hf b hb).2.1,(hf b hb).2.2.2.2.1,(hf b hb).2.2.2.2.2⟩
theorem Inv.enter {pins:List (Addr × Obj)}{σ:St}{H₃:Hp}{s₃:Shared}{ex:List Addr}{E':Value->Shared->Prop}{caps:List Str}{js:List Nat}{h₁:Heap}{tk:Nat}(O:CompOk X scope cl x) (I:Inv X pins σ H₃ s₃)
 (hf:∀ b∈ex,r8 X pins H₃ b/\b < s₃.heap.objs.size) (hcap:∀ y∈caps,∃ c,cl.lookup y=some c) (hjs:Paired (λ(y:Str) (j:Nat)=>X.N[j]?=some y/\(X.env.scope.names.lookup y=some .cell\/X.env.scope.names.lookup y=some .free)) caps js)
 (hkc:∀ y∈caps,(relabel scope X.env).names.lookup y=some .cell\/(relabel scope X.env).names.lookup y=some .free)
 (hn:h₁.Ns s₃.heap.objs.size λ_=>none) (hk:∀ b o,s₃.heap.get? b=some o->h₁.get? b=some o) :
 Inv (gj X scope cl s₃.heap.objs.size x (x :: caps) s₃ H₃ pins ex E') [] (none :: rJ σ js) H₃ { s₃ with heap:=h₁,toks:=tk }:=by
 have hlen:caps.length=js.length:=Paired.length hjs
 obtain⟨m0,hm0,hl0⟩:=I.loc
 refine⟨xE O I hf,rfl,I.bare,Un.kept hk,⟨_,hn,λi y v e1 e2 e3=>?_⟩,λy c e=>?_,I.hok.fresh (Nat.le_refl _),λy c e=>I.freeC y c (O.sub _ (mem_of_lookup e)),λp hp=>?_,I.hok.kept hk,?_⟩
 . cases i with
  |zero=>cases e2
  |succ i =>
    have e1':(x :: caps)[i+1]?=some y:=e1
    rw[List.getElem?_cons_succ]at e1'
    have e2':(none :: rJ σ js)[i+1]?=some (some v):=e2
    rw[List.getElem?_cons_succ]at e2'
    obtain⟨j,ej,hN,hk1⟩:=MX.f2_get' hjs i y e1'
    unfold rJ at e2'
    rw[List.getElem?_map,ej]at e2'
    have e3':(σ[j]?).getD none=some v:=by simpa using e2'
    have e4:σ[j]?=some (some v):=by
     cases q:σ[j]? with
    |none=>rw[q]at e3';cases e3'
    |some z=>rw[q]at e3';rw[show z=some v from e3']
    obtain⟨u,r,l⟩:=hl0 j y v hN e4 (by rcases hk1 with z|z;exact .inr (.inl z);exact .inr (.inr z))
    obtain⟨c,hc⟩:=hcap y (List.mem_of_getElem? e1')
    refine⟨u,r,.inr ⟨hkc y (List.mem_of_getElem? e1'),c,hc,?_⟩⟩
    rcases l with⟨z,_⟩|⟨_,c',z1,o,z2,z3⟩
    . have z':X.env.scope.names.lookup y=some .local:=z
      rcases hk1 with q|q<;>(rw[q]at z';cases z')
    . rw[O.sub _ (mem_of_lookup hc)]at z1
      cases z1
      exact⟨o,hk _ _ z2,z3⟩
 . obtain⟨v,o,z2,z3⟩:=I.cell y c (O.sub _ (mem_of_lookup e))
   exact⟨v,o,hk _ _ z2,z3⟩
 . have hp':p∈X.pn++pins:=by simpa [gj] using hp
   obtain⟨g1,g2,g3,g4,g5⟩:=I.pin p hp'
   refine⟨hk _ _ g1,g2,Nat.ne_of_lt (Heap.lt_size g1),λz=>?_,g5⟩
   rcases List.mem_cons.mp (I.stkSub p.1 z) with q|q
   . exact g3 q
   . exact g4 q
 . show (none :: rJ σ js).length=(x :: caps).length
   unfold rJ
   rw[List.length_cons,List.length_cons,List.length_map,hlen]
theorem ug {px pos:Pos}{iter elt:Expr}{ifs:List Expr}{caps:List Str}{js:List Nat}{wi:TI}{tc:TT}{te:TE}(hc:X.calm=true) (O:CompOk X scope cl x) (hnd:(x :: caps).Nodup)
 (hcap:∀ y∈caps,∃ c,cl.lookup y=some c) (hjs:Paired (λ(y:Str) (j:Nat)=>X.N[j]?=some y/\(X.env.scope.names.lookup y=some .cell\/X.env.scope.names.lookup y=some .free)) caps js)
 (hkc:∀ y∈caps,(relabel scope X.env).names.lookup y=some .cell\/(relabel scope X.env).names.lookup y=some .free)
 (hi:PI X (.Name x px) iter wi) (ht:∀ C s₃ H₃ pins ex E',PTs (gj X scope cl C x (x :: caps) s₃ H₃ pins ex E') ifs tc) (he:∀ C s₃ H₃ pins ex E',PE (gj X scope cl C x (x :: caps) s₃ H₃ pins ex E') elt te)
 (hs:∀ x,foldedSetIterable iter X.env x=pure x:=by intro _;rfl):PE X (.ListComp elt [⟨.Name x px,iter,ifs,0⟩] scope pos) (ET wi js tc te):=by
 intro pins s σ H Q I h
 rw[eval_ListComp]
 refine wpAny_comprehension_free (use:=none) rfl hs O.clos O.kind O.names (thn (hi pins s σ H _ I h) λv s1 h1=>thn h1 λitv s2 ⟨it,fp,tn,J,H1,e,I2,T,t0,hf,q⟩=>?_)
 subst e
 refine wpAny_newObj_type (wpAny_newFunctionEnv O.nocell (by intro y hy;cases hy) (λh₁ hns₁ hsb₁=>?_) O.kind)
 obtain⟨W,⟨m0,w0⟩,step⟩:=q s2.heap.objs.size (I2.hok.fresh (Nat.le_refl _))
 have I3:Inv X pins σ (upd H1 s2.heap.objs.size (.lst [])) { s2 with heap:=s2.heap.push { cls:=.type "list",data:=.seq ([]:List Value).toArray } }:=I2.lnew (t':=s2.toks) (its:=[]) .nil (Nat.zero_le _)
 have fpl:∀ b∈fp,b < s2.heap.objs.size:=λb hb=>by
  obtain⟨o,e,_⟩:=T.obj _ _ t0 b hb
  exact Heap.lt_size e
 have hf3:∀ b∈fp,r8 X pins (upd H1 s2.heap.objs.size (.lst [])) b:=λb hb=>by
  obtain⟨f0,f⟩:=hf b hb
  exact⟨by rw[ag (Nat.ne_of_lt (fpl b hb))];exact f0,f⟩
 generalize hs3:({ s2 with heap:=s2.heap.push { cls:=.type "list",data:=.seq ([]:List Value).toArray } }:Shared)=s₃ at *
 generalize hH3:upd H1 s2.heap.objs.size (.lst [])=H₃ at *
 have hsz:s2.heap.objs.size < s₃.heap.objs.size:=by rw[<-hs3];show _ < (s2.heap.push _).objs.size;rw[Heap.size_push];exact Nat.lt_succ_self _
 have hk2:∀ b o,s2.heap.get? b=some o->s₃.heap.get? b=some o:=λb o e=>by rw[<-hs3];exact Heap.get?_push_of_some _ e
 have hk3:∀ b o,s₃.heap.get? b=some o->h₁.get? b=some o:=λb o e=>hsb₁.extBut b o (Nat.ne_of_lt (Heap.lt_size e)) (Heap.get?_push_of_some _ e)
 have t3:tn 0 h₁:=T.keep _ _ _ t0 λb _ o e=>hk3 b o (hk2 b o e)
 have loop:∀ (R:Result->Shared->Prop),(∀ f s',(∃ σ' H' i m ys,Inv (gj X scope cl s₃.heap.objs.size x (x :: caps) s₃ H₃ pins fp (notedBy (model X.prog X.w) X.A (compEnvC scope cl s₃.heap.objs.size X.env) λe s'=>R (.error e) s')) [] σ' H' s'/\W i m ys H'/\Q (.ref s2.heap.objs.size) H')->R (.ok f) s') ->
  ∀ tk,codeAny (model X.prog X.w) X.A (.compLoop (.ListComp elt [⟨.Name x px,iter,ifs,0⟩] scope pos) 0 (.ref it) (.ref s2.heap.objs.size) (compEnvC scope cl s₃.heap.objs.size X.env)) R { s₃ with heap:=h₁,toks:=tk }:=by
  intro R hR tk
  have I4:=Inv.enter (E':=notedBy (model X.prog X.w) X.A (compEnvC scope cl s₃.heap.objs.size X.env) λe s'=>R (.error e) s') (tk:=tk) O I3 (λb hb=>⟨hf3 b hb,Nat.lt_trans (fpl b hb) hsz⟩) hcap hjs hkc (by simpa using hns₁) hk3
  have stat:∀ {H':Hp},(∀ b∈fp,H' b=none)->∀ b∈fp,r8 (gj X scope cl s₃.heap.objs.size x (x :: caps) s₃ H₃ pins fp (notedBy (model X.prog X.w) X.A (compEnvC scope cl s₃.heap.objs.size X.env) λe s'=>R (.error e) s')) [] H' b:=λhn b hb=>by
   obtain⟨f0,f1,f2,f3,f4,f5⟩:=hf3 b hb
   refine⟨hn b hb,Nat.ne_of_lt (Nat.lt_trans (fpl b hb) hsz),λz=>?_,.inl hb,λy c e=>f4 y c (O.sub _ (mem_of_lookup e)),λp hp=>f5 p (by simpa [gj] using hp)⟩
   rcases List.mem_cons.mp (I3.stkSub b z) with q|q
   . exact f1 q
   . exact f2 q
  refine codeAny_compLoop_tests (λn s'=>∃ i v0 ys H',Inv (gj X scope cl s₃.heap.objs.size x (x :: caps) s₃ H₃ pins fp (notedBy (model X.prog X.w) X.A (compEnvC scope cl s₃.heap.objs.size X.env) λe s'=>R (.error e) s')) [] (v0 :: rJ σ js) H' s'/\tn i s'.heap/\(∀ b∈fp,H' b=none)/\W i n ys H') ?_ m0
   ⟨0,none,[],H₃,I4,t3,λb hb=>(hf3 b hb).1,w0⟩
  rintro n s4 ⟨i,v0,ys,H4,J4,t4,fr4,w4⟩
  obtain⟨hD,hlen,hor⟩:=step i n ys H4 w4
  rcases hor with⟨stop,qn⟩|⟨go,hy⟩
  . refine thn (T.done (gj X scope cl s₃.heap.objs.size x (x :: caps) s₃ H₃ pins fp (notedBy (model X.prog X.w) X.A (compEnvC scope cl s₃.heap.objs.size X.env) λe s'=>R (.error e) s')) rfl rfl rfl hc i [] s4 _ H4 _ J4 (stat fr4) t4 stop) λr s5 ⟨hr,J5⟩=>?_
    subst hr
    exact hR _ _ ⟨_,H4,i,n,ys,J5,w4,qn⟩
  . refine thn (T.item (gj X scope cl s₃.heap.objs.size x (x :: caps) s₃ H₃ pins fp (notedBy (model X.prog X.w) X.A (compEnvC scope cl s₃.heap.objs.size X.env) λe s'=>R (.error e) s')) rfl rfl rfl hc i [] s4 _ H4 _ J4 (stat fr4) t4 go) λr s5 ⟨u,hr,h5⟩=>?_
    subst hr
    have ea:assign (.Name x px) (compEnvC scope cl s₃.heap.objs.size X.env) u=(letOwnedTupleGo (.Name x px) (.ref it) u >>= λ_=>assign (.Name x px) (compEnvC scope cl s₃.heap.objs.size X.env) u):=rfl
    show wpAny _ _ (assign (.Name x px) (compEnvC scope cl s₃.heap.objs.size X.env) u) _ _ _
    rw[ea]
    refine wpAny_bind (thn h5 λ_ s6 ⟨y,H6,J6,ry,yl,t6,fr6⟩=>?_)
    have J6':=J6.pinned (stat fr6) (T.obj _ _ t6)
    have hy6:=hy y H6 yl
    refine thn (cZ (X:=gj X scope cl s₃.heap.objs.size x (x :: caps) s₃ H₃ pins fp (notedBy (model X.prog X.w) X.A (compEnvC scope cl s₃.heap.objs.size X.env) λe s'=>R (.error e) s')) (i:=0) (x:=x) (pos:=px) hnd rfl (.inl (lookup_relabel_local O.xloc)) (.inl (beq_self_eq_true x)) _ s6 _ H6 y u (λσ2 H2=>σ2=some y :: rJ σ js/\H2=H6) J6' ry ⟨rfl,rfl⟩) λ_ s7 ⟨σ7,H7,J7,e7,e7'⟩=>?_
    subst e7 e7'
    refine thn (ht _ _ _ _ _ _ _ s7 _ H7 _ J7 hy6) λok s8 ⟨H8,J8,q8⟩=>?_
    have back:∀ {σ9:St} {H9:Hp} {s9:Shared},Inv (gj X scope cl s₃.heap.objs.size x (x :: caps) s₃ H₃ pins fp (notedBy (model X.prog X.w) X.A (compEnvC scope cl s₃.heap.objs.size X.env) λe s'=>R (.error e) s')) ([]++pD fp s6.heap) σ9 H9 s9->tn (i+1) s9.heap/\∀ b∈fp,H9 b=none:=λJ9=>by
     refine⟨T.keep _ _ _ t6 λb hb o e=>(J9.pin (b,o) (List.mem_append_right _ (List.mem_append_right _ (fP hb e)))).1,λb hb=>?_⟩
     obtain⟨o,e,d⟩:=T.obj _ _ t6 b hb
     exact(J9.pin (b,o) (List.mem_append_right _ (List.mem_append_right _ (fP hb e)))).2.1
    cases ok with
   |false =>
     rw[if_neg (by decide)]
     rw[if_neg (by decide)]at q8
     obtain⟨m',hm,w8⟩:=q8
     obtain⟨b1,b2⟩:=back J8
     exact⟨m',hm,i+1,some y,ys,H8,J8.unpinned,b1,b2,w8⟩
   |true =>
     rw[if_pos rfl]
     rw[if_pos rfl]at q8
     refine thn (he _ _ _ _ _ _ _ s8 _ H8 _ J8 q8) λz s9 ⟨vz,H9,J9,rz,hD9,m',hm,w9⟩=>?_
     refine thn (cq (X:=gj X scope cl s₃.heap.objs.size x (x :: caps) s₃ H₃ pins fp (notedBy (model X.prog X.w) X.A (compEnvC scope cl s₃.heap.objs.size X.env) λe s'=>R (.error e) s')) _ s9 _ H9 (.ref s2.heap.objs.size) [vz] (.ref s2.heap.objs.size) [z] (λ_ H10=>H10=upd H9 s2.heap.objs.size (.lst (ys++[vz]))) J9 rfl (.cons rz .nil) ⟨_,ys,vz,rfl,rfl,hD9,hlen,rfl⟩) λ_ s10 ⟨v10,H10,J10,r10,e10⟩=>?_
     subst e10
     obtain⟨b1,b2⟩:=back J10
     exact⟨m',hm,i+1,some y,ys++[vz],_,J10.unpinned,b1,b2,w9⟩
 have fin:∀ tk,codeAny (model X.prog X.w) X.A (.compLoop (.ListComp elt [⟨.Name x px,iter,ifs,0⟩] scope pos) 0 (.ref it) (.ref s2.heap.objs.size) (compEnvC scope cl s₃.heap.objs.size X.env)) (compPost (model X.prog X.w) X.A X.xe none (EP X pins σ Q) (.ref s2.heap.objs.size) s₃.heap.objs.size) { s₃ with heap:=h₁,toks:=tk }:=λtk=>by
  refine loop _ (λf s' ⟨σ',H',i,m,ys,J',w',qn⟩=>?_) tk
  obtain⟨mm,hmm,_⟩:=J'.loc
  exact⟨mm,hmm,λh' hs'=>⟨.ref s2.heap.objs.size,H',Inv.block I3 hf3 J' hs',rfl,qn⟩⟩
 exact codeAny_compStart_list (fin _) (T.self _ _ _ _ _ t3 (fin _))
end
def y9 (env:Env):List (Str × Addr)->Prop
|[]=>True
|p :: r=>env.cells.lookup p.1=some p.2/\y9 env r
theorem y9.all {env:Env}:∀ {cl:List (Str × Addr)},y9 env cl->∀ p∈cl,env.cells.lookup p.1=some p.2
|[],_,p,h=>by cases h
|q :: r,⟨a,b⟩,p,h=>by
  rcases List.mem_cons.mp h with rfl|h
  . exact a
  . exact y9.all b p h
theorem nC {X:Cx}{scope:Scope}{cl:List (Str × Addr)}{x:Str}(kind:scope.kind=.function) (clos:closureFor scope X.env=pure cl) (nocell:∀ y∈scope.names,y.2≠.cell) (names:∀ y∈scope.names,y.2=.local->scope.names.lookup y.1=some .local)
 (xloc:scope.names.lookup x=some .local) (sub:y9 X.env cl) (has:(scope.names.all λp=>p.2 != .free || (cl.lookup p.1).isSome)=true) (nox:cl.lookup x=none):CompOk X scope cl x :=
 ⟨kind,clos,nocell,names,xloc,sub.all,λp hp hf=>by
  have h:=List.all_eq_true.mp has p hp
  rw[hf]at h
  have h':(cl.lookup p.1).isSome=true:=by simpa using h
  exact Option.isSome_iff_exists.mp h',nox⟩
end L2
namespace L2
open PySem PySem.Spec PyProof.Rows
section
variable {X:Cx}
end
end L2
namespace L2
open PySem PySem.Spec PyProof.Rows
def G5 (t u:TS):TS:=λD σ H=>∃ B:St->Hp->Prop,t { D with nx:=B } σ H/\∀ σ' H',B σ' H'->u D σ' H'
theorem gh {X:Cx}{st:Stmt}{bS:List Stmt}{t u:TS}(h1:PS X st t) (h2:PSs X bS u):PSs X (st :: bS) (G5 t u):=by
 intro pins s σ H D I h
 obtain⟨B,h,k⟩:=h
 refine wpAny_execs_cons (thn (h1 pins s σ H { D with nx:=B } I h) λf s1 q=>?_)
 cases f with
|next =>
  obtain⟨σ',H',I',q⟩:=q
  exact h2 pins s1 σ' H' D I' (k σ' H' q)
|ret v=>exact q
|brk=>exact q
|cont=>exact q
end L2
namespace L2
open PySem PySem.Spec PyProof.Rows
mutual
theorem eqv_refl:∀ d:PyData,d.canLay0=true->PyData.eqv d d=true
|.none,_=>rfl
|.bool b,_=>by simp[PyData.eqv]
|.int i,_=>by simp[PyData.eqv]
|.str t,_=>by simp[PyData.eqv]
|.list xs,h=>by
  have h':PyData.canLayAll0 xs=true:=by simpa [PyData.canLay0] using h
  simpa [PyData.eqv] using kf xs h'
|.tuple xs,h=>by
  have h':PyData.canLayAll0 xs=true:=by simpa [PyData.canLay0] using h
  simpa [PyData.eqv] using kf xs h'
|.dict _,h=>by simp[PyData.canLay0]at h
theorem kf:∀ xs:List PyData,PyData.canLayAll0 xs=true->PyData.eqvAll xs xs=true
|[],_=>rfl
|x :: xs,h=>by
  have h':x.canLay0=true/\PyData.canLayAll0 xs=true:=by simpa [PyData.canLayAll0] using h
  simp[PyData.eqvAll,eqv_refl x h'.1,kf xs h'.2]
end
end L2
namespace L2
open PySem PySem.Spec PyProof.Rows
section
variable {X:Cx}{pos:Pos}
def EG:V->Value
|.ty c=>.type c
|.ref a=>.ref a
|_=>.none
def xg:V->Bool
|.ty _=>true
|.ref _=>true
|_=>false
theorem uC:∀ {vs:List V}{us:List Value},bC vs us->vs.all xg=true->us=vs.map EG
|_,_,.nil,_=>rfl
|v :: vs,u :: us,.cons r t,h=>by
  rw[List.all_cons,Bool.and_eq_true]at h
  rw[List.map_cons,<-uC t h.2]
  congr 1
  cases v with
 |ty c=>exact r
 |ref a=>exact r
 |_=>cases h.1
end
end L2
namespace L2
open PySem PySem.Spec PyProof.Rows
theorem cp.here {P:Program}{w:World}{H:Hp}{h:Heap}{a:Addr}{o:HO}(x:cp P w H h a o):∃ ob,h.get? a=some ob:=by
 cases o with
|lst xs=>obtain⟨_,_,_,_,e⟩:=x;exact⟨_,e⟩
|tup xs=>obtain⟨_,_,_,_,e,_⟩:=x;exact⟨_,e⟩
|dK kvs=>obtain⟨_,_,_,_,o,_,_,e,_⟩:=x;exact⟨_,e⟩
|dT kvs=>obtain⟨_,_,_,_,o,_,_,e,_⟩:=x;exact⟨_,e⟩
|set S n=>obtain⟨o,_,_,_,e,_⟩:=x;exact⟨_,e⟩
|ins C dx fs=>obtain⟨_,_,_,e,_⟩:=x;exact⟨_,e⟩
|own y=>exact x
|xd fs=>obtain⟨_,⟨_,_,_,e,_⟩,_⟩:=x;exact⟨_,e⟩
|rng lo hi=>obtain⟨_,_,_,e⟩:=x;exact⟨_,e⟩
|frz ob u=>exact⟨_,x.1⟩
|tbl ps=>exact⟨_,show h.get? a=some _ from x⟩
|met f y=>exact⟨_,show h.get? a=some _ from x⟩
|ext φ=>exact x.2.1
theorem HOk.nothing {P:Program}{w:World}{H:Hp}{h:Heap}{a:Addr}(ok:HOk P w H h) (e:h.get? a=none):H a=none:=by
 cases q:H a with
|none=>rfl
|some o =>
  obtain⟨ob,e'⟩:=(ok a o q).here
  rw[e']at e;cases e
def Trc (h:Heap) (e T:Addr) (cls fl:Value):Prop :=
 ∃ oe vs oT ts a0,h.get? e=some oe/\(oe.cls=cls/\vs[0]?=some a0)/\oe.data=.fields vs/\vs[1]?=some (.ref T)/\T≠e/\h.get? T=some oT/\oT.data=.fields ts/\ts[3]?=some fl
theorem Trc.on {h B:Heap}{e T:Addr}{cls fl:Value}(x:Trc h e T cls fl) (hB:B.get? T=none):∃ a0,h.TracedAtW B e cls a0 fl:=by
 obtain⟨oe,vs,oT,ts,a0,h1,h2,h3,h4,h5,h6,h7,h8⟩:=x
 exact⟨a0,oe,vs,T,oT,ts,h1,h2,h3,h4,hB,h5,h6,h7,h8⟩
def Apt (X:Cx) (pins:List (Addr × Obj)) (H:Hp) (b:Addr):Prop :=
 X.s₀.heap.get? b=none/\H b=none/\b≠X.env.locals/\(∀ x c,X.env.cells.lookup x=some c->c≠b)/\∀ p∈X.pn++pins,p.1≠b
section
variable {X:Cx}{pins:List (Addr × Obj)}{σ:St}{H H':Hp}{s:Shared}{h':Heap}
theorem Inv.apt (I:Inv X pins σ H s) (hx:X.ex=[]) {b:Addr}(e:s.heap.get? b=none) (n:H' b=none):Apt X pins H' b:=by
 refine⟨?_,n,?_,λx c hc z=>?_,λp hp z=>?_⟩
 . cases q:X.s₀.heap.get? b with
  |none=>rfl
  |some o =>
    obtain⟨o',e'⟩:=I.base.there b o q (by rw[hx];simp)
    rw[e]at e';cases e'
 . rintro rfl
   obtain⟨m,⟨o,_,_,ho,_⟩,_⟩:=I.loc
   rw[e]at ho;cases ho
 . obtain⟨v,o,ho,_⟩:=I.cell x c hc
   rw[z,e]at ho;cases ho
 . have ho:=(I.pin p hp).1
   rw[z,e]at ho;cases ho
theorem Inv.fsIn (I:Inv X pins σ H s):∀ b∈X.fs,b∈frs X.stack:=λb hb=>by
 rcases I.ok.stk with e|⟨e,f⟩
 . rw[e];exact hb
 . rw[e]
   show b∈List.filterMap (·.frame) (X.env :: X.outer)
   rw[List.filterMap_cons,f]
   exact List.mem_cons_of_mem _ hb
theorem Inv.moved (I:Inv X pins σ H s) (ch:List Addr) (hch:∀ b∈ch,Apt X pins H b) (keep:∀ b o,b ∉ ch->b ∉ frs X.stack->s.heap.get? b=some o->h'.get? b=some o)
 (slot:∀ b o,b∈frs X.stack->s.heap.get? b=some o->∃ sl,h'.get? b=some { o with slots:=sl }):Inv X pins σ H { s with heap:=h' }:=by
 have up:∀ b o,b ∉ ch->s.heap.get? b=some o->∃ sl,h'.get? b=some { o with slots:=sl }:=λb o n e=>by
  by_cases z:b∈frs X.stack
  . exact slot b o z e
  . exact⟨o.slots,keep b o n z e⟩
 have neL:∀ b o,X.s₀.heap.get? b=some o->b≠X.env.locals:=λb o e=>Nat.ne_of_lt (Nat.lt_of_lt_of_le (Heap.lt_size e) I.ok.above)
 have neC:∀ b o,X.s₀.heap.get? b=some o->b ∉ ch:=λb o e z=>by
  rw[(hch b z).1]at e;cases e
 have nst:∀ b,b≠X.env.locals->b ∉ X.fs->b ∉ frs X.stack:=λb n1 n2 z=>(List.mem_cons.mp (I.stkSub b z)).elim n1 n2
 have cellU:∀ x c,X.env.cells.lookup x=some c->∀ v,s.heap.IsCell c v->h'.IsCell c v:=λx c hc v ⟨o,ho,hd⟩=>by
  obtain⟨sl,q⟩:=up c o (λz=>(hch c z).2.2.2.1 x c hc rfl) ho
  exact⟨_,q,hd⟩
 refine⟨I.ok,I.os,I.bare,⟨λb o e n hb hx=>?_,λb o e n hb hx=>?_,I.base.free,λb o e hx=>?_,I.base.tups,I.base.frzs,I.base.tbls⟩,?_,λx c e=>?_,I.free,I.freeC,λp hp=>?_,λa o e=>?_,I.len⟩
 . exact keep b o (neC b o e) (nst b (neL b o e) hb) (I.base.keep b o e n hb hx)
 . obtain⟨sl,e1⟩:=I.base.slot b o e n hb hx
   obtain⟨sl',e2⟩:=slot b _ (I.fsIn b hb) e1
   exact⟨sl',e2⟩
 . obtain⟨o',e1⟩:=I.base.there b o e hx
   obtain⟨sl,e2⟩:=up b o' (neC b o e) e1
   exact⟨_,e2⟩
 . obtain⟨m,⟨o,es,ep,ho,r⟩,hl⟩:=I.loc
   obtain⟨sl,q⟩:=up _ o (λz=>(hch _ z).2.2.1 rfl) ho
   refine⟨m,⟨_,es,ep,q,r⟩,λi x v e1 e2 e3=>?_⟩
   obtain⟨u,r',l⟩:=hl i x v e1 e2 e3
   refine⟨u,r',?_⟩
   rcases l with l|⟨k,c,e,z⟩
   . exact .inl l
   . exact .inr ⟨k,c,e,cellU x c e _ z⟩
 . obtain⟨v,z⟩:=I.cell x c e
   exact⟨v,cellU x c e v z⟩
 . obtain⟨e,n,ne,nf,d⟩:=I.pin p hp
   exact⟨keep p.1 p.2 (λz=>(hch p.1 z).2.2.2.2 p hp rfl) (nst p.1 ne nf) e,n,ne,nf,d⟩
 . refine(I.hok a o e).stay (λb u hb q=>keep b u (λz=>?_) (λz=>?_) q) (λ_ q=>q) λ_ _ q=>q
   . have n:=(hch b z).2.1
     rcases hb with rfl|hb
     . rw[n]at e;cases e
     . rw[n]at hb;cases hb
   . have n:=I.stkFree b z
     rcases hb with rfl|hb
     . rw[n]at e;cases e
     . rw[n]at hb;cases hb
abbrev hid (X:Cx) (h:Heap) (e T:Addr):Heap:=hideAll h (e :: T :: frs X.stack)
theorem kq {h:Heap}{e T:Addr}:(hid X h e T).StaysIn h:=λ_ _ q=>of_hideAll _ q
theorem jr {h:Heap}{e T:Addr}(F:h.FunFrames X.base X.stack):h.FunFrames (hid X h e T) X.stack :=
 funFrames_hide F λenv he a ha=>List.mem_cons_of_mem _ (List.mem_cons_of_mem _ (List.mem_filterMap.mpr ⟨env,he,ha⟩))
theorem CU {h:Heap}{e T:Addr}:(hid X h e T).get? e=none:=hideAll_none _ List.mem_cons_self
theorem C1 {h:Heap}{e T:Addr}:(hid X h e T).get? T=none:=hideAll_none _ (List.mem_cons_of_mem _ List.mem_cons_self)
theorem Inv.flown (hx:X.ex=[]) (I:Inv X pins σ H s) {e T:Addr}{cls a0 fl:Value}(aE:Apt X pins H e) (aT:Apt X pins H T) (k1:(hid X s.heap e T).StaysIn h') (k2:h'.FunFrames (hid X s.heap e T) X.stack)
 (k3:h'.TracedAtW (hid X s.heap e T) e cls a0 fl) (k4:s.heap.UpToSlots h'):Inv X pins σ H { s with heap:=h' }/\∃ T',Trc h' e T' cls fl/\Apt X pins H T':=by
 refine⟨I.moved [e,T] (λb hb=>?_) (λb o n1 n2 q=>?_) (λb o hb q=>?_),?_⟩
 . rcases List.mem_cons.mp hb with rfl|hb
   . exact aE
   . rw[List.mem_singleton.mp hb];exact aT
 . refine k1 b o (hideAll_get _ q λz=>?_)
   rcases List.mem_cons.mp z with z|z
   . exact n1 (by rw[z];exact List.mem_cons_self)
   . rcases List.mem_cons.mp z with z|z
     . exact n1 (by rw[z];simp)
     . exact n2 z
 . obtain⟨_,o',e',hd⟩:=I.stack.mem hb
   rw[q]at e';cases e'
   exact k4 b o q hd
 . obtain⟨oe,vs,T',oT,ts,h1,h2,h3,h4,h5,h6,h7,h8,h9⟩:=k3
   refine⟨T',⟨oe,vs,oT,ts,a0,h1,h2,h3,h4,h6,h7,h8,h9⟩,?_⟩
   by_cases z:T'=T
   . rw[z];exact aT
   . have nf:T' ∉ frs X.stack:=λy=>by
      obtain⟨_,o',e',hd⟩:=k2.mem y
      rw[h7]at e';cases e'
      exact hd _ h8
     have hn:s.heap.get? T'=none:=by
      cases q:s.heap.get? T' with
     |none=>rfl
     |some o =>
       have:=hideAll_get (e :: T :: frs X.stack) q λy=>by
        rcases List.mem_cons.mp y with y|y
        . exact h6 y
        . rcases List.mem_cons.mp y with y|y
          . exact z y
          . exact nf y
       rw[h5]at this;cases this
     exact I.apt hx hn (I.hok.nothing hn)
end
def CXv (P:Program) (w:World):CXT:=λouter H s E e s'=>∃ (ex T:Addr) (cls:Value) (H':Hp),e=.ref ex/\s'.os=s.os/\AllBare s'.gens/\Un (frs outer) [] H H' s.heap s'.heap/\HOk P w H' s'.heap/\Trc s'.heap ex T cls .none /\
 s.heap.get? ex=none/\s.heap.get? T=none/\H' ex=none/\H' T=none/\E cls none H'
structure Raisy (X:Cx) (E:XK):Prop where
 ex:X.ex=[]
 stk:X.stack=X.env :: X.outer
 frm:X.env.frame=some X.env.locals
 xe:X.xe=λe s'=>wpAny (model X.prog X.w) X.A («leaving» X.env e) (λ_ s''=>CXv X.prog X.w X.outer X.H₀ X.s₀ E e s'') (λe' s''=>CXv X.prog X.w X.outer X.H₀ X.s₀ E e' s'') s'
section
variable {X:Cx}{pins:List (Addr × Obj)}{σ:St}{H H':Hp}{s:Shared}{E:XK}
theorem Inv.out (hx:X.ex=[]) (I:Inv X pins σ H s) {e T:Addr}{cls:Value}(t:Trc s.heap e T cls .none) (aE:Apt X pins H e) (aT:Apt X pins H T) (q:E cls none H):CXv X.prog X.w X.outer X.H₀ X.s₀ E (.ref e) s:=by
 refine⟨e,T,cls,H,rfl,I.os,I.bare,?_,I.hok,t,aE.1,aT.1,aE.2.1,aT.2.1,q⟩
 have u:=I.base
 rw[hx]at u
 exact u
theorem wK (R:Raisy X E) (I:Inv X pins σ H s) {e:Addr}{cls:Value}{args:List Value}{h2:Heap}(M:Heap.MadeExcOf s.heap h2 e cls args) (q:E cls none H):X.xe (.ref e) { s with heap:=h2 }:=by
 rw[R.xe]
 have aE:Apt X pins H e:=I.apt R.ex M.new (I.hok.nothing M.new)
 have I2:Inv X pins σ H { s with heap:=h2 }:=I.kept (t':=s.toks) M.keeps
 obtain⟨t,he,_,_⟩:=M.there
 have hA:X.A.frames=some (X.env :: X.outer):=by rw[<-R.stk];exact I.ok.frames
 have FF:=jr (e:=e) (T:=e) I2.stack
 rw[R.stk]at FF
 refine wpAny_leaving_firstW (base:=hid X h2 e e) (a0:=.ref t) hA FF R.frm he kq CU rfl rfl rfl λh' hL=>?_
 obtain⟨k1,k2,k3,k4⟩:=hL
 rw[<-R.stk]at k2
 obtain⟨I3,T',t3,aT⟩:=I2.flown R.ex aE aE k1 k2 k3 k4
 exact I3.out R.ex t3 aE aT q
theorem Raisy.passes (R:Raisy X E):jI (CXv X.prog X.w) X E:=by
 intro pins σ H s e s' I h
 obtain⟨ex,T,cls,H',rfl,os,bare,un,hok,t,n1,n2,n3,n4,q⟩:=h
 have I2:Inv X pins σ H' s':=I.call' (ch:=[]) os un hok bare (λb z=>absurd z (by simp))
 have aE:Apt X pins H' ex:=I.apt R.ex n1 n3
 have aT:Apt X pins H' T:=I.apt R.ex n2 n4
 rw[R.xe]
 have hA:X.A.frames=some (X.env :: X.outer):=by rw[<-R.stk];exact I.ok.frames
 have FF:=jr (e:=ex) (T:=T) I2.stack
 rw[R.stk]at FF
 obtain⟨a0,tw⟩:=t.on (C1 (X:=X) (h:=s'.heap) (e:=ex) (T:=T))
 refine wpAny_leaving_nextW (base:=hid X s'.heap ex T) (a0:=a0) hA FF R.frm tw kq CU λh' hL=>?_
 obtain⟨k1,k2,k3,k4⟩:=hL
 rw[<-R.stk]at k2
 obtain⟨I3,T',t3,aT'⟩:=I2.flown R.ex aE aT k1 k2 k3 k4
 exact I3.out R.ex t3 aE aT' q
end
def veB:List Value:=[.type "ValueError",.type "Exception",.type "BaseException",.type "object"]
theorem Cq {K:PySem.W.Frag}{h:Heap}{C:Addr}(X:K.In h) (q:excIn K C veB "ValueError.__new__"=true) :
 ∃ bm N nm qn bs hd sn sub ab col dd k0 k1 k2 k3 k5 mN,h.get? C=some (excClassObj nm qn C N bs bm hd sn sub ab col dd k0 k1 k2 k3 k5 "ValueError.__new__")/\h.Ns N mN/\mN "__init__"=none/\OwnTail h veB bm:=by
 unfold excIn at q
 split at q
 . rename_i dd cd sl ho
   split at q
   . rename_i C' bm k0 k1 k2 k3 n k5 hm hs
     obtain⟨nm,bs,mro,ns,qn,hd,sn,sub,ab,col,del⟩:=cd
     simp only[Bool.and_eq_true,beq_iff_eq,Bool.not_eq_true']at q hm
     have q1:=q.1.1.1.1.1
     have q2:=q.1.1.1.1.2
     have q3:=q.1.1.1.2
     have es:sl=#[k0,k1,k2,k3,some (.builtin n),k5]:=Array.ext' hs
     rw[hm,q3,es,q1,q2]at ho
     have hok:=q.1.2
     refine⟨bm,ns,nm,qn,bs,hd,sn,sub,ab,col,dd,k0,k1,k2,k3,k5,h.nsMap ns,X _ _ ho,?_,nsMap_none_of_in X hok q.2,tail_of_in X q.1.1.2⟩
     exact Heap.Ns.of_isNs (isNs_of_in X hok)
   . cases q
 . cases q
def Df (E:XK) (C:Addr) (t:TA):TS:=λ_ σ H=>t σ H λvs H1=>vs.length <= sizeLine/\E (.ref C) none H1
theorem eV {X:Cx}{E:XK}{x:Str}{C:Addr}{e:Expr}{es:List Expr}{t:TA}{np cpos pos:Pos}(R:Raisy X E) (hh:X.A.handled=none) (hg:Gl X x) (hm:X.mg x=some (.ref C)) (hc:excIn X.K C veB "ValueError.__new__"=true)
 (ha:PA X (e :: es) t) (hdb:(x == ("__debug__":Str))=false:=by decide) (he:starEach (e :: es) X.env=(false,eval e X.env) :: starEach es X.env:=by rfl) (hpl:(backTo cpos (starEach (e :: es) X.env)).any (·.1)=false:=by rfl) :
 PS X (.Raise (some (.Call (.Name x np) (e :: es) [] cpos)) none pos) (Df E C t):=by
 intro pins s σ H D I h
 obtain⟨bm,N,nm,qn,bs,hd,sn,sub,ab,col,dd,k0,k1,k2,k3,k5,mN,hC,hN,hni,TL⟩:=Cq I.ok.mod.kin hc
 refine wpAny_Raise_call_subT (C:=C) (nm:=nm) (q:=qn) (N:=N) (bs:=bs) (bm:=bm) (hdct:=hd) (sn:=sn) (sub:=sub) (ab:=ab) (col:=col) (dd:=dd) (k0:=k0) (k1:=k1) (k2:=k2) (k3:=k3) (k5:=k5) PySem.F.excBase_ValueError (mN:=mN)
  (TL.hasType PySem.F.excBase_ValueError.hasBase) hh hpl hni (gz I hg hm ⟨rfl,?_⟩ hdb)
 have hq:=ha cpos pins s σ H _ I h
 have e2:backTo cpos (starEach (e :: es) X.env)=backTo cpos ((false,eval e X.env) :: starEach es X.env):=by rw[he]
 rw[e2]at hq |-
 refine Calls.evalArgs_plain (thn hq λus s2 ⟨vs,H2,I2,r,z,q⟩=>?_)
 exact⟨rfl,by rw[<-r.length];exact z,I2.bk _ _ hC,hN.keeps I2.bk,TL.keeps I2.bk,λh' ex M=>wK R I2 M q⟩
theorem Fun.okX {P:Program}{w:World}{K:PySem.W.Frag}{mg:Str->Option Value}{base:Heap}{x qual:Str}{st:Stmt}{f:Addr}{fd:FuncData}{N ps:List Str}{k:Nat}{sp:Sp}(F:Fun K x qual st f fd) (S:FnScope N ps (ak st)) (len:∀ vs H Q E,sp vs H Q E->vs.length=ps.length)
 (hbody:∀ (cdv:Value) (A:Around) (outer:List Env) (s:Shared) (H:Hp) (vs:List V) (Q:VK) (E:XK),Room k (A.deeper (envOfC qual (ak st) s.heap.objs.size f cdv))->Raisy (Br (CXv P w) P w K mg base N qual (ak st) f cdv A outer s H E) E->sp vs H Q E ->
  ∃ t,PSs (Br (CXv P w) P w K mg base N qual (ak st) f cdv A outer s H E) (eJ st) t/\t { nx:=λ_ H'=>Q .non H',rt:=Q } (qa N vs) H):FnOk P w K mg base (CXv P w) (k+1) f fd ps sp:=by
 obtain⟨oc,od,kV,doc,pm,an,cdv,ct,osl,rfl,lk,hcd⟩:=F.ex
 exact Do lk hcd S len λA outer s H vs Q E hr hsp=>hbody cdv A outer s H vs Q E hr ⟨rfl,rfl,rfl,rfl⟩ hsp
abbrev Cx.tryX (X:Cx) (pins:List (Addr × Obj)) (R:St->Value->Hp->Prop):Cx :=
 { X with pn:=X.pn++pins,xe:=λe s'=>∃ (ex T:Addr) (cls:Value) (σ':St) (H':Hp),e=.ref ex/\Inv X pins σ' H' s'/\Trc s'.heap ex T cls .none/\Apt X pins H' ex/\Apt X pins H' T/\R σ' cls H' }
abbrev Cx.inH (X:Cx) (e:Value):Cx:={ X with A:=X.A.mark (some e),calm:=false,xe:=λ_ _=>False }
section
variable {X:Cx}{pins pins':List (Addr × Obj)}{σ:St}{H H':Hp}{s:Shared}{R:St->Value->Hp->Prop}{e:Value}
theorem Cx.Ok.try_ (ok:X.Ok):(X.tryX pins R).Ok:=⟨ok.mod,ok.kind,ok.glob,ok.blt,ok.above,ok.inj,ok.has,ok.cab,ok.hd,ok.frames,ok.stk,ok.exf,ok.bs,ok.bsz,ok.noex,ok.exfs,ok.funs,ok.frf⟩
theorem Cx.Ok.untry (ok:(X.tryX pins R).Ok):X.Ok:=⟨ok.mod,ok.kind,ok.glob,ok.blt,ok.above,ok.inj,ok.has,ok.cab,ok.hd,ok.frames,ok.stk,ok.exf,ok.bs,ok.bsz,ok.noex,ok.exfs,ok.funs,ok.frf⟩
theorem Inv.try_ (I:Inv X pins σ H s):Inv (X.tryX pins R) [] σ H s:=⟨I.ok.try_,I.os,I.bare,I.base,I.loc,I.cell,I.free,I.freeC,λp hp=>I.pin p (by simpa [Cx.tryX] using hp),I.hok,I.len⟩
theorem Inv.untry (I:Inv (X.tryX pins R) pins' σ H s):Inv X pins σ H s:=⟨I.ok.untry,I.os,I.bare,I.base,I.loc,I.cell,I.free,I.freeC,λp hp=>I.pin p (List.mem_append_left _ hp),I.hok,I.len⟩
theorem Cx.Ok.inH (ok:X.Ok):(X.inH e).Ok:=⟨ok.mod,ok.kind,ok.glob,ok.blt,ok.above,ok.inj,ok.has,ok.cab,λz=>(by cases z),ok.frames,ok.stk,ok.exf,ok.bs,ok.bsz,ok.noex,ok.exfs,ok.funs,ok.frf⟩
theorem Inv.inH (I:Inv X pins σ H s):Inv (X.inH e) pins σ H s:=⟨I.ok.inH,I.os,I.bare,I.base,I.loc,I.cell,I.free,I.freeC,I.pin,I.hok,I.len⟩
theorem Inv.outH (ok:X.Ok) (I:Inv (X.inH e) pins σ H s):Inv X pins σ H s:=⟨ok,I.os,I.bare,I.base,I.loc,I.cell,I.free,I.freeC,I.pin,I.hok,I.len⟩
theorem SP.outH {D:Ends}{f:Flow}{s':Shared}(ok:X.Ok) (h:SP (X.inH e) pins D f s'):SP X pins D f s':=by
 cases f with
|next=>obtain⟨σ',H',I,q⟩:=h;exact⟨σ',H',I.outH ok,q⟩
|brk=>obtain⟨σ',H',I,q⟩:=h;exact⟨σ',H',I.outH ok,q⟩
|cont=>obtain⟨σ',H',I,q⟩:=h;exact⟨σ',H',I.outH ok,q⟩
|ret u=>obtain⟨v,σ',H',I,r,q⟩:=h;exact⟨v,σ',H',I.outH ok,r,q⟩
theorem SP.untry {D:Ends}{f:Flow}{s':Shared}(h:SP (X.tryX pins R) pins' D f s'):SP X pins D f s':=by
 cases f with
|next=>obtain⟨σ',H',I,q⟩:=h;exact⟨σ',H',I.untry,q⟩
|brk=>obtain⟨σ',H',I,q⟩:=h;exact⟨σ',H',I.untry,q⟩
|cont=>obtain⟨σ',H',I,q⟩:=h;exact⟨σ',H',I.untry,q⟩
|ret u=>obtain⟨v,σ',H',I,r,q⟩:=h;exact⟨v,σ',H',I.untry,r,q⟩
end
structure Framed (X:Cx):Prop where
 ex:X.ex=[]
 stk:X.stack=X.env :: X.outer
 frm:X.env.frame=some X.env.locals
abbrev TH:=Ends->St->Value->Hp->Prop
def PH (X:Cx) (hs:List ExceptHandler) (t:TH):Prop :=
 ∀ (pins:List (Addr × Obj)) (s:Shared) (σ:St) (H:Hp) (D:Ends) (ex T:Addr) (cls:Value),Inv X pins σ H s->Trc s.heap ex T cls .none->Apt X pins H ex->Apt X pins H T->t D σ cls H ->
  wpAny (model X.prog X.w) X.A (handleBy (.ref ex) X.env hs) (SP X pins D) X.xe s
def EX:TH:=λ_ _ _ _=>False
theorem yR {X:Cx}:PH X [] EX:=λ_ _ _ _ _ _ _ _ _ _ _ _ h=>h.elim
def El (K:PySem.W.Frag) (C:Value) (tb:TS) (tr:TH):TH:=λD σ cls H=>∃ b,exmOne K cls C=some b/\if b=true then tb D σ H else tr D σ cls H
section
variable {X:Cx}
theorem Trc.ty {M:Model}{h:Heap}{e T:Addr}{cls fl:Value}(t:Trc h e T cls fl):PySem.W.Looks M h (typeOf (.ref e)) cls:=by
 obtain⟨oe,vs,oT,ts,a0,h1,⟨rfl,_⟩,_⟩:=t
 exact(PySem.W.Looks.ld h1).andThen .now
theorem F0 {pins:List (Addr × Obj)}{σ:St}{H:Hp}{s:Shared}{ex T:Addr}{cls fl:Value}{A:Around}{Q:Unit->Shared->Prop}{E:Value->Shared->Prop}(hx:X.ex=[]) (I:Inv X pins σ H s) (t:Trc s.heap ex T cls fl) (aE:Apt X pins H ex) (aT:Apt X pins H T)
 (h:∀ s' T',Inv X pins σ H s'->Trc s'.heap ex T' cls .none->Apt X pins H T'->Q () s'):wpAny (model X.prog X.w) A (setFlight (.ref ex) none) Q E s:=by
 obtain⟨a0,tw⟩:=t.on (C1 (X:=X) (h:=s.heap) (e:=ex) (T:=T))
 refine wpAny_setFlight_noneW (base:=hid X s.heap ex T) (l:=X.stack) kq (jr I.stack) tw λh' k1 k2 k3 k4=>?_
 obtain⟨I3,T',t3,aT'⟩:=I.flown hx aE aT k1 k2 k3.at λb o q n=>⟨o.slots,k4 b o q n⟩
 exact h _ T' I3 t3 aT'
theorem jg {x:Str}{C:Addr}{b₀:Stmt}{suite:List Stmt}{np pos:Pos}{bS:List ExceptHandler}{tb:TS}{tr:TH}(F:Framed X) (hg:Gl X x) (hm:X.mg x=some (.ref C)) (hb:∀ e,PSs (X.inH e) (b₀ :: suite) tb) (hr:PH X bS tr)
 (hdb:(x == ("__debug__":Str))=false:=by decide):PH X (.ExceptHandler (some (.Name x np)) none (b₀ :: suite) pos :: bS) (El X.K (.ref C) tb tr):=by
 intro pins s σ H D ex T cls I t aE aT h
 obtain⟨b,hx,h⟩:=h
 refine wpAny_handleBy_cons (codeAny_handlers_test (gz (X:=X.inH (.ref ex)) I.inH hg hm ?_ hdb)) (by intro q;cases q)
 refine(exm_one (M:=model X.prog X.w) I.kIn t.ty hx).at ?_
 cases b with
|false=>exact hr pins s σ H D ex T cls I t aE aT h
|true =>
  refine codeAny_handlers_suite (F0 F.ex I t aE aT λs' T' I' t' aT'=>?_)
  exact wpAny_mono (hb (.ref ex) pins s' σ H D I'.inH h) (λf s2 q=>q.outH I.ok) λ_ _ z=>False.elim z
def FX (tb:(St->Value->Hp->Prop)->TS) (th:TH):TS:=λD σ H=>∃ R:St->Value->Hp->Prop,tb R D σ H/\∀ σ' cls H',R σ' cls H'->th D σ' cls H'
theorem zh {body:List Stmt}{h₀:ExceptHandler}{hs:List ExceptHandler}{pos:Pos}{tb:(St->Value->Hp->Prop)->TS}{th:TH}(F:Framed X) (hb:∀ pins R,PSs (X.tryX pins R) body (tb R)) (hh:PH X (h₀ :: hs) th):PS X (.Try body (h₀ :: hs) [] [] pos) (FX tb th):=by
 intro pins s σ H D I h
 obtain⟨R,h,k⟩:=h
 refine wpAny_Try_except (wpAny_mono (hb pins R [] s σ H D I.try_ h) (λf s1 q=>?_) λe s1 q=>?_)
 . have q':=q.untry
   cases f with
  |next=>exact wpAny_execs_nil q'
  |brk=>exact q'
  |cont=>exact q'
  |ret u=>exact q'
 . obtain⟨ex,T,cls,σ',H',rfl,I1,t,aE,aT,r⟩:=q
   have hA:X.A.frames=some (X.env :: X.outer):=by rw[<-F.stk];exact I.ok.frames
   have FF:=jr (e:=ex) (T:=T) I1.stack
   rw[F.stk]at FF
   obtain⟨a0,tw⟩:=t.on (C1 (X:=X) (h:=s1.heap) (e:=ex) (T:=T))
   refine wpAny_noteFrame_onW (base:=hid X s1.heap ex T) (a0:=a0) hA FF F.frm tw kq CU λh' hL=>?_
   obtain⟨k1,k2,k3,k4⟩:=hL
   rw[<-F.stk]at k2
   obtain⟨I2,T2,t2,aT2⟩:=I1.flown F.ex aE aT k1 k2 k3 k4
   exact F0 F.ex I2 t2 aE aT2 λs3 T3 I3 t3 aT3=>hh pins s3 σ' H' D ex T3 cls I3 t3 aE aT3 (k σ' cls H' r)
end
def Ew (C:Addr) (m:Str) (sp:Sp) (dvs:List V) (R:St->Value->Hp->Prop) (ta:TE) (t:TA):TE:=λσ H Q=>ta σ H λx H1=>∃ a dx fs,x=.ref a/\H1 a=some (.ins C dx fs)/\fs.lookup m=none /\
 t σ H1 λvs H2=>sp (x :: (vs++dvs)) H2 Q λcls _ H'=>R σ cls H'
section
variable {X:Cx}{k:Nat}{f C:Addr}{fd:FuncData}{ps:List Str}{sp:Sp}{dvs:List V}{ds:List Value}{x m:Str}{p pos apos:Pos}{e o:Expr}{es:List Expr}{ta:TE}{t:TA}{pins:List (Addr × Obj)}{R:St->Value->Hp->Prop}
theorem BP {pins':List (Addr × Obj)}{σ:St}{H:Hp}{s:Shared}{Q:VK}{us:List Value}{vs:List V}(hx:X.ex=[]) (F:FnOk X.prog X.w X.K X.mg X.base (CXv X.prog X.w) k f fd ps sp) (hr:Room k X.A) (hb:aG X.K fd ps ds) (hd:bC dvs ds)
 (I:Inv (X.tryX pins R) pins' σ H s) (r:bC vs us) (h:sp (vs++dvs) H Q λcls _ H'=>R σ cls H'):wpAny (model X.prog X.w) X.A (call (.ref f) us) (EP (X.tryX pins R) pins' σ Q) (X.tryX pins R).xe s:=by
 have r2:bC (vs++dvs) (us++ds):=r.append hd
 have hl:(us++ds).length=ps.length:=r2.length.symm.trans (F.len _ _ _ _ h)
 refine wpAny_call (codeAny_mono (F.run X.A X.stack s H ⟨us,[]⟩ _ _ Q _ hr I.env0 (hb s us I.kIn hl) r2 h) λr s' hq=>?_)
 cases r with
|error e =>
  obtain⟨ex,T,cls,H',rfl,os,bare,un,hok,t,n1,n2,n3,n4,q⟩:=hq
  exact⟨ex,T,cls,σ,H',rfl,(I.call' (ch:=[]) os un hok bare (λb z=>absurd z (by simp))).untry,t,I.untry.apt hx n1 n3,I.untry.apt hx n2 n4,q⟩
|ok fl =>
  cases fl with
 |ret u=>exact I.after hq
 |next=>exact False.elim hq
 |brk=>exact False.elim hq
 |cont=>exact False.elim hq
theorem qT {pl:Sem Bool}(hx:X.ex=[]) (he:PE (X.tryX pins R) o ta) (c:Cls X.K C) (hm:Meth X.K C m f) (F:FnOk X.prog X.w X.K X.mg X.base (CXv X.prog X.w) k f fd ps sp) (hr:Room k X.A) (hb:aG X.K fd ps ds) (hd:bC dvs ds) (ha:PA (X.tryX pins R) (e :: es) t)
 (hst:starEach (e :: es) X.env=(false,eval e X.env) :: starEach es X.env:=by rfl) (hpl:(backTo pos (starEach es X.env)).any (·.1)=false:=by rfl)
 (ht:eval (.Call (.Attribute o m apos) (e :: es) [] pos) X.env=(do
  let ov <-eval o X.env
  standAt apos.atName
  let (f,first) <-holding [ov] (getMethod ov m pl)
  callWith pos f first (backTo pos (starEach (e :: es) X.env)) (backToKw pos (keywordEach [] X.env))):=by rfl) :
 PE (X.tryX pins R) (.Call (.Attribute o m apos) (e :: es) [] pos) (Ew C m sp dvs R ta t):=by
 intro pins' s σ H Q I h
 refine methodCall_KW (pl:=pl) (thn (he pins' s σ H _ I h) λu s1 z=>?_) ht
 obtain⟨x,H1,I1,rx,a,dx,fs,ex,ea,l,q⟩:=z
 subst ex
 cases (show u=Value.ref a from rx)
 refine lA I1 ea c hm l (callWith_K (first:=[.ref a]) (h₀:=X.base) I.ok.mod.kin hm.kp (thn (ha pos pins' s1 σ H1 _ I1 q) λus s2 z=>?_) hst hpl)
 obtain⟨vs,H2,I2,r,q2⟩:=z
 exact⟨I2.kIn,BP (us:=.ref a :: us) (vs:=.ref a :: vs) hx F hr hb hd I2 (.cons rfl r) q2⟩
end
end L2
namespace PySem.W
open PySem PySem.Calls PyProof.Rows Builtin Builtin.ObjectAttr Builtin.Getset_descriptor
structure XCls (K:Frag) (C:Addr):Prop where
 ga:findIn K (.ref C) "__getattribute__"=some (some (.builtin "BaseException.__getattribute__"))
 gt:findIn K (.ref C) "__getattr__"=some none
 cl:findIn K (.ref C) "__class__"=some (some (.builtin "object.__class__"))
 ob:mroIn K C (.type "object")=some true
 be:subIn K (.ref C) (.type "BaseException")=some true
 is:isClsIn K C=true
section
variable {prog:Program}{w:World}{A:Around}{E:Value->Shared->Prop}{h:Heap}{g:Array GenState}{d:Drawn}{t:Nat}{os:OsState}{K:Frag}{x C:Addr}{ox:Obj}
theorem CO {R:Result->Shared->Prop}{tp:Value}(X:K.In h) (Z:XCls K C) (hx:h.get? x=some ox) (hc:ox.cls=.ref C) (hq:R (.ok (.ret (.ref C))) ⟨h,g,d,t,os⟩) :
 codeAny (model prog w) A (.call (.builtin "getset_descriptor.__get__") ⟨[.builtin "object.__class__",.ref x,tp],[]⟩) R ⟨h,g,d,t,os⟩:=by
 have L0:Looks (model prog w) h (typeOf (.ref x)) (.ref C):=hc ▸ (Looks.ld hx).andThen .now
 have L1:=looks_mroIn (M:=model prog w) X Z.ob
 refine codeAny_call_builtin KF.slot_gs.plain KF.entry_gs (KF.slot_gs.check _ _ _ _ _ _ _ _ KF.type_class (KF.args_gs _ _ _) ?_)
 unfold Builtin.«getset_descriptor.__get__» descrGet
 rw[dga_obj]
 refine wpAny_bind (wpAny_pure ?_)
 unfold descrGetter descrCheckInstance descrNameAndClass isInstance
 simp only[KF.owner_class]
 repeat lk
 refine⟨Code.quiet_builtin _ (by decide +kernel),codeAny_builtin KF.entry_class ?_⟩
 unfold Builtin.«object.__class__» shownTypeOf
 repeat lk
 exact hq
theorem yf {M:Model}{nameV:Value}{Q:Unit->Shared->Prop}(X:K.In h) (Z:XCls K C) (hx:h.get? x=some ox) (hc:ox.cls=.ref C) (hq:Q () ⟨h,g,d,t,os⟩) :
 wpAny M A (checkBuiltinCall "BaseException.__getattribute__" ⟨[.ref x,nameV],[]⟩) Q E ⟨h,g,d,t,os⟩:=by
 have hk:builtinKind "BaseException.__getattribute__"=some .slot:=by decide +kernel
 have hsplit:splitId "BaseException.__getattribute__"=some ("BaseException","__getattribute__"):=by decide +kernel
 have ha:=F.args_bexc_ga (.ref x) nameV
 have LI:Looks M h (isInstance (.ref x) (.type "BaseException")) true:=(show Looks M h (typeOf (.ref x)) (.ref C) from hc ▸ (Looks.ld hx).andThen .now).andThen (looks_subIn X Z.be)
 simp only[checkBuiltinCall,hk,hsplit]
 refine wpAny_bind (LI.at ?_)
 repeat (first|assumption|wp_step)
theorem yN {tk:Tok}{Q:Fin->Shared->Prop}(X:K.In h) (Z:XCls K C) (hx:h.get? x=some ox) (hc:ox.cls=.ref C) (hq:Q (.done (.ret (.ref C))) ⟨h,g,d,t,os⟩) :
 wpAny (model prog w) A (Builtin.«object.__getattribute__» ⟨[.ref x,.str "__class__" tk],[]⟩) Q E ⟨h,g,d,t,os⟩:=by
 have hT5:(⟨h,g,d,t,os⟩:Shared).TypeIs (.builtin "object.__class__") "getset_descriptor":=F.typeOf_object_class
 have f5:=F.typeOf_object_class
 have f6:=F.slot_gs_get.lookup
 have f7:=F.slot_gs_set.lookup
 have L1:=looks_findIn (M:=model prog w) X Z.cl
 repeat (any_goals (first|assumption|(with_reducible refine wpAny_loadPart_at hx ?_;rw[hc])|with_reducible refine L1.at ?_|wp_step))
 refine CO X Z hx hc ?_
 repeat (any_goals (first|assumption|wp_step))
theorem Ak {tk:Tok}{R:Result->Shared->Prop}(X:K.In h) (Z:XCls K C) (hx:h.get? x=some ox) (hc:ox.cls=.ref C) (hq:R (.ok (.ret (.ref C))) ⟨h,g,d,t,os⟩) :
 codeAny (model prog w) A (.call (.builtin "BaseException.__getattribute__") ⟨[.ref x,.str "__class__" tk],[]⟩) R ⟨h,g,d,t,os⟩ :=
 codeAny_call_builtin F.excAttr_ValueError.ga.plain F.entry_bexc_ga (yf X Z hx hc (yN X Z hx hc hq))
theorem Dw {tk:Tok}{fill expr:Bool}{Q:Value->Shared->Prop}(X:K.In h) (Z:XCls K C) (hx:h.get? x=some ox) (hc:ox.cls=.ref C) (hq:Q (.ref C) ⟨h,g,d,t,os⟩) :
 wpAny (model prog w) A (getAttrBy (.ref x) (.str "__class__" tk) fill expr) Q E ⟨h,g,d,t,os⟩:=by
 have f3:=F.excAttr_ValueError.ga.bind (.ref x)
 have hx0:(expr && onTheHeap (Value.builtin "BaseException.__getattribute__"))=false:=by cases expr<;>rfl
 have hx2:(Value.builtin "BaseException.__getattribute__" == Value.builtin "object.__getattribute__")=false:=by decide +kernel
 have hx1:(onTheHeap (Value.ref C) && Value.builtin "BaseException.__getattribute__" == Value.builtin "object.__getattribute__")=false:=by rw[hx2];rfl
 have L1:=looks_findIn (M:=model prog w) X Z.ga
 have L2:=looks_findIn (M:=model prog w) X Z.gt
 repeat (any_goals (first|assumption|(with_reducible refine wpAny_loadPart_at hx ?_;rw[hc])|with_reducible refine L1.at ?_|with_reducible refine L2.at ?_|wp_step))
 refine Ak X Z hx hc ?_
 repeat (any_goals (first|assumption|wp_step))
theorem zJ {Q:Option Value->Shared->Prop}(X:K.In h) (Z:XCls K C) (hx:h.get? x=some ox) (hc:ox.cls=.ref C) (hq:Q (some (.ref C)) ⟨h,g,d,t+1,os⟩) :
 wpAny (model prog w) A (getAttr? (.ref x) "__class__") Q E ⟨h,g,d,t,os⟩:=by
 unfold getAttr? getAttrBy?
 repeat (any_goals (first|assumption|with_reducible apply Dw X Z hx hc|wp_step))
end
theorem kitx_exc {K:Frag}{x C:Addr}(Z:XCls K C):KitX K (.ref x) (.ref C) (λh=>∃ o,h.get? x=some o/\o.cls=.ref C) where
 ty:=λ_ _ _ ⟨_,hx,hc⟩=>hc ▸ (Looks.ld hx).andThen .now
 it:=λ_ _ X _=>by
  obtain⟨cd,hcd⟩:=Option.isSome_iff_exists.mp Z.is
  unfold clsIn at hcd
  split at hcd
  . rename_i c' d' cd' sl' ho
    intro A' Q' E' s' k q
    unfold isType loadHead
    exact wpAny_bind (wpAny_loadPart (k _ _ (X _ _ ho)) (wpAny_pure q))
  . cases hcd
 ne:=λh tp dd its n sl X htp=>by
  obtain⟨cd,hcd⟩:=Option.isSome_iff_exists.mp Z.is
  refine Bool.eq_false_iff.mpr λq=>?_
  have e:C=tp:=Value.ref.inj (beq_iff_eq.mp q)
  subst e
  unfold clsIn at hcd
  split at hcd
  . rename_i c' d' cd' sl' ho
    have z:=(X _ _ ho).symm.trans htp
    cases z
  . cases hcd
 ca:=λ{_ _ _ _ _ s} X ⟨_,hx,hc⟩ k=>by
  obtain⟨h,g,d,t,os⟩:=s
  exact zJ X Z hx hc k
end PySem.W
namespace L2
open PySem PySem.Spec PyProof.Rows
theorem pV:bootBuiltins "ValueError"=some (.type "ValueError"):=by decide +kernel
def xV (x C:Addr):HO:=.ext λh=>∃ o vs,h.get? x=some o/\o.cls=.ref C/\o.data=.fields vs
section
variable {X:Cx}{pins:List (Addr × Obj)}{σ:St}{H:Hp}{s:Shared}
theorem BU {P:Program}{w:World}{H':Hp}{h:Heap}{x C:Addr}{o:Obj}{vs:Array Value}(e:h.get? x=some o) (c:o.cls=.ref C) (d:o.data=.fields vs):cp P w H' h x (xV x C) :=
 ⟨⟨o,vs,e,c,d⟩,⟨o,e⟩,λ_ _ ⟨o',vs',e',z⟩ k=>⟨o',vs',k _ e',z⟩⟩
theorem Inv.excAt {x C:Addr}(I:Inv X pins σ H s) (e:H x=some (xV x C)):∃ o,s.heap.get? x=some o/\o.cls=.ref C:=by
 obtain⟨⟨o,_,h1,h2,_⟩,_⟩:=(show cp X.prog X.w H s.heap x (xV x C) from I.hok x _ e)
 exact⟨o,h1,h2⟩
theorem Inv.seen {x:Addr}{o:HO}(I:Inv X pins σ H s) (a:Apt X pins H x) (new:cp X.prog X.w (upd H x o) s.heap x o):Inv X pins σ (upd H x o) s:=by
 obtain⟨a1,a2,a3,a4,a5⟩:=a
 have ne:∀ b u,H b=some u->b≠x:=λb u e z=>by rw[z,a2]at e;cases e
 refine⟨I.ok,I.os,I.bare,⟨I.base.keep,I.base.slot,λb u e n hx=>?_,I.base.there,λb xs e=>?_,λb u v e=>?_,λb ps e=>?_⟩,I.loc,I.cell,?_,λy c e=>?_,λp hp=>?_,λb u e=>?_,I.len⟩
 . rw[ag (λz=>by rw[z,a1]at e;cases e)];exact I.base.free b u e n hx
 . have q:=I.base.tups b xs e
   rw[ag (ne _ _ q)];exact q
 . have q:=I.base.frzs b u v e
   rw[ag (ne _ _ q)];exact q
 . obtain⟨more,q⟩:=I.base.tbls b ps e
   exact⟨more,by rw[ag (ne _ _ q)];exact q⟩
 . rw[ag (Ne.symm a3)];exact I.free
 . rw[ag (a4 y c e)];exact I.freeC y c e
 . obtain⟨e,n,r⟩:=I.pin p hp
   exact⟨e,by rw[ag (a5 p hp)];exact n,r⟩
 . by_cases hb:b=x
   . subst hb;rw[a8]at e;cases e;exact new
   . rw[ag hb]at e
     refine(I.hok b u e).stay (λ_ _ _ q=>q) (λc q=>?_) λc xs q=>?_
     . rw[ag (ne _ _ q)];exact q
     . rw[ag (ne _ _ q)];exact q
theorem kR {A:Around}{E:Value->Shared->Prop}{i:Nat}{x:Str}{pos:Pos}{Q:Unit->Shared->Prop}(I:Inv X pins σ H s) (hN:X.N.Nodup) (hi:X.N[i]?=some x) (hk:X.env.kindOf x=some .local)
 (h:∀ s',Inv X pins (σ.set i none) H s'->Q () s'):wpAny (model X.prog X.w) A (do bindName X.env x .none;unbindBehindTheSuite X.env x pos) Q E s:=by
 obtain⟨m,hn,hl⟩:=id I.loc
 have hcls:(X.env.scope.kind == .class || (X.env.scope.kind == .module && X.env.locals != X.env.globals))=false:=by rw[I.ok.kind];rfl
 have hiσ:i < σ.length:=by rw[I.len];exact(List.getElem?_eq_some_iff.mp hi).1
 have cne:=I.cne
 refine wpAny_nameGoes_keeps hk hn hcls λh' v hn' hs=>?_
 obtain⟨oL,_,_,hoL,_⟩:=id hn
 refine h { s with heap:=h',toks:=s.toks+1 } ⟨I.ok,I.os,I.bare,⟨λb o e n hb hx=>?_,λb o e n hb hx=>?_,I.base.free,λb o e hx=>?_,I.base.tups,I.base.frzs,I.base.tbls⟩,⟨_,hn',λj y v' e1 e2 e3=>?_⟩,λy c e=>?_,I.free,I.freeC,λp hp=>?_,λb ob e=>?_,by simpa using I.len⟩
 . exact(hs.2 b (Nat.ne_of_lt (Nat.lt_of_lt_of_le (Heap.lt_size e) I.ok.above))).trans (I.base.keep b o e n hb hx)
 . obtain⟨sl,e1⟩:=I.base.slot b o e n hb hx
   exact⟨sl,(hs.2 b (Nat.ne_of_lt (Nat.lt_of_lt_of_le (Heap.lt_size e) I.ok.above))).trans e1⟩
 . obtain⟨o',e1⟩:=I.base.there b o e hx
   exact⟨o',(hs.2 b (Nat.ne_of_lt (Nat.lt_of_lt_of_le (Heap.lt_size e) I.ok.above))).trans e1⟩
 . by_cases hj:j=i
   . subst hj
     rw[List.getElem?_set_self hiσ]at e2
     cases e2
   . rw[List.getElem?_set_ne (Ne.symm hj)]at e2
     obtain⟨u',r',q⟩:=hl j y v' e1 e2 e3
     refine⟨u',r',?_⟩
     rcases q with⟨k,e⟩|⟨k,c,e,z⟩
     . refine .inl ⟨k,?_⟩
       have:y≠x:=λe=>hj (pX hN e1 (e ▸ hi))
       simp[this,e]
     . exact .inr ⟨k,c,e,z.sameBut hs (cne y c e)⟩
 . obtain⟨w',z⟩:=I.cell y c e
   exact⟨w',z.sameBut hs (cne y c e)⟩
 . obtain⟨e,n,ne,nf,d⟩:=I.pin p hp
   exact⟨(hs.2 p.1 ne).trans e,n,ne,nf,d⟩
 . refine(I.hok b ob e).stay (λc w' hc q=>(hs.2 c ?_).trans q) (λ_ q=>q) λ_ _ q=>q
   rintro rfl
   rcases hc with rfl|hc
   . rw[I.free]at e;cases e
   . rw[I.free]at hc;cases hc
def Ends.gone (D:Ends) (i:Nat):Ends:=⟨λσ H=>D.nx (σ.set i none) H,D.rt,λσ H=>D.bk (σ.set i none) H,λσ H=>D.ct (σ.set i none) H⟩
def Gc (K:PySem.W.Frag) (C:Addr) (i:Nat) (tb:TS) (tr:TH):TH:=λD σ cls H=>∃ b,exmOne K cls (.ref C)=some b/\if b=true then ∃ c,cls=.ref c/\∀ ex,H ex=none->tb (D.gone i) (σ.set i (some (.ref ex))) (upd H ex (xV ex c)) else tr D σ cls H
theorem Fn {x n:Str}{i:Nat}{C:Addr}{b₀:Stmt}{suite:List Stmt}{np pos:Pos}{bS:List ExceptHandler}{tb:TS}{tr:TH}(F:Framed X) (hN:X.N.Nodup) (hi:X.N[i]?=some n) (hl:X.env.kindOf n=some .local) (hL:Loc X.env.scope n) (hg:Gl X x) (hm:X.mg x=some (.ref C))
 (hb:∀ e,PSs (X.inH e) (b₀ :: suite) tb) (hr:PH X bS tr) (hdb:(x == ("__debug__":Str))=false:=by decide) (hf:X.fn n=true\/X.env.scope.names.lookup n=some .local:=by first|exact .inl rfl|exact .inr rfl|assumption) :
 PH X (.ExceptHandler (some (.Name x np)) (some n) (b₀ :: suite) pos :: bS) (Gc X.K C i tb tr):=by
 intro pins s σ H D ex T cls I t aE aT h
 obtain⟨b,hx,h⟩:=h
 refine wpAny_handleBy_cons (codeAny_handlers_test (gz (X:=X.inH (.ref ex)) I.inH hg hm ?_ hdb)) (by intro q;cases q)
 refine(exm_one (M:=model X.prog X.w) I.kIn t.ty hx).at ?_
 cases b with
|false=>exact hr pins s σ H D ex T cls I t aE aT h
|true =>
  obtain⟨c,rfl,h⟩:=h
  refine codeAny_handlers_suite_as (F0 F.ex I t aE aT λs' T' I' t' aT'=>?_)
  obtain⟨oe,vs,oT,ts,a0,h1,⟨h2,_⟩,h3,_⟩:=t'
  have I1:=I'.seen (o:=xV ex c) aE (BU h1 h2 h3)
  refine qY I1 hN hi hL (v:=.ref ex) rfl (λs2 I2=>?_) hf
  refine wpAny_mono (hb (.ref ex) pins s2 _ _ (D.gone i) I2.inH (h ex aE.2.1)) (λf s3 q=>?_) λ_ _ z=>False.elim z
  have q':=q.outH I.ok
  cases f with
 |next=>obtain⟨σ',H',I3,q⟩:=q';exact kR I3 hN hi hl λs4 I4=>⟨_,_,I4,q⟩
 |brk=>obtain⟨σ',H',I3,q⟩:=q';exact kR I3 hN hi hl λs4 I4=>⟨_,_,I4,q⟩
 |cont=>obtain⟨σ',H',I3,q⟩:=q';exact kR I3 hN hi hl λs4 I4=>⟨_,_,I4,q⟩
 |ret u=>obtain⟨v,σ',H',I3,r,q⟩:=q';exact kR I3 hN hi hl λs4 I4=>⟨_,_,_,I4,r,q⟩
theorem lV:lZ X (.builtin "isinstance") (λxs H Q=>∃ x c C b,xs=[.ref x,c]/\H x=some (xV x C)/\PySem.W.XCls X.K C/\xg c=true/\kitOne X.K (.ref C) (EG c)=some b/\Q (.bl b) H):=by
 intro pins s σ H xs us Q I r h
 obtain⟨x,c,C,b,rfl,hx,Z,hc,e,q⟩:=h
 obtain⟨u,w',rfl,ru,rw⟩:=A5 r
 cases (show u=Value.ref x from ru)
 obtain⟨o,h1,h2⟩:=I.excAt hx
 have ew:w'=EG c:=by
  cases c with
 |ty c=>exact rw
 |ref a=>exact rw
 |_=>cases hc
 rw[ew]
 exact kia_one (PySem.W.kitx_exc Z) I.kIn ⟨o,h1,h2⟩ e (λz=>nomatch z) λtk=>⟨.bl b,H,I.tok _,rfl,q⟩
theorem qG:lZ X (.builtin "isinstance") (λxs H Q=>∃ x tp vs C b,xs=[.ref x,.ref tp]/\H tp=some (.tup vs)/\vs.all xg=true/\H x=some (xV x C)/\PySem.W.XCls X.K C/\kitAny X.K (.ref C) (vs.map EG)=some b/\Q (.bl b) H):=by
 intro pins s σ H xs us Q I r h
 obtain⟨x,tp,vs,C,b,rfl,htp,hall,hx,Z,e,q⟩:=h
 obtain⟨u,w',rfl,ru,rw⟩:=A5 r
 cases rw
 cases (show u=Value.ref x from ru)
 obtain⟨ox,h1,h2⟩:=I.excAt hx
 obtain⟨_,its,rv,o,g1,g2,n,g3⟩:=(show cp X.prog X.w H s.heap tp (.tup vs) from I.hok tp _ htp)
 rw[<-uC rv hall]at e
 obtain⟨c1,d1,dt1,sl1⟩:=o
 simp only at g2 g3
 subst g2 g3
 exact kia_tup (PySem.W.kitx_exc Z) I.kIn ⟨ox,h1,h2⟩ g1 e (λz=>nomatch z) λtk=>⟨.bl b,H,I.tok _,rfl,q⟩
end
end L2
namespace L2
open PySem PySem.Spec PyProof.Rows
section
variable {X:Cx}{scope:Scope}{cl:List (Str × Addr)}{x:Str}{N':List Str}
end
end L2
namespace PySem
open Sem (wp)
def SqI (b:Bool) (h:Heap) (i l:Addr) (k:Nat):Prop:=match b with
|false=>h.IsListIter i l k
|true=>h.IsTupleIter i l k
def SqA (b:Bool) (h:Heap) (l:Addr) (xs:Array Value):Prop:=match b with
|false=>h.IsList l xs
|true=>h.IsTuple l xs
theorem SqI.at {b:Bool}{h h':Heap}{i l:Addr}{k:Nat}(x:SqI b h i l k) (e:∀ o,h.get? i=some o->h'.get? i=some o):SqI b h' i l k:=by
 cases b<;>(obtain⟨o,h1,r⟩:=x;exact⟨o,e o h1,r⟩)
theorem SqA.at {b:Bool}{h h':Heap}{l:Addr}{xs:Array Value}(x:SqA b h l xs) (e:∀ o,h.get? l=some o->h'.get? l=some o):SqA b h' l xs:=by
 cases b<;>(obtain⟨o,h1,r⟩:=x;exact⟨o,e o h1,r⟩)
theorem SqI.obj {b:Bool}{h:Heap}{i l:Addr}{k:Nat}(x:SqI b h i l k):∃ o,h.get? i=some o/\∀ v,o.data≠.cell v:=by
 cases b<;>(obtain⟨o,h1,_,h3⟩:=x;exact⟨o,h1,λv z=>by rw[h3]at z;cases z⟩)
theorem SqA.lt {b:Bool}{h:Heap}{l:Addr}{xs:Array Value}(x:SqA b h l xs):l < h.objs.size:=by
 cases b<;>(obtain⟨o,h1,_⟩:=x;exact Heap.lt_size h1)
section
variable {prog:Program}{w:World}{A:Around}{E:Value->Shared->Prop}{s:Shared}
theorem y3 {b:Bool}{it l:Addr}{i:Nat}{items:Array Value}{x:Value}{Q:Value->Shared->Prop}(hit:SqI b s.heap it l i) (hl:SqA b s.heap l items) (hx:items[i]?=some x)
 (hQ:∀ h',SqI b h' it l (i+1)->Heap.SameBut it s.heap h'->Q x { s with heap:=h' }):wpAny (model prog w) A (Builtin.SmallTypes.nextOf (.ref it)) Q E s:=by
 cases b with
|false=>exact wpAny_nextOf_list_item hit hl hx hQ
|true =>
  have hty:s.TypeIs (.ref it) "tuple_iterator":=Heap.IsTupleIter.typeIs hit
  obtain⟨o,ho,hc,hd⟩:=id hit
  obtain⟨ol,hol,_,nl,hdl⟩:=hl
  unfold Builtin.SmallTypes.nextOf
  refine wpAny_bind (wpAny_callSpecial?_slot (name:=Str.ofString "__next__") hty F.slot_tuple_iterator_next (wpAny_call_entry F.slot_tuple_iterator_next hty F.entry_tuple_iterator_next ?_ (F.args_tuple_iterator_next_1 _)))
  show wpAny _ _ (field (.ref it) 0 >>= _) _ _ s
  refine wpAny_bind (wpAny_field ho hd (x:=.ref l) rfl ?_)
  show wpAny _ _ (if (Value.ref l == Value.none)=true then _ else _) _ _ s
  rw[if_neg (show ¬ ((Value.ref l == Value.none)=true) from Bool.false_ne_true)]
  show wpAny _ _ (field (.ref it) 1 >>= _) _ _ s
  refine wpAny_bind (wpAny_field ho hd (x:=.int i 0) rfl ?_)
  show wpAny _ _ (seqItems? (.ref l) >>= _) _ _ s
  refine wpAny_bind (wpAny_seqItems hol hdl ?_)
  simp only[Int.toNat_natCast,hx]
  refine wpAny_bind (wpAny_setField ho hd (by simp) (wpAny_pure ⟨x,rfl,wpAny_pure (hQ _ ?_ (Heap.SameBut.update ..))⟩))
  exact⟨_,Heap.get?_update_self _ ho (Obj.isFreed_of_fields (Obj.data_mapFields hd _)),(Obj.cls_mapFields ..).trans hc,by rw[Obj.data_mapFields hd];simp[rawInt]⟩
theorem ut {b:Bool}{it l:Addr}{i:Nat}{items:Array Value}{Q:Value->Shared->Prop}(hh:A.handled=none) (hit:SqI b s.heap it l i) (hl:SqA b s.heap l items) (hx:items[i]?=none)
 (hE:∀ h' e,Heap.ExtBut it s.heap h'->(∃ o,h'.get? e=some o/\o.cls=.type "StopIteration")->E (.ref e) { s with heap:=h' }):wpAny (model prog w) A (Builtin.SmallTypes.nextOf (.ref it)) Q E s:=by
 cases b with
|false=>exact wpAny_nextOf_list_end hh hit hl hx hE
|true =>
  have hty:s.TypeIs (.ref it) "tuple_iterator":=Heap.IsTupleIter.typeIs hit
  obtain⟨o,ho,hc,hd⟩:=id hit
  obtain⟨ol,hol,_,nl,hdl⟩:=hl
  unfold Builtin.SmallTypes.nextOf
  refine wpAny_bind (wpAny_callSpecial?_slot (name:=Str.ofString "__next__") hty F.slot_tuple_iterator_next (wpAny_call_entry F.slot_tuple_iterator_next hty F.entry_tuple_iterator_next ?_ (F.args_tuple_iterator_next_1 _)))
  show wpAny _ _ (field (.ref it) 0 >>= _) _ _ s
  refine wpAny_bind (wpAny_field ho hd (x:=.ref l) rfl ?_)
  show wpAny _ _ (if (Value.ref l == Value.none)=true then _ else _) _ _ s
  rw[if_neg (show ¬ ((Value.ref l == Value.none)=true) from Bool.false_ne_true)]
  show wpAny _ _ (field (.ref it) 1 >>= _) _ _ s
  refine wpAny_bind (wpAny_field ho hd (x:=.int i 0) rfl ?_)
  show wpAny _ _ (seqItems? (.ref l) >>= _) _ _ s
  refine wpAny_bind (wpAny_seqItems hol hdl ?_)
  simp only[Int.toNat_natCast,hx]
  refine wpAny_bind (wpAny_rule (wpAny_bind (wpAny_setField ho hd (by simp) ?_)))
  show wpAny _ _ (newExc (.type "StopIteration") [] >>= _) _ _ _
  refine wpAny_bind ?_
  simp only[newExc,newTuple]
  refine wpAny_bind (wpAny_newObj_type ?_ (by size_fits))
  refine wpAny_bind (m:=firstArgMember _ _) (wpAny_of_eq (a:=Value.none) (by first|rfl|(simp only[firstArgMember];rfl)) ?_)
  refine wpAny_newObj_type ?_ (by size_fits)
  simp only[raiseNew]
  refine wpAny_bind (wpAny_handled ?_)
  first|rw[show A.in1.handled=none from hh]|rw[hh]
  refine wpAny_bind (wpAny_pure (wpAny_throw ?_))
  exact hE _ _ (((Heap.SameBut.update ..).extBut.push _).push _) ⟨_,Heap.get?_push_size _ rfl,rfl⟩
theorem tP {b:Bool}{z TI TO i1 i2 l1 l2:Addr}{k1 k2:Nat}{xs ys:Array Value}{x y a c:Value}{Q:Option Value->Shared->Prop}(D:ZipApart z TI TO i1 i2 l1 l2)
 (hz:IsZip s.heap z TI TO .none) (hTI:IsPair s.heap TI (.ref i1) (.ref i2)) (hTO:IsPair s.heap TO a c)
 (h1:SqI b s.heap i1 l1 k1) (h2:SqI b s.heap i2 l2 k2) (hl1:SqA b s.heap l1 xs) (hl2:SqA b s.heap l2 ys) (hx:xs[k1]?=some x) (hy:ys[k2]?=some y)
 (hQ:∀ h',IsZip h' z TI TO (rawInt s.heap.objs.size)->IsPair h' TO x y->SqI b h' i1 l1 (k1+1)->SqI b h' i2 l2 (k2+1)->IsPair h' s.heap.objs.size x y ->
  (∀ c o,c≠z->c≠TO->c≠i1->c≠i2->s.heap.get? c=some o->h'.get? c=some o)->Q (some (.ref s.heap.objs.size)) { s with heap:=h' }):wpAny (model prog w) A (pyNext (.ref z)) Q E s:=by
 have hT:s.TypeIs (.ref z) "zip":=⟨_,hz,rfl⟩
 unfold pyNext
 refine wpAny_bind (wpAny_attempt (wpAny_callSpecial?_slot (name:=Str.ofString "__next__") hT F.slot_zip_next (wpAny_call_entry F.slot_zip_next hT F.entry_zip_next ?_ (F.args_zip_next_1 _))))
 show wpAny _ _ (field (.ref z) 2 >>= _) _ _ _
 refine wpAny_bind (wpAny_field hz rfl (x:=.bool false) rfl ?_)
 show wpAny _ _ (field (.ref z) 3 >>= _) _ _ _
 refine wpAny_bind (wpAny_field hz rfl (x:=.ref TI) rfl (wpAny_bind (wpAny_seqItems hTI rfl ?_)))
 show wpAny _ _ (Builtin.SmallTypes.ownedTupleIsFree (.ref z) >>= _) _ _ _
 refine wpAny_bind ?_
 unfold Builtin.SmallTypes.ownedTupleIsFree
 refine wpAny_bind (wpAny_field hz rfl (x:=.none) rfl (wpAny_pure ?_))
 simp only[if_true]
 refine wpAny_bind (wpAny_rule (wpAny_bind (wpAny_field hz rfl (x:=.ref TO) rfl (wpAny_bind (wpAny_setField_rec hz (by simp) λg1 z1 e1=>?_)))))
 replace z1:IsZip g1 z TI TO .ellipsis:=z1
 refine wpAny_bind ?_
 simp only[List.zipIdx_cons,List.zipIdx_nil,List.forIn_cons,List.forIn_nil]
 refine wpAny_bind (wpAny_bind (wpAny_onRaise ?_))
 show wpAny _ _ (Builtin.SmallTypes.nextOf (.ref i1) >>= _) _ _ _
 refine wpAny_bind (y3 (h1.at λo e=>e1.extBut _ _ D.i1z e) (hl1.at λo e=>e1.extBut _ _ D.l1z e) hx λg2 h1' e2=>wpAny_pure ?_)
 have t2:IsPair g2 TO a c:=e2.extBut _ _ D.TOi1 (e1.extBut _ _ D.TOz hTO)
 refine wpAny_bind (wpAny_seqItems t2 rfl (wpAny_bind (wpAny_updateSeq_pair t2 λg3 t3 e3=>?_)))
 replace t3:IsPair g3 TO x c:=t3
 refine wpAny_bind (wpAny_letGo (wpAny_pure ?_))
 refine wpAny_bind (wpAny_bind (wpAny_onRaise ?_))
 show wpAny _ _ (Builtin.SmallTypes.nextOf (.ref i2) >>= _) _ _ _
 refine wpAny_bind (y3 (h2.at λo e=>e3.extBut _ _ D.TOi2.symm (e2.extBut _ _ D.i12.symm (e1.extBut _ _ D.i2z e))) (hl2.at λo e=>e3.extBut _ _ D.l2TO (e2.extBut _ _ D.l2i1 (e1.extBut _ _ D.l2z e))) hy λg4 h2' e4=>wpAny_pure ?_)
 have t4:IsPair g4 TO x c:=e4.extBut _ _ D.TOi2 t3
 refine wpAny_bind (wpAny_seqItems t4 rfl (wpAny_bind (wpAny_updateSeq_pair t4 λg5 t5 e5=>?_)))
 replace t5:IsPair g5 TO x y:=t5
 refine wpAny_bind (wpAny_letGo (wpAny_pure (wpAny_pure ?_)))
 refine wpAny_bind (wpAny_seqItems t5 rfl (wpAny_bind (wpAny_newTuple ?_)))
 have hsz:g5.objs.size=s.heap.objs.size:=by rw[e5.1,e4.1,e3.1,e2.1,e1.1]
 have z5:IsZip g5 z TI TO .ellipsis:=e5.extBut _ _ D.TOz.symm (e4.extBut _ _ D.i2z.symm (e3.extBut _ _ D.TOz.symm (e2.extBut _ _ D.i1z.symm z1)))
 have k5:∀ c o,c≠z->c≠TO->c≠i1->c≠i2->s.heap.get? c=some o->g5.get? c=some o:=λc o c1 c2 c3 c4 e =>
  e5.extBut _ _ c2 (e4.extBut _ _ c4 (e3.extBut _ _ c2 (e2.extBut _ _ c3 (e1.extBut _ _ c1 e))))
 have w1:SqI b g5 i1 l1 (k1+1):=h1'.at λo e=>e5.extBut _ _ D.TOi1.symm (e4.extBut _ _ D.i12 (e3.extBut _ _ D.TOi1.symm e))
 have w2:SqI b g5 i2 l2 (k2+1):=h2'.at λo e=>e5.extBut _ _ D.TOi2.symm e
 have zlt:z < g5.objs.size:=Heap.lt_size z5
 show wpAny _ _ (Builtin.SmallTypes.ownedTupleHandOut (.ref z) (.ref g5.objs.size) >>= _) _ _ _
 refine wpAny_bind ?_
 unfold Builtin.SmallTypes.ownedTupleHandOut
 have z6:IsZip (g5.push { cls:=.type "tuple",data:=.seq #[x,y] }) z TI TO .ellipsis:=Heap.get?_push_of_some _ z5
 refine wpAny_bind (wpAny_setField_rec z6 (by simp) λg7 z7 e7=>?_)
 replace z7:IsZip g7 z TI TO (rawInt g5.objs.size):=z7
 refine wpAny_setField_rec z7 (by simp) λg8 z8 e8=>?_
 replace z8:IsZip g8 z TI TO (rawInt g5.objs.size):=z8
 have up:∀ c o,c≠z->g5.get? c=some o->g8.get? c=some o:=λc o c1 e=>e8.extBut _ _ c1 (e7.extBut _ _ c1 (Heap.get?_push_of_some _ e))
 have t8:IsPair g8 g5.objs.size x y:=e8.extBut _ _ (Nat.ne_of_gt zlt) (e7.extBut _ _ (Nat.ne_of_gt zlt) (Heap.get?_push_size _ rfl))
 rw[hsz]at z8 t8
 refine wpAny_pure ⟨_,rfl,wpAny_pure ?_⟩
 show Q (some (.ref g5.objs.size)) _
 rw[hsz]
 exact hQ g8 z8 (up _ _ D.TOz t5) (w1.at λo e=>up _ o D.i1z e) (w2.at λo e=>up _ o D.i2z e) t8 λc o c1 c2 c3 c4 e=>up c o c1 (k5 c o c1 c2 c3 c4 e)
theorem wF {b:Bool}{z TI TO i1 i2 l1 l2:Addr}{k1:Nat}{xs:Array Value}{Q:Option Value->Shared->Prop}(hh:A.handled=none) (D:ZipApart z TI TO i1 i2 l1 l2)
 (hz:IsZip s.heap z TI TO .none) (hTI:IsPair s.heap TI (.ref i1) (.ref i2)) (h1:SqI b s.heap i1 l1 k1) (hl1:SqA b s.heap l1 xs) (hx:xs[k1]?=none)
 (hQ:∀ h',(∀ c o,c≠z->c≠i1->s.heap.get? c=some o->h'.get? c=some o)->Q none { s with heap:=h' }):wpAny (model prog w) A (pyNext (.ref z)) Q E s:=by
 have hT:s.TypeIs (.ref z) "zip":=⟨_,hz,rfl⟩
 unfold pyNext
 refine wpAny_bind (wpAny_attempt (wpAny_callSpecial?_slot (name:=Str.ofString "__next__") hT F.slot_zip_next (wpAny_call_entry F.slot_zip_next hT F.entry_zip_next ?_ (F.args_zip_next_1 _))))
 show wpAny _ _ (field (.ref z) 2 >>= _) _ _ _
 refine wpAny_bind (wpAny_field hz rfl (x:=.bool false) rfl ?_)
 show wpAny _ _ (field (.ref z) 3 >>= _) _ _ _
 refine wpAny_bind (wpAny_field hz rfl (x:=.ref TI) rfl (wpAny_bind (wpAny_seqItems hTI rfl ?_)))
 show wpAny _ _ (Builtin.SmallTypes.ownedTupleIsFree (.ref z) >>= _) _ _ _
 refine wpAny_bind ?_
 unfold Builtin.SmallTypes.ownedTupleIsFree
 refine wpAny_bind (wpAny_field hz rfl (x:=.none) rfl (wpAny_pure ?_))
 simp only[if_true]
 refine wpAny_bind (wpAny_rule (wpAny_bind (wpAny_field hz rfl (x:=.ref TO) rfl (wpAny_bind (wpAny_setField_rec hz (by simp) λg1 z1 e1=>?_)))))
 replace z1:IsZip g1 z TI TO .ellipsis:=z1
 refine wpAny_bind ?_
 simp only[List.zipIdx_cons,List.zipIdx_nil,List.forIn_cons,List.forIn_nil]
 refine wpAny_bind (wpAny_bind (wpAny_onRaise ?_))
 show wpAny _ _ (Builtin.SmallTypes.nextOf (.ref i1) >>= _) _ _ _
 refine wpAny_bind (ut hh (h1.at λo e=>e1.extBut _ _ D.i1z e) (hl1.at λo e=>e1.extBut _ _ D.l1z e) hx λg2 e e2 he=>?_)
 obtain⟨oe,hoe,hce⟩:=he
 have z2:IsZip g2 z TI TO .ellipsis:=e2 _ _ D.i1z.symm z1
 have hez:e≠z:=λq=>by subst q;rw[z2]at hoe;cases hoe;simp at hce
 refine wpAny_setField_rec z2 (by simp) λg3 _ e3=>?_
 refine wpAny_bind (wpAny_isInstance (T:="StopIteration") (b:=true) ⟨oe,e3.extBut _ _ hez hoe,hce⟩ isSubtype_stop ?_)
 exact wpAny_pure (hQ g3 λc o c1 c2 q=>e3.extBut _ _ c1 (e2 _ _ c2 (e1.extBut _ _ c1 q)))
abbrev Ai (h:Heap) (l1:Addr):Heap:=h.push { cls:=.type "tuple_iterator",data:=.fields #[.ref l1,.int 0 0] }
abbrev AX (h:Heap) (l1 l2:Addr):Heap:=(Ai h l1).push { cls:=.type "tuple_iterator",data:=.fields #[.ref l2,.int 0 0] }
abbrev A1 (h:Heap) (l1 l2:Addr):Heap:=(AX h l1 l2).push { cls:=.type "tuple",data:=.seq #[.ref h.objs.size,.ref (Ai h l1).objs.size] }
abbrev AF (h:Heap) (l1 l2:Addr):Heap:=(A1 h l1 l2).push { cls:=.type "tuple",data:=.seq #[.none,.none] }
abbrev wW (h:Heap) (l1 l2:Addr):Heap:=(AF h l1 l2).push { cls:=.type "zip",data:=.fields #[.none,.bool false,.bool false,.ref (AX h l1 l2).objs.size,.ref (A1 h l1 l2).objs.size] }
theorem wU (l1 l2:Addr) (xs ys:Array Value) :
 Meets (Builtin.«zip.__new__» ⟨[.type "zip",.ref l1,.ref l2],[]⟩) (λ_ R s=>s.heap.IsTuple l1 xs/\s.heap.IsTuple l2 ys/\R (.ok (.ret (.ref (AF s.heap l1 l2).objs.size))) { s with heap:=wW s.heap l1 l2 }) :=
 .of_wp λprog w A R s h=>by
  obtain⟨hp,g,d,tk,os⟩:=s;obtain⟨hl1,hl2,h⟩:=h
  have hsub:=sub_zip
  have hL1:Heap.IsTuple (Shared.heap ⟨hp,g,d,tk,os⟩) l1 xs:=hl1
  have hL2:Heap.IsTuple (Shared.heap ⟨hp.push { cls:=.type "tuple_iterator",data:=.fields #[.ref l1,.int 0 0] },g,d,tk,os⟩) l2 ys:=Heap.IsTuple.push hl2 _
  wp_walk using wpAny_pyIter_tuple hL1,wpAny_pyIter_tuple hL2
  exact⟨_,rfl,h⟩
theorem u8 {b:Bool}{l1 l2:Addr}{xs ys:Array Value}{Q:Value->Shared->Prop}(hl1:SqA b s.heap l1 xs) (hl2:SqA b s.heap l2 ys)
 (h:∀ h',IsZip h' (s.heap.objs.size+4) (s.heap.objs.size+2) (s.heap.objs.size+3) .none->IsPair h' (s.heap.objs.size+2) (.ref s.heap.objs.size) (.ref (s.heap.objs.size+1)) ->
  IsPair h' (s.heap.objs.size+3) .none .none->SqI b h' s.heap.objs.size l1 0->SqI b h' (s.heap.objs.size+1) l2 0->(∀ c o,s.heap.get? c=some o->h'.get? c=some o)->Q (.ref (s.heap.objs.size+4)) { s with heap:=h' }) :
 wpAny (model prog w) A (call (.type "zip") [.ref l1,.ref l2]) Q E s:=by
 cases b with
|false=>exact call_zip_2 hl1 hl2 λh' a1 a2 a3 a4 a5 _ a7=>h h' a1 a2 a3 a4 a5 a7
|true =>
  refine callType_new F.called_zip (by decide) (F.typeCall_zip_2 _ _) (F.newCall_zip_2 _ _) (λobj=>F.args_object_init_3 obj _ _) F.entry_zip_new (wU l1 l2 xs ys) ⟨hl1,hl2,?_⟩
  have z1:(Ai s.heap l1).objs.size=s.heap.objs.size+1:=Heap.size_push ..
  have z2:(AX s.heap l1 l2).objs.size=s.heap.objs.size+2:=by rw[Heap.size_push,z1]
  have z3:(A1 s.heap l1 l2).objs.size=s.heap.objs.size+3:=by rw[Heap.size_push,z2]
  have z4:(AF s.heap l1 l2).objs.size=s.heap.objs.size+4:=by rw[Heap.size_push,z3]
  have g5:(wW s.heap l1 l2).get? (AF s.heap l1 l2).objs.size=some _:=Heap.get?_push_size _ rfl
  have g4:(wW s.heap l1 l2).get? (A1 s.heap l1 l2).objs.size=some _:=Heap.get?_push_of_some _ (Heap.get?_push_size _ rfl)
  have g3:(wW s.heap l1 l2).get? (AX s.heap l1 l2).objs.size=some _:=Heap.get?_push_of_some _ (Heap.get?_push_of_some _ (Heap.get?_push_size _ rfl))
  have g2:(wW s.heap l1 l2).get? (Ai s.heap l1).objs.size=some _:=Heap.get?_push_of_some _ (Heap.get?_push_of_some _ (Heap.get?_push_of_some _ (Heap.get?_push_size _ rfl)))
  have g1:(wW s.heap l1 l2).get? s.heap.objs.size=some _:=Heap.get?_push_of_some _ (Heap.get?_push_of_some _ (Heap.get?_push_of_some _ (Heap.get?_push_of_some _ (Heap.get?_push_size _ rfl))))
  show _/\_
  rw[z2,z3,z4]at g5
  rw[z1,z2]at g3
  rw[z3]at g4
  rw[z1]at g2
  rw[z4]
  exact⟨⟨_,g5,rfl⟩,h _ g5 g3 g4 ⟨_,g1,rfl,rfl⟩ ⟨_,g2,rfl,rfl⟩ λc o x=>Heap.get?_push_of_some _ (Heap.get?_push_of_some _ (Heap.get?_push_of_some _ (Heap.get?_push_of_some _ (Heap.get?_push_of_some _ x))))⟩
end
end PySem
namespace L2
open PySem PySem.Spec PyProof.Rows
def Sq (b:Bool) (K:PySem.W.Frag) (H:Hp) (a:Addr) (xs:List V):Prop:=match b with
|false=>SqL K H a xs
|true=>SqT K H a xs
section
variable {X:Cx}
theorem Inv.sq {pins:List (Addr × Obj)}{σ:St}{H:Hp}{s:Shared}{b:Bool}{a:Addr}{xs:List V}(I:Inv X pins σ H s) (h:Sq b X.K H a xs):∃ its:List Value,bC xs its/\SqA b s.heap a its.toArray:=by
 cases b with
|false=>obtain⟨its,r,p,_⟩:=I.list h;exact⟨its,r,p.isList⟩
|true=>obtain⟨its,r,p,_⟩:=I.tuple h;exact⟨its,r,p⟩
theorem Inv.sq_inj {pins:List (Addr × Obj)}{σ:St}{H:Hp}{s:Shared}{b:Bool}{a:Addr}{xs ys:List V}(I:Inv X pins σ H s) (h:Sq b X.K H a xs) (h':Sq b X.K H a ys):xs=ys:=by
 cases b
 . exact I.list_inj h h'
 . exact I.tuple_inj h h'
theorem Inv.turnedL {pins:List (Addr × Obj)}{σ:St}{H:Hp}{s:Shared}{h':Heap}{t':Nat}{ch:List Addr}(I:Inv X pins σ H s) (hf:∀ b∈ch,r8 X pins H b) (k:∀ b o,b ∉ ch->s.heap.get? b=some o->h'.get? b=some o):Inv X pins σ H { s with heap:=h',toks:=t' }:=by
 refine I.step (g':=s.gens) (d':=s.drawn) (ch:=ch) (λb hb=>?_) (λb o _ _ n e _=>k b o n e) (λb o _ _ n e _=>⟨o.slots,k b o n e⟩) (λ_ _ _ _ n=>n) (λb o n e=>⟨o,k b o n e⟩) (λ_ _ q=>q) (λ_ _ _ q=>q) (λ_ ps q=>⟨#[],by rw[Array.append_empty];exact q⟩) (λm hm=>?_) (λa o e=>?_) I.bare
 . obtain⟨_,f1,_,f3,f4,f5⟩:=hf b hb
   exact⟨f3,f1,f4,f5⟩
 . obtain⟨o,es,ep,ho,r⟩:=hm
   exact⟨o,es,ep,k _ o (λz=>(hf _ z).2.1 rfl) ho,r⟩
 . refine(I.hok a o e).stay (λb u hb q=>k b u (λz=>?_) q) (λ_ q=>q) λ_ _ q=>q
   have n:=(hf b z).1
   rcases hb with rfl|hb
   . rw[n]at e;cases e
   . rw[n]at hb;cases hb
theorem Inv.aptSz {pins:List (Addr × Obj)}{σ:St}{H:Hp}{s:Shared}{b:Addr}(I:Inv X pins σ H s) (hb:s.heap.objs.size <= b) (hn:H b=none):Apt X pins H b:=by
 obtain⟨_,f1,_,_,f4,f5⟩:=I.fpOk hb hn
 refine⟨?_,hn,f1,f4,f5⟩
 cases q:X.s₀.heap.get? b with
|none=>rfl
|some o=>exact absurd (Nat.lt_of_lt_of_le (Heap.lt_size q) (Nat.le_trans I.sz hb)) (Nat.lt_irrefl _)
def Itz (b:Bool) (K:PySem.W.Frag) (a1 a2:Addr):It :=
 ⟨λi H=>∃ xs ys x y,Sq b K H a1 xs/\Sq b K H a2 ys/\xs[i]?=some x/\ys[i]?=some y,
  λi H v H'=>∃ T x y,H T=none/\v=.ref T/\H'=upd H T (.tup [x,y])/\(∀ xs,Sq b K H a1 xs->xs[i]?=some x)/\∀ ys,Sq b K H a2 ys->ys[i]?=some y,
  λi H=>∃ xs,Sq b K H a1 xs/\xs.length <= i⟩
theorem AR {P:Program}{w:World}{K:PySem.W.Frag}{elts:List Expr}{kt:Nat}{pt:Pos}{b:Bool}{z TI TO i1 i2 a1 a2:Addr}(D:ZipApart z TI TO i1 i2 a1 a2) :
 Turn P w K (.Tuple elts kt pt) (Itz b K a1 a2) [z,TI,TO,i1,i2] z (λi h=>IsZip h z TI TO .none/\IsPair h TI (.ref i1) (.ref i2)/\(∃ a c,IsPair h TO a c)/\SqI b h i1 a1 i/\SqI b h i2 a2 i) where
 mem:=List.mem_cons_self
 obj:=λi h st c hc=>by
  obtain⟨s1,s2,⟨_,_,s3⟩,s4,s5⟩:=st
  simp only[List.mem_cons,List.not_mem_nil,or_false]at hc
  rcases hc with rfl|rfl|rfl|rfl|rfl
  . exact⟨_,s1,λv q=>by cases q⟩
  . exact⟨_,s2,λv q=>by cases q⟩
  . exact⟨_,s3,λv q=>by cases q⟩
  . exact s4.obj
  . exact s5.obj
 keep:=λi h h' st k=>by
  obtain⟨s1,s2,⟨u,v,s3⟩,s4,s5⟩:=st
  exact⟨k z (by simp) _ s1,k TI (by simp) _ s2,⟨u,v,k TO (by simp) _ s3⟩,s4.at λo e=>k i1 (by simp) o e,s5.at λo e=>k i2 (by simp) o e⟩
 item:=by
  intro X hP hw hK hc i pins s σ H E I hf st hg
  subst hP hw hK
  obtain⟨s1,s2,⟨u,v,s3⟩,s4,s5⟩:=st
  obtain⟨xs,ys,x,y,q1,q2,hx,hy⟩:=hg
  obtain⟨us,r1,p1⟩:=I.sq q1
  obtain⟨ws,r2,p2⟩:=I.sq q2
  obtain⟨ux,hux,rx⟩:=r1.get hx
  obtain⟨uy,huy,ry⟩:=r2.get hy
  refine tP D s1 s2 s3 s4 s5 p1 p2 (x:=ux) (y:=uy) (by simpa using hux) (by simpa using huy) λh' t1 t2 t3 t4 t5 kk=>?_
  have hfresh:H s.heap.objs.size=none:=I.hok.fresh (Nat.le_refl _)
  have lt:∀ {c o},s.heap.get? c=some o->c≠s.heap.objs.size:=λe=>Nat.ne_of_lt (Heap.lt_size e)
  refine⟨_,rfl,wpAny_letOwnedTupleGo_zip t1 λh'' u1 e2=>?_⟩
  have ch:∀ c o,c ∉ [z,TO,i1,i2]->s.heap.get? c=some o->h''.get? c=some o:=λc o n e=>by
   have n1:c≠z:=λq=>n (by simp[q])
   exact e2.extBut _ _ n1 (kk c o n1 (λq=>n (by simp[q])) (λq=>n (by simp[q])) (λq=>n (by simp[q])) e)
  have sub:∀ c∈[z,TO,i1,i2],c∈[z,TI,TO,i1,i2]:=λc hc=>by
   simp only[List.mem_cons,List.not_mem_nil,or_false]at hc |-
   rcases hc with h|h|h|h<;>simp[h]
  have I1:Inv X pins σ H { s with heap:=h'' }:=I.turnedL (t':=s.toks) (λb hb=>hf b (sub b hb)) ch
  have T5:IsPair h'' s.heap.objs.size ux uy:=e2.extBut _ _ (lt s1).symm t5
  have apt:=I.aptSz (Nat.le_refl s.heap.objs.size) hfresh
  have I2:=I1.seen (o:=.tup [x,y]) apt ⟨by show 2 <= sizeLine;decide,[ux,uy],.cons rx (.cons ry .nil),⟨_,T5,rfl,_,rfl⟩⟩
  refine⟨.ref s.heap.objs.size,_,I2,rfl,⟨_,x,y,hfresh,rfl,rfl,λzs hz=>by rw[I.sq_inj hz q1];exact hx,λzs hz=>by rw[I.sq_inj hz q2];exact hy⟩,⟨u1,e2.extBut _ _ D.TIz (kk _ _ D.TIz D.TITO D.TIi1 D.TIi2 s2),⟨_,_,e2.extBut _ _ D.TOz t2⟩,t3.at λo e=>e2.extBut _ _ D.i1z e,t4.at λo e=>e2.extBut _ _ D.i2z e⟩,λb hb=>?_⟩
  obtain⟨o,ho,_⟩:∃ o,s.heap.get? b=some o/\True:=by
   simp only[List.mem_cons,List.not_mem_nil,or_false]at hb
   rcases hb with rfl|rfl|rfl|rfl|rfl
   . exact⟨_,s1,trivial⟩
   . exact⟨_,s2,trivial⟩
   . exact⟨_,s3,trivial⟩
   . obtain⟨o,e,_⟩:=s4.obj;exact⟨o,e,trivial⟩
   . obtain⟨o,e,_⟩:=s5.obj;exact⟨o,e,trivial⟩
  rw[ag (lt ho)]
  exact(hf b hb).1
 done:=by
  intro X hP hw hK hc i pins s σ H E I hf st hg
  subst hP hw hK
  obtain⟨s1,s2,_,s4,s5⟩:=st
  obtain⟨xs,q1,hx⟩:=hg
  obtain⟨us,r1,p1⟩:=I.sq q1
  have hl:=r1.length
  exact wF (I.ok.hd hc) D s1 s2 s4 p1 (by simp;omega) λh' kk=>⟨rfl,I.turnedL (t':=s.toks) (ch:=[z,i1]) (λb hb=>hf b (by
   simp only[List.mem_cons,List.not_mem_nil,or_false]at hb |-
   rcases hb with q|q<;>simp[q])) λb o n e=>kk b o (λq=>n (by simp[q])) (λq=>n (by simp[q])) e⟩
 self:=λA i s Q E st hQ=>wpAny_pyIter_zip st.1 hQ
def Fj (K:PySem.W.Frag) (ta:TA):TI:=λσ H R=>ta σ H λvs H1=>∃ b a1 a2 xs ys,vs=[.ref a1,.ref a2]/\Sq b K H1 a1 xs/\Sq b K H1 a2 ys/\R (Itz b K a1 a2) H1
theorem Aa:bootBuiltins "zip"=some (.type "zip"):=by decide +kernel
theorem xr {n l1 l2:Nat}(h1:l1 < n) (h2:l2 < n):ZipApart (n+4) (n+2) (n+3) n (n+1) l1 l2:=by
 constructor<;>(show (_:Nat)≠_;omega)
theorem Bp {a c:Expr}{ta:TA}{p pos pt:Pos}{elts:List Expr}{kt:Nat}(hg:Gl X "zip") (hm:X.mg "zip"=none) (ha:PA X [a,c] ta) (hs:starEach [a,c] X.env=[(false,eval a X.env),(false,eval c X.env)]:=by rfl) (hs2:starEach [c] X.env=[(false,eval c X.env)]:=by rfl) :
 PI X (.Tuple elts kt pt) (.Call (.Name "zip" p) [a,c] [] pos) (Fj X.K ta):=by
 intro pins s σ H R I h
 refine Call_ (nP I hg hm Aa (PyProof.Rows.callWith_type1 (thn (ha pos pins s σ H _ I h) λus s1 ⟨vs,H1,I1,r1,q1⟩=>?_) (by rw[hs,hs2]) (by rw[hs2];rfl)))
 obtain⟨b,a1,a2,xs,ys,e,h1,h2,q⟩:=q1
 subst e
 obtain⟨u,w',rfl,ru,rw⟩:=A5 r1
 cases ru
 cases rw
 obtain⟨us,_,p1⟩:=I1.sq h1
 obtain⟨ws,_,p2⟩:=I1.sq h2
 refine u8 p1 p2 λh' z1 z2 z3 z4 z5 kk=>wpAny_pyIter_zip z1 ?_
 have fr:∀ b,s1.heap.objs.size <= b->r8 X pins H1 b:=λb hb=>I1.fpOk hb (I1.hok.fresh hb)
 refine⟨_,[s1.heap.objs.size+4,s1.heap.objs.size+2,s1.heap.objs.size+3,s1.heap.objs.size,s1.heap.objs.size+1],_,_,H1,rfl,I1.kept (t':=s1.toks) kk,AR (xr p1.lt p2.lt),⟨z1,z2,⟨_,_,z3⟩,z4,z5⟩,λb hb=>fr b ?_,q⟩
 simp only[List.mem_cons,List.not_mem_nil,or_false]at hb
 rcases hb with rfl|rfl|rfl|rfl|rfl<;>omega
end
end L2
namespace L2
open PySem PySem.Spec PyProof.Rows
section
variable {X:Cx}
def C2:V->List V->Hp->VK->Prop:=λx vs H Q=>∃ (l:Addr) (ns:List Int) (i:Int),x=.ref l/\vs=[.int i]/\H l=some (.lst (ns.map V.int))/\i∈ns/\Q .non (upd H l (.lst ((ns.erase i).map V.int)))
theorem vy:∀ {us:List Value}{ns:List Int}{m:Nat}{n:Int},IntsAre us ns->ns[m]?=some n->∃ t,us[m]?=some (.int n t)
|_,_,_,_,.nil,h=>by simp at h
|_,_,0,_,.cons n t _,h=>by simp at h;subst h;exact⟨t,rfl⟩
|_,_,m+1,_,.cons _ _ r,h=>by
  obtain⟨t,e⟩:=vy (m:=m) r (by simpa using h)
  exact⟨t,by simpa using e⟩
theorem bC.erase:∀ {xs:List V}{us:List Value}(j:Nat),bC xs us->bC (xs.eraseIdx j) (us.eraseIdx j)
|_,_,_,.nil=>.nil
|_,_,0,.cons _ t=>t
|_,_,j+1,.cons r t=>.cons r (bC.erase j t)
theorem rW {α β:Type}(f:α->β):∀ (xs:List α) (j:Nat),(xs.map f).eraseIdx j=(xs.eraseIdx j).map f
|[],_=>rfl
|_ :: _,0=>rfl
|x :: xs,j+1=>by
  show f x :: (xs.map f).eraseIdx j=f x :: (xs.eraseIdx j).map f
  rw[rW f xs j]
theorem xW:MtM X "list.remove" C2:=by
 intro pins s σ H x vs v us Q I rx rv h
 obtain⟨l,ns,i,rfl,rfl,hH,hi,q⟩:=h
 cases rx
 obtain⟨u,rfl,ru⟩:=rv.one
 obtain⟨t,rfl⟩:=ru
 obtain⟨z,its,n,r,hl,e⟩:=I.lstM hH
 have ia:=we r
 rw[List.length_map]at hl z
 have hj:ns.idxOf i < ns.length:=List.idxOf_lt_length_of_mem hi
 obtain⟨tj,hitj⟩:=vy ia (List.getElem?_eq_getElem hj)
 rw[List.getElem_idxOf hj]at hitj
 have hjs:ns.idxOf i < its.toArray.size:=by rw[List.size_toArray,<-hl];exact hj
 let f:Value->Bool:=λy=>match y with
 |.int a _=>a == i
 |_=>false
 have eit:its.toArray[ns.idxOf i]=.int i tj:=by
  have h2:its.toArray[ns.idxOf i]?=some (.int i tj):=by rw[<-Array.getElem?_toList];exact hitj
  rw[Array.getElem?_eq_getElem hjs]at h2
  exact Option.some.inj h2
 refine call_meets F.slot_list_remove ⟨_,e,rfl⟩ F.entry_list_remove (F.args_list_remove_2 _ _)
  (MeetsSeq.list_remove l its.toArray n (.int i t) f (λy hy=>?_) (ns.idxOf i) hjs (by rw[eit];simp[f]) (λm hm hlt=>?_) (by rw[List.size_toArray];omega)) ⟨e,?_⟩
 . obtain⟨m,hm,rfl⟩:=List.getElem_of_mem (Array.mem_toList_iff.mpr hy)
   have hmn:m < ns.length:=by
    have:m < its.length:=hm
    omega
   obtain⟨t',ht'⟩:=vy ia (List.getElem?_eq_getElem hmn)
   have:its.toArray.toList[m]=.int ns[m] t':=by
    have h2:=List.getElem?_eq_getElem (l:=its) (show m < its.length from hm)
    rw[ht']at h2
    exact(Option.some.inj h2).symm
   rw[this]
   exact MeetsSeq.EqGives.int _ _ _ _
 . have hmn:m < ns.length:=by omega
   obtain⟨t',ht'⟩:=vy ia (List.getElem?_eq_getElem hmn)
   have em:its.toArray[m]=.int ns[m] t':=by
    have h2:its.toArray[m]?=some (.int ns[m] t'):=by rw[<-Array.getElem?_toList];exact ht'
    rw[Array.getElem?_eq_getElem hm]at h2
    exact Option.some.inj h2
   rw[em]
   show (ns[m] == i)=false
   have:=List.not_of_lt_findIdx (p:=(· == i)) (xs:=ns) (i:=m) hlt
   simpa using this
 . have ee:(ns.erase i).map V.int=(ns.map V.int).eraseIdx (ns.idxOf i):=by
    rw[List.erase_eq_eraseIdx_of_idxOf rfl,rW]
   rw[ee]at q
   refine⟨.non,_,I.lset (its':=its.eraseIdx (ns.idxOf i)) hH e ?_ (bC.erase _ r) ?_,rfl,q⟩
   . show its.toArray.eraseIdxIfInBounds (ns.idxOf i)=(its.eraseIdx (ns.idxOf i)).toArray
     rw[List.eraseIdxIfInBounds_toArray]
   . have:=List.length_eraseIdx_le (ns.map V.int) (ns.idxOf i)
     rw[List.length_map]at this
     omega
theorem zq:∀ {us:List Value}{ns:List Int},IntsAre us ns->bC (ns.map V.int) us
|_,_,.nil=>.nil
|_,_,.cons n t r=>.cons ⟨t,rfl⟩ (zq r)
theorem n8:bootBuiltins "sorted"=some (.builtin "sorted"):=by decide +kernel
end
end L2
namespace L2
open PySem PySem.Spec PyProof.Rows
section
variable {X:Cx}
theorem pI {P:Program}{w:World}:∀ {vs:List (Key × Value)}{ns:List Int}{us:List Value},vs.map (·.1)=ns.map Sum.inl->us.length=vs.length ->
 (∀ (j:Nat) (u:Value),us[j]?=some u->∃ k x,vs[j]?=some (k,x)/\(bq P w).is k u=true)->IntsAre us ns
|[],[],[],_,_,_=>.nil
|[],[],_ :: _,_,h,_=>by cases h
|[],_ :: _,_,h,_,_=>by cases h
|_ :: _,[],_,h,_,_=>by cases h
|_ :: _,_ :: _,[],_,h,_=>by cases h
|(k,x) :: vs,n :: ns,u :: us,e,h,g=>by
  have e1:k=Sum.inl n:=by simpa using (List.cons.inj e).1
  subst e1
  have r:=pI (P:=P) (w:=w) (us:=us) (List.cons.inj e).2 (by simpa using h) λj u' hu=>by
   obtain⟨k',x',q,q2⟩:=g (j+1) u' (by simpa using hu)
   exact⟨k',x',by simpa using q,q2⟩
  obtain⟨k',x',q,q2⟩:=g 0 u rfl
  cases q
  rcases bb (show m5 (Sum.inl n) u=true from q2) with⟨i,t,e1,e2⟩|⟨y,t,e1,e2⟩
  . cases e1
    subst e2
    exact .cons _ t r
  . cases e1
theorem lO (hc:X.calm=true):lZ X (.builtin "sorted") (λxs H Q=>∃ (p:Addr) (kvs:List (Key × V)) (ns:List Int),xs=[.ref p]/\H p=some (.dK kvs)/\kvs.map (·.1)=ns.map Sum.inl/\ns.length < 64 /\
 ∀ (l:Addr) (ns':List Int),H l=none->ns'.Perm ns->ns'.Pairwise (· <= ·)->Q (.ref l) (upd H l (.lst (ns'.map V.int)))):=by
 intro pins s σ H xs us Q I r h
 obtain⟨p,kvs,ns,rfl,hH,hk,h64,q⟩:=h
 obtain⟨u,rfl,rx⟩:=nq r
 cases rx
 obtain⟨z,hd,vs,rel,dd⟩:=xI I.hok hH
 have hl:=rel.length
 have hkv:vs.map (·.1)=ns.map Sum.inl:=by rw[<-hk];exact rel.keys.symm
 have hln:ns.length=vs.length:=by
  have:=congrArg List.length hkv
  simpa using this.symm
 obtain⟨ep,hat⟩:=dd.dictAt
 refine Calls.call_function_entry kind_sorted plain_sorted entry_sorted (args_sorted1 _) ?_
 unfold Builtin.«sorted»
 refine wpAny_bind (m:=checkCount "sorted" 1 1 _) (wpAny_pure ?_)
 refine wpAny_bind (kdu_collect (A:=X.A.in1) (kdl_dict (knd:=bq X.prog X.w) (kvs:=vs) (ep:=ep) hd) (I.ok.hd hc) hat (by omega) λh' tk acc hkp hacc=>?_)
 have I1:Inv X pins σ H { s with heap:=h',toks:=tk }:=I.kept (t':=tk) hkp
 have hal:acc.toList.length=vs.length:=by rw[Array.length_toList];exact hacc.1
 have hI:IntsAre acc.toList ns:=pI (P:=X.prog) (w:=X.w) hkv hal λj u hu=>by
  obtain⟨k,x,e,g⟩:=hacc.2 j u (by rw[<-Array.getElem?_toList];exact hu)
  exact⟨k,x,e,g⟩
 refine wpAny_bind (wpAny_newList ?_ (by rw[hal];omega))
 have hoL:(h'.push (seqObj "list" acc.toList.toArray 0)).get? h'.objs.size=some (seqObj "list" acc.toList.toArray 0):=Heap.get?_push_size _ rfl
 show wpAny _ _ _ _ _ { s with heap:=h'.push (seqObj "list" acc.toList.toArray 0),toks:=tk }
 refine wpAny_bind (wpAny_holding (wpAny_call_entry slot_list_sort ⟨_,hoL,rfl⟩ entry_list_sort (list_sort_tree hoL hI (by omega) λout ns' a1 a2 a3=>⟨_,rfl,?_⟩) (args_list_sort _)))
 obtain⟨e,he⟩:=sortedHeap_at (out:=out) hoL
 refine wpAny_pure ⟨_,rfl,.ref h'.objs.size,_,I1.laid (t':=tk) (o:=.lst (ns'.map V.int)) (λb o' q=>?_) (Nat.le_refl _) ?_,rfl,q _ _ (I1.hok.fresh (Nat.le_refl _)) a2 a3⟩
 . rw[sortedHeap_old (Nat.ne_of_lt (Heap.lt_size q)) (by rw[size_push'];exact Nat.lt_succ_of_lt (Heap.lt_size q))]
   exact Heap.get?_push_of_some _ q
 . exact⟨by rw[List.length_map,a2.length_eq];omega,out.toList,e,zq a1,he⟩
end
end L2
namespace L2
open PySem PySem.Spec PyProof.Rows
theorem tJ {prog:Program}{w:World}{A:Around}{E:Value->Shared->Prop}{s:Shared}{Q:Int->Shared->Prop}(h:Q 4238894112 { s with toks:=s.toks+1 }):wpAny (model prog w) A (pyHash .none) Q E s:=by
 have hT:s.TypeIs Value.none "NoneType":=rfl
 unfold pyHash
 have hv:[Value.none].any Value.onHeap=false:=rfl
 refine wpAny_bind ?_
 rw[cRoomFor,if_neg (by rw[hv];exact Bool.false_ne_true)];refine wpAny_pure ?_
 refine wpAny_bind (wpAny_specialOf hT PySem.F.slot_NoneType_hash.lookup ?_)
 show wpAny _ _ (if (some (Value.builtin "NoneType.__hash__") == some Value.none)=true then _ else _) Q E s
 rw[if_neg (by rw[beq_builtin_none];exact Bool.false_ne_true)]
 refine wpAny_bind (wpAny_specialOf hT PySem.F.slot_NoneType_hash.lookup ?_)
 show wpAny _ _ (callSpecialIfBoundUnlessNone? Value.none "__hash__" _ >>= _) Q E s
 refine wpAny_bind (wpAny_callSpecialIfBoundUnlessNone?_slot hT PySem.F.slot_NoneType_hash
  (wpAny_call_entry PySem.F.slot_NoneType_hash hT PySem.F.entry_NoneType_hash
   (show wpAny _ _ (do ret (<-mkInt 4238894112)) _ _ s from wpAny_ret_mkInt ?_) (PySem.F.args_NoneType_hash_1 _)))
 show wpAny _ _ (if (decide (-(2:Int) ^ 63 <= 4238894112) && decide ((4238894112:Int) < 2 ^ 63))=true then _ else _) Q E _
 rw[if_pos (by decide)]
 exact wpAny_pure h
def DY:Option Key->Value->Bool
|none,.none=>true
|none,_=>false
|some k,v=>m5 k v
theorem eU {v:Value}(h:DY none v=true):v=.none:=by
 cases v<;>first|rfl|cases h
def ur (prog:Program) (w:World):PySem.KeyKind prog w (Option Key) where
 is:=DY
 hash:=λk=>match k with
 |none=>4238894112
 |some k=>FS w k
 inj:=λv a b ha hb=>by
  cases a with
 |none =>
   cases eU ha
   cases b with
  |none=>rfl
  |some k=>rcases bb (show m5 k Value.none=true from hb) with⟨i,t,_,e⟩|⟨x,t,_,e⟩<;>cases e
 |some k =>
   cases b with
  |none =>
    cases eU hb
    rcases bb (show m5 k Value.none=true from ha) with⟨i,t,_,e⟩|⟨x,t,_,e⟩<;>cases e
  |some k'=>rw[(bq prog w).inj v k k' ha hb]
 byValue:=λk v h=>by
  cases k with
 |none=>cases eU h;rfl
 |some k=>exact(bq prog w).byValue k v h
 pyHash:=λ{A E s k v Q} hv h=>by
  cases k with
 |none=>cases eU hv;exact tJ h
 |some k=>exact(bq prog w).pyHash (k:=k) hv h
 eqBool:=λ{A E s a b u v Q} hu hv h=>by
  cases a with
 |none =>
   cases eU hu
   cases b with
  |none=>cases eU hv;exact SeqAt.EqAt.same Value.none _ _ _ _ h
  |some k =>
    rcases bb (show m5 k v=true from hv) with⟨i,t,rfl,rfl⟩|⟨x,t,rfl,rfl⟩
    . exact SeqAt.EqAt.none_int i t _ _ _ _ h
    . exact SeqAt.EqAt.none_str x t _ _ _ _ h
 |some k =>
   cases b with
  |none =>
    cases eU hv
    rcases bb (show m5 k u=true from hu) with⟨i,t,rfl,rfl⟩|⟨x,t,rfl,rfl⟩
    . exact SeqAt.EqAt.int_none i t _ _ _ _ h
    . exact SeqAt.EqAt.str_none x t _ _ _ _ h
  |some k' =>
    refine(bq prog w).eqBool (a:=k) (b:=k') hu hv ?_
    have e:decide (some k=some k')=decide (k=k'):=by
     rw[decide_eq_decide];exact⟨λz=>Option.some.inj z,λz=>by rw[z]⟩
    rw[<-e];exact h
 «strs»:=λk x t v h=>by
  cases k with
 |none=>cases h
 |some k=>exact(bq prog w).strs k x t v h
theorem rh {P:Program}{w:World}:∀ {es:List DictEntry}{vs:List (Key × Value)},Pairs (bq P w) es vs->Pairs (ur P w) es (vs.map λq=>(some q.1,q.2))
|_,_,.nil=>.nil
|_,_,.cons a b t=>.cons a b (rh t)
theorem AV {P:Program}{w:World}{h:Heap}{a:Addr}{vs:List (Key × Value)}(d:h.DictOf (bq P w) a vs):h.DictOf (ur P w) a (vs.map λq=>(some q.1,q.2)):=by
 obtain⟨o,es,ep,h1,h2,h3,h4,h5,h6⟩:=d
 refine⟨o,es,ep,h1,h2,h3,λe he=>?_,rh h5,?_⟩
 . obtain⟨k,a,b⟩:=h4 e he
   exact⟨some k,a,b⟩
 . rw[List.map_map]
   have:((λq:Option Key × Value=>q.1) ∘ λq:Key × Value=>(some q.1,q.2))=some ∘ (λq:Key × Value=>q.1):=rfl
   rw[this,<-List.map_map]
   exact List.Pairwise.map _ (λa b n z=>n (Option.some.inj z)) h6
theorem BH:∀ (vs:List (Key × Value)),valueAt (vs.map λq=>(some q.1,q.2)) (none:Option Key)=none
|[]=>rfl
|q :: vs=>by
  have:=BH vs
  unfold valueAt at this |-
  rw[List.map_cons,List.find?_cons]
  have e:decide (((some q.1,q.2):Option Key × Value).1=none)=false:=rfl
  rw[e]
  exact this
def BO (td ty tx:TE):TE:=λσ H Q=>td σ H λx H1=>∃ a,x=.ref a/\IsD H1 a/\ty σ H1 λy H2=>tx σ H2 λz H3=>∃ kvs,H3 a=some (.dK kvs) /\
 ((∃ k,y=kV k/\(∀ v,oX kvs k=some v->Q v (upd H3 a (.dK (rq kvs k))))/\(oX kvs k=none->Q z H3))\/(y=.non/\Q z H3))
theorem xz {X:Cx}{o e f:Expr}{apos cpos:Pos}{td ty tx:TE}(ho:PE X o td) (he:PE X e ty) (hf:PE X f tx) (m:M2 X o "pop" apos e f cpos):PE X (.Call (.Attribute o "pop" apos) [e,f] [] cpos) (BO td ty tx):=by
 intro pins s σ H Q I h
 refine wpAny_Call_method m.base m.few m.line PySem.F.plainAttrs_dict PySem.F.slot_dict_pop PySem.F.type_dict_pop (thn (ho pins s σ H _ I h) λu s1 ⟨x,H1,I1,rx,a,ex,d,q1⟩=>?_)
 subst ex
 obtain rfl:u=Value.ref a:=rx
 obtain⟨t1,t2,_⟩:=BF I1 d
 refine⟨t1,t2,?_⟩
 rw[m.trees]
 refine Calls.callWith_builtin rfl (Calls.evalArgs_plain (Calls.spliced_cons (thn (he pins s1 σ H1 _ I1 q1) λiv s2 ⟨y,H2,I2,ry,q2⟩ =>
  Calls.spliced_cons (thn (hf pins s2 σ H2 _ I2 q2) λfv s3 ⟨z,H3,I3,rz,kvs,ea,q3⟩=>Calls.spliced_nil ?_))))
 rcases q3 with⟨k,ey,q3,q4⟩|⟨ey,q4⟩
 . subst ey
   cases l:oX kvs k with
  |some v=>exact Dx I3 ea ry l (.inr ⟨fv,rfl⟩) λw' s4 I4 rw'=>⟨v,_,I4,rw',q3 v l⟩
  |none=>exact Eu I3 ea ry l λs4 I4=>⟨z,H3,I4,rz,q4 l⟩
 . subst ey
   cases ry
   obtain⟨zz,hd,vs,rel,dd⟩:=xI I3.hok ea
   exact call_meetsIn PySem.F.slot_dict_pop dd.typeIs PySem.F.entry_dict_pop (PySem.F.args_dict_pop_3 _ _ _) (meets_dict_pop_default (ur X.prog X.w) a (k:=none) (key:=Value.none) rfl hd rfl fv) ⟨_,AV dd,BH vs,⟨z,H3,I3.tok _,rz,q4⟩⟩
end L2
namespace L2
open PySem PySem.Spec PyProof.Rows
theorem y8 {x hd rl:Addr}{l:Bool->Addr}{c:Addr}(hc:c=x\/c=hd\/c=rl\/∃ b,c=l b):Sto.own x hd rl l c:=by
 rcases hc with h|h|h|⟨b',h⟩
 . exact .inl h
 . exact .inr (.inl h)
 . exact .inr (.inr (.inl h))
 . cases b'
   . exact .inr (.inr (.inr (.inl h)))
   . exact .inr (.inr (.inr (.inr h)))
theorem D8 {x hd rl:Addr}{l:Bool->Addr}(b:Bool):Sto.own x hd rl l (l b):=y8 (.inr (.inr (.inr ⟨b,rfl⟩)))
theorem Dg {x hd rl:Addr}{l:Bool->Addr}:Sto.own x hd rl l hd:=.inr (.inl rfl)
theorem Sto.kp {w:World}{C:Addr}{H H':Hp}{x hd rl:Addr}{l:Bool->Addr}{M:List (PyData × V)}{r:Bool->List (PyData × V)}{xs:List Addr}(S:Sto w C H x hd rl l M r) (k:Kp xs H H') (h:∀ c∈xs,¬ Sto.own x hd rl l c) (ht:∀ c∈xs,∀ vs,H c≠some (.tup vs)):Sto w C H' x hd rl l M r :=
 S.keep (λc o hc e=>k c o (λz=>h c z (y8 hc)) e) λc vs e=>k c _ (λz=>ht c z vs e) e
theorem Kp.one {H:Hp}{c:Addr}{o:HO}:Kp [c] H (upd H c o):=λb u n e=>by rw[ag λz=>n (List.mem_singleton.mpr z)];exact e
theorem fld {K:PySem.W.Frag}{H:Hp}{a C dx:Addr}{fs:List (Str × V)}{v:V}{f:Str}{Q:V->Prop}(hx:H a=some (.ins C dx fs)) (c:Cls K C) (na:b6 K C f) (l:fs.lookup f=some v) (q:Q v) :
 ∃ a' C' dx' fs' v',V.ref a=.ref a'/\H a'=some (.ins C' dx' fs')/\Cls K C'/\b6 K C' f/\fs'.lookup f=some v'/\Q v':=⟨a,C,dx,fs,v,rfl,hx,c,na,l,q⟩
structure RP where
 s:Int
 R:Int
 e:Bool
structure RP.Ok (p:RP):Prop where
 s0:0 < p.s
 s8:p.s <= 8
 sR:0 < p.s * p.R
structure SA where
 x:Addr
 hd:Addr
 rl:Addr
 l:Bool->Addr
abbrev SA.At (w:World) (C:Addr) (H:Hp) (z:SA) (M:List (PyData × V)) (r:Bool->List (PyData × V)):Prop:=Sto w C H z.x z.hd z.rl z.l M r
def SA.own (z:SA) (c:Addr):Prop:=Sto.own z.x z.hd z.rl z.l c
def rF (st:Addr) (b:Bool) (w0 w1 w2:Str) (p:RP):List (Str × V) :=
 bP "counter_first" (.bl p.e) (bP "rounds" (.int p.R) (bP "size" (.int p.s) (bP "fetched" (.str w2) (bP "laid" (.str w1) (bP "word" (.str w0) (bP "side" (.int (sdI b)) (bP "shelf" (.ref st) [])))))))
section
variable {st:Addr}{b:Bool}{w0 w1 w2:Str}{p:RP}
theorem gs:(rF st b w0 w1 w2 p).lookup ("shelf":Str)=some (.ref st):=by unfold rF;repeat (first|rw[aa,if_pos rfl]|rw[aa,if_neg (by decide +kernel)]);try rfl
theorem j2:(rF st b w0 w1 w2 p).lookup ("side":Str)=some (.int (sdI b)):=by unfold rF;repeat (first|rw[aa,if_pos rfl]|rw[aa,if_neg (by decide +kernel)]);try rfl
theorem C4:(rF st b w0 w1 w2 p).lookup ("word":Str)=some (.str w0):=by unfold rF;repeat (first|rw[aa,if_pos rfl]|rw[aa,if_neg (by decide +kernel)]);try rfl
theorem qb:(rF st b w0 w1 w2 p).lookup ("laid":Str)=some (.str w1):=by unfold rF;repeat (first|rw[aa,if_pos rfl]|rw[aa,if_neg (by decide +kernel)]);try rfl
theorem lK:(rF st b w0 w1 w2 p).lookup ("fetched":Str)=some (.str w2):=by unfold rF;repeat (first|rw[aa,if_pos rfl]|rw[aa,if_neg (by decide +kernel)]);try rfl
theorem qM:(rF st b w0 w1 w2 p).lookup ("size":Str)=some (.int p.s):=by unfold rF;repeat (first|rw[aa,if_pos rfl]|rw[aa,if_neg (by decide +kernel)]);try rfl
theorem rN:(rF st b w0 w1 w2 p).lookup ("rounds":Str)=some (.int p.R):=by unfold rF;repeat (first|rw[aa,if_pos rfl]|rw[aa,if_neg (by decide +kernel)]);try rfl
theorem pZ:(rF st b w0 w1 w2 p).lookup ("counter_first":Str)=some (.bl p.e):=by unfold rF;repeat (first|rw[aa,if_pos rfl]|rw[aa,if_neg (by decide +kernel)]);try rfl
theorem kP:(rF st b w0 w1 w2 p).lookup ("filled":Str)=none:=by unfold rF;repeat (first|rw[aa,if_pos rfl]|rw[aa,if_neg (by decide +kernel)]);try rfl
theorem y7:(rF st b w0 w1 w2 p).lookup ("is_full":Str)=none:=by unfold rF;repeat (first|rw[aa,if_pos rfl]|rw[aa,if_neg (by decide +kernel)]);try rfl
theorem qd:(rF st b w0 w1 w2 p).lookup ("place_at":Str)=none:=by unfold rF;repeat (first|rw[aa,if_pos rfl]|rw[aa,if_neg (by decide +kernel)]);try rfl
theorem ly:(rF st b w0 w1 w2 p).lookup ("write_further":Str)=none:=by unfold rF;repeat (first|rw[aa,if_pos rfl]|rw[aa,if_neg (by decide +kernel)]);try rfl
theorem Bc:(rF st b w0 w1 w2 p).lookup ("lay":Str)=none:=by unfold rF;repeat (first|rw[aa,if_pos rfl]|rw[aa,if_neg (by decide +kernel)]);try rfl
theorem uV:(rF st b w0 w1 w2 p).lookup ("fetch":Str)=none:=by unfold rF;repeat (first|rw[aa,if_pos rfl]|rw[aa,if_neg (by decide +kernel)]);try rfl
end
def Rn (CR:Addr) (H:Hp) (q st:Addr) (b:Bool) (w0 w1 w2:Str) (p:RP):Prop:=∃ dx,H q=some (.ins CR dx (rF st b w0 w1 w2 p))
def gK (ns:List Int):List (Key × V):=ns.map λi=>(.inl i,.bl true)
theorem nE (i:Int):∀ ns:List Int,oX (gK ns) (.inl i)=if ns.contains i then some (.bl true) else none
|[]=>rfl
|n :: ns=>by
  by_cases h:n=i
  . subst h
    show oX ((Sum.inl n,V.bl true) :: gK ns) _=_
    rw[mC rfl,List.contains_cons];simp
  . show oX ((Sum.inl n,V.bl true) :: gK ns) _=_
    rw[my (λz=>h (Sum.inl.inj z)),nE i ns,List.contains_cons]
    have:(i == n)=false:=by simpa using λz=>h z.symm
    rw[this];rfl
theorem Bk (i:Int) (ns:List Int) (h:ns.contains i=false):tD (gK ns) (.inl i) (.bl true)=gK (ns++[i]):=by
 unfold tD
 rw[mr,nE,h]
 simp[gK]
theorem C8 (i:Int) (ns:List Int) (h:ns.contains i=true):tD (gK ns) (.inl i) (.bl true)=gK ns:=by
 unfold tD
 rw[mr,nE,h]
 simp only[if_true,Option.isSome_some]
 unfold gK
 rw[List.map_map]
 refine List.map_congr_left λx _=>?_
 show (if Sum.inl x=Sum.inl i then _ else _)=_
 split<;>rfl
theorem tN (i:Int):∀ ns:List Int,rq (gK ns) (.inl i)=gK (ns.filter (λn=>decide (n≠i)))
|[]=>rfl
|n :: ns=>by
  have ih:=tN i ns
  unfold rq gK at ih |-
  rw[List.map_cons,List.filter_cons,List.filter_cons,ih]
  have e:decide (((Sum.inl n,V.bl true):Key × V).1≠Sum.inl i)=decide (n≠i):=by
   by_cases h:n=i
   . subst h;simp
   . have:(Sum.inl n:Key)≠Sum.inl i:=λz=>h (Sum.inl.inj z)
     simp[h,this]
  rw[e]
  split<;>rfl
theorem Bo (ns:List Int):(gK ns).length=ns.length:=by unfold gK;rw[List.length_map]
def lu (ns:List Int) (i:Int):List Int:=if ns.contains i then ns else ns++[i]
theorem CD (i:Int) (ns:List Int):tD (gK ns) (.inl i) (.bl true)=gK (lu ns i):=by
 unfold lu
 cases h:ns.contains i with
|true=>rw[C8 i ns h];rfl
|false=>rw[Bk i ns h];rfl
structure HA where
 h:Addr
 ra:Addr
 rb:Addr
 gd:Addr
def hF (z:HA) (n:Int):List (Str × V):=bP "going" (.ref z.gd) (bP "names" (.int n) (bP "answers" (.ref z.rb) (bP "asks" (.ref z.ra) [])))
section
variable {z:HA}{n:Int}
theorem xT:(hF z n).lookup ("asks":Str)=some (.ref z.ra):=by unfold hF;repeat (first|rw[aa,if_pos rfl]|rw[aa,if_neg (by decide +kernel)]);try rfl
theorem pO:(hF z n).lookup ("answers":Str)=some (.ref z.rb):=by unfold hF;repeat (first|rw[aa,if_pos rfl]|rw[aa,if_neg (by decide +kernel)]);try rfl
theorem Ax:(hF z n).lookup ("names":Str)=some (.int n):=by unfold hF;repeat (first|rw[aa,if_pos rfl]|rw[aa,if_neg (by decide +kernel)]);try rfl
theorem kJ:(hF z n).lookup ("going":Str)=some (.ref z.gd):=by unfold hF;repeat (first|rw[aa,if_pos rfl]|rw[aa,if_neg (by decide +kernel)]);try rfl
theorem vh:(hF z n).lookup ("least_free":Str)=none:=by unfold hF;repeat (first|rw[aa,if_pos rfl]|rw[aa,if_neg (by decide +kernel)]);try rfl
theorem vt:(hF z n).lookup ("check_ask":Str)=none:=by unfold hF;repeat (first|rw[aa,if_pos rfl]|rw[aa,if_neg (by decide +kernel)]);try rfl
theorem DB:(hF z n).lookup ("ask":Str)=none:=by unfold hF;repeat (first|rw[aa,if_pos rfl]|rw[aa,if_neg (by decide +kernel)]);try rfl
theorem wQ:(hF z n).lookup ("collect":Str)=none:=by unfold hF;repeat (first|rw[aa,if_pos rfl]|rw[aa,if_neg (by decide +kernel)]);try rfl
theorem zU:(hF z n).lookup ("under_way":Str)=none:=by unfold hF;repeat (first|rw[aa,if_pos rfl]|rw[aa,if_neg (by decide +kernel)]);try rfl
theorem Ar:(hF z n).lookup ("something_waits":Str)=none:=by unfold hF;repeat (first|rw[aa,if_pos rfl]|rw[aa,if_neg (by decide +kernel)]);try rfl
end
structure Hn (CH CR:Addr) (H:Hp) (z:HA) (st:Addr) (p:RP) (n:Int) (aw:List Int):Prop where
 ob:∃ dx,H z.h=some (.ins CH dx (hF z n))
 ra:Rn CR H z.ra st false "ask" "asked" "taken" p
 rb:Rn CR H z.rb st false "answer" "answered" "handed" p
 go:H z.gd=some (.dK (gK aw))
def HA.own (z:HA) (c:Addr):Prop:=c=z.h\/c=z.ra\/c=z.rb\/c=z.gd
structure TA' where
 h:Addr
 ra:Addr
 rb:Addr
 gd:Addr
def tF (z:TA'):List (Str × V):=bP "doing" (.ref z.gd) (bP "answers" (.ref z.rb) (bP "asks" (.ref z.ra) []))
section
variable {z:TA'}
theorem xc:(tF z).lookup ("asks":Str)=some (.ref z.ra):=by unfold tF;repeat (first|rw[aa,if_pos rfl]|rw[aa,if_neg (by decide +kernel)]);try rfl
theorem pP:(tF z).lookup ("answers":Str)=some (.ref z.rb):=by unfold tF;repeat (first|rw[aa,if_pos rfl]|rw[aa,if_neg (by decide +kernel)]);try rfl
theorem mF:(tF z).lookup ("doing":Str)=some (.ref z.gd):=by unfold tF;repeat (first|rw[aa,if_pos rfl]|rw[aa,if_neg (by decide +kernel)]);try rfl
theorem Cw:(tF z).lookup ("take":Str)=none:=by unfold tF;repeat (first|rw[aa,if_pos rfl]|rw[aa,if_neg (by decide +kernel)]);try rfl
theorem v6:(tF z).lookup ("check_answer":Str)=none:=by unfold tF;repeat (first|rw[aa,if_pos rfl]|rw[aa,if_neg (by decide +kernel)]);try rfl
theorem yH:(tF z).lookup ("answer":Str)=none:=by unfold tF;repeat (first|rw[aa,if_pos rfl]|rw[aa,if_neg (by decide +kernel)]);try rfl
theorem zN:(tF z).lookup ("tasks":Str)=none:=by unfold tF;repeat (first|rw[aa,if_pos rfl]|rw[aa,if_neg (by decide +kernel)]);try rfl
theorem B5:(tF z).lookup ("something_waits":Str)=none:=by unfold tF;repeat (first|rw[aa,if_pos rfl]|rw[aa,if_neg (by decide +kernel)]);try rfl
end
structure Tn (CT CR:Addr) (H:Hp) (z:TA') (st:Addr) (p:RP) (ts:List Int):Prop where
 ob:∃ dx,H z.h=some (.ins CT dx (tF z))
 ra:Rn CR H z.ra st true "ask" "asked" "taken" p
 rb:Rn CR H z.rb st true "answer" "answered" "handed" p
 go:H z.gd=some (.dK (gK ts))
def TA'.own (z:TA') (c:Addr):Prop:=c=z.h\/c=z.ra\/c=z.rb\/c=z.gd
section
variable {CH CT CR:Addr}{H H':Hp}{st:Addr}{p:RP}{n:Int}{aw:List Int}
theorem Rn.keep {q:Addr}{b:Bool}{w0 w1 w2:Str}(r:Rn CR H q st b w0 w1 w2 p) (k:∀ o,H q=some o->H' q=some o):Rn CR H' q st b w0 w1 w2 p:=by
 obtain⟨dx,hx⟩:=r
 exact⟨dx,k _ hx⟩
theorem Hn.keep {z:HA}(B:Hn CH CR H z st p n aw) (k:∀ c o,z.own c->H c=some o->H' c=some o):Hn CH CR H' z st p n aw:=by
 obtain⟨dx,hx⟩:=B.ob
 exact⟨⟨dx,k _ _ (.inl rfl) hx⟩,B.ra.keep λo=>k _ o (.inr (.inl rfl)),B.rb.keep λo=>k _ o (.inr (.inr (.inl rfl))),k _ _ (.inr (.inr (.inr rfl))) B.go⟩
theorem Hn.same {z:HA}(B:Hn CH CR H z st p n aw) (q:bU H H'):Hn CH CR H' z st p n aw:=B.keep λc o _=>q c o
theorem Hn.there {z:HA}(B:Hn CH CR H z st p n aw) {c:Addr}(hc:z.own c):∃ o,H c=some o/\((∃ C dx fs,o=.ins C dx fs)\/∃ kvs,o=.dK kvs):=by
 rcases hc with rfl|rfl|rfl|rfl
 . obtain⟨dx,hx⟩:=B.ob;exact⟨_,hx,.inl ⟨_,_,_,rfl⟩⟩
 . obtain⟨dx,hx⟩:=B.ra;exact⟨_,hx,.inl ⟨_,_,_,rfl⟩⟩
 . obtain⟨dx,hx⟩:=B.rb;exact⟨_,hx,.inl ⟨_,_,_,rfl⟩⟩
 . exact⟨_,B.go,.inr ⟨_,rfl⟩⟩
theorem Hn.lists {z:HA}{xs:List Addr}(B:Hn CH CR H z st p n aw) (k:Kp xs H H') (hx:∀ c∈xs,(∃ ys,H c=some (.lst ys))\/∃ ee:List DictEntry × Nat,H c=some (km c ee.1 ee.2)):Hn CH CR H' z st p n aw :=
 B.keep λc o hc q=>k c o (λm=>by
  obtain⟨o',e,s⟩:=B.there hc
  rcases hx c m with⟨ys,e'⟩|⟨ee,e'⟩
  . rw[e]at e';cases e'
    rcases s with⟨_,_,_,s⟩|⟨_,s⟩<;>cases s
  . rw[e]at e';cases e'
    rcases s with⟨_,_,_,s⟩|⟨_,s⟩<;>cases s) q
theorem Tn.keep {z:TA'}(B:Tn CT CR H z st p aw) (k:∀ c o,z.own c->H c=some o->H' c=some o):Tn CT CR H' z st p aw:=by
 obtain⟨dx,hx⟩:=B.ob
 exact⟨⟨dx,k _ _ (.inl rfl) hx⟩,B.ra.keep λo=>k _ o (.inr (.inl rfl)),B.rb.keep λo=>k _ o (.inr (.inr (.inl rfl))),k _ _ (.inr (.inr (.inr rfl))) B.go⟩
theorem Tn.there {z:TA'}(B:Tn CT CR H z st p aw) {c:Addr}(hc:z.own c):∃ o,H c=some o/\((∃ C dx fs,o=.ins C dx fs)\/∃ kvs,o=.dK kvs):=by
 rcases hc with rfl|rfl|rfl|rfl
 . obtain⟨dx,hx⟩:=B.ob;exact⟨_,hx,.inl ⟨_,_,_,rfl⟩⟩
 . obtain⟨dx,hx⟩:=B.ra;exact⟨_,hx,.inl ⟨_,_,_,rfl⟩⟩
 . obtain⟨dx,hx⟩:=B.rb;exact⟨_,hx,.inl ⟨_,_,_,rfl⟩⟩
 . exact⟨_,B.go,.inr ⟨_,rfl⟩⟩
theorem Tn.lists {z:TA'}{xs:List Addr}(B:Tn CT CR H z st p aw) (k:Kp xs H H') (hx:∀ c∈xs,(∃ ys,H c=some (.lst ys))\/∃ ee:List DictEntry × Nat,H c=some (km c ee.1 ee.2)):Tn CT CR H' z st p aw :=
 B.keep λc o hc q=>k c o (λm=>by
  obtain⟨o',e,s⟩:=B.there hc
  rcases hx c m with⟨ys,e'⟩|⟨ee,e'⟩
  . rw[e]at e';cases e'
    rcases s with⟨_,_,_,s⟩|⟨_,s⟩<;>cases s
  . rw[e]at e';cases e'
    rcases s with⟨_,_,_,s⟩|⟨_,s⟩<;>cases s) q
end
def d9 (n:Nat) (aw:List Int):Option Int:=(List.range n).map (λ(k:Nat)=>(k:Int)) |>.find? λk=>!aw.contains k
theorem wJ {n i:Nat}{aw:List Int}(hi:i < n) (h:aw.contains (i:Int)=false) (hno:∀ j < i,aw.contains (j:Int)=true):d9 n aw=some (i:Int):=by
 unfold d9
 rw[List.find?_eq_some_iff_getElem]
 refine⟨by rw[h];rfl,i,by simpa using hi,by simp,λj hj=>?_⟩
 simp only[List.getElem_map,List.getElem_range]
 rw[hno j hj];rfl
theorem ww {n:Nat}{aw:List Int}(hno:∀ j < n,aw.contains (j:Int)=true):d9 n aw=none:=by
 unfold d9
 rw[List.find?_eq_none]
 intro x hx
 obtain⟨j,hj,rfl⟩:=List.mem_map.mp hx
 rw[hno j (List.mem_range.mp hj)];decide
theorem pz {n:Nat}{aw:List Int}{k:Int}(h:d9 n aw=some k):aw.contains k=false:=by
 unfold d9 at h
 have:=List.find?_some h
 simpa using this
theorem vw {n:Nat}{aw:List Int}{k:Int}(h:d9 n aw=some k):0 <= k/\k < n:=by
 unfold d9 at h
 have:=List.mem_of_find?_eq_some h
 obtain⟨j,hj,rfl⟩:=List.mem_map.mp this
 have:=List.mem_range.mp hj
 omega
theorem qE (i:Str):∀ ns:List Str,inV (.str i) (ns.map V.str)=ns.contains i
|[]=>rfl
|n :: ns=>by
  have ih:=qE i ns
  unfold inV at ih |-
  rw[List.map_cons,List.any_cons,ih,List.contains_cons]
  congr 1
  show eqV (.str n) (.str i)=(i == n)
  simp only[eqV]
  rw[Bool.eq_iff_iff,beq_iff_eq,beq_iff_eq]
  exact eq_comm
theorem gQ:∀ ns:List Str,(ns.map V.str).all oH=true
|[]=>rfl
|n :: ns=>by rw[List.map_cons,List.all_cons,gQ ns];rfl
theorem pN {α:Type}{r:Bool->α}{b:Bool}{u v:α}:bt (bt r b u) b v=bt r b v:=by
 funext c;unfold bt;split<;>rfl
theorem kS {H:Hp}{t:Str}(h:PyData.strOk t=true):mv H (.str t) (.str t):=⟨h,by show 0 <= 8;decide,rfl,.inl ⟨_,rfl⟩⟩
theorem kT {H:Hp}{a:Addr}{t:Str}{i:Int}(h:PyData.strOk t=true) (ha:H a=some (.tup [.str t,.int i])):mv H (.tuple [.str t,.int i]) (.ref a):=⟨by
 show (PyData.strOk _ && (true && true))=true
 rw[h];rfl,by show 1 <= 8;decide,⟨a,_,rfl,ha,⟨_,_,rfl,rfl,_,_,rfl,rfl,rfl⟩⟩,.inr ⟨_,rfl⟩⟩
theorem up1 {H:Hp}{a b:Addr}{o:HO}(h:upd H a o b=none):b≠a/\H b=none:=by
 have n:b≠a:=λz=>by rw[z,a8]at h;cases h
 exact⟨n,by rw[ag n]at h;exact h⟩
theorem bK {H H':Hp}{c:Addr}(e:bU H H') (h:H' c=none):H c=none:=by
 cases z:H c with
|none=>rfl
|some o=>rw[e c o z]at h;cases h
theorem gc {H H':Hp}{xs:List Addr}{c:Addr}(e:Kp xs H H') (h:H' c=none) (n:∀ x∈xs,H' x≠none):H c=none:=by
 cases z:H c with
|none=>rfl
|some o=>rw[e c o (λm=>n c m h) z]at h;cases h
def mP (p:RP) (w0 w1:Str) (A:Int) (t:V):List (PyData × V) :=
 if p.e then [(.str w1,.int ((A+1) % (p.s * p.R))),(.tuple [.str w0,.int (A % p.s)],t)] else [(.tuple [.str w0,.int (A % p.s)],t),(.str w1,.int ((A+1) % (p.s * p.R)))]
theorem Sto.noT {w:World}{C:Addr}{H:Hp}{x hd rl:Addr}{l:Bool->Addr}{M:List (PyData × V)}{r:Bool->List (PyData × V)}(S:Sto w C H x hd rl l M r) {b:Bool}{c:Addr}{vs:List V}(h:H c=some (.tup vs)):c ∉ [l b]:=λz=>by
 obtain⟨ts,e,_⟩:=S.rw b
 rw[List.mem_singleton.mp z,e]at h;cases h
theorem Sto.noI {w:World}{C:Addr}{H:Hp}{x hd rl:Addr}{l:Bool->Addr}{M:List (PyData × V)}{r:Bool->List (PyData × V)}(S:Sto w C H x hd rl l M r) {b:Bool}{c C' dx:Addr}{fs:List (Str × V)}(h:H c=some (.ins C' dx fs)):c ∉ [l b]:=λz=>by
 obtain⟨ts,e,_⟩:=S.rw b
 rw[List.mem_singleton.mp z,e]at h;cases h
theorem Sto.noD {w:World}{C:Addr}{H:Hp}{x hd rl:Addr}{l:Bool->Addr}{M:List (PyData × V)}{r:Bool->List (PyData × V)}(S:Sto w C H x hd rl l M r) {c:Addr}{kvs:List (Key × V)}(h:H c=some (.dK kvs)):¬ Sto.own x hd rl l c:=λz=>by
 rcases z with rfl|rfl|rfl|rfl|rfl
 . obtain⟨dx,e⟩:=S.ob;rw[e]at h;cases h
 . obtain⟨es,e⟩:=S.me.there;rw[e]at h;cases h
 . rw[S.ro]at h;cases h
 . obtain⟨ts,e,_⟩:=S.rw false;rw[e]at h;cases h
 . obtain⟨ts,e,_⟩:=S.rw true;rw[e]at h;cases h
theorem rE {X:Cx}:jI (CXv X.prog X.w) X E0:=λ_ _ _ _ _ _ _ h=>by
 obtain⟨_,_,_,_,_,_,_,_,_,_,_,_,_,_,q⟩:=h
 exact q.elim
theorem gk {K:PySem.W.Frag}{H:Hp}{a C:Addr}{fs:List (Str × V)}{v:V}{f:Str}{Q:V->Prop}(hx:∃ dx,H a=some (.ins C dx fs)) (c:Cls K C) (na:b6 K C f) (l:fs.lookup f=some v) (q:Q v) :
 ∃ a' C' dx' fs' v',V.ref a=.ref a'/\H a'=some (.ins C' dx' fs')/\Cls K C'/\b6 K C' f/\fs'.lookup f=some v'/\Q v':=let ⟨dx,hx⟩:=hx;⟨a,C,dx,fs,v,rfl,hx,c,na,l,q⟩
theorem f8 {H:Hp}{a C:Addr}{fs:List (Str × V)}{m:Str}{q:Prop}(hx:∃ dx,H a=some (.ins C dx fs)) (l:fs.lookup m=none) (h:q) :
 ∃ a' dx' fs',V.ref a=.ref a'/\H a'=some (.ins C dx' fs')/\fs'.lookup m=none/\q:=let ⟨dx,hx⟩:=hx;⟨a,dx,fs,rfl,hx,l,h⟩
section
variable {w:World}{CH CR CS:Addr}{H H':Hp}{z:HA}{sa:SA}{p:RP}{n:Int}{aw:List Int}{M:List (PyData × V)}{r:Bool->List (PyData × V)}
end
section
variable {w:World}{CT CR CS:Addr}{H H':Hp}{z:TA'}{sa:SA}{p:RP}{aw:List Int}{M:List (PyData × V)}{r:Bool->List (PyData × V)}
end
def RD (H:Hp) (p:PyData × V) (d:PyData):Prop:=∃ x,d=.tuple [p.1,x]/\DV H x p.2
theorem uI {H:Hp}:∀ {es:List (PyData × V)}{ts:List V}{ds:List PyData},Paired (Wt H) es ts->Paired (RD H) es ds->DVs H ds ts
|_,_,_,.nil,.nil=>rfl
|_,_,_,.cons ⟨t,cv,e,ht,hk⟩ r,.cons ⟨x,e',dx⟩ r'=>by
  subst e e'
  exact⟨_,_,rfl,⟨t,_,rfl,ht,_,_,rfl,hk.2.2.1,_,_,rfl,dx,rfl⟩,uI r r'⟩
theorem mD {H H':Hp}{h dh:Addr}{C:Addr}(nh:H h=none) (ndh:H dh=none) (kp:Kp [h] (upd (upd H dh (.own h)) h (.ins C dh [])) H'):bU H H':=λc o e=>by
 have y1:=aj e ndh
 have y2:=aj e nh
 exact kp c o (λz=>y2 (List.mem_singleton.mp z)) (by rw[ag y2,ag y1];exact e)
theorem Er {x:V}:[x].length <= sizeLine:=by show 1 <= sizeLine;decide
theorem uc:([]:List V).length <= sizeLine:=by show 0 <= sizeLine;decide
theorem sH {K:PySem.W.Frag}:kitOne K (.type "tuple") (.type "tuple")=some true:=by rfl
theorem Fv {K:PySem.W.Frag}:kitOne K (.type "int") (.type "tuple")=some false:=by rfl
end L2
namespace L2
open PySem PySem.Spec PyProof.Rows
inductive Cn where
|asked|taken|answered|handed|hs|ts
instance:DecidableEq Cn:=λa b=>by
 cases a<;>cases b<;>first|exact isTrue rfl|exact isFalse (λh=>by cases h)
def Cn.key:Cn->Str
|.asked=>"asked"
|.taken=>"taken"
|.answered=>"answered"
|.handed=>"handed"
|.hs=>"hand sleeps"
|.ts=>"heart sleeps"
def mq:Bool->Str
|false=>"ask"
|true=>"answer"
def pk (g:Bool) (i:Int):PyData:=.tuple [.str (mq g),.int i]
inductive Wr where
|c (k:Cn) (i:Int)
|p (g:Bool) (i nm wt:Int)
def Wr.key:Wr->PyData
|.c k _=>.str k.key
|.p g i _ _=>pk g i
def Wr.dat:Wr->PyData
|.c _ i=>.int i
|.p _ _ nm wt=>.tuple [.int nm,.int wt]
def Wr.Ok:Wr->Prop
|.c _ _=>True
|.p _ i nm _=>(0 <= i/\i < 8)/\0 <= nm/\nm < 9
def Wr.cnt (k:Cn):Wr->Option Int
|.c k' i=>if k'=k then some i else none
|.p _ _ _ _=>none
def Wr.plc (g:Bool) (i:Int):Wr->Option (Int × Int)
|.c _ _=>none
|.p g' i' nm wt=>if g'=g/\i'=i then some (nm,wt) else none
structure Mem where
 c:Cn->Int
 p:Bool->Int->Option (Int × Int)
def Mem.zero:Mem:=⟨λ_=>0,λ_ _=>none⟩
def Mem.put (m:Mem) (x:Wr):Mem:=⟨λk=>(x.cnt k).getD (m.c k),λg i=>(x.plc g i).or (m.p g i)⟩
def rdC (m:Mem) (row:List Wr) (k:Cn):Int:=(row.reverse.findSome? (Wr.cnt k)).getD (m.c k)
def rdP (m:Mem) (row:List Wr) (g:Bool) (i:Int):Option (Int × Int):=(row.reverse.findSome? (Wr.plc g i)).or (m.p g i)
theorem xM (k:Cn):PyData.strOk k.key=true:=by cases k<;>decide +kernel
theorem EZ (g:Bool):PyData.strOk (mq g)=true:=by cases g<;>decide +kernel
theorem Eo {k k':Cn}(h:k.key=k'.key):k=k':=by
 cases k<;>cases k'<;>first|rfl|exact absurd h (by decide +kernel)
theorem Dy {g g':Bool}(h:mq g=mq g'):g=g':=by
 cases g<;>cases g'<;>first|rfl|exact absurd h (by decide +kernel)
theorem oY (g:Bool) (i:Int):MX.kd (pk g i)=true:=by
 show (PyData.strOk (mq g) && (true && true))=true
 rw[EZ];rfl
theorem oO (k:Cn):MX.kd (.str k.key)=true:=xM k
theorem Wr.key_kd (x:Wr):MX.kd x.key=true:=by
 cases x with
|c k i=>exact oO k
|p g i nm wt=>exact oY g i
theorem Wr.dat_kd (x:Wr):MX.kd x.dat=true:=by cases x<;>rfl
theorem DN {g g':Bool}{i i':Int}(h:pk g i=pk g' i'):g=g'/\i=i':=by
 injection h with h
 injection h with h1 h2
 injection h1 with h1
 injection h2 with h2 _
 injection h2 with h2
 exact⟨Dy h1,h2⟩
theorem qL {x:Wr}{d:PyData}(hd:MX.kd d=true):PyData.eqv x.key d=true ↔ x.key=d:=MX.eqv_iff _ _ x.key_kd hd
theorem Wr.cnt_some {x:Wr}{k:Cn}{i:Int}(h:x.cnt k=some i):x=.c k i:=by
 cases x with
|c k' j =>
  unfold Wr.cnt at h
  dsimp only at h
  split at h
  . rename_i e;cases e;cases h;rfl
  . cases h
|p=>cases h
theorem Wr.plc_some {x:Wr}{g:Bool}{i nm wt:Int}(h:x.plc g i=some (nm,wt)):x=.p g i nm wt:=by
 cases x with
|c=>cases h
|p g' j a b =>
  unfold Wr.plc at h
  dsimp only at h
  split at h
  . rename_i e;obtain⟨e1,e2⟩:=e;cases e1;cases e2;cases h;rfl
  . cases h
theorem Wr.cnt_none {x:Wr}{k:Cn}(h:x.cnt k=none):x.key≠.str k.key:=by
 intro e
 cases x with
|c k' j =>
  have:=Eo (PyData.str.inj e)
  unfold Wr.cnt at h
  dsimp only at h
  rw[if_pos this]at h;cases h
|p=>cases e
theorem Wr.plc_none {x:Wr}{g:Bool}{i:Int}(h:x.plc g i=none):x.key≠pk g i:=by
 intro e
 cases x with
|c=>cases e
|p g' j a b =>
  have:=DN e
  unfold Wr.plc at h
  dsimp only at h
  rw[if_pos this]at h;cases h
def WrR (H:Hp) (x:Wr) (q:PyData × V):Prop:=x.Ok/\q.1=x.key/\DV H x.dat q.2
theorem WrR.keep {H H':Hp}{x:Wr}{q:PyData × V}(h:WrR H x q) (ht:∀ b vs,H b=some (.tup vs)->H' b=some (.tup vs)):WrR H' x q:=⟨h.1,h.2.1,DV.keep ht _ _ x.dat_kd h.2.2⟩
def i5:List PyData:=[.str (Cn.key .asked),.str (Cn.key .taken),.str (Cn.key .answered),.str (Cn.key .handed),.str (Cn.key .hs),.str (Cn.key .ts),
 pk false 0,pk false 1,pk false 2,pk false 3,pk false 4,pk false 5,pk false 6,pk false 7,pk true 0,pk true 1,pk true 2,pk true 3,pk true 4,pk true 5,pk true 6,pk true 7]
theorem Wr.key_all {x:Wr}(h:x.Ok):x.key∈i5:=by
 cases x with
|c k i=>cases k<;>simp[Wr.key,i5]
|p g i a b =>
  have h':0 <= i/\i < 8:=h.1
  have:i=0\/i=1\/i=2\/i=3\/i=4\/i=5\/i=6\/i=7:=by omega
  rcases this with rfl|rfl|rfl|rfl|rfl|rfl|rfl|rfl<;>cases g<;>simp[Wr.key,i5]
theorem qy {α:Type} [DecidableEq α]:∀ {l ks:List α},l.Nodup->(∀ a∈l,a∈ks)->l.length <= ks.length
|[],_,_,_=>Nat.zero_le _
|a :: l,ks,h,hs=>by
  have ha:=hs a List.mem_cons_self
  have hn:=List.nodup_cons.mp h
  have:=qy (l:=l) (ks:=ks.erase a) hn.2 λb hb=>(List.mem_erase_of_ne (λe=>hn.1 (by rw[<-e];exact hb))).mpr (hs b (List.mem_cons_of_mem _ hb))
  rw[List.length_erase_of_mem ha]at this
  have h0:0 < ks.length:=List.length_pos_of_mem ha
  rw[List.length_cons];omega
structure MemR (H:Hp) (M:List (PyData × V)) (m:Mem):Prop where
 c:∀ k:Cn,(cu M (.str k.key)).getD (.int 0)=.int (m.c k)
 p:∀ g i,(m.p g i=none/\cu M (pk g i)=none)\/∃ nm wt v,m.p g i=some (nm,wt)/\cu M (pk g i)=some v/\DV H (.tuple [.int nm,.int wt]) v
 ks:∀ q∈M,q.1∈i5
 ok:∀ g i nm wt,m.p g i=some (nm,wt)->0 <= nm/\nm < 9
theorem vT:∀ d∈i5,MX.kd d=true:=by
 intro d hd
 simp only[i5,List.mem_cons,List.not_mem_nil,or_false]at hd
 rcases hd with rfl|rfl|rfl|rfl|rfl|rfl|rfl|rfl|rfl|rfl|rfl|rfl|rfl|rfl|rfl|rfl|rfl|rfl|rfl|rfl|rfl|rfl<;>first|exact oO _|exact oY _ _
theorem MemR.kk {H:Hp}{M:List (PyData × V)}{m:Mem}(h:MemR H M m):KK M:=λq hq=>vT _ (h.ks q hq)
theorem MemR.zero {H:Hp}:MemR H [] Mem.zero:=⟨λ_=>rfl,λ_ _=>.inl ⟨rfl,rfl⟩,λ_ h=>(by cases h),λ_ _ _ _ h=>(by cases h)⟩
theorem MemR.keep {H H':Hp}{M:List (PyData × V)}{m:Mem}(h:MemR H M m) (ht:∀ b vs,H b=some (.tup vs)->H' b=some (.tup vs)):MemR H' M m :=
 ⟨h.c,λg i=>(h.p g i).imp id λ⟨nm,wt,v,a,b,c⟩=>⟨nm,wt,v,a,b,DV.keep ht _ _ rfl c⟩,h.ks,h.ok⟩
theorem Dn {M:List (PyData × V)}{k:PyData}{v:V}{K:List PyData}(h:∀ q∈M,q.1∈K) (hk:k∈K):∀ q∈tz M k v,q.1∈K:=by
 intro q hq
 unfold tz at hq
 split at hq
 . obtain⟨p,hp,e⟩:=List.mem_map.mp hq
   have:=h p hp
   rw[<-e]
   split<;>exact this
 . rcases List.mem_append.mp hq with z|z
   . exact h q z
   . rw[List.mem_singleton.mp z];exact hk
theorem MemR.put {H:Hp}{M:List (PyData × V)}{m:Mem}{x:Wr}{q:PyData × V}(h:MemR H M m) (hx:WrR H x q):MemR H (tz M q.1 q.2) (m.put x):=by
 obtain⟨ho,hk,hd⟩:=hx
 refine⟨λk=>?_,λg i=>?_,Dn h.ks (by rw[hk];exact Wr.key_all ho),λg i nm wt e=>?_⟩
 . rw[hk,vk h.kk x.key_kd (oO k)]
   unfold Mem.put
   dsimp only
   cases e:x.cnt k with
  |some i =>
    have ex:=Wr.cnt_some e
    subst ex
    rw[if_pos (show PyData.eqv (Wr.key (.c k i)) (.str k.key)=true from cQ (oO k))]
    exact hd
  |none =>
    rw[if_neg λz=>Wr.cnt_none e ((qL (oO k)).mp z)]
    exact h.c k
 . rw[hk,vk h.kk x.key_kd (oY g i)]
   unfold Mem.put
   dsimp only
   cases e:x.plc g i with
  |some nw =>
    have ex:=Wr.plc_some (nm:=nw.1) (wt:=nw.2) e
    subst ex
    rw[if_pos (show PyData.eqv (Wr.key (.p g i nw.1 nw.2)) (pk g i)=true from cQ (oY g i))]
    exact .inr ⟨nw.1,nw.2,q.2,rfl,rfl,hd⟩
  |none =>
    rw[if_neg λz=>Wr.plc_none e ((qL (oY g i)).mp z)]
    exact h.p g i
 . have e':(x.plc g i).or (m.p g i)=some (nm,wt):=e
   cases q:x.plc g i with
  |none=>rw[q]at e';exact h.ok g i nm wt e'
  |some nw =>
    rw[q]at e'
    cases e'
    have ex:=Wr.plc_some q
    subst ex
    exact ho.2
theorem Paired.rev {α β:Type}{F:α->β->Prop}:∀ {xs:List α}{ys:List β},Paired F xs ys->Paired F xs.reverse ys.reverse
|_,_,.nil=>.nil
|_,_,.cons r t=>by
  rw[List.reverse_cons,List.reverse_cons]
  exact Paired.snoc (Paired.rev t) r
theorem Bm {H:Hp}{k:Cn}:∀ {row:List Wr}{es:List (PyData × V)},Paired (WrR H) row es ->
 (es.find? λp=>PyData.eqv p.1 (.str k.key)).map (·.2)=(row.findSome? (Wr.cnt k)).map V.int
|_,_,.nil=>rfl
|x :: row,q :: es,.cons ⟨_,hk,hd⟩ t=>by
  rw[List.find?_cons,List.findSome?_cons]
  cases e:x.cnt k with
 |some i =>
   have ex:=Wr.cnt_some e
   subst ex
   have:PyData.eqv q.1 (.str k.key)=true:=by rw[hk];exact cQ (oO k)
   rw[this]
   show some q.2=some (V.int i)
   exact congrArg some hd
 |none =>
   have:PyData.eqv q.1 (.str k.key)=false:=by
    rw[hk]
    cases z:PyData.eqv x.key (.str k.key) with
   |false=>rfl
   |true=>exact absurd ((qL (oO k)).mp z) (Wr.cnt_none e)
   rw[this]
   exact Bm t
theorem Bn {H:Hp}{g:Bool}{i:Int}:∀ {row:List Wr}{es:List (PyData × V)},Paired (WrR H) row es ->
 (row.findSome? (Wr.plc g i)=none/\(es.find? λp=>PyData.eqv p.1 (pk g i))=none)\/∃ nm wt q,row.findSome? (Wr.plc g i)=some (nm,wt)/\(es.find? λp=>PyData.eqv p.1 (pk g i))=some q/\DV H (.tuple [.int nm,.int wt]) q.2
|_,_,.nil=>.inl ⟨rfl,rfl⟩
|x :: row,q :: es,.cons ⟨_,hk,hd⟩ t=>by
  rw[List.find?_cons,List.findSome?_cons]
  cases e:x.plc g i with
 |some nw =>
   have ex:=Wr.plc_some (nm:=nw.1) (wt:=nw.2) e
   subst ex
   have:PyData.eqv q.1 (pk g i)=true:=by rw[hk];exact cQ (oY g i)
   rw[this]
   exact .inr ⟨nw.1,nw.2,q,rfl,rfl,hd⟩
 |none =>
   have:PyData.eqv q.1 (pk g i)=false:=by
    rw[hk]
    cases z:PyData.eqv x.key (pk g i) with
   |false=>rfl
   |true=>exact absurd ((qL (oY g i)).mp z) (Wr.plc_none e)
   rw[this]
   exact Bn t
theorem cG {H:Hp}{M es:List (PyData × V)}{m:Mem}{row:List Wr}(h:MemR H M m) (r:Paired (WrR H) row es) (k:Cn):cr M es (.str k.key)=.int (rdC m row k):=by
 rw[uF]
 unfold AG rdC
 rw[Bm (Paired.rev r)]
 cases row.reverse.findSome? (Wr.cnt k) with
|some i=>rfl
|none=>exact h.c k
theorem x6 {H:Hp}{M es:List (PyData × V)}{m:Mem}{row:List Wr}(h:MemR H M m) (r:Paired (WrR H) row es) (g:Bool) (i:Int) :
 (rdP m row g i=none/\cr M es (pk g i)=.int 0)\/∃ nm wt c,rdP m row g i=some (nm,wt)/\cr M es (pk g i)=.ref c/\H c=some (.tup [.int nm,.int wt]):=by
 rw[uF]
 unfold AG rdP
 have tup:∀ {nm wt:Int} {v:V},DV H (.tuple [.int nm,.int wt]) v->∃ c,v=.ref c/\H c=some (.tup [.int nm,.int wt]):=λ{nm wt v} h=>by
  obtain⟨c,vs,e,hc,v1,r1,e1,d1,v2,r2,e2,d2,e3⟩:=h
  cases d1;cases d2;cases e3;subst e2 e1
  exact⟨c,e,hc⟩
 rcases Bn (g:=g) (i:=i) (Paired.rev r) with⟨e1,e2⟩|⟨nm,wt,q,e1,e2,d⟩
 . rw[e1,e2]
   rcases h.p g i with⟨a,b⟩|⟨nm,wt,v,a,b,c⟩
   . rw[a,b];exact .inl ⟨rfl,rfl⟩
   . rw[a,b]
     obtain⟨c',rfl,hc⟩:=tup c
     exact .inr ⟨nm,wt,c',rfl,rfl,hc⟩
 . rw[e1,e2]
   obtain⟨c',e,hc⟩:=tup d
   exact .inr ⟨nm,wt,c',rfl,by show q.2=_;exact e,hc⟩
theorem xk {H:Hp}{g:Bool}{i nm wt:Int}:∀ {row:List Wr}{es:List (PyData × V)},Paired (WrR H) row es->row.findSome? (Wr.plc g i)=some (nm,wt)->0 <= nm/\nm < 9
|_,_,.nil,h=>by cases h
|x :: row,_,.cons hx t,h=>by
  rw[List.findSome?_cons]at h
  cases q:x.plc g i with
 |none=>rw[q]at h;exact xk t h
 |some nw =>
   rw[q]at h
   cases h
   have ex:=Wr.plc_some q
   subst ex
   exact hx.1.2
theorem Ez {H:Hp}{M es:List (PyData × V)}{m:Mem}{row:List Wr}(h:MemR H M m) (r:Paired (WrR H) row es) {g:Bool}{i nm wt:Int}(e:rdP m row g i=some (nm,wt)):0 <= nm/\nm < 9:=by
 unfold rdP at e
 cases q:row.reverse.findSome? (Wr.plc g i) with
|none=>rw[q]at e;exact h.ok g i nm wt e
|some nw =>
  rw[q]at e
  cases e
  exact xk (Paired.rev r) q
def StT (w:World) (C:Addr) (H:Hp) (sa:SA) (m:Mem) (rs:Bool->List Wr):Prop:=∃ M r,sa.At w C H M r/\MemR H M m/\∀ b,Paired (WrR H) (rs b) (r b)
section
variable {w:World}{C:Addr}{H H':Hp}{sa:SA}{m:Mem}{rs:Bool->List Wr}
theorem StT.keep (S:StT w C H sa m rs) (h:∀ c o,sa.own c->H c=some o->H' c=some o) (ht:∀ b vs,H b=some (.tup vs)->H' b=some (.tup vs)):StT w C H' sa m rs:=by
 obtain⟨M,r,S,R,P⟩:=S
 exact⟨M,r,S.keep (λc o hc=>h c o (y8 hc)) ht,R.keep ht,λb=>Paired.mapP (P b) λ_ _ q=>q.keep ht⟩
theorem StT.same (S:StT w C H sa m rs) (h:bU H H'):StT w C H' sa m rs:=S.keep (λc o _=>h c o) λb vs=>h b _
theorem StT.there (S:StT w C H sa m rs) {c:Addr}(h:sa.own c):∃ o,H c=some o/\(∀ xs,o≠.tup xs):=by
 obtain⟨M,r,S,_⟩:=S
 exact S.there h
theorem StT.ob (S:StT w C H sa m rs):∃ dx,H sa.x=some (.ins C dx (stF sa.hd sa.rl)):=by
 obtain⟨M,r,S,_⟩:=S
 exact S.ob
theorem StT.names (S:StT w C H sa m rs) {b g:Bool}{i nm wt:Int}(e:rdP m (rs b) g i=some (nm,wt)):0 <= nm/\nm < 9:=by
 obtain⟨M,r,S,R,P⟩:=S
 exact Ez R (P b) e
theorem StT.small {M:List (PyData × V)}{r:Bool->List (PyData × V)}(S:sa.At w C H M r) (R:MemR H M m):M.length <= 22:=by
 obtain⟨es,ep,_,_,nd,_⟩:=S.me
 have:=@qy PyData (λa b=>Classical.propDecidable (a=b)) _ i5 nd λd hd=>by
  obtain⟨q,hq,rfl⟩:=List.mem_map.mp hd
  exact R.ks q hq
 rw[List.length_map]at this
 exact this
end
theorem pi {α β:Type}{F:α->β->Prop}:∀ {xs:List α}{ys:List β}{xs':List α}{ys':List β},Paired F xs ys->Paired F xs' ys'->Paired F (xs++xs') (ys++ys')
|_,_,_,_,.nil,t=>t
|_,_,_,_,.cons r t,t'=>.cons r (pi t t')
theorem StT.grow {w:World}{C:Addr}{H H':Hp}{sa:SA}{m:Mem}{rs:Bool->List Wr}{M:List (PyData × V)}{r:Bool->List (PyData × V)}{b:Bool}{ws:List Wr}{es:List (PyData × V)}(R:MemR H M m) (P:∀ b,Paired (WrR H) (rs b) (r b)) (S2:sa.At w C H' M (bt r b (r b++es))) (ht:∀ c vs,H c=some (.tup vs)->H' c=some (.tup vs)) (hn:Paired (WrR H') ws es):StT w C H' sa m (bt rs b (rs b++ws)):=by
 refine⟨M,_,S2,R.keep ht,λc=>?_⟩
 by_cases e:c=b
 . subst e
   rw[aS,aS]
   exact pi (Paired.mapP (P c) λ_ _ q=>q.keep ht) hn
 . rw[ff e,ff e]
   exact Paired.mapP (P c) λ_ _ q=>q.keep ht
def bo (p:RP) (m:Mem) (row:List Wr) (a b:Cn):Int:=(rdC m row a - rdC m row b) % (p.s * p.R)
def lq (p:RP) (m:Mem) (row:List Wr) (a:Cn):Wr:=.c a ((rdC m row a+1) % (p.s * p.R))
def AY (p:RP) (m:Mem) (row:List Wr) (g:Bool) (a:Cn) (nm wt:Int):List Wr :=
 if p.e then [lq p m row a,.p g (rdC m row a % p.s) nm wt] else [.p g (rdC m row a % p.s) nm wt,lq p m row a]
theorem uY {H:Hp}{p:RP}{m:Mem}{row:List Wr}{g:Bool}{a:Cn}{nm wt:Int}{t:Addr}(hp:p.Ok) (hn:0 <= nm/\nm < 9) (ht:H t=some (.tup [.int nm,.int wt])):Paired (WrR H) (AY p m row g a nm wt) (mP p (mq g) a.key (rdC m row a) (.ref t)):=by
 have h1:WrR H (.p g (rdC m row a % p.s) nm wt) (.tuple [.str (mq g),.int (rdC m row a % p.s)],.ref t):=by
  have a1:=Int.emod_nonneg (rdC m row a) (show p.s≠0 by have:=hp.s0;omega)
  have a2:=Int.emod_lt_of_pos (rdC m row a) hp.s0
  have:=hp.s8
  exact⟨⟨⟨a1,by omega⟩,hn⟩,rfl,⟨t,_,rfl,ht,_,_,rfl,rfl,_,_,rfl,rfl,rfl⟩⟩
 have h2:WrR H (lq p m row a) (.str a.key,.int ((rdC m row a+1) % (p.s * p.R))):=⟨trivial,rfl,rfl⟩
 unfold AY mP
 cases p.e with
|true=>exact .cons h2 (.cons h1 .nil)
|false=>exact .cons h1 (.cons h2 .nil)
end L2
namespace L2
open PySem PySem.Spec PyProof.Rows
def dG (X:Cx) (scope:Scope) (cl:List (Str × Addr)) (C:Addr) (x x2:Str) (N':List Str) (s₃:Shared) (H₃:Hp) (pins:List (Addr × Obj)) (ex:List Addr) (E':Value->Shared->Prop):Cx :=
 { X with N:=N',s₀:=s₃,H₀:=H₃,env:=compEnvC scope cl C X.env,outer:=X.stack,stack:=X.stack,ex:=ex,fn:=λy=>y == x || y == x2,pn:=X.pn++pins,xe:=E' }
theorem Bs {X:Cx}{x1 x2:Str}{p1 p2 pos:Pos}{k:Nat}(hc:X.calm=true) (hN:X.N.Nodup) (h0:X.N[0]?=some x1) (h1:X.N[1]?=some x2) (l1:Loc X.env.scope x1) (l2:Loc X.env.scope x2) (f1:X.fn x1=true) (f2:X.fn x2=true) :
 PG X (.Tuple [.Name x1 p1,.Name x2 p2] k pos) (EJ X.K 2 (u9 (gS 0) (u9 (gS 1) EI))) :=
 BJ hc (jn (cZ hN h0 l1 (.inl f1)) (jn (cZ hN h1 l2 (.inl f2)) xQ))
abbrev CN (ifs:List Expr) (env:Env):Sem Bool:=forIn ifs true λc r=>if r=true then do
 let ok <-isTrue c env (eval c env)
 pure (ForInStep.yield ok) else pure (ForInStep.yield r)
theorem zA {P:Program}{w:World}{A:Around}{R:Result->Shared->Prop}{s:Shared}{elt tg iter:Expr}{ifs:List Expr}{sc:Scope}{ps:Pos}{it acc:Value}{env:Env}(J:Nat->Shared->Prop)
 (turn:∀ k t,J k t->wpAny (model P w) A (pyNext it) (λo t1=>match o with
 |none=>R (.ok .next) t1
 |some y=>wpAny (model P w) A (letOwnedTupleGo tg it y) (λ_ t2=>wpAny (model P w) A (assign tg env y) (λ_ t3=>wpAny (model P w) A (CN ifs env) (λok t4 =>
   if ok=true then wpAny (model P w) A (eval elt env) (λx t5=>wpAny (model P w) A (call (.builtin "list.append") [acc,x]) (λ_ t6=>∃ j,j < k/\J j t6) (notedBy (model P w) A env λe t'=>R (.error e) t') t5) (notedBy (model P w) A env λe t'=>R (.error e) t') t4
   else ∃ j,j < k/\J j t4) (notedBy (model P w) A env λe t'=>R (.error e) t') t3) (notedBy (model P w) A env λe t'=>R (.error e) t') t2) (notedBy (model P w) A env λe t'=>R (.error e) t') t1) (notedBy (model P w) A env λe t'=>R (.error e) t') t)
 (k:Nat) (h:J k s):codeAny (model P w) A (.compLoop (.ListComp elt [⟨tg,iter,ifs,0⟩] sc ps) 0 it acc env) R s:=by
 refine codeAny_loop rfl J (λk t hJ=>?_) k h
 show wpAny _ A (Sem.onRaise (compTurn (.ListComp elt [⟨tg,iter,ifs,0⟩] sc ps) 0 it acc env) (λy=>do noteFrame y env;theTreesLotGoes y)) _ _ t
 refine wpAny_noted ?_
 rw[compTurn_list]
 refine wpAny_bind (wpAny_standAt (wpAny_bind (thn (turn k t hJ) λo t1 h1=>?_)))
 cases o with
|none=>exact wpAny_pure h1
|some y =>
  refine wpAny_bind (thn h1 λ_ t2 h2=>wpAny_bind (thn h2 λ_ t3 h3=>wpAny_bind (thn h3 λok t4 h4=>?_)))
  cases ok with
 |false=>exact wpAny_pure ⟨rfl,h4⟩
 |true =>
   rw[if_pos rfl]at h4
   refine wpAny_bind (wpAny_bind (thn h4 λx t5 h5=>wpAny_bind (thn h5 λ_ t6 h6=>?_)))
   exact wpAny_pure (wpAny_pure ⟨rfl,h6⟩)
def Dt (wi:TI) (g:TG) (js:List Nat) (tc:TT) (te:TE):TE:=λσ H Q=>wi σ H λJ H1=>∀ D,H1 D=none->∃ W:Nat->Nat->List V->Hp->Prop,(∃ m,W 0 m [] (upd H1 D (.lst []))) /\
 ∀ i m ys H2,W i m ys H2->H2 D=some (.lst ys)/\ys.length < sizeLine/\((J.stop i H2/\Q (.ref D) H2)\/(J.go i H2/\∀ x H3,J.yld i H2 x H3->∀ v0 v1:Option V,
  g x (v0 :: v1 :: rJ σ js) H3 λσ' H'=>∃ v0' v1',σ'=v0' :: v1' :: rJ σ js/\tc σ' H' λb H4=>if b=true then te σ' H4 λy H5=>H5 D=some (.lst ys)/\∃ m',m' < m/\W (i+1) m' (ys++[y]) (upd H5 D (.lst (ys++[y])))
   else ∃ m',m' < m/\W (i+1) m' ys H4))
section
variable {X:Cx}{scope:Scope}{cl:List (Str × Addr)}{x x2:Str}{N':List Str}
theorem wR {pins:List (Addr × Obj)}{σ:St}{H₃:Hp}{s₃:Shared}{ex:List Addr}{E':Value->Shared->Prop}(O:CompOk X scope cl x) (O2:CompOk X scope cl x2) (I:Inv X pins σ H₃ s₃) (hf:∀ b∈ex,r8 X pins H₃ b/\b < s₃.heap.objs.size) :
 (dG X scope cl s₃.heap.objs.size x x2 N' s₃ H₃ pins ex E').Ok where
 mod:=I.ok.mod
 kind:=O.kind
 glob:=I.ok.glob
 blt:=I.ok.blt
 above:=Nat.le_refl _
 inj:=λy z c h1 h2=>I.ok.inj y z c (O.sub _ (mem_of_lookup h1)) (O.sub _ (mem_of_lookup h2))
 has:=λy h=>by
  have h':∃ k,(relabel scope X.env).names.lookup y=some k/\(k=.cell\/k=.free):=by
   rcases h with h|h
   . exact⟨_,h,.inl rfl⟩
   . exact⟨_,h,.inr rfl⟩
  obtain⟨k,e,hk⟩:=h'
  obtain⟨p,hp,rfl,e2⟩:=o9 e hk O.nocell
  exact O.has p hp e2
 cab:=λy c h1 h2=>by
  have h2':cl.lookup y=some c:=h2
  rcases Bool.or_eq_true_iff.mp h1 with e|e
  . rw[beq_iff_eq.mp e,O.nox]at h2';cases h2'
  . rw[beq_iff_eq.mp e,O2.nox]at h2';cases h2'
 hd:=I.ok.hd
 frames:=I.ok.frames
 stk:=.inl rfl
 exf:=λb hb=>⟨Nat.ne_of_lt (hf b hb).2,λy c e=>(hf b hb).1.2.2.2.2.1 y c (O.sub _ (mem_of_lookup e))⟩
 bs:=I.bs
 bsz:=Nat.le_trans I.ok.bsz I.sz
 noex:=λb o e hb=>by
  obtain⟨_,_,_,h4,_⟩:=(hf b hb).1
  rcases h4 with z|z
  . exact I.ok.noex b o e z
  . have g1:b < X.base.objs.size:=Heap.lt_size e
    exact absurd (Nat.lt_of_lt_of_le g1 (Nat.le_trans I.ok.bsz z)) (Nat.lt_irrefl _)
 exfs:=λb hb z=>by
  obtain⟨_,h2,h3,_⟩:=(hf b hb).1
  rcases List.mem_cons.mp (I.stkSub b z) with q|q
  . exact h2 q
  . exact h3 q
 funs:=I.stack
 frf:=I.stkFree
theorem Inv.block2 {pins:List (Addr × Obj)}{σ σ':St}{H₃ H':Hp}{s₃ s':Shared}{ex:List Addr}{E':Value->Shared->Prop}{h':Heap}(I:Inv X pins σ H₃ s₃) (hf:∀ b∈ex,r8 X pins H₃ b)
 (I':Inv (dG X scope cl s₃.heap.objs.size x x2 N' s₃ H₃ pins ex E') [] σ' H' s') (hs:Heap.SameBut s₃.heap.objs.size s'.heap h'):Inv X pins σ H' { s' with heap:=h' }:=by
 have ne:∀ b o,s₃.heap.get? b=some o->b≠s₃.heap.objs.size:=λb o e=>Nat.ne_of_lt (Heap.lt_size e)
 have fr:H' s₃.heap.objs.size=none:=I'.free
 have hok:HOk X.prog X.w H' h':=λa o e=>by
  refine(I'.hok a o e).stay (λb u hb q=>(hs.2 b ?_).trans q) (λ_ q=>q) λ_ _ q=>q
  rintro rfl
  rcases hb with z|z
  . rw[<-z,fr]at e;cases e
  . rw[fr]at z;cases z
 have u:Un (frs X.stack) ex H₃ H' s₃.heap h':=by
  obtain⟨k1,k2,k3,k4,k5,k6,k7⟩:=I'.base
  refine⟨λb o q n hb hx=>(hs.2 b (ne b o q)).trans (k1 b o q n hb hx),λb o q n hb hx=>?_,k3,λb o q hx=>?_,k5,k6,k7⟩
  . obtain⟨sl,e⟩:=k2 b o q n hb hx
    exact⟨sl,(hs.2 b (ne b o q)).trans e⟩
  . obtain⟨o',e⟩:=k4 b o q hx
    exact⟨o',(hs.2 b (ne b o q)).trans e⟩
 exact I.call' (s':={ s' with heap:=h' }) I'.os u hok I'.bare λb hb=>⟨(hf b hb).2.2.2.1,(hf b hb).2.1,(hf b hb).2.2.2.2.1,(hf b hb).2.2.2.2.2⟩
theorem Inv.enter2 {pins:List (Addr × Obj)}{σ:St}{H₃:Hp}{s₃:Shared}{ex:List Addr}{E':Value->Shared->Prop}{caps:List Str}{js:List Nat}{h₁:Heap}{tk:Nat}(O:CompOk X scope cl x) (O2:CompOk X scope cl x2) (I:Inv X pins σ H₃ s₃)
 (hf:∀ b∈ex,r8 X pins H₃ b/\b < s₃.heap.objs.size) (hcap:∀ y∈caps,∃ c,cl.lookup y=some c) (hjs:Paired (λ(y:Str) (j:Nat)=>X.N[j]?=some y/\(X.env.scope.names.lookup y=some .cell\/X.env.scope.names.lookup y=some .free)) caps js)
 (hkc:∀ y∈caps,(relabel scope X.env).names.lookup y=some .cell\/(relabel scope X.env).names.lookup y=some .free)
 (hn:h₁.Ns s₃.heap.objs.size λ_=>none) (hk:∀ b o,s₃.heap.get? b=some o->h₁.get? b=some o) :
 Inv (dG X scope cl s₃.heap.objs.size x x2 (x :: x2 :: caps) s₃ H₃ pins ex E') [] (none :: none :: rJ σ js) H₃ { s₃ with heap:=h₁,toks:=tk }:=by
 have hlen:caps.length=js.length:=Paired.length hjs
 obtain⟨m0,hm0,hl0⟩:=I.loc
 refine⟨wR O O2 I hf,rfl,I.bare,Un.kept hk,⟨_,hn,λi y v e1 e2 e3=>?_⟩,λy c e=>?_,I.hok.fresh (Nat.le_refl _),λy c e=>I.freeC y c (O.sub _ (mem_of_lookup e)),λp hp=>?_,I.hok.kept hk,?_⟩
 . match i,e1,e2 with
  |0,_,e2=>cases e2
  |1,_,e2=>cases e2
  |i+2,e1,e2 =>
    have e1':(x :: x2 :: caps)[i+2]?=some y:=e1
    rw[List.getElem?_cons_succ,List.getElem?_cons_succ]at e1'
    have e2':(none :: none :: rJ σ js)[i+2]?=some (some v):=e2
    rw[List.getElem?_cons_succ,List.getElem?_cons_succ]at e2'
    obtain⟨j,ej,hN,hk1⟩:=MX.f2_get' hjs i y e1'
    unfold rJ at e2'
    rw[List.getElem?_map,ej]at e2'
    have e3':(σ[j]?).getD none=some v:=by simpa using e2'
    have e4:σ[j]?=some (some v):=by
     cases q:σ[j]? with
    |none=>rw[q]at e3';cases e3'
    |some z=>rw[q]at e3';rw[show z=some v from e3']
    obtain⟨u,r,l⟩:=hl0 j y v hN e4 (by rcases hk1 with z|z;exact .inr (.inl z);exact .inr (.inr z))
    obtain⟨c,hc⟩:=hcap y (List.mem_of_getElem? e1')
    refine⟨u,r,.inr ⟨hkc y (List.mem_of_getElem? e1'),c,hc,?_⟩⟩
    rcases l with⟨z,_⟩|⟨_,c',z1,o,z2,z3⟩
    . have z':X.env.scope.names.lookup y=some .local:=z
      rcases hk1 with q|q<;>(rw[q]at z';cases z')
    . rw[O.sub _ (mem_of_lookup hc)]at z1
      cases z1
      exact⟨o,hk _ _ z2,z3⟩
 . obtain⟨v,o,z2,z3⟩:=I.cell y c (O.sub _ (mem_of_lookup e))
   exact⟨v,o,hk _ _ z2,z3⟩
 . have hp':p∈X.pn++pins:=by simpa [dG] using hp
   obtain⟨g1,g2,g3,g4,g5⟩:=I.pin p hp'
   refine⟨hk _ _ g1,g2,Nat.ne_of_lt (Heap.lt_size g1),λz=>?_,g5⟩
   rcases List.mem_cons.mp (I.stkSub p.1 z) with q|q
   . exact g3 q
   . exact g4 q
 . show (none :: none :: rJ σ js).length=(x :: x2 :: caps).length
   unfold rJ
   rw[List.length_cons,List.length_cons,List.length_cons,List.length_cons,List.length_map,hlen]
theorem uH {pos:Pos}{tg:Expr}{g:TG}{iter elt:Expr}{ifs:List Expr}{caps:List Str}{js:List Nat}{wi:TI}{tc:TT}{te:TE}(hc:X.calm=true) (O:CompOk X scope cl x) (O2:CompOk X scope cl x2) (hg:∀ C s₃ H₃ pins ex E',PG (dG X scope cl C x x2 (x :: x2 :: caps) s₃ H₃ pins ex E') tg g)
 (hcap:∀ y∈caps,∃ c,cl.lookup y=some c) (hjs:Paired (λ(y:Str) (j:Nat)=>X.N[j]?=some y/\(X.env.scope.names.lookup y=some .cell\/X.env.scope.names.lookup y=some .free)) caps js)
 (hkc:∀ y∈caps,(relabel scope X.env).names.lookup y=some .cell\/(relabel scope X.env).names.lookup y=some .free)
 (hi:PI X tg iter wi) (ht:∀ C s₃ H₃ pins ex E',PTs (dG X scope cl C x x2 (x :: x2 :: caps) s₃ H₃ pins ex E') ifs tc) (he:∀ C s₃ H₃ pins ex E',PE (dG X scope cl C x x2 (x :: x2 :: caps) s₃ H₃ pins ex E') elt te)
 (hs:∀ x,foldedSetIterable iter X.env x=pure x:=by intro _;rfl):PE X (.ListComp elt [⟨tg,iter,ifs,0⟩] scope pos) (Dt wi g js tc te):=by
 intro pins s σ H Q I h
 rw[eval_ListComp]
 refine wpAny_comprehension_free (use:=none) rfl hs O.clos O.kind O.names (thn (hi pins s σ H _ I h) λv s1 h1=>thn h1 λitv s2 ⟨it,fp,tn,J,H1,e,I2,T,t0,hf,q⟩=>?_)
 subst e
 refine wpAny_newObj_type (wpAny_newFunctionEnv O.nocell (by intro y hy;cases hy) (λh₁ hns₁ hsb₁=>?_) O.kind)
 obtain⟨W,⟨m0,w0⟩,step⟩:=q s2.heap.objs.size (I2.hok.fresh (Nat.le_refl _))
 have I3:Inv X pins σ (upd H1 s2.heap.objs.size (.lst [])) { s2 with heap:=s2.heap.push { cls:=.type "list",data:=.seq ([]:List Value).toArray } }:=I2.lnew (t':=s2.toks) (its:=[]) .nil (Nat.zero_le _)
 have fpl:∀ b∈fp,b < s2.heap.objs.size:=λb hb=>by
  obtain⟨o,e,_⟩:=T.obj _ _ t0 b hb
  exact Heap.lt_size e
 have hf3:∀ b∈fp,r8 X pins (upd H1 s2.heap.objs.size (.lst [])) b:=λb hb=>by
  obtain⟨f0,f⟩:=hf b hb
  exact⟨by rw[ag (Nat.ne_of_lt (fpl b hb))];exact f0,f⟩
 generalize hs3:({ s2 with heap:=s2.heap.push { cls:=.type "list",data:=.seq ([]:List Value).toArray } }:Shared)=s₃ at *
 generalize hH3:upd H1 s2.heap.objs.size (.lst [])=H₃ at *
 have hsz:s2.heap.objs.size < s₃.heap.objs.size:=by rw[<-hs3];show _ < (s2.heap.push _).objs.size;rw[Heap.size_push];exact Nat.lt_succ_self _
 have hk2:∀ b o,s2.heap.get? b=some o->s₃.heap.get? b=some o:=λb o e=>by rw[<-hs3];exact Heap.get?_push_of_some _ e
 have hk3:∀ b o,s₃.heap.get? b=some o->h₁.get? b=some o:=λb o e=>hsb₁.extBut b o (Nat.ne_of_lt (Heap.lt_size e)) (Heap.get?_push_of_some _ e)
 have t3:tn 0 h₁:=T.keep _ _ _ t0 λb _ o e=>hk3 b o (hk2 b o e)
 have loop:∀ (R:Result->Shared->Prop),(∀ f s',(∃ σ' H' i m ys,Inv (dG X scope cl s₃.heap.objs.size x x2 (x :: x2 :: caps) s₃ H₃ pins fp (notedBy (model X.prog X.w) X.A (compEnvC scope cl s₃.heap.objs.size X.env) λe s'=>R (.error e) s')) [] σ' H' s'/\W i m ys H'/\Q (.ref s2.heap.objs.size) H')->R (.ok f) s') ->
  ∀ tk,codeAny (model X.prog X.w) X.A (.compLoop (.ListComp elt [⟨tg,iter,ifs,0⟩] scope pos) 0 (.ref it) (.ref s2.heap.objs.size) (compEnvC scope cl s₃.heap.objs.size X.env)) R { s₃ with heap:=h₁,toks:=tk }:=by
  intro R hR tk
  have I4:=Inv.enter2 (E':=notedBy (model X.prog X.w) X.A (compEnvC scope cl s₃.heap.objs.size X.env) λe s'=>R (.error e) s') (tk:=tk) O O2 I3 (λb hb=>⟨hf3 b hb,Nat.lt_trans (fpl b hb) hsz⟩) hcap hjs hkc (by simpa using hns₁) hk3
  have stat:∀ {H':Hp},(∀ b∈fp,H' b=none)->∀ b∈fp,r8 (dG X scope cl s₃.heap.objs.size x x2 (x :: x2 :: caps) s₃ H₃ pins fp (notedBy (model X.prog X.w) X.A (compEnvC scope cl s₃.heap.objs.size X.env) λe s'=>R (.error e) s')) [] H' b:=λhn b hb=>by
   obtain⟨f0,f1,f2,f3,f4,f5⟩:=hf3 b hb
   refine⟨hn b hb,Nat.ne_of_lt (Nat.lt_trans (fpl b hb) hsz),λz=>?_,.inl hb,λy c e=>f4 y c (O.sub _ (mem_of_lookup e)),λp hp=>f5 p (by simpa [dG] using hp)⟩
   rcases List.mem_cons.mp (I3.stkSub b z) with q|q
   . exact f1 q
   . exact f2 q
  refine zA (λn s'=>∃ i v0 v1 ys H',Inv (dG X scope cl s₃.heap.objs.size x x2 (x :: x2 :: caps) s₃ H₃ pins fp (notedBy (model X.prog X.w) X.A (compEnvC scope cl s₃.heap.objs.size X.env) λe s'=>R (.error e) s')) [] (v0 :: v1 :: rJ σ js) H' s'/\tn i s'.heap/\(∀ b∈fp,H' b=none)/\W i n ys H') ?_ m0
   ⟨0,none,none,[],H₃,I4,t3,λb hb=>(hf3 b hb).1,w0⟩
  rintro n s4 ⟨i,v0,v1,ys,H4,J4,t4,fr4,w4⟩
  obtain⟨hD,hlen,hor⟩:=step i n ys H4 w4
  rcases hor with⟨stop,qn⟩|⟨go,hy⟩
  . refine thn (T.done (dG X scope cl s₃.heap.objs.size x x2 (x :: x2 :: caps) s₃ H₃ pins fp (notedBy (model X.prog X.w) X.A (compEnvC scope cl s₃.heap.objs.size X.env) λe s'=>R (.error e) s')) rfl rfl rfl hc i [] s4 _ H4 _ J4 (stat fr4) t4 stop) λr s5 ⟨hr,J5⟩=>?_
    subst hr
    exact hR _ _ ⟨_,H4,i,n,ys,J5,w4,qn⟩
  . refine thn (T.item (dG X scope cl s₃.heap.objs.size x x2 (x :: x2 :: caps) s₃ H₃ pins fp (notedBy (model X.prog X.w) X.A (compEnvC scope cl s₃.heap.objs.size X.env) λe s'=>R (.error e) s')) rfl rfl rfl hc i [] s4 _ H4 _ J4 (stat fr4) t4 go) λr s5 ⟨u,hr,h5⟩=>?_
    subst hr
    refine thn h5 λ_ s6 ⟨y,H6,J6,ry,yl,t6,fr6⟩=>?_
    have J6':=J6.pinned (stat fr6) (T.obj _ _ t6)
    have hy6:=hy y H6 yl v0 v1
    refine thn (hg _ _ _ _ _ _ _ s6 _ H6 y u _ J6' ry hy6) λ_ s7 ⟨σ7,H7,J7,v0',v1',e7,hy7⟩=>?_
    subst e7
    refine thn (ht _ _ _ _ _ _ _ s7 _ H7 _ J7 hy7) λok s8 ⟨H8,J8,q8⟩=>?_
    have back:∀ {σ9:St} {H9:Hp} {s9:Shared},Inv (dG X scope cl s₃.heap.objs.size x x2 (x :: x2 :: caps) s₃ H₃ pins fp (notedBy (model X.prog X.w) X.A (compEnvC scope cl s₃.heap.objs.size X.env) λe s'=>R (.error e) s')) ([]++pD fp s6.heap) σ9 H9 s9->tn (i+1) s9.heap/\∀ b∈fp,H9 b=none:=λJ9=>by
     refine⟨T.keep _ _ _ t6 λb hb o e=>(J9.pin (b,o) (List.mem_append_right _ (List.mem_append_right _ (fP hb e)))).1,λb hb=>?_⟩
     obtain⟨o,e,d⟩:=T.obj _ _ t6 b hb
     exact(J9.pin (b,o) (List.mem_append_right _ (List.mem_append_right _ (fP hb e)))).2.1
    cases ok with
   |false =>
     rw[if_neg (by decide)]
     rw[if_neg (by decide)]at q8
     obtain⟨m',hm,w8⟩:=q8
     obtain⟨b1,b2⟩:=back J8
     exact⟨m',hm,i+1,v0',v1',ys,H8,J8.unpinned,b1,b2,w8⟩
   |true =>
     rw[if_pos rfl]
     rw[if_pos rfl]at q8
     refine thn (he _ _ _ _ _ _ _ s8 _ H8 _ J8 q8) λz s9 ⟨vz,H9,J9,rz,hD9,m',hm,w9⟩=>?_
     refine thn (cq (X:=dG X scope cl s₃.heap.objs.size x x2 (x :: x2 :: caps) s₃ H₃ pins fp (notedBy (model X.prog X.w) X.A (compEnvC scope cl s₃.heap.objs.size X.env) λe s'=>R (.error e) s')) _ s9 _ H9 (.ref s2.heap.objs.size) [vz] (.ref s2.heap.objs.size) [z] (λ_ H10=>H10=upd H9 s2.heap.objs.size (.lst (ys++[vz]))) J9 rfl (.cons rz .nil) ⟨_,ys,vz,rfl,rfl,hD9,hlen,rfl⟩) λ_ s10 ⟨v10,H10,J10,r10,e10⟩=>?_
     subst e10
     obtain⟨b1,b2⟩:=back J10
     exact⟨m',hm,i+1,v0',v1',ys++[vz],_,J10.unpinned,b1,b2,w9⟩
 have fin:∀ tk,codeAny (model X.prog X.w) X.A (.compLoop (.ListComp elt [⟨tg,iter,ifs,0⟩] scope pos) 0 (.ref it) (.ref s2.heap.objs.size) (compEnvC scope cl s₃.heap.objs.size X.env)) (compPost (model X.prog X.w) X.A X.xe none (EP X pins σ Q) (.ref s2.heap.objs.size) s₃.heap.objs.size) { s₃ with heap:=h₁,toks:=tk }:=λtk=>by
  refine loop _ (λf s' ⟨σ',H',i,m,ys,J',w',qn⟩=>?_) tk
  obtain⟨mm,hmm,_⟩:=J'.loc
  exact⟨mm,hmm,λh' hs'=>⟨.ref s2.heap.objs.size,H',Inv.block2 I3 hf3 J' hs',rfl,qn⟩⟩
 exact codeAny_compStart_list (fin _) (T.self _ _ _ _ _ t3 (fin _))
end
end L2
namespace L2
open PySem PySem.Spec PyProof.Rows
structure LA where
 sd:Addr
 md:Addr
 rw:Addr
 l:Bool->Addr
 ud:Addr
 tk:Addr
section
variable {H:Hp}{la:LA}{p:RP}{n:Int}
end
section
variable {w:World}{H H':Hp}{la:LA}{p:RP}{n:Int}{m:Mem}{rs:Bool->List Wr}{un tk:List Int}
end
end L2
namespace L2
open PySem PySem.Spec PyProof.Rows
theorem pS (i:Int):∀ ns:List Int,inV (.int i) (ns.map V.int)=ns.contains i
|[]=>rfl
|n :: ns=>by
  have ih:=pS i ns
  unfold inV at ih |-
  rw[List.map_cons,List.any_cons,ih,List.contains_cons]
  congr 1
  show eqV (.int n) (.int i)=(i == n)
  simp only[eqV]
  rw[Bool.eq_iff_iff,beq_iff_eq,beq_iff_eq]
  exact eq_comm
theorem aY {α:Type}{x:α}{xs:List α}:atI (x :: xs) 0=some x:=by
 unfold atI ixN
 simp
theorem nS {α β:Type}{F:α->β->Prop}:∀ {xs:List α}{ys:List β}{j:Nat}{y:β},Paired F xs ys->ys[j]?=some y->∃ x,xs[j]?=some x/\F x y
|_,_,_,_,.nil,e=>by simp at e
|_,_,0,_,.cons r _,e=>by simp at e;subst e;exact⟨_,rfl,r⟩
|_,_,j+1,_,.cons _ t,e=>by
  obtain⟨x,a,b⟩:=nS (j:=j) t (by simpa using e)
  exact⟨x,by simpa using a,b⟩
end L2
namespace L2
open PySem PySem.Spec PyProof.Rows
def KO (own:Addr->Prop) (H H':Hp):Prop:=∀ c o,¬ own c->H c=some o->H' c=some o
theorem KO.refl (own:Addr->Prop) (H:Hp):KO own H H:=λ_ _ _ e=>e
theorem KO.of_kp {own:Addr->Prop}{xs:List Addr}{H H':Hp}(k:Kp xs H H') (h:∀ c∈xs,own c):KO own H H':=λc o n e=>k c o (λm=>n (h c m)) e
theorem KO.of_same {own:Addr->Prop}{H H':Hp}(s:bU H H'):KO own H H':=λc o _ e=>s c o e
theorem KO.trans {own own':Addr->Prop}{H H1 H2:Hp}(a:KO own H H1) (b:KO own' H1 H2) (h:∀ c,own' c->own c\/H c=none):KO own H H2:=λc o n e=>b c o (λz=>by
 rcases h c z with y|y
 . exact n y
 . rw[y]at e;cases e) (a c o n e)
theorem KO.mono {own own':Addr->Prop}{H H':Hp}(a:KO own H H') (h:∀ c,own c->own' c):KO own' H H':=λc o n e=>a c o (λz=>n (h c z)) e
section
variable {w:World}{CH CT CR CS:Addr}{H H':Hp}{z:HA}{zt:TA'}{sa:SA}{la:LA}{p:RP}{n:Int}{m:Mem}{rs:Bool->List Wr}{un tk aw:List Int}{nn:Int}{st:Addr}
end
def scD:PyData->Bool
|.none=>true
|.bool _=>true
|.int _=>true
|.str _=>true
|_=>false
def flD:PyData->Bool
|.tuple ds=>ds.all scD
|d=>scD d
theorem DV.sc {H H':Hp}:∀ {d:PyData}{v:V},scD d=true->DV H d v->DV H' d v
|.none,_,_,h=>h
|.bool _,_,_,h=>h
|.int _,_,_,h=>h
|.str _,_,_,h=>h
|.list _,_,h,_=>by cases h
|.tuple _,_,h,_=>by cases h
|.dict _,_,h,_=>by cases h
theorem DVs.sc {H H':Hp}:∀ {ds:List PyData}{vs:List V},ds.all scD=true->DVs H ds vs->DVs H' ds vs
|[],_,_,h=>h
|d :: ds,_,h,⟨v,r,e,h1,h2⟩=>by
  rw[List.all_cons,Bool.and_eq_true]at h
  exact⟨v,r,e,DV.sc h.1 h1,DVs.sc h.2 h2⟩
theorem DV.fl {H H':Hp}(ht:∀ b vs,H b=some (.tup vs)->H' b=some (.tup vs)):∀ {d:PyData}{v:V},flD d=true->DV H d v->DV H' d v
|.none,_,_,h=>h
|.bool _,_,_,h=>h
|.int _,_,_,h=>h
|.str _,_,_,h=>h
|.list _,_,h,_=>by cases h
|.tuple ds,_,h,⟨a,vs,e,ha,hv⟩=>⟨a,vs,e,ht _ _ ha,DVs.sc h hv⟩
|.dict _,_,h,_=>by cases h
def Nms (k:Int) (ns:List Int):Prop:=ns.Nodup/\∀ x∈ns,0 <= x/\x < k
theorem Nms.nil (k:Int):Nms k []:=⟨List.nodup_nil,λ_ h=>by cases h⟩
theorem Nms.len {k:Int}{ns:List Int}(h:Nms k ns) (hk:k <= 9):ns.length <= 9:=by
 have:=qy (l:=ns) (ks:=[0,1,2,3,4,5,6,7,8]) h.1 λx hx=>by
  have:=h.2 x hx
  have:x=0\/x=1\/x=2\/x=3\/x=4\/x=5\/x=6\/x=7\/x=8:=by omega
  simp only[List.mem_cons,List.not_mem_nil,or_false]
  exact this
 exact this
theorem Nms.snoc {k x:Int}{ns:List Int}(h:Nms k ns) (hx:ns.contains x=false) (hb:0 <= x/\x < k):Nms k (ns++[x]):=by
 refine⟨?_,λy hy=>?_⟩
 . rw[List.nodup_append]
   refine⟨h.1,List.nodup_cons.mpr ⟨by simp,List.nodup_nil⟩,λa ha b hb' e=>?_⟩
   rw[List.mem_singleton.mp hb']at e
   rw[List.contains_eq_mem,decide_eq_false_iff_not]at hx
   exact hx (e ▸ ha)
 . rcases List.mem_append.mp hy with z|z
   . exact h.2 y z
   . rw[List.mem_singleton.mp z];exact hb
theorem Nms.filter {k x:Int}{ns:List Int}(h:Nms k ns):Nms k (ns.filter λy=>decide (y≠x)) :=
 ⟨List.Pairwise.filter _ h.1,λy hy=>h.2 y (List.mem_filter.mp hy).1⟩
theorem Nms.next {k x:Int}{ns:List Int}(h:Nms k ns) (hb:0 <= x/\x < k):Nms k (lu ns x):=by
 unfold lu
 cases e:ns.contains x with
|true=>exact h
|false=>exact h.snoc e hb
end L2
namespace L2
open PySem PySem.Spec PyProof.Rows
section
variable {X:Cx}
end
end L2
namespace L2
open PySem PySem.Spec PyProof.Rows
section
variable {X:Cx}
end
end L2
namespace L2
open PySem PySem.Spec PyProof.Rows
def ltS (a b:Str):Prop:=a.cps.toList < b.cps.toList
def leS (a b:Str):Prop:=¬ ltS b a
theorem mQ {α β:Type}{R:α->β->Prop}:∀ {bs cs:List β},cs.Perm bs->∀ {as:List α},Paired R as bs->∃ ds,ds.Perm as/\Paired R ds cs:=by
 intro bs cs p
 induction p with
|nil=>intro as h;exact⟨as,.refl _,h⟩
|cons x _ ih =>
  intro as h
  cases h with
 |cons r t =>
   obtain⟨ds,p1,p2⟩:=ih t
   exact⟨_ :: ds,p1.cons _,.cons r p2⟩
|swap x y l =>
  intro as h
  cases h with
 |cons r t =>
   cases t with
  |cons r' t'=>exact⟨_ :: _ :: _,List.Perm.swap _ _ _,.cons r' (.cons r t')⟩
|trans _ _ ih1 ih2 =>
  intro as h
  obtain⟨ds,p1,p2⟩:=ih2 h
  obtain⟨es,p3,p4⟩:=ih1 p2
  exact⟨es,p3.trans p1,p4⟩
theorem vI {xs:List V}{its:List Value}:∀ {ks:List Str}{kv:List Value},Paired (λk u=>bT (.str k) u) ks kv->bC xs its->ks.length=xs.length->Paired (λ(p:Str × V) (q:Value × Value)=>bT (.str p.1) q.1/\bT p.2 q.2) (ks.zip xs) (kv.zip its):=by
 intro ks kv h
 induction h generalizing xs its with
|nil=>intro _ _;rw[List.zip_nil_left,List.zip_nil_left];exact .nil
|cons r t ih =>
  intro hv hl
  cases hv with
 |nil=>cases hl
 |cons r' t'=>exact .cons ⟨r,r'⟩ (ih t' (by simpa using hl))
theorem tU {ps:List (Str × V)}{qs:List (Value × Value)}(h:Paired (λ(p:Str × V) (q:Value × Value)=>bT (.str p.1) q.1/\bT p.2 q.2) ps qs):bC (ps.map (·.2)) (qs.map (·.2)):=by
 induction h with
|nil=>exact .nil
|cons r _ ih=>exact .cons r.2 ih
theorem Paired.at' {α β:Type}{R:α->β->Prop}{as:List α}{bs:List β}(h:Paired R as bs):∀ {i:Nat}{a:α},as[i]?=some a->∃ b,bs[i]?=some b/\R a b:=by
 induction h with
|nil=>intro i a e;cases e
|cons r _ ih =>
  intro i a e
  cases i with
 |zero=>cases e;exact⟨_,rfl,r⟩
 |succ i=>exact ih (i:=i) e
theorem vU {ks:List Str}{kv:List Value}(h:Paired (λk u=>bT (.str k) u) ks kv):StrsAre kv ks:=by
 induction h with
|nil=>exact .nil
|cons r _ ih =>
  obtain⟨t,e⟩:=r
  rw[e];exact .cons _ _ ih
section
variable {X:Cx}{pins:List (Addr × Obj)}{σ:St}{H:Hp}{s:Shared}
def epO (D:Addr) (o:Obj):HO:=.ext λh=>h.get? D=some o
theorem Dz {P:Program}{w:World}{H':Hp}{h:Heap}{D:Addr}{o:Obj}(e:h.get? D=some o):cp P w H' h D (epO D o):=⟨e,⟨o,e⟩,λ_ _ e' k=>k _ e'⟩
theorem Inv.epAt {D:Addr}{o:Obj}(I:Inv X pins σ H s) (e:H D=some (epO D o)):s.heap.get? D=some o:=by
 have h:=(show cp X.prog X.w H s.heap D (epO D o) from I.hok D _ e)
 exact h.1
theorem Room.in2 {k:Nat}{A:Around}(r:Room (k+1) A):Room k A.in1.in1:=⟨r.hd,by have:=r.dp;show A.depth+3 * k+5 < _;omega,by have:=r.un;show A.units+1+1+16 * k+200 < _;omega⟩
theorem CQ {k:Nat}{f:Addr}{fd:FuncData}{pn:Str}{sp:Sp}{Q:VK}{x:V}{u:Value}(F:FnOk X.prog X.w X.K X.mg X.base CX0 k f fd [pn] sp) (hr:Room (k+1) X.A) (hb:aG X.K fd [pn] [])
 (I:Inv X pins σ H s) (r:bT x u) (h:sp [x] H Q E0):wpAny (model X.prog X.w) X.A.in1.in1 (call (.ref f) [u]) (EP X pins σ Q) (λ_ _=>False) s:=by
 refine wpAny_call (codeAny_mono (F.run X.A.in1.in1 X.stack s H ⟨[u],[]⟩ [u] [x] Q E0 hr.in2 I.env0.in1.in1 (hb s [u] I.kIn rfl) (.cons r .nil) h) λr s' hq=>?_)
 cases r with
|error e=>exact hq.elim
|ok fl =>
  cases fl with
 |ret u=>exact I.after hq
 |next=>exact False.elim hq
 |brk=>exact False.elim hq
 |cont=>exact False.elim hq
theorem yB {k:Nat}{f:Addr}{fd:FuncData}{pn:Str}{sp:Sp}{Q:VK}{l:Addr}{xs:List V}{ks:List Str}(F:FnOk X.prog X.w X.K X.mg X.base CX0 k f fd [pn] sp) (hr:Room (k+1) X.A) (hb:aG X.K fd [pn] [])
 (I:Inv X pins σ H s) (hq:SqL X.K H l xs) (hlen:ks.length=xs.length) (h64:xs.length < 64)
 (turn:∀ (i:Nat) (x:V) (key:Str),xs[i]?=some x->ks[i]?=some key->∀ H',bU H H'->sp [x] H' (λv H''=>v=.str key/\bU H' H'') E0)
 (q:∀ D H' (ps:List (Str × V)),H D=none->bU H H'->H' D=some (.lst (ps.map (·.2)))->ps.Perm (ks.zip xs)->ps.Pairwise (λp q=>leS p.1 q.1)->Q (.ref D) H') :
 wpAny (model X.prog X.w) X.A (call (.builtin "sorted") [.ref l] [(Str.ofString "key",.ref f)]) (EP X pins σ Q) X.xe s:=by
 obtain⟨its,r',pl,hz⟩:=I.list hq
 have hil:=r'.length
 refine call_function_entry_kw kind_sorted plain_sorted entry_sorted (ksk_s1 _ _) ?_
 unfold Builtin.«sorted»
 refine wpAny_bind (m:=checkCount "sorted" 1 1 _) (wpAny_pure ?_)
 refine wpAny_bind (collect_list pl.isList ?_ (by rw[sizeLine_eq];omega))
 refine wpAny_bind (wpAny_newList ?_ (by rw[sizeLine_eq];omega))
 have hsz:((s.heap.push (seqObj "list" #[] 0)).update s.heap.objs.size (Obj.mapSeq (·++its.toArray))).objs.size=s.heap.objs.size+1:=by
  rw[Heap.size_update,size_push']
 have hoL:(((s.heap.push (seqObj "list" #[] 0)).update s.heap.objs.size (Obj.mapSeq (·++its.toArray))).push (seqObj "list" its.toArray 0)).get? (s.heap.objs.size+1)=some (seqObj "list" its.toArray 0):=by
  rw[<-hsz];exact Heap.get?_push_size _ rfl
 have keep:∀ b o,s.heap.get? b=some o->(((s.heap.push (seqObj "list" #[] 0)).update s.heap.objs.size (Obj.mapSeq (·++its.toArray))).push (seqObj "list" its.toArray 0)).get? b=some o:=λb o q=>by
  have hlt:b < s.heap.objs.size:=Heap.lt_size q
  rw[Heap.get?_push_ne _ _ _ (by rw[hsz];exact Nat.ne_of_lt (Nat.lt_succ_of_lt hlt)),Heap.get?_update_ne _ _ _ _ (Nat.ne_of_lt hlt),Heap.get?_push_ne _ _ _ (Nat.ne_of_lt hlt)]
  exact q
 show wpAny _ _ _ _ _ { s with heap:=((s.heap.push (seqObj "list" #[] 0)).update s.heap.objs.size (Obj.mapSeq (·++its.toArray))).push (seqObj "list" its.toArray 0) }
 rw[hsz]
 have hsz2:(((s.heap.push (seqObj "list" #[] 0)).update s.heap.objs.size (Obj.mapSeq (·++its.toArray))).push (seqObj "list" its.toArray 0)).objs.size=s.heap.objs.size+2:=by
  rw[size_push',hsz]
 generalize ((s.heap.push (seqObj "list" #[] 0)).update s.heap.objs.size (Obj.mapSeq (·++its.toArray))).push (seqObj "list" its.toArray 0)=h2 at hoL keep hsz2
 obtain⟨D,hD⟩:∃ D,D=s.heap.objs.size+1:=⟨_,rfl⟩
 rw[<-hD]at hoL |-
 refine wpAny_bind (wpAny_holding (wpAny_call_entry_kw slot_list_sort ⟨_,hoL,rfl⟩ entry_list_sort ?body (ksk_l1 _ _)))
 case body =>
  show wpAny (model X.prog X.w) X.A.in1.in1 (Builtin.«list.sort» ⟨[.ref D],[(Str.ofString "key",.ref f)]⟩) _ _ _
  rw[ksk_t1]
  obtain⟨e1,ho1⟩:∃ e1,(h2.update D (Obj.mapSeq λ_=>(#[]:Array Value))).get? D=some (seqObj "list" #[] e1):=⟨_,get?_update_seq hoL λ_=>#[]⟩
  unfold ksk_tree
  refine wpAny_bind (listItems_at hoL rfl ?_)
  refine wpAny_bind (listUpdate_at hoL rfl ?_ (by rw[List.size_toArray,sizeLine_eq];omega) (Nat.zero_le _))
  refine wpAny_bind (seqEpoch_at ho1 rfl ?_)
  refine wpAny_bind (wpAny_newTuple ?_ (by show its.length <= _;rw[sizeLine_eq];omega))
  refine wpAny_bind (wpAny_newList ?_ (Nat.zero_le _))
  refine wpAny_holding ?_
  have s1:=Heap.SameBut.update h2 D (Obj.mapSeq λ_=>(#[]:Array Value))
  have keep4:∀ b o,s.heap.get? b=some o->((h2.update D (Obj.mapSeq λ_=>(#[]:Array Value))).push (seqObj "tuple" its.toArray 0)).get? b=some o:=λb o q=>by
   have hlt:b < s.heap.objs.size:=Heap.lt_size q
   exact Heap.get?_push_of_some _ ((s1.2 b (by rw[hD];exact Nat.ne_of_lt (Nat.lt_succ_of_lt hlt))).trans (keep b o q))
  have ho4:((h2.update D (Obj.mapSeq λ_=>(#[]:Array Value))).push (seqObj "tuple" its.toArray 0)).get? D=some (seqObj "list" #[] e1):=Heap.get?_push_of_some _ ho1
  have hk4:((h2.update D (Obj.mapSeq λ_=>(#[]:Array Value))).push (seqObj "tuple" its.toArray 0)).objs.size=s.heap.objs.size+3:=by rw[size_push',Heap.size_update,hsz2]
  have fD:H D=none:=I.hok.fresh (by rw[hD];omega)
  have I4:Inv X pins σ (upd H D (epO D (seqObj "list" #[] e1))) { s with heap:=(h2.update D (Obj.mapSeq λ_=>(#[]:Array Value))).push (seqObj "tuple" its.toArray 0) }:=I.laid (t':=s.toks) keep4 (by rw[hD];omega) (Dz ho4)
  generalize (h2.update D (Obj.mapSeq λ_=>(#[]:Array Value))).push (seqObj "tuple" its.toArray 0)=h4 at I4 hk4 ho4 keep4 |-
  obtain⟨kS,hkS⟩:∃ kS,kS=h4.objs.size:=⟨_,rfl⟩
  have fK:upd H D (epO D (seqObj "list" #[] e1)) kS=none:=I4.hok.fresh (by rw[hkS];exact Nat.le_refl _)
  have hkD:kS≠D:=by rw[hkS,hk4,hD];omega
  have fKS:H kS=none:=by rw[ag hkD]at fK;exact fK
  have I5:Inv X pins σ (upd (upd H D (epO D (seqObj "list" #[] e1))) kS (.lst [])) { s with heap:=h4.push (seqObj "list" #[] 0) }:=I4.laid (t':=s.toks) (λb o q=>Heap.get?_push_of_some _ q) (by rw[hkS];exact Nat.le_refl _) ⟨Nat.zero_le _,[],0,.nil,by rw[hkS];exact Heap.get?_push_size _ rfl⟩
  show wpAny (model X.prog X.w) X.A.in1.in1 (ksk_rest D (.ref f) false its.toArray e1 (.ref h4.objs.size)) _ _ { s with heap:=h4.push (seqObj "list" #[] 0) }
  rw[<-hkS]
  have c5:bU H (upd (upd H D (epO D (seqObj "list" #[] e1))) kS (.lst [])):=(ah fD).trans (ah fK)
  have d5:upd (upd H D (epO D (seqObj "list" #[] e1))) kS (.lst []) D=some (epO D (seqObj "list" #[] e1)):=by rw[ag (Ne.symm hkD)];exact a8
  have k5:upd (upd H D (epO D (seqObj "list" #[] e1))) kS (.lst []) kS=some (.lst ((ks.take 0).map V.str)):=a8
  generalize upd (upd H D (epO D (seqObj "list" #[] e1))) kS (.lst [])=H5 at I5 c5 d5 k5
  generalize ({ s with heap:=h4.push (seqObj "list" #[] 0) }:Shared)=s5 at I5 |-
  clear I4 keep4 ho4 hk4 fK hkS keep hoL ho1 s1 hsz hsz2
  unfold ksk_rest
  refine wpAny_bind (wpAny_rule ?_)
  first
  |rw[List.forIn_toArray]
  |(rw[<-Array.forIn_toList];simp only[List.toList_toArray])
  |rw[<-Array.forIn_toList]
  refine wpAny_bind (ksk_fold (λi s'=>∃ H',Inv X pins σ H' s'/\bU H H'/\H' D=some (epO D (seqObj "list" #[] e1))/\H' kS=some (.lst ((ks.take i).map V.str))) its 0 s5 ⟨H5,I5,c5,d5,k5⟩ ?step ?done)
  case step =>
   rintro j u s' hx ⟨H',I',c',d',k'⟩
   simp only[Nat.zero_add]at k' |-
   have hj:j < its.length:=(List.getElem?_eq_some_iff.mp hx).1
   obtain⟨x,hxx,rx⟩:∃ x,xs[j]?=some x/\bT x u:=by
    obtain⟨u',hu',ru⟩:=bC.get r' (List.getElem?_eq_getElem (show j < xs.length by omega))
    rw[hx]at hu';cases hu'
    exact⟨_,List.getElem?_eq_getElem (by omega),ru⟩
   obtain⟨key,hkj⟩:∃ key,ks[j]?=some key:=⟨_,List.getElem?_eq_getElem (by omega)⟩
   refine wpAny_bind (wpAny_attempt (wpAny_mono (CQ F hr hb I' rx (turn j x key hxx hkj H' c')) (λv s'' he=>?_) λ_ _ hF=>hF.elim))
   obtain⟨v',H'',I'',rv,rfl,c''⟩:=he
   obtain⟨t2,rfl⟩:=rv
   try dsimp only
   have k'':=c'' _ _ k'
   have d'':=c'' _ _ d'
   obtain⟨zz,kits,nn,rk,hkl,ek⟩:=I''.lstM k''
   have ek':s''.heap.get? kS=some (seqObj "list" kits.toArray nn):=ek
   have hks:kits.length <= 64:=by rw[<-hkl,List.length_map,List.length_take];omega
   refine wpAny_bind (listUpdate_at ek' rfl ?_ (by rw[List.size_toArray,sizeLine_eq];omega) (Nat.le_trans (Nat.le_of_eq (Array.size_push ..)) (by rw[List.size_toArray,sizeLine_eq];omega)))
   refine wpAny_pure ⟨rfl,upd H'' kS (.lst ((ks.take (j+1)).map V.str)),?_,?_,?_,a8⟩
   . refine I''.lset (its':=kits++[Value.str key t2]) k'' ek (by simp) ?_ ?_
     . rw[List.take_add_one,hkj,List.map_append]
       exact bC.append rk (.cons ⟨t2,rfl⟩ .nil)
     . rw[List.length_map,List.length_take,sizeLine_eq];omega
   . intro b o e
     rw[ag (λy=>by rw[y,fKS]at e;cases e)]
     exact c'' _ _ (c' _ _ e)
   . rw[ag (Ne.symm hkD)];exact d''
  case done =>
   rintro s' ⟨H',I',c',d',k'⟩
   rw[Nat.zero_add,List.take_of_length_le (by omega)]at k'
   obtain⟨zz,kits,nn,rk,hkl,ek⟩:=I'.lstM k'
   have ek':s'.heap.get? kS=some (seqObj "list" kits.toArray nn):=ek
   rw[List.length_map]at hkl
   have eD:=I'.epAt d'
   try dsimp only
   refine wpAny_bind (listItems_at ek' rfl ?_)
   have pk:Paired (λk u=>bT (.str k) u) ks kits:=by
    have:∀ {ks:List Str} {kits:List Value},bC (ks.map V.str) kits->Paired (λk u=>bT (.str k) u) ks kits:=by
     intro ks
     induction ks with
    |nil=>intro kits h;cases h;exact .nil
    |cons k ks ih=>intro kits h;cases h with|cons r t=>exact .cons r (ih t)
    exact this rk
   have hS:=vU pk
   have hzs:(kits.toArray.zip its.toArray).size=xs.length:=by rw[Array.size_zip,List.size_toArray,List.size_toArray];omega
   have hzl:(kits.toArray.zip its.toArray).toList=kits.zip its:=by rw[ksk_zip]
   have fin:∀ st:SortSt,(arrOf st).Perm (kits.toArray.zip its.toArray)->SortedToK PyProof.Rows.strKind (arrOf st) (arrOf st).size->failedOf st=none ->
    wpAny (model X.prog X.w) X.A.in1.in1 (ksk_tail D false e1 (.ref kS) st) (λfin s'=>∃ v,fin=.done (.ret v)/\wpAny (model X.prog X.w) X.A.in1 (ret (Value.ref D)) (λfin s'=>∃ v,fin=.done (.ret v)/\EP X pins σ Q v s') X.xe s') X.xe s':=by
    intro st hp hs hf
    have hpl:(arrOf st).toList.Perm (kits.zip its):=by rw[<-hzl];exact Array.perm_iff_toList_perm.mp hp
    obtain⟨ps,pp1,pp2⟩:=mQ hpl (vI pk r' hlen)
    have hout:((arrOf st).map (·.2)).size=xs.length:=by rw[Array.size_map,hp.size_eq,hzs]
    unfold ksk_tail
    try dsimp only
    refine wpAny_bind (listUpdate_at ek' rfl ?_ (by rw[List.size_toArray,sizeLine_eq];omega) (Nat.zero_le _))
    have I6:=I'.lset (t':=s'.toks) (f:=λ_=>(#[]:Array Value)) (its':=[]) (ys:=[]) k' ek rfl .nil (Nat.zero_le _)
    have eD6:(s'.heap.update kS (Obj.mapSeq λ_=>(#[]:Array Value))).get? D=some (seqObj "list" #[] e1):=((Heap.SameBut.update s'.heap kS (Obj.mapSeq λ_=>(#[]:Array Value))).2 D (Ne.symm hkD)).trans eD
    have d6:upd H' kS (.lst []) D=some (epO D (seqObj "list" #[] e1)):=by rw[ag (Ne.symm hkD)];exact d'
    refine wpAny_bind (wpAny_letGo ?_)
    refine wpAny_bind (seqEpoch_at eD6 rfl ?_)
    refine wpAny_bind (listUpdate_at eD6 rfl ?_ (Nat.zero_le _) (Nat.le_trans (Nat.le_of_eq hout) (by rw[sizeLine_eq];omega)))
    rw[hf]
    simp only[bne_self_eq_false,Bool.false_eq_true,if_false]
    refine wpAny_pure ⟨_,rfl,wpAny_pure ⟨_,rfl,.ref D,upd (upd H' kS (.lst [])) D (.lst (ps.map (·.2))),?_,rfl,q D _ ps fD ?_ a8 pp1 ?_⟩⟩
    . obtain⟨c2,hc2⟩:∃ c2,((s'.heap.update kS (Obj.mapSeq λ_=>(#[]:Array Value))).update D (Obj.mapSeq λ_=>(arrOf st).map (·.2))).get? D=some (seqObj "list" ((arrOf st).map (·.2)) c2):=⟨_,get?_update_seq eD6 λ_=>(arrOf st).map (·.2)⟩
      refine I6.write (x:=D) (e:=D) (by rw[d6];exact trivial) (.inl rfl) (λb' u hb hu=>(Heap.get?_update_other _ _ (Ne.symm hb)).trans hu) ⟨_,hc2⟩ ?_
      have vv:=tU pp2
      refine⟨by rw[vv.length,List.length_map,Array.length_toList];rw[Array.size_map]at hout;rw[hout,sizeLine_eq];omega,((arrOf st).toList.map (·.2)),c2,vv,?_⟩
      rw[hc2]
      congr 3
      rw[<-Array.toList_map]
    . intro b o e
      rw[ag (λy=>by rw[y,fD]at e;cases e),ag (λy=>by rw[y,fKS]at e;cases e)]
      exact c' _ _ e
    . rw[List.pairwise_iff_getElem]
      intro i j hi hj hij
      have ei:=List.getElem?_eq_getElem hi
      have ej:=List.getElem?_eq_getElem hj
      obtain⟨bi,hbi,ri,_⟩:=Paired.at' pp2 ei
      obtain⟨bj,hbj,rj,_⟩:=Paired.at' pp2 ej
      have hjs:j < (arrOf st).size:=by
       have:=(List.getElem?_eq_some_iff.mp hbj).1
       rw[Array.length_toList]at this;exact this
      have qq:=hs i j (Nat.le_of_lt hij) hjs
      have kki:∀ {m:Nat} {b:Value × Value} {p:Str × V},(arrOf st).toList[m]?=some b->bT (.str p.1) b.1->PyProof.Rows.KK PyProof.Rows.strKind (arrOf st) m=p.1.cps.toList:=λ{m b p} hb r=>by
       obtain⟨t,e⟩:=r
       unfold PyProof.Rows.KK
       rw[<-Array.getElem?_toList,hb]
       show (PyProof.Rows.strKind.keyOf b.1).getD PyProof.Rows.strKind.dflt=_
       rw[e];rfl
      rw[kki hbi ri,kki hbj rj]at qq
      intro hlt
      have:decide (ps[j].1.cps.toList < ps[i].1.cps.toList)=false:=qq
      rw[decide_eq_false_iff_not]at this
      exact this hlt
   unfold ksk_end
   try dsimp only
   simp only[Bool.false_eq_true,if_false]
   by_cases h2:its.toArray.size < 2
   . rw[if_pos h2,if_pos h2]
     refine wpAny_bind (wpAny_pure ?_)
     rw[StateT.run_pure]
     refine wpAny_bind (wpAny_pure ?_)
     try dsimp only
     refine fin (SortSt.mk' general' (kits.toArray.zip its.toArray) #[] 7 none) (Array.Perm.refl _) ?_ rfl
     intro i j hij hj
     have hj2:j < (kits.toArray.zip its.toArray).size:=hj
     rw[hzs]at hj2
     rw[List.size_toArray]at h2
     have:i=j:=by omega
     subst this
     exact KeyOrd.kle_refl _
   . rw[if_neg h2,if_neg h2]
     rw[List.size_toArray]at h2
     have hkk:keyKind' kits.toArray=pure oneType':=by
      obtain⟨v₁,v₂,bS,e⟩:∃ v₁ v₂ bS,kits=v₁ :: v₂ :: bS:=by
       have hk2:2 <= kits.length:=by omega
       match kits,hk2 with
      |[],h=>exact absurd h (by simp)
      |[_],h=>exact absurd h (by simp)
      |v₁ :: v₂ :: bS,_=>exact⟨v₁,v₂,bS,rfl⟩
      rw[e]at hS |-
      exact keyKind_strs hS
     rw[hkk]
     refine wpAny_bind (wpAny_pure ?_)
     refine wpAny_bind (wpAny_mono (wpS_sortRunsK (κ:=PyProof.Rows.strKind) strKind_oneLt (a₀:=kits.toArray.zip its.toArray) (st:=SortSt.mk' oneType' (kits.toArray.zip its.toArray) #[] 7 none)
      (Q:=λ_ st'=>(arrOf st').Perm (kits.toArray.zip its.toArray)/\failedOf st'=none/\SortedToK PyProof.Rows.strKind (arrOf st') (kits.toArray.zip its.toArray).size)
      ?_ ⟨Array.Perm.refl _,rfl,rfl,rfl⟩ (by rw[hzs];omega) (by rw[hzs];exact h64) λst' a1 a2 a3=>⟨a1,a2,a3⟩) ?_ λ_ _ e=>e)
     . intro p hp
       rw[hzl]at hp
       obtain⟨x,t,e⟩:=hS.all _ (List.of_mem_zip hp).1
       exact⟨x.cps.toList,by rw[e]⟩
     . rintro⟨⟨⟩,st'⟩ s'' ⟨rfl,hp,hf,hs⟩
       try dsimp only
       exact fin st' hp (by rw[hp.size_eq];exact hs) hf
def Es (K:PySem.W.Frag) (sp:Sp) (ta:TE):TE:=λσ H Q=>ta σ H λx H1=>∃ (l:Addr) (xs:List V) (ks:List Str),x=.ref l/\SqL K H1 l xs/\ks.length=xs.length/\xs.length < 64 /\
 (∀ (i:Nat) (x:V) (key:Str),xs[i]?=some x->ks[i]?=some key->∀ H',bU H1 H'->sp [x] H' (λv H''=>v=.str key/\bU H' H'') E0) /\
 ∀ D H' (ps:List (Str × V)),H1 D=none->bU H1 H'->H' D=some (.lst (ps.map (·.2)))->ps.Perm (ks.zip xs)->ps.Pairwise (λp q=>leS p.1 q.1)->Q (.ref D) H'
theorem A0 {k:Nat}{f:Addr}{fd:FuncData}{pn fnm:Str}{sp:Sp}{e:Expr}{ta:TE}{p fp kp pos:Pos}(F:FnOk X.prog X.w X.K X.mg X.base CX0 k f fd [pn] sp) (hr:Room (k+1) X.A) (hb:aG X.K fd [pn] [])
 (hg:Gl X "sorted") (hm:X.mg "sorted"=none) (hgf:Gl X fnm) (hmf:X.mg fnm=some (.ref f)) (he:PE X e ta) (hdb:(fnm == ("__debug__":Str))=false:=by decide)
 (hst:starEach [e] X.env=[(false,eval e X.env)]:=by rfl) :
 PE X (.Call (.Name "sorted" p) [e] [⟨some "key",.Name fnm fp,kp⟩] pos) (Es X.K sp ta):=by
 intro pins s σ H Q I h
 refine wpAny_Call_Name_kw (nP I hg hm n8 ?_ (by decide) (by decide))
 refine callWith_kw ?_ (by rw[hst];rfl) (by rw[hst];rfl)
 refine thn ((a6 he a9 hst) pos pins s σ H (λvs H1=>match vs with
 |[x]=>∃ (l:Addr) (xs:List V) (ks:List Str),x=.ref l/\SqL X.K H1 l xs/\ks.length=xs.length/\xs.length < 64 /\
   (∀ (i:Nat) (x:V) (key:Str),xs[i]?=some x->ks[i]?=some key->∀ H',bU H1 H'->sp [x] H' (λv H''=>v=.str key/\bU H' H'') E0) /\
   ∀ D H' (ps:List (Str × V)),H1 D=none->bU H1 H'->H' D=some (.lst (ps.map (·.2)))->ps.Perm (ks.zip xs)->ps.Pairwise (λp q=>leS p.1 q.1)->Q (.ref D) H'
 |_=>False) I h) λus s1 ⟨vs,H1,I1,r1,q1⟩=>?_
 match vs,q1,r1 with
|[x],q1,r1 =>
  obtain⟨l,xs,ks,rfl,hq,hlen,h64,turn,q⟩:=q1
  obtain⟨u,rfl,rx⟩:=nq r1
  cases rx
  refine kws_cons (gz I1 hgf hmf (kws_nil ?_) hdb)
  exact yB F hr hb I1 hq hlen h64 turn q
|[],q1,_=>exact q1.elim
|_ :: _ :: _,q1,_=>exact q1.elim
end
end L2
namespace L2
open PySem PySem.Spec PyProof.Rows
def FR (K:PySem.W.Frag) (a:Addr) (D:List (Str × Addr)):Prop:=(a == sysModules)=false/\∃ o es ep,K.lookup a=some o/\o.ExactDict/\o.data=.dict es ep/\KTD.Rows (λ(b:Addr) (v:Value)=>v=.ref b) es.toList D
section
variable {X:Cx}{pins:List (Addr × Obj)}{σ:St}{H:Hp}{s:Shared}
theorem tZ {A:Around}{E:Value->Shared->Prop}{a:Addr}{D:List (Str × Addr)}{k:Str}{tk:Tok}{o:Obj}{es:Array DictEntry}{ep:Nat}{prog:Program}{w:World}{s:Shared}{Q:Option Value->Shared->Prop}(ho:s.heap.get? a=some o) (hd:o.data=.dict es ep) (hr:KTD.Rows (λ(b:Addr) (v:Value)=>v=.ref b) es.toList D)
 (h1:Q ((KTD.datumAt k D).map Value.ref) { s with toks:=s.toks+1 }):wpAny (model prog w) A (dictGet a (.str k tk)) Q E s:=by
 unfold dictGet
 try with_reducible refine wpAny_holding ?_
 refine wpAny_bind (wpAny_pyHash_str (wpAny_bind (KTD.kt_dictFind_strs (s:={ s with toks:=s.toks+1 }) ho hd (by obtain⟨l⟩:=es;simpa using hr.exact) ?_)))
 have hq:Q (findBy (λk v=>v.isStr k) es k) { s with toks:=s.toks+1 }:=by
  have hf:findBy (λk v=>v.isStr k) es k=(es.toList.find? λe=>e.key.isStr k).map (·.val):=by
   obtain⟨l⟩:=es
   simp[findBy]
  rw[hf]
  cases hat:KTD.datumAt k D with
 |some d =>
   obtain⟨v,hv,hfl⟩:=hr.find_some hat
   rw[hv,hfl]
   rw[hat]at h1
   exact h1
 |none =>
   rw[hr.find_none hat]
   rw[hat]at h1
   exact h1
 rw[findBy_of_findIdx?]at hq
 cases hi:es.findIdx? λe=>e.key.isStr k with
|none=>rw[hi]at hq;exact wpAny_pure hq
|some i=>rw[hi]at hq;exact wpAny_bind (wpAny_dictEntries (s:={ s with toks:=s.toks+1 }) ho hd (wpAny_pure hq))
def Gv:Option Addr->V
|some b=>.ref b
|none=>.non
def Cz (D:List (Str × Addr)) (ty:TE):TE:=λσ H Q=>ty σ H λy H1=>∃ k,y=.str k/\Q (Gv (KTD.datumAt k D)) H1
theorem rP {T:Str}{a:Addr}{D:List (Str × Addr)}{e:Expr}{ty:TE}{p apos cpos:Pos}(hg:Gl X T) (hm:X.mg T=some (.ref a)) (ht:FR X.K a D) (he:PE X e ty) (m:M1 X (.Name T p) "get" apos e cpos) (hdb:(T == ("__debug__":Str))=false:=by decide):PE X (.Call (.Attribute (.Name T p) "get" apos) [e] [] cpos) (Cz D ty):=by
 intro pins s σ H Q I h
 obtain⟨hs,o,es,ep,hl,hx,hd,hr⟩:=ht
 have ho:∀ {s':Shared} {H':Hp},Inv X pins σ H' s'->s'.heap.get? a=some o:=λI'=>I'.kIn a o hl
 refine wpAny_Call_method m.base m.few m.line PySem.F.plainAttrs_dict PySem.F.slot_dict_get PySem.F.type_dict_get (gz I hg hm ?_ hdb)
 refine⟨⟨o,ho I,hx.1⟩,?_,?_⟩
 . intro b q;cases q;exact⟨o,ho I,hx.2.1⟩
 . rw[m.trees]
   refine Calls.callWith_builtin rfl (Calls.evalArgs_plain (Calls.spliced_cons (thn (he pins s σ H _ I h) λiv s2 ⟨y,H2,I2,ry,k,ey,q2⟩=>Calls.spliced_nil ?_)))
   subst ey
   obtain⟨t,rfl⟩:=ry
   refine wpAny_call_entry PySem.F.slot_dict_get ⟨o,ho I2,hx.1⟩ PySem.F.entry_dict_get ?_ (PySem.F.args_dict_get_2 _ _)
   show wpAny _ _ (dictGet a (.str k t) >>= _) _ _ s2
   refine wpAny_bind (tZ (ho I2) hd hr ?_)
   cases hat:KTD.datumAt k D with
  |some b =>
    rw[hat]at q2
    exact wpAny_pure ⟨_,rfl,.ref b,H2,I2.tok _,rfl,q2⟩
  |none =>
    rw[hat]at q2
    show wpAny _ _ (Builtin.Dict.missed a (.str k t) >>= _) _ _ _
    exact wpAny_bind (wpAny_missed_other hs (wpAny_pure ⟨.none,rfl,.non,H2,I2.tok _,rfl,q2⟩))
end
end L2
namespace L2
open PySem PySem.Spec PyProof.Rows
section
variable {X:Cx}
theorem vR {prog:Program}{w:World}{A:Around}{I l:Addr}{items:Array Value}(hh:A.handled=none) (hIl:I≠l) :
 Walks prog w A I [I,l] [I] items.size (λi v=>items[i]?=some v) (λi h=>h.IsListIter I l i/\h.IsList l items) where
 sub b hb:=by rw[List.mem_singleton.mp hb];exact List.mem_cons_self
 frame i h h' st k:=by
  obtain⟨⟨o,ho,r⟩,⟨ol,hol,rl⟩⟩:=st
  exact⟨⟨o,k I List.mem_cons_self _ ho,r⟩,⟨ol,k l (List.mem_cons_of_mem _ List.mem_cons_self) _ hol,rl⟩⟩
 item i s Q E hi st k:=by
  refine wpAny_pyNext_list_item st.1 st.2 (Array.getElem?_eq_getElem hi) λh' it' sb=>k _ h' s.toks (Array.getElem?_eq_getElem hi) ⟨it',?_⟩ λb o hb e=>(sb.2 b (λy=>hb (by rw[y];exact List.mem_singleton.mpr rfl))).trans e
  obtain⟨ol,hol,rl⟩:=st.2
  exact⟨ol,(sb.2 l (Ne.symm hIl)).trans hol,rl⟩
 done s Q E st k:=by
  refine wpAny_pyNext_list_end hh st.1 st.2 (by rw[Array.getElem?_eq_none_iff];exact Nat.le_refl _) λh' eb=>k h' s.toks λb o hb e=>?_
  exact eb b o (λy=>hb (by rw[y];exact List.mem_singleton.mpr rfl)) e
 self i s Q E st k:=wpAny_pyIter_listiter st.1 k
theorem rT:∀ {bs:List Bool}{us:List Value},bC (bs.map V.bl) us->us=bs.map Value.bool
|[],_,.nil=>rfl
|b :: bs,_,.cons r t=>by
  have r':_=Value.bool b:=r
  rw[r',rT t];rfl
theorem Ba:bootBuiltins "all"=some (.builtin "all"):=by decide +kernel
theorem vB (hc:X.calm=true):lZ X (.builtin "all") (λxs H Q=>∃ (p:Addr) (bs:List Bool),xs=[.ref p]/\SqL X.K H p (bs.map V.bl)/\Q (.bl (bs.all id)) H):=by
 intro pins s σ H xs us Q I r h
 obtain⟨p,bs,rfl,hq,q⟩:=h
 obtain⟨u,rfl,rx⟩:=nq r
 cases rx
 obtain⟨its,r',pl,hz⟩:=I.list hq
 have hb:=rT r'
 have il:=pl.isList
 refine call_all_walk (wpAny_pyIter_list il ⟨s.heap.objs.size,_,_,_,_,_,λi=>bs.getD i true,rfl,vR (I:=s.heap.objs.size) (l:=p) (items:=its.toArray) (I.ok.hd hc) ?_,⟨⟨_,Heap.get?_push_size _ rfl,rfl,rfl⟩,?_⟩,?_,?_⟩)
 . obtain⟨o,ho,_⟩:=il
   exact Ne.symm (Nat.ne_of_lt (Heap.lt_size ho))
 . obtain⟨o,ho,rr⟩:=il
   exact⟨o,Heap.get?_push_of_some _ ho,rr⟩
 . intro i v s' Q' E' hv hq'
   have hv':its[i]?=some v:=by rw[<-hv];simp
   rw[hb,List.getElem?_map]at hv'
   obtain⟨b,hbi,rfl⟩:=Option.map_eq_some_iff.mp hv'
   have:bs.getD i true=b:=by rw[List.getD_eq_getElem?_getD,hbi];rfl
   have hq2:Q' (bs.getD i true) s':=hq'
   rw[this]at hq2
   exact wpAny_truthy_bool hq2
 . intro h' tk k
   have e:((List.range its.toArray.size).all λi=>bs.getD i true)=bs.all id:=by
    have hl:its.toArray.size=bs.length:=by rw[List.size_toArray,hb,List.length_map]
    rw[hl,Bool.eq_iff_iff,List.all_eq_true,List.all_eq_true]
    constructor
    . intro h x hx
      obtain⟨i,hi,rfl⟩:=List.getElem_of_mem hx
      have:=h i (List.mem_range.mpr hi)
      rw[List.getD_eq_getElem?_getD,List.getElem?_eq_getElem hi]at this
      exact this
    . intro h i hi
      have hi':=List.mem_range.mp hi
      rw[List.getD_eq_getElem?_getD,List.getElem?_eq_getElem hi']
      exact h _ (List.getElem_mem hi')
   rw[e]
   refine⟨.bl (bs.all id),H,I.kept λb o hb=>k b o (λy=>?_) (Heap.get?_push_of_some _ hb),rfl,q⟩
   rw[List.mem_singleton]at y
   have:=Heap.lt_size hb
   rw[y]at this
   exact Nat.lt_irrefl _ this
end
end L2
namespace L2
open PySem PySem.Spec PyProof.Rows
section
variable {X:Cx}
def Fc (K:PySem.W.Frag):V->List V->Hp->VK->Prop:=λx vs H Q=>∃ (sep:Str) (p:Addr) (ys:List Str),x=.str sep/\vs=[.ref p]/\SqL K H p (ys.map V.str)/\(ys.map (·.length)).sum+ys.length * sep.length <= 16777216/\Q (.str (Txt.join sep ys)) H
theorem uu:∀ {ys:List Str}{us:List Value},bC (ys.map V.str) us->StrsAre us ys
|[],_,.nil=>.nil
|y :: ys,_,.cons r t=>by
  obtain⟨tk,e⟩:=r
  rw[e];exact .cons _ _ (uu t)
theorem Cg:MtR X "str.join" (Fc X.K):=by
 intro pins s σ H x vs v us Q I rx rv h
 obtain⟨sep,p,ys,rfl,rfl,hq,hl,q⟩:=h
 obtain⟨t,rfl⟩:=rx
 obtain⟨u,rfl,ru⟩:=rv.one
 cases ru
 obtain⟨its,r',pl,hz⟩:=I.list hq
 exact join_list pl.isList (uu r') hl λt' k=>⟨.str (Txt.join sep ys),H,I.tok k,⟨t',rfl⟩,q⟩
theorem AD:lZ X (.type "str") (λxs H Q=>(∃ i:Int,xs=[.int i]/\i.natAbs.log2 < 1920/\Q (.str (toString i)) H)\/∃ t,xs=[.str t]/\Q (.str t) H):=by
 intro pins s σ H xs us Q I r h
 rcases h with⟨i,rfl,hz,q⟩|⟨x,rfl,q⟩
 . obtain⟨u,rfl,t,rfl⟩:=nq r
   exact PySem.P.str_of_int hz ⟨.str _,H,I.tok _,⟨_,rfl⟩,q⟩
 . obtain⟨u,rfl,t,rfl⟩:=nq r
   exact PySem.P.str_of_str ⟨.str x,H,I,⟨t,rfl⟩,q⟩
end
end L2
namespace L2
open PySem PySem.Spec PyProof.Rows
theorem uZ {X:Cx}{x:Str}{i:Int}{p:Pos}(hg:Gl X x) (hm:∃ t,X.mg x=some (.int i t)) (hdb:(x == ("__debug__":Str))=false:=by decide):PE X (.Name x p) (tC (.int i)):=by
 obtain⟨t,hm⟩:=hm
 intro pins s σ H Q I h
 exact gz I hg hm ⟨.int i,H,I,⟨t,rfl⟩,h⟩ hdb
end L2
namespace L2
open PySem PySem.Spec PyProof.Rows
def wP (z:HA) (zt:TA') (sa:SA) (c:Addr):Prop:=z.own c\/zt.own c\/sa.own c
structure X5 (w:World) (CH CT CR CS:Addr) (H:Hp) (z:HA) (zt:TA') (sa:SA) (p:RP) (n:Nat) (m:Mem) (rs:Bool->List Wr) (un tk:List Int):Prop where
 hn:Hn CH CR H z sa.x p n un
 tn:Tn CT CR H zt sa.x p tk
 st:StT w CS H sa m rs
 dz:∀ c,z.own c->¬ zt.own c
section
variable {w:World}{CH CT CR CS:Addr}{H H':Hp}{z:HA}{zt:TA'}{sa:SA}{p:RP}{n:Nat}{m m':Mem}{rs rs':Bool->List Wr}{un tk un' tk':List Int}
theorem X5.keep (W:X5 w CH CT CR CS H z zt sa p n m rs un tk) (k:∀ c o,wP z zt sa c->H c=some o->H' c=some o) (ht:∀ b vs,H b=some (.tup vs)->H' b=some (.tup vs)):X5 w CH CT CR CS H' z zt sa p n m rs un tk :=
 ⟨W.hn.keep λc o h=>k c o (.inl h),W.tn.keep λc o h=>k c o (.inr (.inl h)),W.st.keep (λc o h=>k c o (.inr (.inr h))) ht,W.dz⟩
theorem X5.there (W:X5 w CH CT CR CS H z zt sa p n m rs un tk) {c:Addr}(h:wP z zt sa c):∃ o,H c=some o/\∀ vs,o≠.tup vs:=by
 rcases h with h|h|h
 . obtain⟨o,e,⟨_,_,_,s⟩|⟨_,s⟩⟩:=W.hn.there h
   . exact⟨o,e,λvs y=>by rw[y]at s;cases s⟩
   . exact⟨o,e,λvs y=>by rw[y]at s;cases s⟩
 . obtain⟨o,e,⟨_,_,_,s⟩|⟨_,s⟩⟩:=W.tn.there h
   . exact⟨o,e,λvs y=>by rw[y]at s;cases s⟩
   . exact⟨o,e,λvs y=>by rw[y]at s;cases s⟩
 . exact W.st.there h
theorem Fw {p:RP}{st:Addr}{nn:Int}{aw:List Int}(B:Hn CH CR H z st p nn aw) (S:StT w CS H sa m rs) (b:Bool):¬ z.own (sa.l b):=λhc=>by
 obtain⟨o1,q1,s1⟩:=B.there hc
 obtain⟨M,r,S',_⟩:=S
 obtain⟨ts,e,_⟩:=S'.rw b
 rw[e]at q1
 cases q1
 rcases s1 with⟨_,_,_,s⟩|⟨_,s⟩<;>cases s
theorem FD {p:RP}{st:Addr}{aw:List Int}(B:Tn CT CR H zt st p aw) (S:StT w CS H sa m rs) (b:Bool):¬ zt.own (sa.l b):=λhc=>by
 obtain⟨o1,q1,s1⟩:=B.there hc
 obtain⟨M,r,S',_⟩:=S
 obtain⟨ts,e,_⟩:=S'.rw b
 rw[e]at q1
 cases q1
 rcases s1 with⟨_,_,_,s⟩|⟨_,s⟩<;>cases s
theorem pF:∀ c∈[z.gd,sa.l false],wP z zt sa c:=λc hc=>by
 rcases List.mem_cons.mp hc with y|y
 . rw[y];exact .inl (.inr (.inr (.inr rfl)))
 . rw[List.mem_singleton.mp y];exact .inr (.inr (D8 false))
theorem pB:∀ c∈[zt.gd,sa.l true],wP z zt sa c:=λc hc=>by
 rcases List.mem_cons.mp hc with y|y
 . rw[y];exact .inr (.inl (.inr (.inr (.inr rfl))))
 . rw[List.mem_singleton.mp y];exact .inr (.inr (D8 true))
theorem rD {b:Bool}:∀ c∈[sa.l b,sa.hd],wP z zt sa c:=λc hc=>by
 rcases List.mem_cons.mp hc with y|y
 . rw[y];exact .inr (.inr (D8 b))
 . rw[List.mem_singleton.mp y];exact .inr (.inr Dg)
theorem X5.hand (W:X5 w CH CT CR CS H z zt sa p n m rs un tk) (hn':Hn CH CR H' z sa.x p n un') (st':StT w CS H' sa m' rs') (kp:Kp [z.gd,sa.l false] H H'):X5 w CH CT CR CS H' z zt sa p n m' rs' un' tk:=by
 refine⟨hn',W.tn.keep λc o hc e=>kp c o (λmm=>?_) e,st',W.dz⟩
 rcases List.mem_cons.mp mm with y|y
 . exact W.dz c (by rw[y];exact .inr (.inr (.inr rfl))) hc
 . exact FD W.tn W.st false (by rw[<-List.mem_singleton.mp y];exact hc)
theorem X5.heart (W:X5 w CH CT CR CS H z zt sa p n m rs un tk) (tn':Tn CT CR H' zt sa.x p tk') (st':StT w CS H' sa m' rs') (kp:Kp [zt.gd,sa.l true] H H'):X5 w CH CT CR CS H' z zt sa p n m' rs' un tk':=by
 refine⟨W.hn.keep λc o hc e=>kp c o (λmm=>?_) e,tn',st',W.dz⟩
 rcases List.mem_cons.mp mm with y|y
 . exact W.dz c hc (by rw[y];exact .inr (.inr (.inr rfl)))
 . exact Fw W.hn W.st true (by rw[<-List.mem_singleton.mp y];exact hc)
theorem X5.store (W:X5 w CH CT CR CS H z zt sa p n m rs un tk) {b:Bool}(st':StT w CS H' sa m' rs') (kp:Kp [sa.l b,sa.hd] H H'):X5 w CH CT CR CS H' z zt sa p n m' rs' un tk:=by
 have hx:∀ c∈[sa.l b,sa.hd],(∃ ys,H c=some (.lst ys))\/∃ ee:List DictEntry × Nat,H c=some (km c ee.1 ee.2):=λc hc=>by
  obtain⟨M,r,S,_⟩:=W.st
  rcases List.mem_cons.mp hc with y|y
  . obtain⟨ts,e,_⟩:=S.rw b
    exact .inl ⟨ts,by rw[y];exact e⟩
  . obtain⟨ee,e⟩:=S.me.there
    exact .inr ⟨ee,by rw[List.mem_singleton.mp y];exact e⟩
 exact⟨W.hn.lists kp hx,W.tn.lists kp hx,st',W.dz⟩
end
theorem DV2 {H:Hp}{c:Addr}{x y:Int}(h:H c=some (.tup [.int x,.int y])):DV H (.tuple [.int x,.int y]) (.ref c):=⟨c,_,rfl,h,_,_,rfl,rfl,_,_,rfl,rfl,rfl⟩
theorem lj {H:Hp}:∀ {ds:List PyData}{ts:List V},DVs H ds ts->ts.length=ds.length
|[],_,h=>by cases h;rfl
|d :: ds,_,⟨v,r,h,h1,h2⟩=>by subst h;rw[List.length_cons,List.length_cons,lj h2]
theorem E8 {xs:List V}{j:Nat}{v:V}(h:xs[j]?=some v):atI xs (j:Int)=some v:=by
 unfold atI ixN
 have hl:=(List.getElem?_eq_some_iff.mp h).1
 rw[if_pos (by omega),if_pos (by omega)]
 exact h
end L2
namespace L2
open PySem PySem.Spec PyProof.Rows
inductive Bd where
|up|lies|asleep
instance:DecidableEq Bd:=λa b=>by
 cases a<;>cases b<;>first|exact isTrue rfl|exact isFalse (λh=>by cases h)
def Bd.key:Bd->Str
|.up=>"up"
|.lies=>"lies"
|.asleep=>"asleep"
theorem DI {a b:Bd}(h:a.key=b.key):a=b:=by
 cases a<;>cases b<;>first|rfl|exact absurd h (by decide +kernel)
structure YP where
 p:RP
 n:Nat
 fb:Bool
 fl:Bool
 fk:Bool
structure YP.Ok (q:YP):Prop where
 ok:q.p.Ok
 n9:q.n <= 9
structure YA where
 y:Addr
 ft:Addr
 sa:SA
 z:HA
 zt:TA'
 sl:Addr
 qu:Addr
 hp:Addr
structure YS where
 m:Mem
 rs:Bool->List Wr
 un:List Int
 tk:List Int
 bd:Bool->Bd
 qt:Bool->Bool
 hs:List PyData
def YS.zero:YS:=⟨Mem.zero,λ_=>[],[],[],λ_=>.up,λ_=>true,[]⟩
def yF (a:YA) (q:YP):List (Str × V):=bP "happened" (.ref a.hp) (bP "quiet" (.ref a.qu) (bP "sleepers" (.ref a.sl) (bP "look_sees" (.bl q.fk) (bP "lie_fences" (.bl q.fl) (bP "bell_fences" (.bl q.fb) (bP "heart" (.ref a.zt.h) (bP "hand" (.ref a.z.h) (bP "shelf" (.ref a.sa.x) (bP "faults" (.ref a.ft) (bP "rounds" (.int q.p.R) (bP "size" (.int q.p.s) [])))))))))))
section
variable {a:YA}{q:YP}
theorem cN:(yF a q).lookup ("shelf":Str)=some (.ref a.sa.x):=by unfold yF;repeat (first|rw[aa,if_pos rfl]|rw[aa,if_neg (by decide +kernel)]);try rfl
theorem nA:(yF a q).lookup ("hand":Str)=some (.ref a.z.h):=by unfold yF;repeat (first|rw[aa,if_pos rfl]|rw[aa,if_neg (by decide +kernel)]);try rfl
theorem kD:(yF a q).lookup ("heart":Str)=some (.ref a.zt.h):=by unfold yF;repeat (first|rw[aa,if_pos rfl]|rw[aa,if_neg (by decide +kernel)]);try rfl
theorem BR:(yF a q).lookup ("bell_fences":Str)=some (.bl q.fb):=by unfold yF;repeat (first|rw[aa,if_pos rfl]|rw[aa,if_neg (by decide +kernel)]);try rfl
theorem DD:(yF a q).lookup ("lie_fences":Str)=some (.bl q.fl):=by unfold yF;repeat (first|rw[aa,if_pos rfl]|rw[aa,if_neg (by decide +kernel)]);try rfl
theorem BL:(yF a q).lookup ("look_sees":Str)=some (.bl q.fk):=by unfold yF;repeat (first|rw[aa,if_pos rfl]|rw[aa,if_neg (by decide +kernel)]);try rfl
theorem bL:(yF a q).lookup ("sleepers":Str)=some (.ref a.sl):=by unfold yF;repeat (first|rw[aa,if_pos rfl]|rw[aa,if_neg (by decide +kernel)]);try rfl
theorem mG:(yF a q).lookup ("quiet":Str)=some (.ref a.qu):=by unfold yF;repeat (first|rw[aa,if_pos rfl]|rw[aa,if_neg (by decide +kernel)]);try rfl
theorem iH:(yF a q).lookup ("happened":Str)=some (.ref a.hp):=by unfold yF;repeat (first|rw[aa,if_pos rfl]|rw[aa,if_neg (by decide +kernel)]);try rfl
theorem dL {f:Str}(h:f ∉ (["size","rounds","faults","shelf","hand","heart","bell_fences","lie_fences","look_sees","sleepers","quiet","happened"]:List Str)):(yF a q).lookup f=none:=by
 simp only[List.mem_cons,List.not_mem_nil,or_false,not_or]at h
 obtain⟨h1,h2,h3,h4,h5,h6,h7,h8,h9,h10,h11,h12⟩:=h
 unfold yF
 rw[aa,if_neg h12,aa,if_neg h11,aa,if_neg h10,aa,if_neg h9,aa,if_neg h8,aa,if_neg h7,aa,if_neg h6,aa,if_neg h5,aa,if_neg h4,aa,if_neg h3,aa,if_neg h2,aa,if_neg h1]
 rfl
end
def YA.lists (a:YA) (c:Addr):Prop:=c=a.sl\/c=a.qu\/c=a.hp
def YA.own (a:YA) (c:Addr):Prop:=c=a.y\/wP a.z a.zt a.sa c\/a.lists c
structure Yn (w:World) (CY CH CT CR CS:Addr) (H:Hp) (a:YA) (q:YP) (S:YS):Prop where
 ob:∃ dx,H a.y=some (.ins CY dx (yF a q))
 x:X5 w CH CT CR CS H a.z a.zt a.sa q.p q.n S.m S.rs S.un S.tk
 sl:H a.sl=some (.lst [.str (S.bd false).key,.str (S.bd true).key])
 qu:H a.qu=some (.lst [.bl (S.qt false),.bl (S.qt true)])
 hp:∃ ts,H a.hp=some (.lst ts)/\DVs H S.hs ts
 fl:∀ d∈S.hs,flD d=true
 d1:∀ c,a.lists c->¬ wP a.z a.zt a.sa c
 d2:a.sl≠a.qu/\a.sl≠a.hp/\a.qu≠a.hp
 d3:¬ wP a.z a.zt a.sa a.y
theorem DVs.fl {H H':Hp}(ht:∀ b vs,H b=some (.tup vs)->H' b=some (.tup vs)):∀ {ds:List PyData}{vs:List V},(∀ d∈ds,flD d=true)->DVs H ds vs->DVs H' ds vs
|[],_,_,h=>h
|d :: ds,_,hf,⟨v,r,e,h1,h2⟩=>⟨v,r,e,DV.fl ht (hf d List.mem_cons_self) h1,DVs.fl ht (λx hx=>hf x (List.mem_cons_of_mem _ hx)) h2⟩
section
variable {w:World}{CY CH CT CR CS:Addr}{H H':Hp}{a:YA}{q:YP}{S:YS}
theorem Yn.keep (Y:Yn w CY CH CT CR CS H a q S) (k:∀ c o,a.own c->H c=some o->H' c=some o) (ht:∀ b vs,H b=some (.tup vs)->H' b=some (.tup vs)):Yn w CY CH CT CR CS H' a q S:=by
 obtain⟨dx,hx⟩:=Y.ob
 obtain⟨ts,h1,h2⟩:=Y.hp
 exact⟨⟨dx,k _ _ (.inl rfl) hx⟩,Y.x.keep (λc o h=>k c o (.inr (.inl h))) ht,k _ _ (.inr (.inr (.inl rfl))) Y.sl,k _ _ (.inr (.inr (.inr (.inl rfl)))) Y.qu,⟨ts,k _ _ (.inr (.inr (.inr (.inr rfl)))) h1,DVs.fl ht Y.fl h2⟩,Y.fl,Y.d1,Y.d2,Y.d3⟩
theorem Yn.same (Y:Yn w CY CH CT CR CS H a q S) (s:bU H H'):Yn w CY CH CT CR CS H' a q S:=Y.keep (λc o _=>s c o) λb vs=>s b _
theorem Yn.list (Y:Yn w CY CH CT CR CS H a q S) {c:Addr}(h:a.lists c):∃ ys,H c=some (.lst ys):=by
 rcases h with rfl|rfl|rfl
 . exact⟨_,Y.sl⟩
 . exact⟨_,Y.qu⟩
 . obtain⟨ts,e,_⟩:=Y.hp;exact⟨_,e⟩
theorem Yn.there (Y:Yn w CY CH CT CR CS H a q S) {c:Addr}(h:a.own c):∃ o,H c=some o/\∀ vs,o≠.tup vs:=by
 rcases h with rfl|h|h
 . obtain⟨dx,e⟩:=Y.ob;exact⟨_,e,λ_ z=>by cases z⟩
 . exact Y.x.there h
 . obtain⟨ys,e⟩:=Y.list h;exact⟨_,e,λ_ z=>by cases z⟩
theorem Yn.tups (Y:Yn w CY CH CT CR CS H a q S) {xs:List Addr}(kp:Kp xs H H') (h:∀ c∈xs,a.own c):∀ b vs,H b=some (.tup vs)->H' b=some (.tup vs):=λb vs e=>kp b _ (λmm=>by
 obtain⟨o,e',nn⟩:=Y.there (h b mm)
 rw[e']at e;exact nn vs (Option.some.inj e)) e
theorem Yn.parts (Y:Yn w CY CH CT CR CS H a q S) {xs:List Addr}{m:Mem}{rs:Bool->List Wr}{un tk:List Int}(X':X5 w CH CT CR CS H' a.z a.zt a.sa q.p q.n m rs un tk) (kp:Kp xs H H') (h:∀ c∈xs,wP a.z a.zt a.sa c):Yn w CY CH CT CR CS H' a q { S with m:=m,rs:=rs,un:=un,tk:=tk }:=by
 have ht:=Y.tups kp λc hc=>.inr (.inl (h c hc))
 obtain⟨dx,hx⟩:=Y.ob
 obtain⟨ts,h1,h2⟩:=Y.hp
 have ls:∀ c o,a.lists c->H c=some o->H' c=some o:=λc o hc e=>kp c o (λmm=>Y.d1 c hc (h c mm)) e
 exact⟨⟨dx,kp _ _ (λmm=>Y.d3 (h _ mm)) hx⟩,X',ls _ _ (.inl rfl) Y.sl,ls _ _ (.inr (.inl rfl)) Y.qu,⟨ts,ls _ _ (.inr (.inr rfl)) h1,DVs.fl ht Y.fl h2⟩,Y.fl,Y.d1,Y.d2,Y.d3⟩
theorem Yn.lst_tups (Y:Yn w CY CH CT CR CS H a q S) {c:Addr}(hc:a.lists c) (o:HO):∀ b vs,H b=some (.tup vs)->upd H c o b=some (.tup vs):=λb vs e=>by
 obtain⟨ys,e'⟩:=Y.list hc
 rw[ag (λy=>by rw[y,e']at e;cases e)];exact e
theorem Yn.lst_own (Y:Yn w CY CH CT CR CS H a q S) {c:Addr}(hc:a.lists c) (o:HO):∀ b u,wP a.z a.zt a.sa b->H b=some u->upd H c o b=some u:=λb u hb e=>by
 rw[ag (λy=>Y.d1 c hc (by rw[<-y];exact hb))];exact e
theorem Yn.lst_y (Y:Yn w CY CH CT CR CS H a q S) {c:Addr}(hc:a.lists c) (o:HO):∃ dx,upd H c o a.y=some (.ins CY dx (yF a q)):=by
 obtain⟨dx,hx⟩:=Y.ob
 obtain⟨ys,e'⟩:=Y.list hc
 exact⟨dx,by rw[ag (λy=>by rw[y,e']at hx;cases hx)];exact hx⟩
theorem Yn.setSl (Y:Yn w CY CH CT CR CS H a q S) (b:Bool) (x:Bd) {ys:List V}(h:ys=[.str (bt S.bd b x false).key,.str (bt S.bd b x true).key]):Yn w CY CH CT CR CS (upd H a.sl (.lst ys)) a q { S with bd:=bt S.bd b x }:=by
 have hc:a.lists a.sl:=.inl rfl
 obtain⟨ts,h1,h2⟩:=Y.hp
 have ht:=Y.lst_tups hc (.lst ys)
 exact⟨Y.lst_y hc _,Y.x.keep (Y.lst_own hc _) ht,by rw[a8,h],by rw[ag (Ne.symm Y.d2.1)];exact Y.qu,⟨ts,by rw[ag (Ne.symm Y.d2.2.1)];exact h1,DVs.fl ht Y.fl h2⟩,Y.fl,Y.d1,Y.d2,Y.d3⟩
theorem Yn.setQu (Y:Yn w CY CH CT CR CS H a q S) (b x:Bool) {ys:List V}(h:ys=[.bl (bt S.qt b x false),.bl (bt S.qt b x true)]):Yn w CY CH CT CR CS (upd H a.qu (.lst ys)) a q { S with qt:=bt S.qt b x }:=by
 have hc:a.lists a.qu:=.inr (.inl rfl)
 obtain⟨ts,h1,h2⟩:=Y.hp
 have ht:=Y.lst_tups hc (.lst ys)
 exact⟨Y.lst_y hc _,Y.x.keep (Y.lst_own hc _) ht,by rw[ag Y.d2.1];exact Y.sl,by rw[a8,h],⟨ts,by rw[ag (Ne.symm Y.d2.2.2)];exact h1,DVs.fl ht Y.fl h2⟩,Y.fl,Y.d1,Y.d2,Y.d3⟩
theorem Yn.setHp (Y:Yn w CY CH CT CR CS H a q S) {x:PyData}{v:V}{ts:List V}(hts:H a.hp=some (.lst ts)) (hv:DV H x v) (hx:flD x=true):Yn w CY CH CT CR CS (upd H a.hp (.lst (ts++[v]))) a q { S with hs:=S.hs++[x] }:=by
 have hc:a.lists a.hp:=.inr (.inr rfl)
 obtain⟨ts',h1,h2⟩:=Y.hp
 rw[hts]at h1
 cases h1
 have ht:=Y.lst_tups hc (.lst (ts++[v]))
 have hf:∀ d∈S.hs++[x],flD d=true:=λd hd=>by
  rcases List.mem_append.mp hd with h|h
  . exact Y.fl d h
  . rw[List.mem_singleton.mp h];exact hx
 exact⟨Y.lst_y hc _,Y.x.keep (Y.lst_own hc _) ht,by rw[ag Y.d2.2.1];exact Y.sl,by rw[ag Y.d2.2.2];exact Y.qu,⟨_,a8,DVs.fl ht hf (DVs.snoc h2 hv)⟩,hf,Y.d1,Y.d2,Y.d3⟩
end
inductive Dd where
|ask (wt:Int)|collect|take|answer (nm wt:Int)|bell (b:Bool)|lie (b:Bool)|look (b:Bool)|drain (b:Bool)
def Dd.vs:Dd->List V
|.ask wt=>[.str "ask",.int wt]
|.collect=>[.str "collect"]
|.take=>[.str "take"]
|.answer nm wt=>[.str "answer",.int nm,.int wt]
|.bell b=>[.str "bell",.int (sdI b)]
|.lie b=>[.str "lie",.int (sdI b)]
|.look b=>[.str "look",.int (sdI b)]
|.drain b=>[.str "drain",.int (sdI b)]
def Dd.Ok:Dd->Prop
|.ask wt=>-1000000000 <= wt/\wt <= 1000000000
|.answer _ wt=>-1000000000 <= wt/\wt <= 1000000000
|_=>True
inductive Rf where
|deed|full|name|task
def Dd.chk (q:YP) (S:YS):Dd->Option Rf
|.drain b=>if S.rs b=[] then some .deed else none
|.look b=>if S.bd b=.lies then none else some .deed
|.bell b=>if S.bd b=.up then none else some .deed
|.lie b=>if S.bd b=.up then none else some .deed
|.collect=>if S.bd false=.up then none else some .deed
|.take=>if S.bd true=.up then none else some .deed
|.ask _=>if S.bd false=.up then (if bo q.p S.m (S.rs false) .asked .taken=q.p.s then some .full else match d9 q.n S.un with|none=>some .name|some _=>none) else some .deed
|.answer nm _=>if S.bd true=.up then (if S.tk.contains nm=false then some .task else if bo q.p S.m (S.rs true) .answered .handed=q.p.s then some .full else none) else some .deed
end L2
namespace L2
open PySem PySem.Spec PyProof.Rows
section
variable {K:PySem.W.Frag}
theorem zC:kitOne K (.type "str") (.type "str")=some true:=by rfl
theorem Ft:kitOne K (.type "str") (.type "tuple")=some false:=by rfl
end
end L2
namespace L2
open PySem PySem.Spec PyProof.Rows
def dU (x:Int) (k:Str):Bool:=if k="worth" then decide (-1000000000 <= x) && decide (x <= 1000000000) else if k="side" then decide (x=0) || decide (x=1) else true
def Dd.word:Dd->Str
|.ask _=>"ask"
|.collect=>"collect"
|.take=>"take"
|.answer _ _=>"answer"
|.bell _=>"bell"
|.lie _=>"lie"
|.look _=>"look"
|.drain _=>"drain"
def Dd.args:Dd->List Int
|.ask wt=>[wt]
|.collect=>[]
|.take=>[]
|.answer nm wt=>[nm,wt]
|.bell b=>[sdI b]
|.lie b=>[sdI b]
|.look b=>[sdI b]
|.drain b=>[sdI b]
def Dd.ks:Dd->List Str
|.ask _=>["worth"]
|.collect=>[]
|.take=>[]
|.answer _ _=>["name","worth"]
|_=>["side"]
def Dd.side:Dd->Bool
|.ask _=>false
|.collect=>false
|.take=>true
|.answer _ _=>true
|.bell b=>b
|.lie b=>b
|.look b=>b
|.drain b=>b
theorem Dd.vs_eq (x:Dd):x.vs=.str x.word :: x.args.map V.int:=by cases x<;>rfl
theorem Dd.len (x:Dd):x.args.length=x.ks.length/\x.args.length <= 2:=by cases x<;>exact⟨rfl,by simp[Dd.args]⟩
theorem ms (b:Bool):dU (sdI b) "side"=true:=by cases b<;>decide +kernel
theorem Dd.part {x:Dd}(h:x.Ok):∀ (i:Nat) (y:Int) (k:Str),x.args[i]?=some y->x.ks[i]?=some k->dU y k=true:=by
 intro i y k hy hk
 have wk:∀ {wt:Int},(-1000000000 <= wt/\wt <= 1000000000)->dU wt "worth"=true:=λ{wt} h=>by
  unfold dU
  rw[if_pos rfl,decide_eq_true h.1,decide_eq_true h.2];rfl
 have nmk:∀ {nm:Int},dU nm "name"=true:=λ{nm}=>by
  unfold dU
  rw[if_neg (by decide +kernel),if_neg (by decide +kernel)]
 cases x with
|ask wt =>
  match i,hy,hk with
 |0,hy,hk=>cases hy;cases hk;exact wk h
 |_+1,hy,_=>cases hy
|collect=>cases hy
|take=>cases hy
|answer nm wt =>
  match i,hy,hk with
 |0,hy,hk=>cases hy;cases hk;exact nmk
 |1,hy,hk=>cases hy;cases hk;exact wk h
 |_+2,hy,_=>cases hy
|bell b =>
  match i,hy,hk with
 |0,hy,hk=>cases hy;cases hk;exact ms b
 |_+1,hy,_=>cases hy
|lie b =>
  match i,hy,hk with
 |0,hy,hk=>cases hy;cases hk;exact ms b
 |_+1,hy,_=>cases hy
|look b =>
  match i,hy,hk with
 |0,hy,hk=>cases hy;cases hk;exact ms b
 |_+1,hy,_=>cases hy
|drain b =>
  match i,hy,hk with
 |0,hy,hk=>cases hy;cases hk;exact ms b
 |_+1,hy,_=>cases hy
end L2
namespace L2
open PySem PySem.Spec PyProof.Rows
theorem uK (xs:List V) (k:Nat):lS xs none (some (k:Int))=xs.take k:=by
 unfold lS
 rw[HT.sIx_nat,show HT.sIx xs.length 0 none=0 from rfl,List.drop_zero,Nat.sub_zero]
 by_cases h:k <= xs.length
 . rw[Nat.min_eq_left h]
 . rw[Nat.min_eq_right (by omega),List.take_of_length_le (Nat.le_refl _),List.take_of_length_le (by omega)]
theorem lJ (xs:List V) (k:Nat):lS xs (some (k:Int)) none=xs.drop k:=by
 unfold lS
 rw[HT.sIx_nat,show HT.sIx xs.length xs.length none=xs.length from rfl]
 by_cases h:k <= xs.length
 . rw[Nat.min_eq_left h,List.take_of_length_le (by rw[List.length_drop];exact Nat.le_refl _)]
 . rw[Nat.min_eq_right (by omega),List.drop_of_length_le (Nat.le_refl _),List.drop_of_length_le (by omega),List.take_nil]
end L2
namespace L2
theorem Dd.grp (x:Dd):((x.word="ask"\/x.word="collect")/\x.side=false)\/((x.word="take"\/x.word="answer")/\x.side=true)\/((x.word="bell"\/x.word="lie"\/x.word="look"\/x.word="drain")/\x.args=[sdI x.side]):=by
 cases x
 . exact .inl ⟨.inl rfl,rfl⟩
 . exact .inl ⟨.inr rfl,rfl⟩
 . exact .inr (.inl ⟨.inl rfl,rfl⟩)
 . exact .inr (.inl ⟨.inr rfl,rfl⟩)
 . exact .inr (.inr ⟨.inl rfl,rfl⟩)
 . exact .inr (.inr ⟨.inr (.inl rfl),rfl⟩)
 . exact .inr (.inr ⟨.inr (.inr (.inl rfl)),rfl⟩)
 . exact .inr (.inr ⟨.inr (.inr (.inr rfl)),rfl⟩)
end L2
namespace L2
open PySem
def Dd.need:Dd->Bd
|.look _=>.lies
|_=>.up
theorem Dd.chk_bed {q:YP}{S:YS}{x:Dd}(hd:∀ b,x≠.drain b) (h:S.bd x.side≠x.need):x.chk q S=some .deed:=by
 cases x
 . exact if_neg h
 . exact if_neg h
 . exact if_neg h
 . exact if_neg h
 . exact if_neg h
 . exact if_neg h
 . exact if_neg h
 . exact absurd rfl (hd _)
theorem Dd.word_drain (x:Dd):x.word="drain" ↔ ∃ b,x=.drain b:=by
 constructor
 . intro h
   cases x with
  |drain b=>exact⟨b,rfl⟩
  |ask wt=>exact absurd (show ("ask":Str)="drain" from h) (by decide +kernel)
  |collect=>exact absurd (show ("collect":Str)="drain" from h) (by decide +kernel)
  |take=>exact absurd (show ("take":Str)="drain" from h) (by decide +kernel)
  |answer nm wt=>exact absurd (show ("answer":Str)="drain" from h) (by decide +kernel)
  |bell b=>exact absurd (show ("bell":Str)="drain" from h) (by decide +kernel)
  |lie b=>exact absurd (show ("lie":Str)="drain" from h) (by decide +kernel)
  |look b=>exact absurd (show ("look":Str)="drain" from h) (by decide +kernel)
 . rintro⟨b,rfl⟩;rfl
theorem Dd.word_look (x:Dd):(x.word="look"/\x.need=.lies/\∃ b,x=.look b)\/(x.word≠"look"/\x.need=.up):=by
 cases x with
|look b=>exact .inl ⟨rfl,rfl,b,rfl⟩
|ask wt=>exact .inr ⟨show ¬ ("ask":Str)="look" by decide +kernel,rfl⟩
|collect=>exact .inr ⟨show ¬ ("collect":Str)="look" by decide +kernel,rfl⟩
|take=>exact .inr ⟨show ¬ ("take":Str)="look" by decide +kernel,rfl⟩
|answer nm wt=>exact .inr ⟨show ¬ ("answer":Str)="look" by decide +kernel,rfl⟩
|bell b=>exact .inr ⟨show ¬ ("bell":Str)="look" by decide +kernel,rfl⟩
|lie b=>exact .inr ⟨show ¬ ("lie":Str)="look" by decide +kernel,rfl⟩
|drain b=>exact .inr ⟨show ¬ ("drain":Str)="look" by decide +kernel,rfl⟩
theorem Dd.word_aa (x:Dd):(∃ wt,x=.ask wt)\/(∃ nm wt,x=.answer nm wt)\/(x.word≠"ask"/\x.word≠"answer"/\∀ (q:YP) (S:YS),(∀ b,x≠.drain b)->S.bd x.side=x.need->x.chk q S=none):=by
 cases x with
|ask wt=>exact .inl ⟨_,rfl⟩
|answer nm wt=>exact .inr (.inl ⟨_,_,rfl⟩)
|collect=>exact .inr (.inr ⟨show ¬ ("collect":Str)="ask" by decide +kernel,show ¬ ("collect":Str)="answer" by decide +kernel,λq S _ h=>if_pos h⟩)
|take=>exact .inr (.inr ⟨show ¬ ("take":Str)="ask" by decide +kernel,show ¬ ("take":Str)="answer" by decide +kernel,λq S _ h=>if_pos h⟩)
|bell b=>exact .inr (.inr ⟨show ¬ ("bell":Str)="ask" by decide +kernel,show ¬ ("bell":Str)="answer" by decide +kernel,λq S _ h=>if_pos h⟩)
|lie b=>exact .inr (.inr ⟨show ¬ ("lie":Str)="ask" by decide +kernel,show ¬ ("lie":Str)="answer" by decide +kernel,λq S _ h=>if_pos h⟩)
|look b=>exact .inr (.inr ⟨show ¬ ("look":Str)="ask" by decide +kernel,show ¬ ("look":Str)="answer" by decide +kernel,λq S _ h=>if_pos h⟩)
|drain b=>exact .inr (.inr ⟨show ¬ ("drain":Str)="ask" by decide +kernel,show ¬ ("drain":Str)="answer" by decide +kernel,λq S h _=>absurd rfl (h b)⟩)
theorem D5 {a b:Bd}(h:a≠b):V.str a.key≠V.str b.key:=λy=>h (DI (by injection y))
end L2
namespace L2
open PySem PySem.Spec PyProof.Rows
end L2
namespace L2
open PySem PySem.Spec PyProof.Rows
def lY:PyData->Str
|.str t=>t
|.tuple [.str t,.int i]=>Txt.join " " [t,toString i]
|_=>""
inductive Ck where
|c (k:Cn)
|p (g:Bool) (i:Int)
def Ck.key:Ck->PyData
|.c k=>.str k.key
|.p g i=>pk g i
def eB:List Ck:=[.p true 0,.p true 1,.p true 2,.p true 3,.p true 4,.p true 5,.p true 6,.p true 7,.c .answered,.p false 0,.p false 1,.p false 2,.p false 3,.p false 4,.p false 5,.p false 6,.p false 7,.c .asked,.c .hs,.c .handed,.c .ts,.c .taken]
instance (a b:Str):Decidable (ltS a b):=inferInstanceAs (Decidable (a.cps.toList < b.cps.toList))
theorem xl:(eB.map λc=>lY c.key).Pairwise ltS:=by decide +kernel
theorem vA:∀ k∈i5,∃ c∈eB,c.key=k:=by
 intro k hk
 simp only[i5,List.mem_cons,List.not_mem_nil,or_false]at hk
 rcases hk with rfl|rfl|rfl|rfl|rfl|rfl|rfl|rfl|rfl|rfl|rfl|rfl|rfl|rfl|rfl|rfl|rfl|rfl|rfl|rfl|rfl|rfl
 . exact⟨.c .asked,by simp[eB],rfl⟩
 . exact⟨.c .taken,by simp[eB],rfl⟩
 . exact⟨.c .answered,by simp[eB],rfl⟩
 . exact⟨.c .handed,by simp[eB],rfl⟩
 . exact⟨.c .hs,by simp[eB],rfl⟩
 . exact⟨.c .ts,by simp[eB],rfl⟩
 . exact⟨.p false 0,by simp[eB],rfl⟩
 . exact⟨.p false 1,by simp[eB],rfl⟩
 . exact⟨.p false 2,by simp[eB],rfl⟩
 . exact⟨.p false 3,by simp[eB],rfl⟩
 . exact⟨.p false 4,by simp[eB],rfl⟩
 . exact⟨.p false 5,by simp[eB],rfl⟩
 . exact⟨.p false 6,by simp[eB],rfl⟩
 . exact⟨.p false 7,by simp[eB],rfl⟩
 . exact⟨.p true 0,by simp[eB],rfl⟩
 . exact⟨.p true 1,by simp[eB],rfl⟩
 . exact⟨.p true 2,by simp[eB],rfl⟩
 . exact⟨.p true 3,by simp[eB],rfl⟩
 . exact⟨.p true 4,by simp[eB],rfl⟩
 . exact⟨.p true 5,by simp[eB],rfl⟩
 . exact⟨.p true 6,by simp[eB],rfl⟩
 . exact⟨.p true 7,by simp[eB],rfl⟩
def Mem.wd (m:Mem):Ck->Option PyData
|.c k=>if m.c k=0 then none else some (.int (m.c k))
|.p g i=>(m.p g i).map λnw=>.tuple [.int nw.1,.int nw.2]
def fW (m:Mem):List (PyData × PyData):=eB.filterMap λc=>(m.wd c).map λd=>(c.key,d)
def nzY (p:PyData × V):Bool:=decide (p.2≠.int 0)
theorem xY (a:Str):¬ ltS a a:=λh=>List.lt_irrefl _ h
theorem vb (m:Mem):(fW m).Pairwise λa b=>ltS (lY a.1) (lY b.1):=by
 unfold fW
 have h:=xl
 rw[List.pairwise_map]at h
 rw[List.pairwise_filterMap]
 refine List.Pairwise.imp ?_ h
 intro a b hab x hx y hy
 obtain⟨d1,_,rfl⟩:=Option.map_eq_some_iff.mp hx
 obtain⟨d2,_,rfl⟩:=Option.map_eq_some_iff.mp hy
 exact hab
theorem ki {M:List (PyData × V)}(hn:(M.map (·.1)).Nodup) (hk:∀ q∈M,MX.kd q.1=true) {k:PyData}{v:V}(h:(k,v)∈M):cu M k=some v:=by
 induction M with
|nil=>cases h
|cons q M ih =>
  unfold cu
  rw[List.find?_cons]
  rw[List.map_cons,List.nodup_cons]at hn
  rcases List.mem_cons.mp h with e|e
  . rw[<-e]
    rw[show PyData.eqv k k=true from cQ (by have:=hk q List.mem_cons_self;rw[<-e]at this;exact this)]
    rfl
  . have hne:PyData.eqv q.1 k=false:=by
     cases z:PyData.eqv q.1 k with
    |false=>rfl
    |true =>
      have:=(MX.eqv_iff _ _ (hk q List.mem_cons_self) (hk (k,v) (List.mem_cons_of_mem _ e))).mp z
      exact absurd (by rw[this];exact List.mem_map.mpr ⟨(k,v),e,rfl⟩) hn.1
    rw[hne]
    exact ih hn.2 (λq hq=>hk q (List.mem_cons_of_mem _ hq)) e
theorem nB {M:List (PyData × V)}(hk:∀ q∈M,MX.kd q.1=true) {k:PyData}(hkk:MX.kd k=true) {v:V}(h:cu M k=some v):(k,v)∈M:=by
 unfold cu at h
 obtain⟨q,hq,rfl⟩:=Option.map_eq_some_iff.mp h
 have h1:=List.find?_some hq
 have h2:=List.mem_of_find?_eq_some hq
 have:=(MX.eqv_iff _ _ (hk q h2) hkk).mp h1
 rw[<-this]
 exact h2
theorem Cp {H:Hp}{M:List (PyData × V)}{m:Mem}(R:MemR H M m) (hn:(M.map (·.1)).Nodup) (c:Ck):(m.wd c=none/\∀ v,(c.key,v)∈M->v=.int 0)\/∃ d v,m.wd c=some d/\(c.key,v)∈M/\v≠.int 0/\DV H d v:=by
 have hk:∀ q∈M,MX.kd q.1=true:=R.kk
 cases c with
|c k =>
  have hc:=R.c k
  by_cases h0:m.c k=0
  . refine .inl ⟨if_pos h0,λv hv=>?_⟩
    rw[show cu M (.str k.key)=some v from ki hn hk hv]at hc
    rw[h0]at hc
    exact hc
  . refine .inr ⟨.int (m.c k),.int (m.c k),if_neg h0,?_,λy=>h0 (by injection y),rfl⟩
    cases hl:cu M (.str k.key) with
   |none =>
     rw[hl]at hc
     have:V.int 0=V.int (m.c k):=hc
     exact absurd (by injection this with this;exact this.symm) h0
   |some v =>
     rw[hl]at hc
     have:v=.int (m.c k):=hc
     rw[<-this]
     exact nB hk (oO k) hl
|p g i =>
  rcases R.p g i with⟨a,b⟩|⟨nm,wt,v,a,b,d⟩
  . refine .inl ⟨by show (m.p g i).map _=none;rw[a];rfl,λv hv=>?_⟩
    rw[show cu M (pk g i)=some v from ki hn hk hv]at b
    cases b
  . refine .inr ⟨.tuple [.int nm,.int wt],v,by show (m.p g i).map _=_;rw[a];rfl,nB hk (oY g i) b,λy=>?_,d⟩
    rw[y]at d
    obtain⟨_,_,e,_⟩:=d
    cases e
theorem sw {H:Hp}{M:List (PyData × V)}{m:Mem}(R:MemR H M m) (hn:(M.map (·.1)).Nodup):∀ p∈fW m,∃ v,(p.1,v)∈M.filter nzY/\DV H p.2 v:=λp hp'=>by
 obtain⟨c,hc,e⟩:=List.mem_filterMap.mp hp'
 obtain⟨d,hd,rfl⟩:=Option.map_eq_some_iff.mp e
 rcases Cp R hn c with⟨z,_⟩|⟨d',v,e',hv,nv,dv⟩
 . rw[z]at hd;cases hd
 . rw[hd]at e';cases e'
   exact⟨v,List.mem_filter.mpr ⟨hv,decide_eq_true nv⟩,dv⟩
theorem vS {H:Hp}{M:List (PyData × V)}{m:Mem}(R:MemR H M m) (hn:(M.map (·.1)).Nodup):((M.filter nzY).map (·.1)).Perm ((fW m).map (·.1)):=by
 have hcn:((fW m).map (·.1)).Nodup:=by
  unfold List.Nodup
  rw[List.pairwise_map]
  exact List.Pairwise.imp (λ{a b} (h:ltS (lY a.1) (lY b.1)) (e:a.1=b.1)=>xY (lY b.1) (by rw[e]at h;exact h)) (vb m)
 have hqn:((M.filter nzY).map (·.1)).Nodup:=hn.sublist ((List.filter_sublist).map _)
 rw[List.perm_ext_iff_of_nodup hqn hcn]
 intro k
 refine⟨λhk=>?_,λhk=>?_⟩
 . obtain⟨⟨k',v⟩,hq,rfl⟩:=List.mem_map.mp hk
   have hm:=List.mem_filter.mp hq
   obtain⟨c,hc,ek⟩:=vA _ (R.ks _ hm.1)
   rcases Cp R hn c with⟨_,z⟩|⟨d,v',e,_,_,_⟩
   . rw[ek]at z
     have:=z v hm.1
     rw[this]at hm
     exact absurd hm.2 (by unfold nzY;simp)
   . exact List.mem_map.mpr ⟨(c.key,d),List.mem_filterMap.mpr ⟨c,hc,by rw[e];rfl⟩,ek⟩
 . obtain⟨p,hp',rfl⟩:=List.mem_map.mp hk
   obtain⟨v,hv,_⟩:=sw R hn p hp'
   exact List.mem_map.mpr ⟨(p.1,v),hv,rfl⟩
theorem xm {H:Hp}{M qs:List (PyData × V)}{m:Mem}(R:MemR H M m) (hn:(M.map (·.1)).Nodup) (hp:qs.Perm (M.filter nzY)) (hs:qs.Pairwise λa b=>leS (lY a.1) (lY b.1)) :
 Paired (λ(kv:PyData × V) (p:PyData × PyData)=>kv.1=p.1/\DV H p.2 kv.2) qs (fW m):=by
 have hcl:=vb m
 have mem2:=sw R hn
 have pm:(qs.map (·.1)).Perm ((fW m).map (·.1)):=(hp.map _).trans (vS R hn)
 have s1:(qs.map (·.1)).Pairwise λa b=>leS (lY a) (lY b):=by rw[List.pairwise_map];exact hs
 have s2:((fW m).map (·.1)).Pairwise λa b=>ltS (lY a) (lY b):=by rw[List.pairwise_map];exact hcl
 have inj:∀ a∈(fW m).map (·.1),∀ b∈(fW m).map (·.1),lY a=lY b->a=b:=by
  intro a ha b hb e
  obtain⟨i,hi,rfl⟩:=List.getElem_of_mem ha
  obtain⟨j,hj,rfl⟩:=List.getElem_of_mem hb
  rw[List.pairwise_iff_getElem]at s2
  rcases Nat.lt_trichotomy i j with h|h|h
  . exact absurd (s2 i j hi hj h) (by rw[e];exact xY _)
  . subst h;rfl
  . exact absurd (s2 j i hj hi h) (by rw[e];exact xY _)
 have eqk:qs.map (·.1)=(fW m).map (·.1):=by
  refine List.Perm.eq_of_pairwise (le:=λa b=>leS (lY a) (lY b)) ?_ s1 (List.Pairwise.imp (λh h'=>List.lt_asymm h h') s2) pm
  intro a b ha hb h1 h2
  exact inj a (pm.mem_iff.mp ha) b hb (by
   have:(lY a).cps.toList=(lY b).cps.toList:=List.le_antisymm (List.not_lt.mp h1) (List.not_lt.mp h2)
   cases ha':lY a;cases hb':lY b
   rw[ha',hb']at this
   congr 1
   exact Array.toList_inj.mp this)
 have go:∀ {qs:List (PyData × V)} {cs:List (PyData × PyData)},qs.map (·.1)=cs.map (·.1)->(∀ kv∈qs,kv∈M)->(∀ p∈cs,∃ v,(p.1,v)∈M.filter nzY/\DV H p.2 v)->Paired (λ(kv:PyData × V) (p:PyData × PyData)=>kv.1=p.1/\DV H p.2 kv.2) qs cs:=by
  intro qs
  induction qs with
 |nil =>
   intro cs e _ _
   cases cs with
  |nil=>exact .nil
  |cons=>cases e
 |cons kv qs ih =>
   intro cs e h1 h2
   cases cs with
  |nil=>cases e
  |cons p cs =>
    rw[List.map_cons,List.map_cons]at e
    injection e with e1 e2
    refine .cons ⟨e1,?_⟩ (ih e2 (λx hx=>h1 x (List.mem_cons_of_mem _ hx)) λx hx=>h2 x (List.mem_cons_of_mem _ hx))
    obtain⟨v,hv,dv⟩:=h2 p List.mem_cons_self
    have hv':=(List.mem_filter.mp hv).1
    have a1:=ki hn R.kk hv'
    have a2:=ki hn R.kk (show (p.1,kv.2)∈M by rw[<-e1];exact h1 kv List.mem_cons_self)
    rw[a1]at a2
    cases a2
    exact dv
 exact go eqk (λkv hkv=>(List.mem_filter.mp (hp.mem_iff.mp hkv)).1) mem2
end L2
namespace L2
open PySem PySem.Spec PyProof.Rows
def kj:Bool->Cn
|false=>.hs
|true=>.ts
def Mem.putAllY (m:Mem) (row:List Wr):Mem:=row.foldl Mem.put m
def YS.fence (S:YS) (b:Bool):YS:={ S with m:=S.m.putAllY (S.rs b),rs:=bt S.rs b [] }
def YS.wr (S:YS) (b:Bool) (x:Wr):YS:={ S with rs:=bt S.rs b (S.rs b++[x]) }
def qS (wd:Str) (x y:PyData):PyData:=.tuple [.str wd,x,y]
def swT (q:YP) (S:YS):Bool->Bool
|false=>decide (bo q.p S.m (S.rs false) .answered .handed≠0)
|true=>decide (bo q.p S.m (S.rs true) .asked .taken≠0)
def Dd.run (q:YP) (S:YS):Dd->PyData × YS
|.ask wt=>match d9 q.n S.un with
 |some nm=>(.int nm,{ S with rs:=bt S.rs false (S.rs false++AY q.p S.m (S.rs false) false .asked nm wt),un:=S.un++[nm],qt:=bt S.qt false false,hs:=S.hs++[qS "asked" (.int nm) (.int wt)] })
 |none=>(.none,S)
|.collect=>if bo q.p S.m (S.rs false) .answered .handed=0 then (.none,S) else match rdP S.m (S.rs false) true (rdC S.m (S.rs false) .handed % q.p.s) with
 |some nw=>(.tuple [.int nw.1,.int nw.2],{ S with rs:=bt S.rs false (S.rs false++[lq q.p S.m (S.rs false) .handed]),un:=S.un.filter (λk=>decide (k≠nw.1)),hs:=S.hs++[qS "handed" (.int nw.1) (.int nw.2)] })
 |none=>(.tuple [.none,.none],{ S with rs:=bt S.rs false (S.rs false++[lq q.p S.m (S.rs false) .handed]),hs:=S.hs++[qS "handed" .none .none] })
|.take=>if bo q.p S.m (S.rs true) .asked .taken=0 then (.none,S) else match rdP S.m (S.rs true) false (rdC S.m (S.rs true) .taken % q.p.s) with
 |some nw=>(.tuple [.int nw.1,.int nw.2],{ S with rs:=bt S.rs true (S.rs true++[lq q.p S.m (S.rs true) .taken]),tk:=lu S.tk nw.1,hs:=S.hs++[qS "taken" (.int nw.1) (.int nw.2)] })
 |none=>(.tuple [.none,.none],{ S with rs:=bt S.rs true (S.rs true++[lq q.p S.m (S.rs true) .taken]),hs:=S.hs++[qS "taken" .none .none] })
|.answer nm wt=>(.none,{ S with rs:=bt S.rs true (S.rs true++AY q.p S.m (S.rs true) true .answered nm wt),tk:=S.tk.filter (λk=>decide (k≠nm)),qt:=bt S.qt true false,hs:=S.hs++[qS "answered" (.int nm) (.int wt)] })
|.bell b =>
  let S1:=if q.fb then S.fence b else S
  let S2:={ S1 with qt:=bt S1.qt b true }
  if rdC S2.m (S2.rs b) (kj (!b))≠1 then (.bool false,S2) else if S2.bd (!b)=.asleep then (.bool true,({ S2 with bd:=bt S2.bd (!b) .up }:YS).wr (!b) (.c (kj (!b)) 0)) else (.bool true,S2)
|.lie b =>
  let S1:=S.wr b (.c (kj b) 1)
  let S2:=if q.fl then S1.fence b else S1
  (.none,{ S2 with bd:=bt S2.bd b .lies })
|.look b=>if q.fk=true/\swT q S b=true then (.bool true,{ (S.wr b (.c (kj b) 0)) with bd:=bt S.bd b .up }) else (.bool false,{ S with bd:=bt S.bd b .asleep })
|.drain b=>match S.rs b with
 |x :: bS=>(.none,{ S with m:=S.m.put x,rs:=bt S.rs b bS })
 |[]=>(.none,S)
structure YI (q:YP) (S:YS) (L:Nat):Prop where
 und:Nms q.n S.un
 tkd:Nms 9 S.tk
 len:∀ b,(S.rs b).length <= L
 hl:S.hs.length <= L
theorem YI.zero (q:YP):YI q YS.zero 0:=⟨Nms.nil _,Nms.nil _,λ_=>Nat.le_refl _,Nat.le_refl _⟩
theorem YI.mono {q:YP}{S:YS}{L L':Nat}(h:YI q S L) (hl:L <= L'):YI q S L':=⟨h.und,h.tkd,λb=>Nat.le_trans (h.len b) hl,Nat.le_trans h.hl hl⟩
end L2
namespace L2
open PySem PySem.Spec PyProof.Rows
def Rf.key:Rf->Str
|.deed=>"deed"
|.full=>"full"
|.name=>"name"
|.task=>"task"
theorem Rf.key_ne (r:Rf):r.key≠"none":=by cases r<;>decide +kernel
def Dd.out (q:YP) (S:YS) (x:Dd):Str × PyData × YS:=match x.chk q S with
|none=>("none",(x.run q S).1,(x.run q S).2)
|some r=>(r.key,.none,S)
theorem Dd.out_none {q:YP}{S:YS}{x:Dd}(h:x.chk q S=none):x.out q S=(("none":Str),(x.run q S).1,(x.run q S).2):=by unfold Dd.out;rw[h]
theorem Dd.out_some {q:YP}{S:YS}{x:Dd}{r:Rf}(h:x.chk q S=some r):x.out q S=(r.key,.none,S):=by unfold Dd.out;rw[h]
def Fch (d:PyData):Prop:=d=.none\/d=.tuple [.none,.none]\/∃ a b:Int,d=.tuple [.int a,.int b]
theorem q9 (q:YP) (S:YS):Fch (Dd.take.run q S).1:=by
 unfold Dd.run
 by_cases h:bo q.p S.m (S.rs true) .asked .taken=0
 . rw[if_pos h];exact .inl rfl
 . rw[if_neg h]
   cases rdP S.m (S.rs true) false (rdC S.m (S.rs true) .taken % q.p.s) with
  |none=>exact .inr (.inl rfl)
  |some nw=>exact .inr (.inr ⟨_,_,rfl⟩)
theorem jP (q:YP) (S:YS):Fch (Dd.collect.run q S).1:=by
 unfold Dd.run
 by_cases h:bo q.p S.m (S.rs false) .answered .handed=0
 . rw[if_pos h];exact .inl rfl
 . rw[if_neg h]
   cases rdP S.m (S.rs false) true (rdC S.m (S.rs false) .handed % q.p.s) with
  |none=>exact .inr (.inl rfl)
  |some nw=>exact .inr (.inr ⟨_,_,rfl⟩)
def Dd.ftc:Dd->Prop
|.take=>True
|.collect=>True
|_=>False
theorem BX {q:YP}{S:YS}{x:Dd}(h:x.ftc):Fch (x.out q S).2.1:=by
 cases hc:x.chk q S with
|some r=>rw[Dd.out_some hc];exact .inl rfl
|none =>
  rw[Dd.out_none hc]
  cases x with
 |take=>exact q9 q S
 |collect=>exact jP q S
 |ask wt=>exact h.elim
 |answer nm wt=>exact h.elim
 |bell b=>exact h.elim
 |lie b=>exact h.elim
 |look b=>exact h.elim
 |drain b=>exact h.elim
theorem Fch.fl {d:PyData}(h:Fch d):flD d=true:=by
 rcases h with rfl|rfl|⟨a,b,rfl⟩<;>rfl
theorem Dh {q:YP}{S:YS}(x:Dd):flD (x.out q S).2.1=true:=by
 cases hc:x.chk q S with
|some r=>rw[Dd.out_some hc];rfl
|none =>
  rw[Dd.out_none hc]
  cases x with
 |take=>exact(q9 q S).fl
 |collect=>exact(jP q S).fl
 |ask wt =>
   show flD (match d9 q.n S.un with|some nm=>_|none=>_:PyData × YS).1=true
   cases d9 q.n S.un<;>rfl
 |answer nm wt=>rfl
 |bell b =>
   have aux:∀ S2:YS,flD (if rdC S2.m (S2.rs b) (kj (!b))≠1 then (PyData.bool false,S2) else if S2.bd (!b)=.asleep then (.bool true,({ S2 with bd:=bt S2.bd (!b) .up }:YS).wr (!b) (.c (kj (!b)) 0)) else (.bool true,S2)).1=true:=λS2=>by
    split
    . rfl
    . split<;>rfl
   exact aux { (if q.fb then S.fence b else S) with qt:=bt (if q.fb then S.fence b else S).qt b true }
 |lie b=>rfl
 |look b =>
   show flD (if _ then _ else _:PyData × YS).1=true
   split<;>rfl
 |drain b =>
   show flD (match S.rs b with|x :: bS=>_|[]=>_:PyData × YS).1=true
   cases S.rs b<;>rfl
def Dd.aft (ts:List Int) (x:Dd) (key:Str) (d:PyData):List Int:=if key="none" then (match x,d with
|.take,.tuple [.int a,.int _]=>lu ts a
|.answer nm _,_=>ts.erase nm
|_,_=>ts) else ts
def FT:PyData->PyData
|.tuple (a :: _)=>a
|d=>d
def FU:PyData->PyData
|.tuple (_ :: b :: _)=>b
|d=>d
def Dd.hap (x:Dd) (key:Str) (d:PyData):List PyData:=if key="none" then (match x with
|.ask wt=>[qS "asked" d (.int wt)]
|.answer nm wt=>[qS "answered" (.int nm) (.int wt)]
|.take=>(match d with|.none=>[]|_=>[qS "taken" (FT d) (FU d)])
|.collect=>(match d with|.none=>[]|_=>[qS "handed" (FT d) (FU d)])
|_=>[]) else []
theorem yp {q:YP}{S:YS}(x:Dd):(x.out q S).2.2.hs=S.hs++x.hap (x.out q S).1 (x.out q S).2.1:=by
 cases hc:x.chk q S with
|some r =>
  rw[Dd.out_some hc]
  show S.hs=S.hs++(if r.key="none" then _ else [])
  rw[if_neg r.key_ne,List.append_nil]
|none =>
  rw[Dd.out_none hc]
  show (x.run q S).2.hs=S.hs++(if ("none":Str)="none" then _ else [])
  rw[if_pos rfl]
  cases x with
 |ask wt =>
   show (match d9 q.n S.un with|some nm=>_|none=>_:PyData × YS).2.hs=S.hs++[qS "asked" (match d9 q.n S.un with|some nm=>_|none=>_:PyData × YS).1 (.int wt)]
   cases hl:d9 q.n S.un with
  |some nm=>rfl
  |none =>
    have h':(if S.bd false=.up then (if bo q.p S.m (S.rs false) .asked .taken=q.p.s then some Rf.full else match d9 q.n S.un with|none=>some Rf.name|some _=>none) else some Rf.deed)=none:=hc
    rw[hl]at h'
    split at h'
    . split at h'<;>cases h'
    . cases h'
 |answer nm wt=>rfl
 |take =>
   unfold Dd.run
   by_cases h:bo q.p S.m (S.rs true) .asked .taken=0
   . rw[if_pos h];exact(List.append_nil _).symm
   . rw[if_neg h]
     cases rdP S.m (S.rs true) false (rdC S.m (S.rs true) .taken % q.p.s) with
    |none=>rfl
    |some nw=>rfl
 |collect =>
   unfold Dd.run
   by_cases h:bo q.p S.m (S.rs false) .answered .handed=0
   . rw[if_pos h];exact(List.append_nil _).symm
   . rw[if_neg h]
     cases rdP S.m (S.rs false) true (rdC S.m (S.rs false) .handed % q.p.s) with
    |none=>rfl
    |some nw=>rfl
 |bell b =>
   have f1:(if q.fb then S.fence b else S).hs=S.hs:=by cases q.fb<;>rfl
   have aux:∀ S2:YS,(if rdC S2.m (S2.rs b) (kj (!b))≠1 then (PyData.bool false,S2) else if S2.bd (!b)=.asleep then (.bool true,({ S2 with bd:=bt S2.bd (!b) .up }:YS).wr (!b) (.c (kj (!b)) 0)) else (.bool true,S2)).2.hs=S2.hs:=λS2=>by
    split
    . rfl
    . split<;>rfl
   show _=S.hs++[]
   rw[List.append_nil]
   exact(aux { (if q.fb then S.fence b else S) with qt:=bt (if q.fb then S.fence b else S).qt b true }).trans f1
 |lie b =>
   have f1:(if q.fl then (S.wr b (.c (kj b) 1)).fence b else S.wr b (.c (kj b) 1)).hs=S.hs:=by cases q.fl<;>rfl
   show _=S.hs++[]
   rw[List.append_nil]
   exact f1
 |look b =>
   show (if _ then _ else _:PyData × YS).2.hs=S.hs++[]
   rw[List.append_nil]
   split<;>rfl
 |drain b =>
   show (match S.rs b with|x :: bS=>_|[]=>_:PyData × YS).2.hs=S.hs++[]
   rw[List.append_nil]
   cases S.rs b<;>rfl
theorem Dd.cls2 (x:Dd):x=.take\/(∃ nm wt,x=.answer nm wt)\/(x.word≠"take"/\x.word≠"answer"/\∀ ts key d,x.aft ts key d=ts):=by
 cases x with
|take=>exact .inl rfl
|answer nm wt=>exact .inr (.inl ⟨_,_,rfl⟩)
|ask wt=>exact .inr (.inr ⟨show ¬ ("ask":Str)="take" by decide +kernel,show ¬ ("ask":Str)="answer" by decide +kernel,λts key d=>by unfold Dd.aft;split<;>rfl⟩)
|collect=>exact .inr (.inr ⟨show ¬ ("collect":Str)="take" by decide +kernel,show ¬ ("collect":Str)="answer" by decide +kernel,λts key d=>by unfold Dd.aft;split<;>rfl⟩)
|bell b=>exact .inr (.inr ⟨show ¬ ("bell":Str)="take" by decide +kernel,show ¬ ("bell":Str)="answer" by decide +kernel,λts key d=>by unfold Dd.aft;split<;>rfl⟩)
|lie b=>exact .inr (.inr ⟨show ¬ ("lie":Str)="take" by decide +kernel,show ¬ ("lie":Str)="answer" by decide +kernel,λts key d=>by unfold Dd.aft;split<;>rfl⟩)
|look b=>exact .inr (.inr ⟨show ¬ ("look":Str)="take" by decide +kernel,show ¬ ("look":Str)="answer" by decide +kernel,λts key d=>by unfold Dd.aft;split<;>rfl⟩)
|drain b=>exact .inr (.inr ⟨show ¬ ("drain":Str)="take" by decide +kernel,show ¬ ("drain":Str)="answer" by decide +kernel,λts key d=>by unfold Dd.aft;split<;>rfl⟩)
theorem Dd.at0 (x:Dd):atI x.vs 0=some (.str x.word):=by cases x<;>rfl
theorem Fch.dv {H:Hp}{d:PyData}{v:V}(h:Fch d) (dv:DV H d v):(d=.none/\v=.non)\/∃ (c:Addr) (v1 v2:V),v=.ref c/\H c=some (.tup [v1,v2])/\((d=.tuple [.none,.none]/\v1=.non/\v2=.non)\/∃ i j:Int,d=.tuple [.int i,.int j]/\v1=.int i/\v2=.int j):=by
 rcases h with rfl|rfl|⟨i,j,rfl⟩
 . exact .inl ⟨rfl,dv⟩
 . obtain⟨c,vs,rfl,hc,v1,r1,rfl,d1,v2,r2,rfl,d2,rfl⟩:=dv
   exact .inr ⟨c,v1,v2,rfl,hc,.inl ⟨rfl,d1,d2⟩⟩
 . obtain⟨c,vs,rfl,hc,v1,r1,rfl,d1,v2,r2,rfl,d2,rfl⟩:=dv
   exact .inr ⟨c,v1,v2,rfl,hc,.inr ⟨i,j,rfl,d1,d2⟩⟩
theorem xX {ts:List Int}{a:Int}:(lu ts a).length <= ts.length+1:=by
 unfold lu
 cases ts.contains a with
|true=>exact Nat.le_succ _
|false=>rw[if_neg (by decide),List.length_append];exact Nat.le_refl _
theorem CV {ts:List Int}{x:Dd}{key:Str}{d:PyData}:(x.aft ts key d).length <= ts.length+1:=by
 unfold Dd.aft
 split
 . split
   . exact xX
   . exact Nat.le_succ_of_le (List.length_erase_le)
   . exact Nat.le_succ _
 . exact Nat.le_succ _
end L2
namespace L2
open PySem PySem.Spec PyProof.Rows
theorem o8 {own:Addr->Prop}{H H':Hp}(ko:KO own H H') (h:∀ c,own c->∀ vs,H c≠some (.tup vs)):∀ b vs,H b=some (.tup vs)->H' b=some (.tup vs):=λb vs e=>ko b _ (λz=>h b z vs e) e
section
variable {w:World}{CY CH CT CR CS:Addr}{H H':Hp}{a:YA}{q:YP}{S:YS}
theorem Yn.noT (Y:Yn w CY CH CT CR CS H a q S):∀ c,a.own c->∀ vs,H c≠some (.tup vs):=λc hc vs e=>by
 obtain⟨o,e',n⟩:=Y.there hc
 rw[e']at e;exact n vs (Option.some.inj e)
theorem Yn.ko (Y:Yn w CY CH CT CR CS H a q S) {own:Addr->Prop}(ko:KO own H H') (hd:∀ c,own c->¬ a.own c) (hn:∀ c,own c->∀ vs,H c≠some (.tup vs)):Yn w CY CH CT CR CS H' a q S :=
 Y.keep (λc o hc e=>ko c o (λz=>hd c z hc) e) (o8 ko hn)
theorem Yn.fresh (Y:Yn w CY CH CT CR CS H a q S) {c:Addr}(h:H c=none):¬ a.own c:=λhc=>by
 obtain⟨o,e,_⟩:=Y.there hc
 rw[e]at h;cases h
end
def FlL (ds:List PyData):Prop:=∀ d∈ds,PyData.canLay0 d=true/\d.depth <= 9
theorem FlL.all:∀ {ds:List PyData},FlL ds->PyData.canLayAll0 ds=true/\PyData.depthAll ds <= 9
|[],_=>⟨rfl,Nat.zero_le _⟩
|d :: ds,h=>by
  obtain⟨a,b⟩:=FlL.all (ds:=ds) λu hu=>h u (List.mem_cons_of_mem _ hu)
  have hd:=h d List.mem_cons_self
  refine⟨?_,?_⟩
  . show (PyData.canLay0 d && PyData.canLayAll0 ds)=true
    rw[hd.1,a];rfl
  . show max d.depth (PyData.depthAll ds) <= 9
    have:=hd.2
    omega
theorem FlL.lay {ds:List PyData}(h:FlL ds):tt (.list ds)/\(PyData.list ds).depth <= 10:=by
 obtain⟨h1,h2⟩:=h.all
 exact⟨⟨h1,by show PyData.depthAll _+1 <= 16;omega⟩,by show PyData.depthAll _+1 <= 10;omega⟩
theorem FlL.app {xs ys:List PyData}(h1:FlL xs) (h2:FlL ys):FlL (xs++ys):=λd hd=>by
 rcases List.mem_append.mp hd with z|z
 . exact h1 d z
 . exact h2 d z
theorem FlL.nil:FlL []:=λ_ h=>absurd h List.not_mem_nil
theorem FlL.one {d:PyData}(h1:PyData.canLay0 d=true) (h2:d.depth <= 9):FlL [d]:=λe he=>by rw[List.mem_singleton.mp he];exact⟨h1,h2⟩
theorem yZ {d:PyData}(h:tt d):PyData.eqv d d=true:=PySem.SeqAt.eqv_refl d h.1
theorem i3 {wd:Str}{d1 d2:PyData}(hw:PyData.strOk wd=true) (h1:PyData.canLay0 d1=true/\d1.depth=0) (h2:PyData.canLay0 d2=true/\d2.depth=0):FlL [qS wd d1 d2]:=by
 refine .one ?_ ?_
 . show (PyData.strOk wd && (PyData.canLay0 d1 && (PyData.canLay0 d2 && true)))=true
   rw[hw,h1.1,h2.1];rfl
 . show max 0 (max d1.depth (max d2.depth 0))+1 <= 9
   rw[h1.2,h2.2];decide
theorem zL {d:PyData}(h:Fch d):FlL (Dd.take.hap "none" d):=by
 rcases h with rfl|rfl|⟨a,b,rfl⟩
 . exact .nil
 . exact i3 (wd:="taken") (by decide +kernel) ⟨rfl,rfl⟩ ⟨rfl,rfl⟩
 . exact i3 (wd:="taken") (by decide +kernel) ⟨rfl,rfl⟩ ⟨rfl,rfl⟩
theorem tM {d:PyData}(h:Fch d):FlL (Dd.collect.hap "none" d):=by
 rcases h with rfl|rfl|⟨a,b,rfl⟩
 . exact .nil
 . exact i3 (wd:="handed") (by decide +kernel) ⟨rfl,rfl⟩ ⟨rfl,rfl⟩
 . exact i3 (wd:="handed") (by decide +kernel) ⟨rfl,rfl⟩ ⟨rfl,rfl⟩
theorem Cr {q:YP}{S:YS}(x:Dd):FlL (x.hap (x.out q S).1 (x.out q S).2.1):=by
 cases hc:x.chk q S with
|some r =>
  rw[Dd.out_some hc]
  show FlL (if r.key="none" then _ else [])
  rw[if_neg r.key_ne]
  exact .nil
|none =>
  rw[Dd.out_none hc]
  cases x with
 |ask wt =>
   show FlL [qS "asked" (match d9 q.n S.un with|some nm=>_|none=>_:PyData × YS).1 (.int wt)]
   cases hl:d9 q.n S.un with
  |some nm=>exact i3 (wd:="asked") (by decide +kernel) ⟨rfl,rfl⟩ ⟨rfl,rfl⟩
  |none=>exact i3 (wd:="asked") (by decide +kernel) ⟨rfl,rfl⟩ ⟨rfl,rfl⟩
 |answer nm wt=>exact i3 (wd:="answered") (by decide +kernel) ⟨rfl,rfl⟩ ⟨rfl,rfl⟩
 |take=>exact zL (q9 q S)
 |collect=>exact tM (jP q S)
 |bell b=>exact .nil
 |lie b=>exact .nil
 |look b=>exact .nil
 |drain b=>exact .nil
end L2
namespace L2
open PySem PySem.Spec PyProof.Rows
theorem FnOk.or {P:Program}{w:World}{K:PySem.W.Frag}{mg:Str->Option Value}{base:Heap}{CX:CXT}{k:Nat}{f:Addr}{fd:FuncData}{ps:List Str}{sp1 sp2:Sp}(F1:FnOk P w K mg base CX k f fd ps sp1) (F2:FnOk P w K mg base CX k f fd ps sp2):FnOk P w K mg base CX k f fd ps (λvs H Q E=>sp1 vs H Q E\/sp2 vs H Q E) :=
 ⟨λvs H Q E h=>h.elim (F1.len vs H Q E) (F2.len vs H Q E),λA outer s H args us vs Q E hr he hb hv hs=>hs.elim (F1.run A outer s H args us vs Q E hr he hb hv) (F2.run A outer s H args us vs Q E hr he hb hv)⟩
end L2
namespace L2
open PySem PySem.Spec PyProof.Rows
end L2
namespace L2
open PySem PySem.Spec PyProof.Rows
def inC (N:Int) (k:Cn) (i:Int):Prop:=k=.hs\/k=.ts\/(0 <= i/\i < N)
def Wr.In (N:Int):Wr->Prop
|.c k i=>inC N k i
|.p _ _ _ _=>True
section
variable {N:Int}{m:Mem}{rs:Bool->List Wr}{b:Bool}{x:Wr}{bS:List Wr}
end
end L2
namespace L2
open PySem PySem.Spec PyProof.Rows
def YS.wh (S:YS) (h:List PyData):YS:={ S with hs:=h }
def EqS (S T:YS):Prop:=∃ h,T=S.wh h
end L2
namespace L2
open PySem PySem.Spec PyProof.Rows
theorem xK {q:YP}{S:YS}{b:Bool}{x:Wr}{bS:List Wr}(h:S.rs b=x :: bS):(Dd.drain b).chk q S=none/\(Dd.drain b).run q S=(.none,{ S with m:=S.m.put x,rs:=bt S.rs b bS }):=by
 refine⟨if_neg (by rw[h];exact λy=>by cases y),?_⟩
 show (match S.rs b with|x :: bS=>_|[]=>_)=_
 rw[h]
end L2
namespace L2
open PySem PySem.Spec PyProof.Rows
end L2
namespace L2
open PySem PySem.Spec PyProof.Rows
section
variable {rs:Bool->List Wr}{b:Bool}
end
end L2
namespace L2
open PySem PySem.Spec PyProof.Rows
structure Ord where
 lt:Nat->Nat->Bool
 n:Nat
 tr:∀ a b c,lt a b=true->lt b c=true->lt a c=true
 tot:∀ a b,a < n->b < n->a≠b->lt a b=false->lt b a=true
section
variable {O:Ord}
end
end L2
namespace L2
open PySem PySem.Spec PyProof.Rows
section
variable {prog:Program}{w:World}{A:Around}{E:Value->Shared->Prop}{s:Shared}
end
section
variable {X:Cx}
end
end L2
namespace L2
open PySem PySem.Spec PyProof.Rows
section
variable {K:PySem.W.Frag}
end
end L2
namespace L2
open PySem PySem.Spec PyProof.Rows
inductive TV (H:Hp):V->Option Int->Prop where
|non:TV H .non none
|bl (b:Bool):TV H (.bl b) none
|int (i:Int):TV H (.int i) (some i)
|str (s:Str):TV H (.str s) none
|lst {t:Addr} {l:List V} (h:H t=some (.lst l)):TV H (.ref t) none
|tup {t:Addr} {l:List V} (h:H t=some (.tup l)):TV H (.ref t) none
|dK {t:Addr} {l:List (Key × V)} (h:H t=some (.dK l)):TV H (.ref t) none
theorem TV.same {H H':Hp}(e:bU H H') {v:V}{o:Option Int}(h:TV H v o):TV H' v o:=by
 cases h with
|non=>exact .non
|bl b=>exact .bl b
|int i=>exact .int i
|str s=>exact .str s
|lst h=>exact .lst (e _ _ h)
|tup h=>exact .tup (e _ _ h)
|dK h=>exact .dK (e _ _ h)
theorem TV.ty {K:PySem.W.Frag}{H:Hp}{v:V}{o:Option Int}(h:TV H v o):∃ t b,TyOf K H v t/\kitOne K t (.type "int")=some b/\(b=true->kitOne K t (.type "bool")=some (!o.isSome))/\(b=false->o=none):=by
 cases h with
|non=>exact⟨_,false,.non,rfl,(λz=>by cases z),λ_=>rfl⟩
|bl b=>exact⟨_,true,.bl b,rfl,(λ_=>rfl),λz=>by cases z⟩
|int i=>exact⟨_,true,.int i,rfl,(λ_=>rfl),λz=>by cases z⟩
|str s=>exact⟨_,false,.str s,rfl,(λz=>by cases z),λ_=>rfl⟩
|lst h=>exact⟨_,false,.lst h,rfl,(λz=>by cases z),λ_=>rfl⟩
|tup h=>exact⟨_,false,.tup h,rfl,(λz=>by cases z),λ_=>rfl⟩
|dK h=>exact⟨_,false,.dK h,rfl,(λz=>by cases z),λ_=>rfl⟩
theorem TV.ns {K:PySem.W.Frag}{H:Hp}{v:V}{o:Option Int}(h:TV H v o) (n:∀ s,v≠.str s):∃ t,TyOf K H v t/\kitOne K t (.type "str")=some false:=by
 cases h with
|non=>exact⟨_,.non,rfl⟩
|bl b=>exact⟨_,.bl b,rfl⟩
|int i=>exact⟨_,.int i,rfl⟩
|str s=>exact absurd rfl (n s)
|lst h=>exact⟨_,.lst h,rfl⟩
|tup h=>exact⟨_,.tup h,rfl⟩
|dK h=>exact⟨_,.dK h,rfl⟩
theorem TV.nt {K:PySem.W.Frag}{H:Hp}{v:V}{o:Option Int}(h:TV H v o) (n:∀ t l,v=.ref t->H t≠some (.tup l)):∃ t,TyOf K H v t/\kitOne K t (.type "tuple")=some false:=by
 cases h with
|non=>exact⟨_,.non,rfl⟩
|bl b=>exact⟨_,.bl b,rfl⟩
|int i=>exact⟨_,.int i,rfl⟩
|str s=>exact⟨_,.str s,rfl⟩
|lst h=>exact⟨_,.lst h,rfl⟩
|tup h=>exact absurd h (n _ _ rfl)
|dK h=>exact⟨_,.dK h,rfl⟩
inductive Pt where
|non|bl (b:Bool)|int (i:Int)|str (s:Str)
def Pt.v:Pt->V
|.non=>.non
|.bl b=>.bl b
|.int i=>.int i
|.str s=>.str s
def Pt.o:Pt->Option Int
|.int i=>some i
|_=>none
theorem Pt.tv {H:Hp}(p:Pt):TV H p.v p.o:=by
 cases p
 . exact .non
 . exact .bl _
 . exact .int _
 . exact .str _
def lb (o:Option Int) (k:Str):Bool:=match o with
|none=>false
|some i=>dU i k
def fB (s:Str):Option (List Str) :=
 if s="ask" then some ["worth"] else if s="collect" then some [] else if s="take" then some [] else if s="answer" then some ["name","worth"] else if s="bell" then some ["side"] else if s="lie" then some ["side"] else if s="look" then some ["side"] else if s="drain" then some ["side"] else none
def fu (ps:List Pt) (ks:List Str):List Bool:=List.zipWith (λp k=>lb p.o k) ps ks
inductive ND (H:Hp):V->Prop where
|oth {v:V} {o:Option Int} (h:TV H v o) (n:∀ t l,v=.ref t->H t≠some (.tup l)):ND H v
|emp {t:Addr} (h:H t=some (.tup [])):ND H (.ref t)
|nos {t:Addr} {v:V} {o:Option Int} {l:List V} (h:H t=some (.tup (v :: l))) (hv:TV H v o) (n:∀ s,v≠.str s):ND H (.ref t)
|wrd {t:Addr} {s:Str} {l:List V} (h:H t=some (.tup (.str s :: l))) (n:fB s=none):ND H (.ref t)
|len {t:Addr} {s:Str} {l:List V} {ks:List Str} (h:H t=some (.tup (.str s :: l))) (f:fB s=some ks) (n:l.length≠ks.length):ND H (.ref t)
|prt {t:Addr} {s:Str} {ps:List Pt} {ks:List Str} (h:H t=some (.tup (.str s :: ps.map Pt.v))) (f:fB s=some ks) (e:ps.length=ks.length) (n:(fu ps ks).all id=false):ND H (.ref t)
theorem ND.same {H H':Hp}(e:bU H H') {v:V}(h:ND H v):ND H' v:=by
 cases h with
|oth h n =>
  refine .oth (h.same e) λt l ev=>?_
  intro z
  cases h with
 |non=>cases ev
 |bl b=>cases ev
 |int i=>cases ev
 |str s=>cases ev
 |lst h=>cases ev;rw[e _ _ h]at z;cases z
 |tup h=>exact n _ _ rfl h
 |dK h=>cases ev;rw[e _ _ h]at z;cases z
|emp h=>exact .emp (e _ _ h)
|nos h hv n=>exact .nos (e _ _ h) (hv.same e) n
|wrd h n=>exact .wrd (e _ _ h) n
|len h f n=>exact .len (e _ _ h) f n
|prt h f l n=>exact .prt (e _ _ h) f l n
theorem vE {s:Str}{ks:List Str}(h:fB s=some ks):ks.length <= 2:=by
 unfold fB at h
 repeat' split at h
 all_goals first
 |(cases h;show _ <= 2;decide)
 |cases h
end L2
set_option maxHeartbeats 4000000
namespace My
open PySem L2
def top (i:Nat):Stmt:=PySem.Challenge.pw_askring_k22_no_deeds.main.body.getD i (.Pass ⟨0,0,0,0⟩)
abbrev gH:Stmt:=top 9
abbrev lB:Stmt:=top 10
abbrev lG:Stmt:=top 11
abbrev ir:Stmt:=top 15
abbrev iX:Stmt:=aJ (top 16) 0
abbrev io:Stmt:=aJ (top 16) 1
abbrev gD:Stmt:=aJ (top 16) 2
abbrev gb:Stmt:=aJ (top 16) 3
abbrev cU:Stmt:=aJ (top 16) 4
abbrev lr:Stmt:=aJ (top 16) 5
abbrev j6:Stmt:=aJ (top 16) 6
abbrev je:Stmt:=aJ (top 18) 0
abbrev eG:Stmt:=aJ (top 18) 2
abbrev fh:Stmt:=aJ (top 18) 3
abbrev lC:Stmt:=aJ (top 18) 4
abbrev gx:Stmt:=aJ (top 18) 5
abbrev fj:Stmt:=aJ (top 18) 6
abbrev cj:Stmt:=aJ (top 18) 7
abbrev i8:Stmt:=aJ (top 20) 0
abbrev jk:Stmt:=aJ (top 20) 2
abbrev cW:Stmt:=aJ (top 20) 3
abbrev gv:Stmt:=aJ (top 20) 4
abbrev ix:Stmt:=aJ (top 20) 5
abbrev cb:Stmt:=aJ (top 20) 6
abbrev hU:Stmt:=aJ (top 22) 0
abbrev iF:Stmt:=aJ (top 22) 2
abbrev iB:Stmt:=aJ (top 22) 3
abbrev ig:Stmt:=aJ (top 22) 4
abbrev jf:Stmt:=aJ (top 22) 5
abbrev gA:Stmt:=aJ (top 22) 6
abbrev iz:Stmt:=aJ (top 22) 7
abbrev ij:Stmt:=aJ (top 22) 8
abbrev lf:Stmt:=top 27
abbrev nV:Stmt:=top 28
abbrev nY:Stmt:=top 29
abbrev n6:Stmt:=top 30
abbrev nQ:Stmt:=top 31
abbrev jd:Stmt:=aJ (top 32) 0
abbrev k9:Stmt:=aJ (top 32) 1
abbrev jc:Stmt:=aJ (top 32) 3
abbrev j1:Stmt:=aJ (top 32) 4
abbrev gG:Stmt:=aJ (top 32) 5
abbrev gi:Stmt:=aJ (top 32) 6
abbrev jh:Stmt:=aJ (top 32) 8
abbrev iU:Stmt:=aJ (top 32) 11
abbrev gW:Stmt:=aJ (top 32) 14
abbrev fg:Stmt:=aJ (top 32) 15
abbrev dq:Stmt:=aJ (top 32) 16
abbrev gw:Stmt:=aJ (top 32) 17
abbrev ic:Stmt:=aJ (top 32) 18
abbrev gF:Stmt:=aJ (top 32) 19
abbrev ci:Stmt:=aJ (top 32) 20
abbrev ie:Stmt:=top 34
abbrev k8:Stmt:=top 35
abbrev lm:Stmt:=top 36
abbrev jY:Stmt:=top 37
abbrev lI:Stmt:=top 38
abbrev jU:Stmt:=top 39
abbrev jR:Stmt:=top 40
abbrev i7:Stmt:=top 41
abbrev lp:Stmt:=top 42
abbrev jT:Stmt:=top 43
abbrev iu:Stmt:=top 44
abbrev gC:Stmt:=top 45
abbrev fZ:Stmt:=top 46
abbrev fq:Stmt:=top 47
abbrev BS:Stmt:=top 48
theorem nu:FnScope ["counter","size","rounds"] ["counter","size","rounds"] (ak gH):=⟨rfl,rfl,rfl,by decide +kernel,rfl,by decide +kernel,by decide +kernel⟩
theorem tH:FnScope ["counter","size"] ["counter","size"] (ak lB):=⟨rfl,rfl,rfl,by decide +kernel,rfl,by decide +kernel,by decide +kernel⟩
theorem uq:FnScope ["one","other","size","rounds"] ["one","other","size","rounds"] (ak lG):=⟨rfl,rfl,rfl,by decide +kernel,rfl,by decide +kernel,by decide +kernel⟩
theorem oA:FnScope ["rounds","faults"] ["rounds","faults"] (ak ir):=⟨rfl,rfl,rfl,by decide +kernel,rfl,by decide +kernel,by decide +kernel⟩
theorem pY:FnScope ["self","store","side","words","size","rounds","faults"] ["self","store","side","words","size","rounds","faults"] (ak iX):=⟨rfl,rfl,rfl,by decide +kernel,rfl,by decide +kernel,by decide +kernel⟩
theorem gB:FnScope ["self","laid","fetched"] ["self"] (ak io):=⟨rfl,rfl,rfl,by decide +kernel,rfl,by decide +kernel,by decide +kernel⟩
theorem mU:FnScope ["self"] ["self"] (ak gD):=⟨rfl,rfl,rfl,by decide +kernel,rfl,by decide +kernel,by decide +kernel⟩
theorem mo:FnScope ["self","counter"] ["self","counter"] (ak gb):=⟨rfl,rfl,rfl,by decide +kernel,rfl,by decide +kernel,by decide +kernel⟩
theorem j7:FnScope ["self","cell","counter"] ["self","cell","counter"] (ak cU):=⟨rfl,rfl,rfl,by decide +kernel,rfl,by decide +kernel,by decide +kernel⟩
theorem oa:FnScope ["self","name","worth","counter"] ["self","name","worth"] (ak lr):=⟨rfl,rfl,rfl,by decide +kernel,rfl,by decide +kernel,by decide +kernel⟩
theorem iq:FnScope ["self","counter","found"] ["self"] (ak j6):=⟨rfl,rfl,rfl,by decide +kernel,rfl,by decide +kernel,by decide +kernel⟩
theorem qO:FnScope ["self","store","size","rounds","names","faults"] ["self","store","size","rounds","names","faults"] (ak je):=⟨rfl,rfl,rfl,by decide +kernel,rfl,by decide +kernel,by decide +kernel⟩
theorem gu:FnScope ["self","name"] ["self"] (ak eG):=⟨rfl,rfl,rfl,by decide +kernel,rfl,by decide +kernel,by decide +kernel⟩
theorem lH:FnScope ["self"] ["self"] (ak fh):=⟨rfl,rfl,rfl,by decide +kernel,rfl,by decide +kernel,by decide +kernel⟩
theorem og:FnScope ["self","worth","name"] ["self","worth"] (ak lC):=⟨rfl,rfl,rfl,by decide +kernel,rfl,by decide +kernel,by decide +kernel⟩
theorem iW:FnScope ["self","told"] ["self"] (ak gx):=⟨rfl,rfl,rfl,by decide +kernel,rfl,by decide +kernel,by decide +kernel⟩
theorem lc:FnScope ["self"] ["self"] (ak fj):=⟨rfl,rfl,rfl,by decide +kernel,rfl,by decide +kernel,by decide +kernel⟩
theorem i9:FnScope ["self"] ["self"] (ak cj):=⟨rfl,rfl,rfl,by decide +kernel,rfl,by decide +kernel,by decide +kernel⟩
theorem oZ:FnScope ["self","store","size","rounds","faults"] ["self","store","size","rounds","faults"] (ak i8):=⟨rfl,rfl,rfl,by decide +kernel,rfl,by decide +kernel,by decide +kernel⟩
theorem kZ:FnScope ["self","told"] ["self"] (ak jk):=⟨rfl,rfl,rfl,by decide +kernel,rfl,by decide +kernel,by decide +kernel⟩
theorem iV:FnScope ["self","name"] ["self","name"] (ak cW):=⟨rfl,rfl,rfl,by decide +kernel,rfl,by decide +kernel,by decide +kernel⟩
theorem nO:FnScope ["self","name","worth"] ["self","name","worth"] (ak gv):=⟨rfl,rfl,rfl,by decide +kernel,rfl,by decide +kernel,by decide +kernel⟩
theorem ph:FnScope ["self"] ["self"] (ak ix):=⟨rfl,rfl,rfl,by decide +kernel,rfl,by decide +kernel,by decide +kernel⟩
theorem gL:FnScope ["self"] ["self"] (ak cb):=⟨rfl,rfl,rfl,by decide +kernel,rfl,by decide +kernel,by decide +kernel⟩
theorem oG:FnScope ["self"] ["self"] (ak hU):=⟨rfl,rfl,rfl,by decide +kernel,rfl,by decide +kernel,by decide +kernel⟩
theorem oy:FnScope ["self","side","cell","worth"] ["self","side","cell","worth"] (ak iF):=⟨rfl,rfl,rfl,by decide +kernel,rfl,by decide +kernel,by decide +kernel⟩
theorem jD:FnScope ["self","side","first"] ["self","side"] (ak iB):=⟨rfl,rfl,rfl,by decide +kernel,rfl,by decide +kernel,by decide +kernel⟩
theorem pd:FnScope ["self","side"] ["self","side"] (ak ig):=⟨rfl,rfl,rfl,by decide +kernel,rfl,by decide +kernel,by decide +kernel⟩
theorem kE:FnScope ["self","side","cell","waiting"] ["self","side","cell"] (ak jf):=⟨rfl,rfl,rfl,by decide +kernel,rfl,by decide +kernel,by decide +kernel⟩
theorem mY:FnScope ["self","cell"] ["self","cell"] (ak gA):=⟨rfl,rfl,rfl,by decide +kernel,rfl,by decide +kernel,by decide +kernel⟩
theorem oV:FnScope ["self","side"] ["self","side"] (ak iz):=⟨rfl,rfl,rfl,by decide +kernel,rfl,by decide +kernel,by decide +kernel⟩
theorem p8:FnScope ["self"] ["self"] (ak ij):=⟨rfl,rfl,rfl,by decide +kernel,rfl,by decide +kernel,by decide +kernel⟩
theorem tS:FnScope ["value"] ["value"] (ak lf):=⟨rfl,rfl,rfl,by decide +kernel,rfl,by decide +kernel,by decide +kernel⟩
theorem wq:FnScope ["value","kind"] ["value","kind"] (ak nV):=⟨rfl,rfl,rfl,by decide +kernel,rfl,by decide +kernel,by decide +kernel⟩
theorem jq:FnScope ["some","kinds"] ["some"] (ak nY):=⟨rfl,rfl,rfl,by decide +kernel,rfl,by decide +kernel,by decide +kernel⟩
theorem wz:FnScope ["some"] ["some"] (ak n6):=⟨rfl,rfl,rfl,by decide +kernel,rfl,by decide +kernel,by decide +kernel⟩
theorem vK:FnScope ["cell"] ["cell"] (ak nQ):=⟨rfl,rfl,rfl,by decide +kernel,rfl,by decide +kernel,by decide +kernel⟩
theorem qH:FnScope ["self","size","rounds","names","faults"] ["self","size","rounds","names","faults"] (ak jd):=⟨rfl,rfl,rfl,by decide +kernel,rfl,by decide +kernel,by decide +kernel⟩
theorem gn:FnScope ["self","some","word"] ["self","some"] (ak k9):=⟨rfl,rfl,rfl,by decide +kernel,rfl,by decide +kernel,by decide +kernel⟩
theorem qJ:FnScope ["self"] ["self"] (ak jc):=⟨rfl,rfl,rfl,by decide +kernel,rfl,by decide +kernel,by decide +kernel⟩
theorem kB:FnScope ["self","cells"] ["self"] (ak j1):=⟨rfl,rfl,rfl,by decide +kernel,rfl,by decide +kernel,by decide +kernel⟩
theorem oj:FnScope ["self","side"] ["self","side"] (ak gG):=⟨rfl,rfl,rfl,by decide +kernel,rfl,by decide +kernel,by decide +kernel⟩
theorem m6:FnScope ["self","side"] ["self","side"] (ak gi):=⟨rfl,rfl,rfl,by decide +kernel,rfl,by decide +kernel,by decide +kernel⟩
theorem pW:FnScope ["self"] ["self"] (ak jh):=⟨rfl,rfl,rfl,by decide +kernel,rfl,by decide +kernel,by decide +kernel⟩
theorem kI:FnScope ["self","some"] ["self","some"] (ak iU):=⟨rfl,rfl,rfl,by decide +kernel,rfl,by decide +kernel,by decide +kernel⟩
theorem jE:FnScope ["self","worth","name"] ["self","worth"] (ak gW):=⟨rfl,rfl,rfl,by decide +kernel,rfl,by decide +kernel,by decide +kernel⟩
theorem lF:FnScope ["self","name","worth"] ["self","name","worth"] (ak fg):=⟨rfl,rfl,rfl,by decide +kernel,rfl,by decide +kernel,by decide +kernel⟩
theorem jw:FnScope ["self","word","told"] ["self","word","told"] (ak dq):=⟨rfl,rfl,rfl,by decide +kernel,rfl,by decide +kernel,by decide +kernel⟩
theorem iZ:FnScope ["self","side","other"] ["self","side"] (ak gw):=⟨rfl,rfl,rfl,by decide +kernel,rfl,by decide +kernel,by decide +kernel⟩
theorem pf:FnScope ["self","side"] ["self","side"] (ak ic):=⟨rfl,rfl,rfl,by decide +kernel,rfl,by decide +kernel,by decide +kernel⟩
theorem nk:FnScope ["self","side"] ["self","side"] (ak gF):=⟨rfl,rfl,rfl,by decide +kernel,rfl,by decide +kernel,by decide +kernel⟩
theorem i6:FnScope ["self","side"] ["self","side"] (ak ci):=⟨rfl,rfl,rfl,by decide +kernel,rfl,by decide +kernel,by decide +kernel⟩
theorem oW:FnScope ["script","k"] ["script","k"] (ak ie):=⟨rfl,rfl,rfl,by decide +kernel,rfl,by decide +kernel,by decide +kernel⟩
theorem dH:FnScope ["cells","most","codes","cell","rest"] ["cells","most"] (ak k8):=⟨rfl,rfl,rfl,by decide +kernel,rfl,by decide +kernel,by decide +kernel⟩
theorem cz:FnScope ["cell","drawn","size","faults","bits","word"] ["cell"] (ak lm):=⟨rfl,rfl,rfl,by decide +kernel,rfl,by decide +kernel,by decide +kernel⟩
theorem tf:FnScope ["code"] ["code"] (ak jY):=⟨rfl,rfl,rfl,by decide +kernel,rfl,by decide +kernel,by decide +kernel⟩
theorem gg:FnScope ["code","tasks","word","side","name"] ["code","tasks"] (ak lI):=⟨rfl,rfl,rfl,by decide +kernel,rfl,by decide +kernel,by decide +kernel⟩
theorem aO:FnScope ["yard","deed","told","refused"] ["yard","deed"] (ak jU):=⟨rfl,rfl,rfl,by decide +kernel,rfl,by decide +kernel,by decide +kernel⟩
theorem sj:FnScope ["tasks","deed","told"] ["tasks","deed","told"] (ak jR):=⟨rfl,rfl,rfl,by decide +kernel,rfl,by decide +kernel,by decide +kernel⟩
theorem eX:FnScope ["yard","thing","caught","error"] ["yard","thing"] (ak i7):=⟨rfl,rfl,rfl,by decide +kernel,rfl,by decide +kernel,by decide +kernel⟩
theorem tX:FnScope ["yard"] ["yard"] (ak lp):=⟨rfl,rfl,rfl,by decide +kernel,rfl,by decide +kernel,by decide +kernel⟩
theorem bE:FnScope ["cell","far","bad"] ["cell"] (ak jT):=⟨rfl,rfl,rfl,by decide +kernel,rfl,by decide +kernel,by decide +kernel⟩
theorem cf:FnScope ["beds","cell","worth","bad","side"] ["beds","cell"] (ak iu):=⟨rfl,rfl,rfl,by decide +kernel,rfl,by decide +kernel,by decide +kernel⟩
theorem ge:FnScope ["yard","cell","due","name"] ["yard","cell"] (ak gC):=⟨rfl,rfl,rfl,by decide +kernel,rfl,by decide +kernel,by decide +kernel⟩
theorem m4:FnScope ["yard","side","cell","left_out"] ["yard","side","cell","left_out"] (ak fZ):=⟨rfl,rfl,rfl,by decide +kernel,rfl,by decide +kernel,by decide +kernel⟩
theorem eQ:FnScope ["yard","side","told"] ["yard"] (ak fq):=⟨rfl,rfl,rfl,by decide +kernel,rfl,by decide +kernel,by decide +kernel⟩
theorem gO:FnScope ["script","size","rounds","names","faults","yard","tasks","code","deed","seen","cell","some"] ["script"] (ak BS):=⟨rfl,rfl,rfl,by decide +kernel,rfl,by decide +kernel,by decide +kernel⟩
structure Ad where
 cF:Addr
 gU:Addr
 ib:Addr
 dt:Addr
 eK:Addr
 dB:Addr
 cy:Addr
 c6:Addr
 b9:Addr
 gX:Addr
 eN:Addr
 eO:Addr
 bx:Addr
 bO:Addr
 im:Addr
 cH:Addr
 bQ:Addr
 aU:Addr
 dw:Addr
 eR:Addr
 b8:Addr
 cD:Addr
 dD:Addr
 aR:Addr
 dg:Addr
 dn:Addr
 dF:Addr
 du:Addr
 eP:Addr
 cK:Addr
 dE:Addr
 df:Addr
 iI:Addr
 jZ:Addr
 iJ:Addr
 jS:Addr
 jV:Addr
 eS:Addr
 eA:Addr
 eF:Addr
 eL:Addr
 cL:Addr
 bY:Addr
 eT:Addr
 cO:Addr
 di:Addr
 bM:Addr
 bf:Addr
 cM:Addr
 dj:Addr
 cE:Addr
 aV:Addr
 dA:Addr
 g9:Addr
 iC:Addr
 fY:Addr
 hG:Addr
 eh:Addr
 fV:Addr
 dm:Addr
 hX:Addr
 fQ:Addr
 dC:Addr
 cI:Addr
 c9:Addr
 bR:Addr
 law:Addr
 bX:Addr
 d4:Addr
 b7:Addr
 aH:Addr
 bg:Addr
 sC:Addr
 r9:Addr
 fA:Addr
 fC:Addr
 bD:Addr
 zZ:Addr
 jJ:Addr
 d8:Addr
 aQ:Addr
 jQ:Addr
 dN:Addr
 dQ:Addr
 dY:Addr
 dW:Addr
 dP:Addr
 dR:Addr
 el:Addr
 eo:Addr
structure Fd where
 cF:FuncData
 gU:FuncData
 ib:FuncData
 dt:FuncData
 eK:FuncData
 dB:FuncData
 cy:FuncData
 c6:FuncData
 b9:FuncData
 gX:FuncData
 eN:FuncData
 eO:FuncData
 bx:FuncData
 bO:FuncData
 im:FuncData
 cH:FuncData
 bQ:FuncData
 aU:FuncData
 dw:FuncData
 eR:FuncData
 b8:FuncData
 cD:FuncData
 dD:FuncData
 aR:FuncData
 dg:FuncData
 dn:FuncData
 dF:FuncData
 du:FuncData
 eP:FuncData
 cK:FuncData
 dE:FuncData
 df:FuncData
 iI:FuncData
 jZ:FuncData
 iJ:FuncData
 jS:FuncData
 jV:FuncData
 eS:FuncData
 eA:FuncData
 eF:FuncData
 eL:FuncData
 cL:FuncData
 bY:FuncData
 eT:FuncData
 cO:FuncData
 di:FuncData
 bM:FuncData
 bf:FuncData
 cM:FuncData
 dj:FuncData
 cE:FuncData
 aV:FuncData
 dA:FuncData
 g9:FuncData
 iC:FuncData
 fY:FuncData
 hG:FuncData
 eh:FuncData
 fV:FuncData
 dm:FuncData
 hX:FuncData
 fQ:FuncData
 dC:FuncData
 cI:FuncData
 c9:FuncData
 bR:FuncData
 law:FuncData
structure Gs (K:PySem.W.Frag) (mg:Str->Option Value) (a:Ad) (d:Fd):Prop where
 jK:Fun K "next_counter" "next_counter" gH a.cF d.cF
 pe:aG K d.cF ["counter","size","rounds"] []
 oF:mg "next_counter"=some (.ref a.cF)
 pG:Fun K "place_of" "place_of" lB a.gU d.gU
 wm:aG K d.gU ["counter","size"] []
 wI:mg "place_of"=some (.ref a.gU)
 pH:Fun K "ahead_by" "ahead_by" lG a.ib d.ib
 wD:aG K d.ib ["one","other","size","rounds"] []
 wg:mg "ahead_by"=some (.ref a.ib)
 iD:Fun K "rounds_with" "rounds_with" ir a.dt d.dt
 kW:aG K d.dt ["rounds","faults"] []
 kL:mg "rounds_with"=some (.ref a.dt)
 rp:Fun K "__init__" "Ring.__init__" iX a.eK d.eK
 gm:aG K d.eK ["self","store","side","words","size","rounds","faults"] []
 qQ:Fun K "filled" "Ring.filled" io a.dB d.dB
 fF:aG K d.dB ["self"] []
 eW:Meth K a.bX "filled" a.dB
 oI:Fun K "is_full" "Ring.is_full" gD a.cy d.cy
 jM:aG K d.cy ["self"] []
 j8:Meth K a.bX "is_full" a.cy
 o7:Fun K "place_at" "Ring.place_at" gb a.c6 d.c6
 iY:aG K d.c6 ["self","counter"] []
 iL:Meth K a.bX "place_at" a.c6
 ju:Fun K "write_further" "Ring.write_further" cU a.b9 d.b9
 cV:aG K d.b9 ["self","cell","counter"] []
 cJ:Meth K a.bX "write_further" a.b9
 wj:Fun K "lay" "Ring.lay" lr a.gX d.gX
 pC:aG K d.gX ["self","name","worth"] []
 om:Meth K a.bX "lay" a.gX
 sO:Fun K "fetch" "Ring.fetch" j6 a.eN d.eN
 lN:aG K d.eN ["self"] []
 kX:Meth K a.bX "fetch" a.eN
 sY:Fun K "__init__" "Hand.__init__" je a.eO d.eO
 sV:aG K d.eO ["self","store","size","rounds","names","faults"] []
 lx:Fun K "least_free" "Hand.least_free" eG a.bx d.bx
 gJ:aG K d.bx ["self"] []
 gr:Meth K a.d4 "least_free" a.bx
 m9:Fun K "check_ask" "Hand.check_ask" fh a.bO d.bO
 fm:aG K d.bO ["self"] []
 eM:Meth K a.d4 "check_ask" a.bO
 wM:Fun K "ask" "Hand.ask" lC a.im d.im
 vQ:aG K d.im ["self","worth"] []
 ui:Meth K a.d4 "ask" a.im
 oN:Fun K "collect" "Hand.collect" gx a.cH d.cH
 jy:aG K d.cH ["self"] []
 j3:Meth K a.d4 "collect" a.cH
 m7:Fun K "under_way" "Hand.under_way" fj a.bQ d.bQ
 ma:aG K d.bQ ["self"] []
 lh:Meth K a.d4 "under_way" a.bQ
 iP:Fun K "something_waits" "Hand.something_waits" cj a.aU d.aU
 iR:aG K d.aU ["self"] []
 ik:Meth K a.d4 "something_waits" a.aU
 qU:Fun K "__init__" "Heart.__init__" i8 a.dw d.dw
 qm:aG K d.dw ["self","store","size","rounds","faults"] []
 t7:Fun K "take" "Heart.take" jk a.eR d.eR
 lW:aG K d.eR ["self"] []
 kz:Meth K a.b7 "take" a.eR
 jt:Fun K "check_answer" "Heart.check_answer" cW a.b8 d.b8
 cY:aG K d.b8 ["self","name"] []
 cA:Meth K a.b7 "check_answer" a.b8
 oS:Fun K "answer" "Heart.answer" gv a.cD d.cD
 oR:aG K d.cD ["self","name","worth"] []
 oo:Meth K a.b7 "answer" a.cD
 qA:Fun K "tasks" "Heart.tasks" ix a.dD d.dD
 qp:aG K d.dD ["self"] []
 oK:Meth K a.b7 "tasks" a.dD
 iE:Fun K "something_waits" "Heart.something_waits" cb a.aR d.aR
 ip:aG K d.aR ["self"] []
 gI:Meth K a.b7 "something_waits" a.aR
 qf:Fun K "__init__" "Store.__init__" hU a.dg d.dg
 qR:aG K d.dg ["self"] []
 qi:Fun K "write" "Store.write" iF a.dn d.dn
 dO:aG K d.dn ["self","side","cell","worth"] []
 dc:Meth K a.aH "write" a.dn
 qw:Fun K "drain" "Store.drain" iB a.dF d.dF
 gR:aG K d.dF ["self","side"] []
 gy:Meth K a.aH "drain" a.dF
 pU:Fun K "fence" "Store.fence" ig a.du d.du
 ku:aG K d.du ["self","side"] []
 jL:Meth K a.aH "fence" a.du
 sP:Fun K "read" "Store.read" jf a.eP d.eP
 dI:aG K d.eP ["self","side","cell"] []
 cS:Meth K a.aH "read" a.eP
 oP:Fun K "memory" "Store.memory" gA a.cK d.cK
 jG:aG K d.cK ["self","cell"] []
 jl:Meth K a.aH "memory" a.cK
 qV:Fun K "waits" "Store.waits" iz a.dE d.dE
 dM:aG K d.dE ["self","side"] []
 de:Meth K a.aH "waits" a.dE
 qD:Fun K "cells" "Store.cells" ij a.df d.df
 qx:aG K d.df ["self"] []
 oB:Meth K a.aH "cells" a.df
 pR:Fun K "is_whole" "is_whole" lf a.iI d.iI
 vY:aG K d.iI ["value"] []
 wH:mg "is_whole"=some (.ref a.iI)
 nj:Fun K "is_part" "is_part" nV a.jZ d.jZ
 rX:aG K d.jZ ["value","kind"] []
 rQ:mg "is_part"=some (.ref a.jZ)
 l8:Fun K "is_deed" "is_deed" nY a.iJ d.iJ
 sI:aG K d.iJ ["some"] []
 sB:mg "is_deed"=some (.ref a.iJ)
 nU:Fun K "side_of" "side_of" n6 a.jS d.jS
 rY:aG K d.jS ["some"] []
 re:mg "side_of"=some (.ref a.jS)
 yr:Fun K "text_of" "text_of" nQ a.jV d.jV
 yj:aG K d.jV ["cell"] []
 wZ:mg "text_of"=some (.ref a.jV)
 rM:Fun K "__init__" "Yard.__init__" jd a.eS d.eS
 sL:aG K d.eS ["self","size","rounds","names","faults"] []
 o4:Fun K "deed" "Yard.deed" k9 a.eA d.eA
 c7:aG K d.eA ["self","some"] []
 bI:Meth K a.bg "deed" a.eA
 sS:Fun K "story" "Yard.story" jc a.eF d.eF
 rL:aG K d.eF ["self"] []
 qC:Meth K a.bg "story" a.eF
 sJ:Fun K "state" "Yard.state" j1 a.eL d.eL
 sg:aG K d.eL ["self"] []
 pT:Meth K a.bg "state" a.eL
 p9:Fun K "sleeper" "Yard.sleeper" gG a.cL d.cL
 cg:aG K d.cL ["self","side"] []
 bW:Meth K a.bg "sleeper" a.cL
 nT:Fun K "is_quiet" "Yard.is_quiet" gi a.bY d.bY
 ja:aG K d.bY ["self","side"] []
 iM:Meth K a.bg "is_quiet" a.bY
 rS:Fun K "store" "Yard.store" jh a.eT d.eT
 sZ:aG K d.eT ["self"] []
 qI:Meth K a.bg "store" a.eT
 lQ:Fun K "check" "Yard.check" iU a.cO d.cO
 lT:aG K d.cO ["self","some"] []
 kA:Meth K a.bg "check" a.cO
 qh:Fun K "do_ask" "Yard.do_ask" gW a.di d.di
 kG:aG K d.di ["self","worth"] []
 jF:Meth K a.bg "do_ask" a.di
 mi:Fun K "do_answer" "Yard.do_answer" fg a.bM d.bM
 iO:aG K d.bM ["self","name","worth"] []
 gN:Meth K a.bg "do_answer" a.bM
 jX:Fun K "tell_fetched" "Yard.tell_fetched" dq a.bf d.bf
 c8:aG K d.bf ["self","word","told"] []
 bV:Meth K a.bg "tell_fetched" a.bf
 oz:Fun K "do_bell" "Yard.do_bell" gw a.cM d.cM
 jH:aG K d.cM ["self","side"] []
 j9:Meth K a.bg "do_bell" a.cM
 qK:Fun K "do_lie" "Yard.do_lie" ic a.dj d.dj
 kH:aG K d.dj ["self","side"] []
 jA:Meth K a.bg "do_lie" a.dj
 pc:Fun K "do_look" "Yard.do_look" gF a.cE d.cE
 jC:aG K d.cE ["self","side"] []
 j4:Meth K a.bg "do_look" a.cE
 iS:Fun K "something_waits" "Yard.something_waits" ci a.aV d.aV
 iQ:aG K d.aV ["self","side"] []
 gT:Meth K a.bg "something_waits" a.aV
 ez:Fun K "_law_cell_at" "_law_cell_at" ie a.dA d.dA
 fH:aG K d.dA ["script","k"] []
 fJ:mg "_law_cell_at"=some (.ref a.dA)
 nM:Fun K "_law_codes" "_law_codes" k8 a.g9 d.g9
 tV:aG K d.g9 ["cells","most"] []
 uk:mg "_law_codes"=some (.ref a.g9)
 pK:Fun K "_law_make" "_law_make" lm a.iC d.iC
 wE:aG K d.iC ["cell"] []
 vZ:mg "_law_make"=some (.ref a.iC)
 jW:Fun K "_law_worth" "_law_worth" jY a.fY d.fY
 nI:aG K d.fY ["code"] []
 nZ:mg "_law_worth"=some (.ref a.fY)
 pL:Fun K "_law_deed" "_law_deed" lI a.hG d.hG
 vP:aG K d.hG ["code","tasks"] []
 wG:mg "_law_deed"=some (.ref a.hG)
 gY:Fun K "_law_tried" "_law_tried" jU a.eh d.eh
 mZ:aG K d.eh ["yard","deed"] []
 nR:mg "_law_tried"=some (.ref a.eh)
 mM:Fun K "_law_after" "_law_after" jR a.fV d.fV
 tW:aG K d.fV ["tasks","deed","told"] []
 tL:mg "_law_after"=some (.ref a.fV)
 en:Fun K "_law_refused" "_law_refused" i7 a.dm d.dm
 fM:aG K d.dm ["yard","thing"] []
 fN:mg "_law_refused"=some (.ref a.dm)
 jp:Fun K "_law_seen" "_law_seen" lp a.hX d.hX
 li:aG K d.hX ["yard"] []
 lL:mg "_law_seen"=some (.ref a.hX)
 mX:Fun K "_law_words" "_law_words" jT a.fQ d.fQ
 um:aG K d.fQ ["cell"] []
 ua:mg "_law_words"=some (.ref a.fQ)
 kO:Fun K "_law_not_now" "_law_not_now" iu a.dC d.dC
 qB:aG K d.dC ["beds","cell"] []
 qN:mg "_law_not_now"=some (.ref a.dC)
 jz:Fun K "_law_no_tasks" "_law_no_tasks" gC a.cI d.cI
 oU:aG K d.cI ["yard","cell"] []
 oJ:mg "_law_no_tasks"=some (.ref a.cI)
 gf:Fun K "_law_laid_down" "_law_laid_down" fZ a.c9 d.c9
 j0:aG K d.c9 ["yard","side","cell","left_out"] []
 jb:mg "_law_laid_down"=some (.ref a.c9)
 iN:Fun K "_law_then_taken" "_law_then_taken" fq a.bR d.bR
 mn:aG K d.bR ["yard"] []
 mh:mg "_law_then_taken"=some (.ref a.bR)
 EY:Fun K "law" "law" BS a.law d.law
 G7:aG K d.law ["script"] []
 G2:mg "law"=some (.ref a.law)
 ay:Cls K a.bX
 vn:mg "Ring"=some (.ref a.bX)
 uN:Mk K a.bX a.eK
 bv:b6 K a.bX "shelf"
 bG:b6 K a.bX "side"
 lX:b6 K a.bX "word"
 eZ:b6 K a.bX "laid"
 dS:b6 K a.bX "fetched"
 fe:b6 K a.bX "size"
 gE:b6 K a.bX "rounds"
 bJ:b6 K a.bX "counter_first"
 br:Cls K a.d4
 DO:mg "Hand"=some (.ref a.d4)
 DS:Mk K a.d4 a.eO
 j5:b6 K a.d4 "asks"
 fT:b6 K a.d4 "answers"
 ky:b6 K a.d4 "names"
 cR:b6 K a.d4 "going"
 bu:Cls K a.b7
 C7:mg "Heart"=some (.ref a.b7)
 Cc:Mk K a.b7 a.dw
 iG:b6 K a.b7 "asks"
 fi:b6 K a.b7 "answers"
 d7:b6 K a.b7 "doing"
 aF:Cls K a.aH
 Ci:mg "Store"=some (.ref a.aH)
 Cj:Mk K a.aH a.dg
 dZ:b6 K a.aH "held"
 bZ:b6 K a.aH "rows"
 al:Cls K a.bg
 Ev:mg "Yard"=some (.ref a.bg)
 Eg:Mk K a.bg a.eS
 rC:b6 K a.bg "size"
 oC:b6 K a.bg "rounds"
 oE:b6 K a.bg "faults"
 aL:b6 K a.bg "shelf"
 dJ:b6 K a.bg "hand"
 cT:b6 K a.bg "heart"
 fX:b6 K a.bg "bell_fences"
 gq:b6 K a.bg "lie_fences"
 gP:b6 K a.bg "look_sees"
 aN:b6 K a.bg "sleepers"
 eg:b6 K a.bg "quiet"
 ce:b6 K a.bg "happened"
 rH:mg "ValueError"=none
 De:mg "all"=none
 Ep:mg "bool"=none
 Dv:mg "int"=none
 bn:mg "isinstance"=none
 qk:mg "len"=none
 BI:mg "list"=none
 Cl:mg "range"=none
 wB:mg "reversed"=none
 qZ:mg "sorted"=none
 Cm:mg "str"=none
 fU:mg "tuple"=none
 Et:mg "zip"=none
 tK:mg "RingError"=some (.ref a.sC)
 sQ:mg "Full"=some (.ref a.r9)
 mB:mg "NoName"=some (.ref a.fA)
 mJ:mg "NoTask"=some (.ref a.fC)
 fG:mg "NoDeed"=some (.ref a.bD)
 BV:mg "NoRow"=some (.ref a.zZ)
 B6:mg "ASKS"=some (.ref a.jJ)
 BA:∀ H,SqT K H a.jJ [.str "ask",.str "asked",.str "taken"]
 sE:mg "ANSWERS"=some (.ref a.d8)
 sX:∀ H,SqT K H a.d8 [.str "answer",.str "answered",.str "handed"]
 fO:mg "SLEEP_CELLS"=some (.ref a.aQ)
 fL:∀ H,SqT K H a.aQ [.str "hand sleeps",.str "heart sleeps"]
 lR:∃ t,mg "MOST_WORTH"=some (.int 1000000000 t)
 xx:mg "FORMS"=some (.ref a.jQ)
 zl:FR K a.jQ [("ask",a.dN),("collect",a.dQ),("take",a.dY),("answer",a.dW),("bell",a.dP),("lie",a.dR),("look",a.el),("drain",a.eo)]
 rm:∀ H,SqT K H a.dN [.str "worth"]
 sU:∀ H,SqT K H a.dQ []
 tm:∀ H,SqT K H a.dY []
 sF:∀ H,SqT K H a.dW [.str "name",.str "worth"]
 sx:∀ H,SqT K H a.dP [.str "side"]
 rO:∀ H,SqT K H a.dR [.str "side"]
 sN:∀ H,SqT K H a.el [.str "side"]
 sv:∀ H,SqT K H a.eo [.str "side"]
 xc_Full:excIn K a.r9 veB "ValueError.__new__"=true
 xc_NoName:excIn K a.fA veB "ValueError.__new__"=true
 xc_NoTask:excIn K a.fC veB "ValueError.__new__"=true
 xc_NoDeed:excIn K a.bD veB "ValueError.__new__"=true
 n5:PySem.W.XCls K a.bD
 Gh:exmOne K (.ref a.bD) (.ref a.sC)=some true
 G9:kitAny K (.ref a.bD) [.ref a.r9,.ref a.fA,.ref a.fC,.ref a.zZ]=some false
 Gu:kitOne K (.ref a.bD) (.ref a.bD)=some true
 FZ:kitOne K (.ref a.bD) (.type "ValueError")=some true
 Dl:exmOne K (.ref a.bD) (.ref a.bD)=some true
 G1:exmOne K (.ref a.bD) (.ref a.r9)=some false
 G3:exmOne K (.ref a.bD) (.ref a.fA)=some false
 Gd:exmOne K (.ref a.bD) (.ref a.fC)=some false
 Dm:exmOne K (.ref a.r9) (.ref a.bD)=some false
 Ef:exmOne K (.ref a.r9) (.ref a.r9)=some true
 Gb:exmOne K (.ref a.r9) (.ref a.fA)=some false
 G6:exmOne K (.ref a.r9) (.ref a.fC)=some false
 DU:exmOne K (.ref a.fA) (.ref a.bD)=some false
 Ed:exmOne K (.ref a.fA) (.ref a.r9)=some false
 DG:exmOne K (.ref a.fA) (.ref a.fA)=some true
 Ga:exmOne K (.ref a.fA) (.ref a.fC)=some false
 Dq:exmOne K (.ref a.fC) (.ref a.bD)=some false
 EB:exmOne K (.ref a.fC) (.ref a.r9)=some false
 Dp:exmOne K (.ref a.fC) (.ref a.fA)=some false
 En:exmOne K (.ref a.fC) (.ref a.fC)=some true
theorem zv {c A B:Prop} [Decidable c] (hc:¬ c) (h:B):if decide c=true then A else B:=by
 rw[decide_eq_false hc];exact fw h
theorem AQ {c A B:Prop} [Decidable c] (hc:c) (h:A):if decide c=true then A else B:=by
 rw[decide_eq_true hc];exact iT h
theorem fE {i j:Int}(h:V.int i=V.int j):i=j:=by injection h
theorem sne {a b:Str}(h:a≠b):¬ V.str a=V.str b:=λy=>h (by injection y)
theorem l3 {x y z:V}:[x,y,z].length <= sizeLine:=by show 3 <= sizeLine;decide
def xZ (w:World) (C:Addr):Sp:=λvs H Q _=>∃ x dx,vs=[.ref x]/\H x=some (.ins C dx []) /\
 ∀ (hd rl:Addr) (l:Bool->Addr) (H':Hp),H hd=none->H rl=none->(∀ b,H (l b)=none)->Sto w C H' x hd rl l [] (λ_=>[])->Kp [x] H H'->Q .non H'
def uw (w:World) (C:Addr):Sp:=λvs H Q _=>∃ (x hd rl:Addr) (l:Bool->Addr) (M:List (PyData × V)) (r:Bool->List (PyData × V)) (b:Bool) (cv wv:V) (k:PyData),vs=[.ref x,.int (sdI b),cv,wv]/\Sto w C H x hd rl l M r/\(r b).length < 100000/\mv H k cv /\
 ∀ H',Sto w C H' x hd rl l M (bt r b (r b++[(k,wv)]))->Kp [l b] H H'->Q .non H'
def uU (w:World) (C:Addr):Sp:=λvs H Q _=>∃ (x hd rl:Addr) (l:Bool->Addr) (M:List (PyData × V)) (r:Bool->List (PyData × V)) (b:Bool) (k:PyData) (v:V) (bS:List (PyData × V)),vs=[.ref x,.int (sdI b)]/\Sto w C H x hd rl l M r/\r b=(k,v) :: bS/\M.length < 100000 /\
 ∀ H',Sto w C H' x hd rl l (tz M k v) (bt r b bS)->Kp [l b,hd] H H'->Q .non H'
def uA (w:World) (C:Addr):Sp:=λvs H Q _=>∃ (x hd rl:Addr) (l:Bool->Addr) (M:List (PyData × V)) (r:Bool->List (PyData × V)) (b:Bool),vs=[.ref x,.int (sdI b)]/\Sto w C H x hd rl l M r/\M.length+(r b).length < 100000 /\
 ∀ H',Sto w C H' x hd rl l (kU M (r b)) (bt r b [])->Kp [l b,hd] H H'->Q .non H'
def xP (w:World) (C:Addr):Sp:=λvs H Q _=>∃ (x hd rl:Addr) (l:Bool->Addr) (M:List (PyData × V)) (r:Bool->List (PyData × V)) (b:Bool) (cv:V) (k:PyData),vs=[.ref x,.int (sdI b),cv]/\Sto w C H x hd rl l M r/\mv H k cv/\Q (cr M (r b) k) H
def rA (w:World) (C:Addr):Sp:=λvs H Q _=>∃ (x hd rl:Addr) (l:Bool->Addr) (M:List (PyData × V)) (r:Bool->List (PyData × V)) (cv:V) (k:PyData),vs=[.ref x,cv]/\Sto w C H x hd rl l M r/\mv H k cv/\Q ((cu M k).getD (.int 0)) H
def uB (w:World) (C:Addr):Sp:=λvs H Q _=>∃ (x hd rl:Addr) (l:Bool->Addr) (M:List (PyData × V)) (r:Bool->List (PyData × V)) (b:Bool),vs=[.ref x,.int (sdI b)]/\Sto w C H x hd rl l M r /\
 ∀ (p:Addr) (ts:List V),H p=none->Paired (Wt H) (r b) ts->Q (.ref p) (upd H p (.lst ts))
theorem FH:100000 <= sizeLine:=by decide
theorem l2 {x y:V}:[x,y].length <= sizeLine:=by show 2 <= sizeLine;decide
section
variable {P:Program}{w:World}{K:PySem.W.Frag}{mg:Str->Option Value}{base:Heap}{a:Ad}{d:Fd}
theorem Cy (G:Gs K mg a d):FnOk P w K mg base CX0 1 a.dg d.dg ["self"] (xZ w a.aH):=by
 refine G.qf.ok oG (λvs H Q E h=>?_) (λcdv A outer s H vs Q E hr h=>?_)
 . obtain⟨x,dx,rfl,_⟩:=h
   rfl
 . obtain⟨x,dx,rfl,hx,k⟩:=h
   refine⟨_,(@ac _ _ _ _ _ (bF (pv 0) Ca rfl)
    (@af _ _ _ (bF (pv 0) (@bc _ _ _ _ (@a6 _ _ _ _ _ (@bc _ _ _ _ a9) (@a6 _ _ _ _ _ (@bc _ _ _ _ a9) a9 (by rfl)) (by rfl))) rfl))),?_⟩
   intro hd hhd
   have n0:x≠hd:=aj hx hhd
   refine⟨_,rfl,x,a.aH,dx,[],rfl,(by rw[ag n0];exact hx),G.aF,G.dZ,(by show 0 < 1000;decide),?_⟩
   refine⟨by show 0 <= sizeLine;decide,λl0 h0=>⟨by show 0 <= sizeLine;decide,λl1 h1=>⟨l2,λrl hrl=>⟨_,rfl,x,a.aH,dx,bP "held" (.ref hd) [],rfl,?_,G.aF,G.bZ,by show 1 < 1000;decide,?_⟩⟩⟩⟩
   all_goals
    have m0:x≠l0:=aj a8 h0
    have m1:x≠l1:=aj (o:=.ins a.aH dx (bP "held" (.ref hd) [])) (by rw[ag m0];exact a8) h1
    have m2:x≠rl:=aj (o:=.ins a.aH dx (bP "held" (.ref hd) [])) (by rw[ag m1,ag m0];exact a8) hrl
   . rw[ag m2,ag m1,ag m0];exact a8
   . have q0:hd≠l0:=aj (o:=km hd [] 0) (by rw[ag n0.symm];exact a8) h0
     have q1:hd≠l1:=aj (o:=km hd [] 0) (by rw[ag q0,ag n0.symm];exact a8) h1
     have q2:hd≠rl:=aj (o:=km hd [] 0) (by rw[ag q1,ag q0,ag n0.symm];exact a8) hrl
     have r1:l0≠l1:=aj a8 h1
     have r2:l0≠rl:=aj (o:=.lst []) (by rw[ag r1];exact a8) hrl
     have r3:l1≠rl:=aj a8 hrl
     have e0:∀ c o,H c=some o->c≠hd:=λc o e=>aj e hhd
     have f0:H l0=none:=by
      cases z:H l0 with
     |none=>rfl
     |some o=>rw[ag m0.symm,ag q0.symm,z]at h0;cases h0
     have f1:H l1=none:=by
      cases z:H l1 with
     |none=>rfl
     |some o=>rw[ag r1.symm,ag m1.symm,ag q1.symm,z]at h1;cases h1
     have f2:H rl=none:=by
      cases z:H rl with
     |none=>rfl
     |some o=>rw[ag r3.symm,ag r2.symm,ag m2.symm,ag q2.symm,z]at hrl;cases hrl
     refine k hd rl (λb=>if b then l1 else l0) _ hhd f2 (λb=>by cases b;exact f0;exact f1) ⟨⟨dx,a8⟩,⟨[],0,by rw[ag n0.symm,ag q2,ag q1,ag q0,ag n0.symm,a8],.nil,List.nodup_nil,Nat.zero_le _⟩,by rw[ag m2.symm,a8];rfl,λb=>⟨[],?_,.nil⟩,r1,λb=>by cases b;exact r2;exact r3⟩ λc o n e=>?_
     . cases b
       . show upd _ x _ l0=_
         rw[ag m0.symm,ag r2,ag r1,a8]
       . show upd _ x _ l1=_
         rw[ag m1.symm,ag r3,a8]
     . have c0:c≠x:=λz=>n (List.mem_singleton.mpr z)
       rw[ag c0,ag (aj e f2),ag (aj e f1),ag (aj e f0),ag c0,ag (e0 c o e)]
       exact e
theorem kQ (G:Gs K mg a d):FnOk P w K mg base CX0 1 a.dn d.dn ["self","side","cell","worth"] (uw w a.aH):=by
 refine G.qi.ok oy (λvs H Q E h=>?_) (λcdv A outer s H vs Q E hr h=>?_)
 . obtain⟨x,hd,rl,l,M,r,b,cv,wv,k,rfl,_⟩:=h
   rfl
 . obtain⟨x,hd,rl,l,M,r,b,cv,wv,k,rfl,S,hlen,hk,q⟩:=h
   refine⟨_,(@af _ _ _ (@aI _ _ _ _ (@mf _ _ _ _ _ _ _ _ _ _ _ _ PySem.F.plainAttrs_list PySem.F.slot_list_append PySem.F.type_list_append cq (@aK _ _ _ _ _ _ _ bz (am (pv 0) rfl) (pv 1) (λ_ _=>rfl)) (@a6 _ _ _ _ _ (@av _ _ _ _ _ (@a6 _ _ _ _ _ (pv 2) (@a6 _ _ _ _ _ (pv 3) a9 (by rfl)) (by rfl))) a9 (by rfl)) (by rfl) (by rfl) (by rfl) (by rfl) (by rfl)) (by rfl))),?_⟩
   obtain⟨dx,hx⟩:=S.ob
   obtain⟨ts,hl,hp⟩:=S.rw b
   have hn:=bA hp
   refine⟨_,rfl,x,a.aH,dx,_,_,rfl,hx,G.aF,G.bZ,jm,_,rfl,rl,_,_,_,rfl,rfl,SqL.of S.ro,pJ b,.inl ⟨rfl,_,SqL.of hl⟩,_,rfl,_,rfl,l2,λt ht=>⟨l b,ts,.ref t,rfl,rfl,by rw[ag (aj hl ht)];exact hl,Nat.lt_of_lt_of_le (by omega) FH,?_⟩⟩
   have tne:∀ c o,H c=some o->c≠t:=λc o e=>aj e ht
   have tl:t≠l b:=(tne _ _ hl).symm
   have kp:Kp [l b] H (upd (upd H t (.tup [cv,wv])) (l b) (.lst (ts++[.ref t]))):=λc o n e=>by
    rw[ag λz=>n (List.mem_singleton.mpr z),ag (tne c o e)];exact e
   have kt:∀ c vs,H c=some (.tup vs)->upd (upd H t (.tup [cv,wv])) (l b) (.lst (ts++[.ref t])) c=some (.tup vs):=λc vs e=>kp c _ (λz=>by
    rw[List.mem_singleton.mp z,hl]at e;cases e) e
   refine q _ ⟨⟨dx,kp _ _ (λz=>by rw[List.mem_singleton.mp z,hl]at hx;cases hx) hx⟩,S.me.keepS (λo e=>kp _ _ (λz=>by
    obtain⟨es,e'⟩:=S.me.there
    rw[List.mem_singleton.mp z,hl]at e';cases e') e) kt,kp _ _ (λz=>S.nr b (List.mem_singleton.mp z).symm) S.ro,λc=>?_,S.nl,S.nr⟩ kp
   by_cases z:c=b
   . subst z
     rw[aS]
     exact⟨_,a8,Paired.snoc (Paired.mapP hp λ_ _ q=>q.keep kt) ⟨t,cv,rfl,by rw[ag tl];exact a8,hk.keep kt⟩⟩
   . rw[ff z]
     exact(S.rw c).keep (λo e=>kp _ _ (λy=>by
      have y':=List.mem_singleton.mp y
      cases c<;>cases b
      . exact z rfl
      . exact S.nl y'
      . exact S.nl y'.symm
      . exact z rfl) e) kt
theorem qX (G:Gs K mg a d):FnOk P w K mg base CX0 1 a.dF d.dF ["self","side"] (uU w a.aH):=by
 refine G.qw.ok jD (λvs H Q E h=>?_) (λcdv A outer s H vs Q E hr h=>?_)
 . obtain⟨x,hd,rl,l,M,r,b,k,v,bS,rfl,_⟩:=h
   rfl
 . obtain⟨x,hd,rl,l,M,r,b,k,v,bS,rfl,S,hrow,hlen,q⟩:=h
   refine⟨_,(@ac _ _ _ _ _ (aM (eE (mE (@aK _ _ _ _ _ _ _ bz (am (pv 0) rfl) (pv 1) (λ_ _=>rfl)) (λ_=>rfl))) (@af _ _ _ B0) ao)
    (@ac _ _ _ _ _ (@aB _ _ 2 _ _ _ _ jD.nd rfl (Or.inl rfl) (@mf _ _ _ _ _ _ _ _ _ _ _ _ PySem.F.plainAttrs_list PySem.F.slot_list_pop PySem.F.type_list_pop AS (@aK _ _ _ _ _ _ _ bz (am (pv 0) rfl) (pv 1) (λ_ _=>rfl)) (@a6 _ _ _ _ _ ae a9 (by rfl)) (by rfl) (by rfl) (by rfl) (by rfl) (by rfl)) (by rfl) (by first|exact .inl rfl|exact .inr rfl|assumption))
    (@af _ _ _ (CW hr.units (am (pv 0) rfl) (@aK _ _ _ _ _ _ _ aC (pv 2) ae (λ_ _=>rfl)) (@aK _ _ _ _ _ _ _ aC (pv 2) ae (λ_ _=>rfl)) rfl)))),?_⟩
   obtain⟨dx,hx⟩:=S.ob
   obtain⟨ts0,hl,hp0⟩:=S.rw b
   rw[hrow]at hp0
   cases hp0 with
  |@cons _ tv _ ts hw hp =>
    obtain⟨t,cv,rfl,ht,hk⟩:=hw
    refine⟨_,rfl,x,a.aH,dx,_,_,rfl,hx,G.aF,G.bZ,jm,_,rfl,rl,_,_,_,rfl,rfl,SqL.of S.ro,pJ b,true,.inl ⟨_,SqL.of hl,rfl⟩,fw ?_⟩
    refine⟨_,rfl,x,a.aH,dx,_,_,rfl,hx,G.aF,G.bZ,jm,_,rfl,rl,_,_,_,rfl,rfl,SqL.of S.ro,pJ b,.inl ⟨rfl,_,SqL.of hl⟩,l b,_,0,0,.ref t,rfl,rfl,hl,by decide,by decide,by simp[seqIndex?],rfl,?_⟩
    have tl:t≠l b:=hZ ht hl (by intro z;cases z)
    have kp:Kp [l b] H (upd H (l b) (.lst (List.eraseIdx (.ref t :: ts) 0))):=λc o n e=>by
     rw[ag λz=>n (List.mem_singleton.mpr z)];exact e
    have kt:∀ c vs,H c=some (.tup vs)->upd H (l b) (.lst (List.eraseIdx (.ref t :: ts) 0)) c=some (.tup vs):=λc vs e=>kp c _ (λz=>by
     rw[List.mem_singleton.mp z,hl]at e;cases e) e
    have hx':=kp x _ (λz=>by rw[List.mem_singleton.mp z,hl]at hx;cases hx) hx
    have me':=S.me.keepS (λo e=>kp _ _ (λz=>by
     obtain⟨es,e'⟩:=S.me.there
     rw[List.mem_singleton.mp z,hl]at e';cases e') e) kt
    have ro':=kp rl _ (λz=>S.nr b (List.mem_singleton.mp z).symm) S.ro
    have ht':=kt t _ ht
    have rw':∀ c,zp (upd H (l b) (.lst (List.eraseIdx (.ref t :: ts) 0))) (l c) (bt r b bS c):=λc=>by
     by_cases z:c=b
     . subst z
       rw[aS]
       exact⟨ts,a8,Paired.mapP hp λ_ _ q=>q.keep kt⟩
     . rw[ff z]
       exact(S.rw c).keep (λo e=>kp _ _ (λy=>by
        have y':=List.mem_singleton.mp y
        cases c<;>cases b
        . exact z rfl
        . exact S.nl y'
        . exact S.nl y'.symm
        . exact z rfl) e) kt
    have hk':=hk.keep kt
    refine⟨_,rfl,t,_,_,_,rfl,rfl,SqT.of ht',rfl,_,rfl,x,a.aH,dx,_,_,rfl,hx',G.aF,G.dZ,mI,_,rfl,t,_,_,_,rfl,rfl,SqT.of ht',rfl,hd,M,k,rfl,me',Nat.lt_of_lt_of_le hlen FH,hk',λH4 g1 g2=>?_⟩
    generalize upd H (l b) (.lst (List.eraseIdx (.ref t :: ts) 0))=H1 at kp kt hx' me' ro' ht' rw' hk' g1 |-
    have hdn:∀ c o,H1 c=some o->(∀ ee:List DictEntry × Nat,o≠km hd ee.1 ee.2)->c≠hd:=λc o e n z=>by
     obtain⟨es,e'⟩:=me'.there
     rw[z,e']at e;exact n es (Option.some.inj e).symm
    have k4:∀ c o,c≠hd->H1 c=some o->H4 c=some o:=λc o n e=>by rw[g1 c n];exact e
    have kt4:∀ c vs,H1 c=some (.tup vs)->H4 c=some (.tup vs):=λc vs e=>k4 c _ (hdn c _ e λes z=>by cases z) e
    refine q H4 ⟨⟨dx,k4 _ _ (hdn _ _ hx' λes z=>by cases z) hx'⟩,g2,k4 _ _ (hdn _ _ ro' λes z=>by cases z) ro',λc=>(rw' c).keep (λo e=>k4 _ _ (by
     obtain⟨ts',e',_⟩:=rw' c
     exact hdn _ _ e' λes z=>by cases z) e) kt4,S.nl,S.nr⟩ λc o n e=>?_
    exact k4 c o (λz=>n (by rw[z];simp)) (kp c o (λz=>n (by rw[List.mem_singleton.mp z];simp)) e)
theorem rB (G:Gs K mg a d):FnOk P w K mg base CX0 1 a.cK d.cK ["self","cell"] (rA w a.aH):=by
 refine G.oP.ok mY (λvs H Q E h=>?_) (λcdv A outer s H vs Q E hr h=>?_)
 . obtain⟨x,hd,rl,l,M,r,cv,k,rfl,_⟩:=h
   rfl
 . obtain⟨x,hd,rl,l,M,r,cv,k,rfl,S,hk,q⟩:=h
   refine⟨_,(@af _ _ _ (@ar _ _ _ _ (Ah hr.units (am (pv 0) rfl) (pv 1) ae ⟨rfl,rfl,rfl,rfl⟩))),?_⟩
   obtain⟨dx,hx⟩:=S.ob
   exact⟨_,rfl,x,a.aH,dx,_,_,rfl,hx,G.aF,G.dZ,mI,hd,rfl,⟨_,S.me⟩,_,rfl,M,k,S.me,hk,q⟩
theorem mz (G:Gs K mg a d):FnOk P w K mg base CX0 1 a.dE d.dE ["self","side"] (uB w a.aH):=by
 refine G.qV.ok oV (λvs H Q E h=>?_) (λcdv A outer s H vs Q E hr h=>?_)
 . obtain⟨x,hd,rl,l,M,r,b,rfl,_⟩:=h
   rfl
 . obtain⟨x,hd,rl,l,M,r,b,rfl,S,q⟩:=h
   refine⟨_,(@af _ _ _ (@ar _ _ _ _ (cx lM (by rfl) G.BI yI (@a6 _ _ _ _ _ (@aK _ _ _ _ _ _ _ bz (am (pv 0) rfl) (pv 1) (λ_ _=>rfl)) a9 (by rfl))))),?_⟩
   obtain⟨dx,hx⟩:=S.ob
   obtain⟨ts,hl,hp⟩:=S.rw b
   exact⟨_,rfl,x,a.aH,dx,_,_,rfl,hx,G.aF,G.bZ,jm,_,rfl,rl,_,_,_,rfl,rfl,SqL.of S.ro,pJ b,l b,ts,rfl,.inl (SqL.of hl),λp hp'=>q p ts hp' hp⟩
theorem uP (G:Gs K mg a d):FnOk P w K mg base CX0 2 a.du d.du ["self","side"] (uA w a.aH):=by
 have c_Store_drain:FnOk P w K mg base CX0 1 _ _ _ _:=qX G
 refine G.pU.ok pd (λvs H Q E h=>?_) (λcdv A outer s H vs Q E hr h=>?_)
 . obtain⟨x,hd,rl,l,M,r,b,rfl,_⟩:=h
   rfl
 . obtain⟨x,hd,rl,l,M,r,b,rfl,S,hlen,q⟩:=h
   refine⟨_,(@af _ _ _ (qe PassesOwn.never (mE (@aK _ _ _ _ _ _ _ bz (am (pv 0) rfl) (pv 1) (λ_ _=>rfl)) (λ_=>rfl)) (@af _ _ _ (@aI _ _ _ _ (au (pv 0) G.aF G.gy c_Store_drain (hr.mono (by decide)) G.gR .nil ax (@a6 _ _ _ _ _ (pv 1) a9 (by rfl))) (by rfl))))),?_⟩
   refine⟨λm σ H'=>σ=[some (.ref x),some (.int (sdI b))]/\∃ (M' es:List (PyData × V)),Sto w a.aH H' x hd rl l M' (bt r b es)/\m=es.length/\kU M' es=kU M (r b)/\M'.length+es.length < 100000/\Kp [l b,hd] H H',
    ⟨_,rfl,M,r b,by rw[show bt r b (r b)=r from funext λc=>by unfold bt;split;(rename_i z;rw[z]);rfl];exact S,rfl,rfl,hlen,Kp.refl _ _⟩,?_⟩
   rintro m σ H' ⟨rfl,M',es,S',rfl,hd',hl',kp⟩
   obtain⟨dx,hx⟩:=S'.ob
   obtain⟨ts,hl,hp⟩:=S'.rw b
   rw[aS]at hp
   have hn:=bA hp
   refine⟨_,rfl,x,a.aH,dx,_,_,rfl,hx,G.aF,G.bZ,jm,_,rfl,rl,_,_,_,rfl,rfl,SqL.of S'.ro,pJ b,!ts.isEmpty,.inl ⟨_,SqL.of hl,rfl⟩,?_⟩
   refine u7 (λht=>?_) (λht=>?_)
   . cases es with
    |nil =>
      cases hp
      cases ht
    |cons p es =>
      refine⟨_,λσ' H2 z=>z,?_⟩
      refine⟨_,rfl,x,dx,_,rfl,hx,cw (by decide +kernel) (by decide +kernel),_,rfl,x,hd,rl,l,M',_,b,p.1,p.2,es,rfl,S',aS,by rw[List.length_cons]at hl';omega,λH2 S2 kp2=>?_⟩
      refine⟨es.length,by rw[List.length_cons];omega,rfl,tz M' p.1 p.2,es,?_,rfl,hd',by have:=zX M' p.1 p.2;rw[List.length_cons]at hl';omega,kp.trans kp2⟩
      rw[show bt (bt r b (p :: es)) b es=bt r b es from funext λc=>by unfold bt;split<;>rfl]at S2
      exact S2
   . cases es with
    |nil =>
      have e:kU M' []=M':=rfl
      rw[e]at hd'
      rw[hd']at S'
      exact q H' S' kp
    |cons p es =>
      cases hp with
     |cons _ _=>exact absurd rfl ht
theorem qc (G:Gs K mg a d):FnOk P w K mg base CX0 2 a.eP d.eP ["self","side","cell"] (xP w a.aH):=by
 have c_Store_memory:FnOk P w K mg base CX0 1 _ _ _ _:=rB G
 refine G.sP.ok kE (λvs H Q E h=>?_) (λcdv A outer s H vs Q E hr h=>?_)
 . obtain⟨x,hd,rl,l,M,r,b,cv,k,rfl,_⟩:=h
   rfl
 . obtain⟨x,hd,rl,l,M,r,b,cv,k,rfl,S,hk,q⟩:=h
   refine⟨_,(@ac _ _ _ _ _ (kN PassesOwn.never rfl (EA (by rfl) G.wB (@a6 _ _ _ _ _ (@aK _ _ _ _ _ _ _ bz (am (pv 0) rfl) (pv 1) (λ_ _=>rfl)) a9 (by rfl))) (cZ (i:=3) kE.nd rfl (Or.inl rfl)) (@af _ _ _ (aM (aq (Ee hr.units) (@aK _ _ _ _ _ _ _ aC (pv 3) ae (λ_ _=>rfl)) (pv 2) (az _)) (@af _ _ _ (@ar _ _ _ _ (@aK _ _ _ _ _ _ _ aC (pv 3) ae (λ_ _=>rfl)))) ao)))
    (@af _ _ _ (@ar _ _ _ _ (au (pv 0) G.aF G.jl c_Store_memory (hr.mono (by decide)) G.jG .nil ax (@a6 _ _ _ _ _ (pv 2) a9 (by rfl)))))),?_⟩
   obtain⟨dx,hx⟩:=S.ob
   obtain⟨ts,hl,hp⟩:=S.rw b
   have hn:=bA hp
   refine⟨_,rfl,x,a.aH,dx,_,_,rfl,hx,G.aF,G.bZ,jm,_,rfl,rl,_,_,_,rfl,rfl,SqL.of S.ro,pJ b,l b,ts,rfl,SqL.of hl,?_⟩
   refine Ce (K:=K) (a:=l b) (xs:=ts) (λi σ H'=>(∃ v,σ=[some (.ref x),some (.int (sdI b)),some cv,v])/\H'=H/\∀ p∈((r b).reverse.take i),PyData.eqv p.1 k=false)
    ⟨⟨_,rfl⟩,rfl,λp hp=>by cases hp⟩ (λ_ _ _ _ z=>by rw[z.2.1];exact SqL.of hl) ?_ ?_
   . rintro i y σ H' hi hy ⟨⟨v,rfl⟩,rfl,hno⟩
     obtain⟨p,e1,t,tc,rfl,ht,hc⟩:=MX.f2_get hp _ _ hy
     have hrev:(r b).reverse[i]?=some p:=by
      rw[List.getElem?_reverse (by omega)]
      rw[hn];exact e1
     refine⟨_,rfl,t,_,_,_,rfl,rfl,SqT.of ht,rfl,_,rfl,p.1,k,hc.2.2.1,hk.2.2.1,tt.key hc.1 hc.2.1,tt.key hk.1 hk.2.1,_,rfl,?_⟩
     simp only[Bool.false_eq_true,if_false]
     refine u7 (λhe=>?_) (λhe=>?_)
     . refine⟨_,rfl,t,_,_,_,rfl,rfl,SqT.of ht,rfl,?_⟩
       have e:cr M (r b) k=p.2:=by
        unfold cr
        have hfind:(r b).reverse.find? (λp=>PyData.eqv p.1 k)=some p:=by
         rw[List.find?_eq_some_iff_getElem]
         refine⟨he,i,(List.getElem?_eq_some_iff.mp hrev).1,(List.getElem?_eq_some_iff.mp hrev).2,λj hj=>?_⟩
         rw[hno _ (List.mem_of_getElem? (by rw[List.getElem?_take,if_pos hj];exact List.getElem?_eq_getElem _))]
         rfl
        rw[hfind]
       rw[e]at q
       exact q
     . refine⟨⟨_,rfl⟩,rfl,λp' hp'=>?_⟩
       rw[List.take_succ,hrev]at hp'
       rcases List.mem_append.mp hp' with z|z
       . exact hno p' z
       . rw[show p'=p by simpa using z]
         cases w':PyData.eqv p.1 k with
        |false=>rfl
        |true=>exact absurd w' he
   . rintro σ H' ⟨⟨v,rfl⟩,rfl,hno⟩
     refine⟨_,rfl,x,dx,_,rfl,hx,cw (by decide +kernel) (by decide +kernel),_,rfl,x,hd,rl,l,M,r,cv,k,rfl,S,hk,?_⟩
     have e:cr M (r b) k=(cu M k).getD (.int 0):=by
      unfold cr
      have hfind:(r b).reverse.find? (λp=>PyData.eqv p.1 k)=none:=by
       rw[List.find?_eq_none]
       intro p hp'
       rw[hno p (by rw[List.take_of_length_le (by rw[List.length_reverse];omega)];exact hp')]
       decide
      rw[hfind]
     rw[e]at q
     exact q
end
def WV (H:Hp) (v:V):Prop:=∃ d,MX.kd d=true/\d.depth <= 8/\DV H d v
theorem WV.zero {H:Hp}{v:V}{d:PyData}(h:MX.kd d=true) (hv:DV H d v):(PyData.eqv d (.int 0)=true ↔ v=.int 0):=by
 rw[MX.eqv_iff d _ h rfl]
 constructor
 . rintro rfl;exact hv
 . rintro rfl
   cases d with
  |int i =>
    have:V.int 0=V.int i:=hv
    rw[fE this]
  |str t=>cases (show V.int 0=V.str t from hv)
  |tuple ds=>obtain⟨_,_,e,_⟩:=hv;cases e
  |none=>cases h
  |bool=>cases h
  |list=>cases h
  |dict=>cases h
def nz (p:PyData × V):Bool:=decide (p.2≠.int 0)
def zE (w:World) (C:Addr):Sp:=λvs H Q _=>∃ (x hd rl:Addr) (l:Bool->Addr) (M:List (PyData × V)) (r:Bool->List (PyData × V)),vs=[.ref x]/\Sto w C H x hd rl l M r/\EH M/\M.length < 100000/\(∀ p∈M,WV H p.2) /\
 ∀ (p:Addr) (ts:List V),H p=none->Paired (λ(kv:PyData × V) t=>mv H kv.1 t) (M.filter nz) ts->Q (.ref p) (upd H p (.lst ts))
section
variable {P:Program}{w:World}{K:PySem.W.Frag}{mg:Str->Option Value}{base:Heap}{a:Ad}{d:Fd}
theorem Ac (G:Gs K mg a d):FnOk P w K mg base CX0 1 a.df d.df ["self"] (zE w a.aH):=by
 refine G.qD.ok p8 (λvs H Q E h=>?_) (λcdv A outer s H vs Q E hr h=>?_)
 . obtain⟨x,hd,rl,l,M,r,rfl,_⟩:=h
   rfl
 . obtain⟨x,hd,rl,l,M,r,rfl,S,top,hlen,hW,q⟩:=h
   refine⟨_,(@af _ _ _ (@ar _ _ _ _ (by exact ug (tc:=DA (tOp (EV true) (BG w (F5 K (ou 1) "held") (ou 0)) (tC (.int 0)))) (te:=ou 0) (caps:=["self"]) (js:=[0]) rfl (nC rfl rfl (by decide +kernel) (by decide +kernel) rfl ⟨rfl,trivial⟩ rfl rfl) (by decide +kernel) (λy hy=>by simp only[List.mem_cons,List.not_mem_nil,or_false]at hy;rcases hy with rfl<;>exact⟨_,rfl⟩) (.cons ⟨rfl,.inl rfl⟩ .nil) (λy hy=>by simp only[List.mem_cons,List.not_mem_nil,or_false]at hy;rcases hy with rfl<;>exact Or.inl rfl) (BN (am (pv 0) rfl)) (λC s₃ H₃ pins ex E'=>by exact BQ (aq (vp hr.units) (by exact AI hr.units (am (pv 1) rfl) (pv 0) (λ_ _=>rfl)) ae (az _))) (λC s₃ H₃ pins ex E'=>by exact(pv 0))))),?_⟩
   obtain⟨dx,hx⟩:=S.ob
   obtain⟨es,ep,h1,h2,h3,h4⟩:=id S.me
   refine⟨_,rfl,x,a.aH,dx,_,_,rfl,hx,G.aF,G.dZ,mI,hd,es,ep,M,rfl,h1,h2,top,λD hD=>?_⟩
   have e0:∀ ys,bU H (upd H D (.lst ys)):=λys=>ah hD
   refine⟨λi m ys H2=>i <= M.length/\m=M.length - i/\H2=upd H D (.lst ys)/\Paired (λ(kv:PyData × V) t=>mv H kv.1 t) ((M.take i).filter nz) ys,⟨_,Nat.zero_le _,rfl,rfl,.nil⟩,?_⟩
   rintro i m ys H2 ⟨hi,rfl,rfl,hp⟩
   have hyl:ys.length <= M.length:=by
    rw[<-bA hp]
    refine Nat.le_trans (List.length_filter_le _ _) ?_
    rw[List.length_take];omega
   refine⟨a8,Nat.lt_of_lt_of_le (Nat.lt_of_le_of_lt hyl hlen) FH,?_⟩
   by_cases z:i=M.length
   . refine .inl ⟨⟨e0 ys _ _ h1,Paired.keys h2,by omega⟩,?_⟩
     rw[z,List.take_length]at hp
     exact q D ys hD hp
   . have hlt:i < M.length:=by omega
     refine .inr ⟨⟨e0 ys _ _ h1,Paired.mapP h2 λ_ _ q=>q.keep λb vs e=>e0 ys _ _ e,hlt⟩,?_⟩
     rintro y H3 ⟨rfl,k,v,hkv,hk⟩
     obtain⟨dv,w1,w2,w3⟩:=hW _ (List.mem_of_getElem? hkv)
     have hl:cu M k=some v:=by
      have kk:=KK.of h2
      obtain⟨v',g1,g2⟩:=mw (kk _ (List.mem_of_getElem? hkv)) kk h3 (j:=i) (by rw[List.getElem?_map,hkv];rfl)
      rw[hkv]at g1;cases g1
      exact g2
     have S':=S.same (e0 ys)
     have hkH:mv H k y:=by
      obtain⟨e,he,k1,k2,k3,⟨x',rx,dx'⟩,k5⟩:=MX.f2_get' h2 i _ hkv
      obtain⟨c1,c2,c3,c4⟩:=hk
      refine⟨c1,c2,?_,c4⟩
      exact xa hD (by
       intro xs z;cases z) c1 c3
     refine⟨_,rfl,x,a.aH,dx,_,_,rfl,e0 ys _ _ hx,G.aF,G.dZ,mI,_,rfl,hd,M,k,v,rfl,S'.me,hk,hl,dv,.int 0,DV.keep (λb vs e=>e0 ys _ _ e) _ _ w1 w3,rfl,tt.key w1 w2,tt.int 0,_,rfl,?_⟩
     have zz:=WV.zero w1 w3
     have et:M.take (i+1)=M.take i++[(k,v)]:=by rw[List.take_succ,hkv];rfl
     simp only[if_true]
     refine u7 (λhne=>?_) (λhne=>?_)
     . have hv:v≠.int 0:=λy=>by rw[zz.mpr y]at hne;cases hne
       refine⟨_,rfl,a8,M.length - (i+1),by omega,hlt,rfl,by rw[cX],?_⟩
       rw[et,List.filter_append]
       have ef:[(k,v)].filter nz=[(k,v)]:=by
        rw[List.filter_cons,if_pos (show nz (k,v)=true from decide_eq_true hv)];rfl
       rw[ef]
       exact Paired.snoc hp hkH
     . have hv:v=.int 0:=zz.mp (by
        cases y:PyData.eqv dv (.int 0) with
       |true=>rfl
       |false=>exact absurd (by rw[y];rfl) hne)
       refine⟨M.length - (i+1),by omega,hlt,rfl,trivial,?_⟩
       rw[et,List.filter_append]
       have ef:[(k,v)].filter nz=[]:=by
        rw[List.filter_cons,if_neg (show ¬ nz (k,v)=true from λy=>(of_decide_eq_true y) hv)];rfl
       rw[ef,List.append_nil]
       exact hp
end
def D0:Sp:=λvs H Q _=>∃ c s r:Int,vs=[.int c,.int s,.int r]/\0 < s/\s <= 8/\0 < s * r/\Q (.int ((c+1) % (s * r))) H
def Au:Sp:=λvs H Q _=>∃ c s:Int,vs=[.int c,.int s]/\0 < s/\Q (.int (c % s)) H
def Aj:Sp:=λvs H Q _=>∃ o b s r:Int,vs=[.int o,.int b,.int s,.int r]/\0 < s/\s <= 8/\0 < s * r/\Q (.int ((o - b) % (s * r))) H
section
variable {P:Program}{w:World}{K:PySem.W.Frag}{mg:Str->Option Value}{base:Heap}{a:Ad}{d:Fd}
theorem Cv (G:Gs K mg a d):FnOk P w K mg base CX0 1 a.cF d.cF ["counter","size","rounds"] D0:=by
 refine G.jK.ok nu (λvs H Q E h=>?_) (λcdv A outer st H vs Q E hr h=>?_)
 . obtain⟨c,s,r,rfl,_⟩:=h
   rfl
 . obtain⟨c,s,r,rfl,h0,h1,h2,k⟩:=h
   refine⟨_,(@af _ _ _ (@ar _ _ _ _ (@aA _ _ _ _ _ _ _ _ bh (@aA _ _ _ _ _ _ _ _ gp (pv 0) ae) (@aA _ _ _ _ _ _ _ _ sh (pv 1) (pv 2))))),?_⟩
   exact⟨_,rfl,_,_,rfl,rfl,_,rfl,_,rfl,_,_,rfl,rfl,nL (by omega) (by omega),_,_,rfl,rfl,h2,k⟩
theorem A8 (G:Gs K mg a d):FnOk P w K mg base CX0 1 a.gU d.gU ["counter","size"] Au:=by
 refine G.pG.ok tH (λvs H Q E h=>?_) (λcdv A outer st H vs Q E hr h=>?_)
 . obtain⟨c,s,rfl,_⟩:=h
   rfl
 . obtain⟨c,s,rfl,h0,k⟩:=h
   refine⟨_,(@af _ _ _ (@ar _ _ _ _ (@aA _ _ _ _ _ _ _ _ bh (pv 0) (pv 1)))),?_⟩
   exact⟨_,rfl,_,rfl,_,_,rfl,rfl,h0,k⟩
theorem AZ (G:Gs K mg a d):FnOk P w K mg base CX0 1 a.ib d.ib ["one","other","size","rounds"] Aj:=by
 refine G.pH.ok uq (λvs H Q E h=>?_) (λcdv A outer st H vs Q E hr h=>?_)
 . obtain⟨o,b,s,r,rfl,_⟩:=h
   rfl
 . obtain⟨o,b,s,r,rfl,h0,h1,h2,k⟩:=h
   refine⟨_,(@af _ _ _ (@ar _ _ _ _ (@aA _ _ _ _ _ _ _ _ bh (@aA _ _ _ _ _ _ _ _ lU (pv 0) (pv 1)) (@aA _ _ _ _ _ _ _ _ sh (pv 2) (pv 3))))),?_⟩
   exact⟨_,rfl,_,rfl,_,_,rfl,rfl,_,rfl,_,rfl,_,_,rfl,rfl,nL (by omega) (by omega),_,_,rfl,rfl,h2,k⟩
end
def AL:Sp:=λvs H Q _=>∃ (R:Int) (ft:Addr) (fs:List Str),vs=[.int R,.ref ft]/\H ft=some (.tup (fs.map V.str))/\Q (.int (if fs.contains "round" then 1 else R)) H
def zV (K:PySem.W.Frag) (CR:Addr):Sp:=λvs H Q _=>∃ (q dx st wa ft:Addr) (b:Bool) (w0 w1 w2:Str) (s R:Int) (fs:List Str),vs=[.ref q,.ref st,.int (sdI b),.ref wa,.int s,.int R,.ref ft]/\H q=some (.ins CR dx [])/\(∀ H,SqT K H wa [.str w0,.str w1,.str w2])/\H ft=some (.tup (fs.map V.str)) /\
 ∀ H',Rn CR H' q st b w0 w1 w2 ⟨s,if fs.contains "round" then 1 else R,fs.contains "counter"⟩->Kp [q] H H'->Q .non H'
def y6 (w:World) (CR CS:Addr):Sp:=λvs H Q _=>∃ (q:Addr) (z:SA) (b:Bool) (w0 w1 w2:Str) (p:RP) (M:List (PyData × V)) (r:Bool->List (PyData × V)) (A T:Int),vs=[.ref q]/\Rn CR H q z.x b w0 w1 w2 p/\z.At w CS H M r/\p.Ok/\PyData.strOk w1=true/\PyData.strOk w2=true /\
 cr M (r b) (.str w1)=.int A/\cr M (r b) (.str w2)=.int T/\Q (.int ((A - T) % (p.s * p.R))) H
def Cd (w:World) (CR CS:Addr):Sp:=λvs H Q _=>∃ (q:Addr) (z:SA) (b:Bool) (w0 w1 w2:Str) (p:RP) (M:List (PyData × V)) (r:Bool->List (PyData × V)) (A T:Int),vs=[.ref q]/\Rn CR H q z.x b w0 w1 w2 p/\z.At w CS H M r/\p.Ok/\PyData.strOk w1=true/\PyData.strOk w2=true /\
 cr M (r b) (.str w1)=.int A/\cr M (r b) (.str w2)=.int T/\Q (.bl (decide ((A - T) % (p.s * p.R)=p.s))) H
def wV (CR:Addr):Sp:=λvs H Q _=>∃ (q st:Addr) (b:Bool) (w0 w1 w2:Str) (p:RP) (A:Int),vs=[.ref q,.int A]/\Rn CR H q st b w0 w1 w2 p/\p.Ok/\∀ t,H t=none->Q (.ref t) (upd H t (.tup [.str w0,.int (A % p.s)]))
def wL (w:World) (CR CS:Addr):Sp:=λvs H Q _=>∃ (q:Addr) (z:SA) (b:Bool) (w0 w1 w2:Str) (p:RP) (M:List (PyData × V)) (r:Bool->List (PyData × V)) (A:Int) (cv:V) (k:PyData),vs=[.ref q,cv,.int A]/\Rn CR H q z.x b w0 w1 w2 p/\z.At w CS H M r/\p.Ok/\(r b).length < 100000/\mv H k cv /\
 ∀ H',z.At w CS H' M (bt r b (r b++[(k,.int ((A+1) % (p.s * p.R)))]))->Kp [z.l b] H H'->Q .non H'
def E9 (w:World) (CR CS:Addr):Sp:=λvs H Q _=>∃ (q:Addr) (z:SA) (b:Bool) (w0 w1 w2:Str) (p:RP) (M:List (PyData × V)) (r:Bool->List (PyData × V)) (A:Int) (nm wv:V),vs=[.ref q,nm,wv]/\Rn CR H q z.x b w0 w1 w2 p/\z.At w CS H M r/\p.Ok/\PyData.strOk w0=true/\PyData.strOk w1=true/\(r b).length < 99999 /\
 cr M (r b) (.str w1)=.int A/\∀ t H',H t=none->H' t=some (.tup [nm,wv])->z.At w CS H' M (bt r b (r b++mP p w0 w1 A (.ref t)))->Kp [z.l b] H H'->Q .non H'
def zM (w:World) (CR CS:Addr):Sp:=λvs H Q _=>∃ (q:Addr) (z:SA) (b:Bool) (w0 w1 w2:Str) (p:RP) (M:List (PyData × V)) (r:Bool->List (PyData × V)) (A T:Int),vs=[.ref q]/\Rn CR H q z.x b w0 w1 w2 p/\z.At w CS H M r/\p.Ok/\PyData.strOk w0=true/\PyData.strOk w1=true/\PyData.strOk w2=true/\(r b).length < 100000 /\
 cr M (r b) (.str w1)=.int A/\cr M (r b) (.str w2)=.int T/\(if (A - T) % (p.s * p.R)=0 then Q .non H else
  (∃ c vs,cr M (r b) (.tuple [.str w0,.int (T % p.s)])=.ref c/\H c=some (.tup vs)/\∀ H',z.At w CS H' M (bt r b (r b++[(.str w2,.int ((T+1) % (p.s * p.R)))]))->Kp [z.l b] H H'->Q (.ref c) H') \/
  ∃ i,cr M (r b) (.tuple [.str w0,.int (T % p.s)])=.int i/\∀ t H',H t=none->H' t=some (.tup [.non,.non])->z.At w CS H' M (bt r b (r b++[(.str w2,.int ((T+1) % (p.s * p.R)))]))->Kp [z.l b] H H'->Q (.ref t) H')
section
variable {P:Program}{w:World}{K:PySem.W.Frag}{mg:Str->Option Value}{base:Heap}{a:Ad}{d:Fd}
theorem vj (G:Gs K mg a d):FnOk P w K mg base CX0 1 a.dt d.dt ["rounds","faults"] AL:=by
 refine G.iD.ok oA (λvs H Q E h=>?_) (λcdv A outer s H vs Q E hr h=>?_)
 . obtain⟨R,ft,fs,rfl,_⟩:=h
   rfl
 . obtain⟨R,ft,fs,rfl,hf,k⟩:=h
   refine⟨_,(@af _ _ _ (@ar _ _ _ _ (kF (aq gM ai (pv 1) (by with_unfolding_all rfl)) ae (pv 0)))),?_⟩
   refine⟨_,rfl,ft,_,rfl,.inr (SqT.of hf),rfl,gQ fs,_,rfl,?_⟩
   simp only[Bool.false_eq_true,if_false]
   rw[qE]
   by_cases hb:fs.contains "round"=true
   . rw[if_pos hb]at k |-
     exact k
   . rw[if_neg hb]at k |-
     exact⟨_,rfl,k⟩
theorem uS (G:Gs K mg a d):FnOk P w K mg base CX0 2 a.eK d.eK ["self","store","side","words","size","rounds","faults"] (zV K a.bX):=by
 have c_rounds_with:FnOk P w K mg base CX0 1 _ _ _ _:=vj G
 refine G.rp.ok pY (λvs H Q E h=>?_) (λcdv A outer s H vs Q E hr h=>?_)
 . obtain⟨q,dx,st,wa,ft,b,w0,w1,w2,s,R,fs,rfl,_⟩:=h
   rfl
 . obtain⟨q,dx,st,wa,ft,b,w0,w1,w2,s,R,fs,rfl,hx,hw,hf,k⟩:=h
   refine⟨_,(@ac _ _ _ _ _ (bF (pv 0) (pv 1) rfl)
    (@ac _ _ _ _ _ (bF (pv 0) (pv 2) rfl)
    (@ac _ _ _ _ _ (bF (pv 0) (@aK _ _ _ _ _ _ _ aC (pv 3) ae (λ_ _=>rfl)) rfl)
    (@ac _ _ _ _ _ (bF (pv 0) (@aK _ _ _ _ _ _ _ aC (pv 3) ae (λ_ _=>rfl)) rfl)
    (@ac _ _ _ _ _ (bF (pv 0) (@aK _ _ _ _ _ _ _ aC (pv 3) ae (λ_ _=>rfl)) rfl)
    (@ac _ _ _ _ _ (bF (pv 0) (pv 4) rfl)
    (@ac _ _ _ _ _ (bF (pv 0) (aP c_rounds_with (hr.mono (by decide)) (by rfl) G.kL G.iD.kp G.kW .nil ax (@a6 _ _ _ _ _ (pv 5) (@a6 _ _ _ _ _ (pv 6) a9 (by rfl)) (by rfl))) rfl)
    (@af _ _ _ (bF (pv 0) (ii gM ai (pv 6) (by with_unfolding_all rfl)) rfl))))))))),?_⟩
   have nf:ft≠q:=hZ hf hx (by intro z;cases z)
   have ft':∀ o,upd H q o ft=some (.tup (fs.map V.str)):=λo=>by rw[ag nf];exact hf
   refine⟨_,rfl,_,rfl,q,a.bX,dx,[],rfl,hx,G.ay,G.bv,by decide,?_⟩
   refine⟨_,rfl,_,rfl,q,a.bX,dx,_,rfl,a8,G.ay,G.bG,by show 1 < 1000;decide,?_⟩
   rw[cX]
   refine⟨_,rfl,wa,_,_,_,rfl,rfl,hw _,rfl,_,rfl,q,a.bX,dx,_,rfl,a8,G.ay,G.lX,by show 2 < 1000;decide,?_⟩
   rw[cX]
   refine⟨_,rfl,wa,_,_,_,rfl,rfl,hw _,rfl,_,rfl,q,a.bX,dx,_,rfl,a8,G.ay,G.eZ,by show 3 < 1000;decide,?_⟩
   rw[cX]
   refine⟨_,rfl,wa,_,_,_,rfl,rfl,hw _,rfl,_,rfl,q,a.bX,dx,_,rfl,a8,G.ay,G.dS,by show 4 < 1000;decide,?_⟩
   rw[cX]
   refine⟨_,rfl,_,rfl,q,a.bX,dx,_,rfl,a8,G.ay,G.fe,by show 5 < 1000;decide,?_⟩
   rw[cX]
   refine⟨_,rfl,_,rfl,R,ft,fs,rfl,ft' _,_,rfl,q,a.bX,dx,_,rfl,a8,G.ay,G.gE,by show 6 < 1000;decide,?_⟩
   rw[cX]
   refine⟨_,rfl,ft,_,rfl,.inr (SqT.of (ft' _)),rfl,gQ fs,_,rfl,q,a.bX,dx,_,rfl,a8,G.ay,G.bJ,by show 7 < 1000;decide,?_⟩
   rw[cX]
   simp only[Bool.false_eq_true,if_false]
   rw[qE]
   refine k _ ⟨dx,a8⟩ λc o nc ec=>?_
   rw[ag λz=>nc (List.mem_singleton.mpr z)]
   exact ec
theorem kM (G:Gs K mg a d):FnOk P w K mg base CX0 3 a.dB d.dB ["self"] (y6 w a.bX a.aH):=by
 have c_Store_read:FnOk P w K mg base CX0 2 _ _ _ _:=qc G
 have c_ahead_by:FnOk P w K mg base CX0 1 _ _ _ _:=AZ G
 refine G.qQ.ok gB (λvs H Q E h=>?_) (λcdv A' outer s H vs Q E hr h=>?_)
 . obtain⟨q,z,b,w0,w1,w2,p,M,r,A,T,rfl,_⟩:=h
   rfl
 . obtain⟨q,z,b,w0,w1,w2,p,M,r,A,T,rfl,⟨dx,hx⟩,S,hp,o1,o2,hA,hT,k⟩:=h
   refine⟨_,(@ac _ _ _ _ _ (@aB _ _ 1 _ _ _ _ gB.nd rfl (Or.inl rfl) (au (am (pv 0) rfl) G.aF G.cS c_Store_read (hr.mono (by decide)) G.dI .nil ax (@a6 _ _ _ _ _ (am (pv 0) rfl) (@a6 _ _ _ _ _ (am (pv 0) rfl) a9 (by rfl)) (by rfl))) (by rfl) (by first|exact .inl rfl|exact .inr rfl|assumption))
    (@ac _ _ _ _ _ (@aB _ _ 2 _ _ _ _ gB.nd rfl (Or.inl rfl) (au (am (pv 0) rfl) G.aF G.cS c_Store_read (hr.mono (by decide)) G.dI .nil ax (@a6 _ _ _ _ _ (am (pv 0) rfl) (@a6 _ _ _ _ _ (am (pv 0) rfl) a9 (by rfl)) (by rfl))) (by rfl) (by first|exact .inl rfl|exact .inr rfl|assumption))
    (@af _ _ _ (@ar _ _ _ _ (aP c_ahead_by (hr.mono (by decide)) (by rfl) G.wg G.pH.kp G.wD .nil ax (@a6 _ _ _ _ _ (pv 1) (@a6 _ _ _ _ _ (pv 2) (@a6 _ _ _ _ _ (am (pv 0) rfl) (@a6 _ _ _ _ _ (am (pv 0) rfl) a9 (by rfl)) (by rfl)) (by rfl)) (by rfl))))))),?_⟩
   obtain⟨dxs,hxs⟩:=S.ob
   refine⟨_,rfl,fld hx G.ay G.bv gs ⟨z.x,dxs,_,rfl,hxs,cw (by decide +kernel) (by decide +kernel),_,rfl,fld hx G.ay G.bG j2 ⟨_,rfl,fld hx G.ay G.eZ qb ⟨z.x,z.hd,z.rl,z.l,M,r,b,.str w1,.str w1,rfl,S,kS o1,?_⟩⟩⟩⟩
   rw[hA]
   refine⟨_,rfl,fld hx G.ay G.bv gs ⟨z.x,dxs,_,rfl,hxs,cw (by decide +kernel) (by decide +kernel),_,rfl,fld hx G.ay G.bG j2 ⟨_,rfl,fld hx G.ay G.dS lK ⟨z.x,z.hd,z.rl,z.l,M,r,b,.str w2,.str w2,rfl,S,kS o2,?_⟩⟩⟩⟩
   rw[hT]
   exact⟨_,rfl,_,rfl,_,rfl,fld hx G.ay G.fe qM ⟨_,rfl,fld hx G.ay G.gE rN ⟨A,T,p.s,p.R,rfl,hp.s0,hp.s8,hp.sR,k⟩⟩⟩
theorem yz (G:Gs K mg a d):FnOk P w K mg base CX0 4 a.cy d.cy ["self"] (Cd w a.bX a.aH):=by
 have c_Ring_filled:FnOk P w K mg base CX0 3 _ _ _ _:=kM G
 refine G.oI.ok mU (λvs H Q E h=>?_) (λcdv A' outer s H vs Q E hr h=>?_)
 . obtain⟨q,z,b,w0,w1,w2,p,M,r,A,T,rfl,_⟩:=h
   rfl
 . obtain⟨q,z,b,w0,w1,w2,p,M,r,A,T,rfl,⟨dx,hx⟩,S,hp,o1,o2,hA,hT,k⟩:=h
   refine⟨_,(@af _ _ _ (@ar _ _ _ _ (ii bN (aX (pv 0) G.ay G.eW c_Ring_filled (hr.mono (by decide)) G.fF .nil ax) (am (pv 0) rfl) (az _)))),?_⟩
   refine⟨_,rfl,q,dx,_,rfl,hx,kP,q,z,b,w0,w1,w2,p,M,r,A,T,rfl,⟨dx,hx⟩,S,hp,o1,o2,hA,hT,_,rfl,fld hx G.ay G.fe qM ⟨rfl,?_⟩⟩
   have e:decide (V.int ((A - T) % (p.s * p.R))=V.int p.s)=decide ((A - T) % (p.s * p.R)=p.s):=by
    rw[decide_eq_decide];exact⟨fE,λz=>by rw[z]⟩
   rw[e]
   exact k
theorem pQ (G:Gs K mg a d):FnOk P w K mg base CX0 2 a.c6 d.c6 ["self","counter"] (wV a.bX):=by
 have c_place_of:FnOk P w K mg base CX0 1 _ _ _ _:=A8 G
 refine G.o7.ok mo (λvs H Q E h=>?_) (λcdv A' outer s H vs Q E hr h=>?_)
 . obtain⟨q,st,b,w0,w1,w2,p,A,rfl,_⟩:=h
   rfl
 . obtain⟨q,st,b,w0,w1,w2,p,A,rfl,⟨dx,hx⟩,hp,k⟩:=h
   refine⟨_,(@af _ _ _ (@ar _ _ _ _ (@av _ _ _ _ _ (@a6 _ _ _ _ _ (am (pv 0) rfl) (@a6 _ _ _ _ _ (aP c_place_of (hr.mono (by decide)) (by rfl) G.wI G.pG.kp G.wm .nil ax (@a6 _ _ _ _ _ (pv 1) (@a6 _ _ _ _ _ (am (pv 0) rfl) a9 (by rfl)) (by rfl))) a9 (by rfl)) (by rfl))))),?_⟩
   exact⟨_,rfl,fld hx G.ay G.lX C4 ⟨_,rfl,_,rfl,fld hx G.ay G.fe qM ⟨A,p.s,rfl,hp.s0,l2,λt ht=>k t ht⟩⟩⟩
theorem pq (G:Gs K mg a d):FnOk P w K mg base CX0 2 a.b9 d.b9 ["self","cell","counter"] (wL w a.bX a.aH):=by
 have c_Store_write:FnOk P w K mg base CX0 1 _ _ _ _:=kQ G
 have c_next_counter:FnOk P w K mg base CX0 1 _ _ _ _:=Cv G
 refine G.ju.ok j7 (λvs H Q E h=>?_) (λcdv A' outer s H vs Q E hr h=>?_)
 . obtain⟨q,z,b,w0,w1,w2,p,M,r,A,cv,ke,rfl,_⟩:=h
   rfl
 . obtain⟨q,z,b,w0,w1,w2,p,M,r,A,cv,ke,rfl,⟨dx,hx⟩,S,hp,hl,hk,k⟩:=h
   refine⟨_,(@af _ _ _ (@aI _ _ _ _ (au (am (pv 0) rfl) G.aF G.dc c_Store_write (hr.mono (by decide)) G.dO .nil ax (@a6 _ _ _ _ _ (am (pv 0) rfl) (@a6 _ _ _ _ _ (pv 1) (@a6 _ _ _ _ _ (aP c_next_counter (hr.mono (by decide)) (by rfl) G.oF G.jK.kp G.pe .nil ax (@a6 _ _ _ _ _ (pv 2) (@a6 _ _ _ _ _ (am (pv 0) rfl) (@a6 _ _ _ _ _ (am (pv 0) rfl) a9 (by rfl)) (by rfl)) (by rfl))) a9 (by rfl)) (by rfl)) (by rfl))) (by rfl))),?_⟩
   obtain⟨dxs,hxs⟩:=S.ob
   exact⟨_,rfl,fld hx G.ay G.bv gs ⟨z.x,dxs,_,rfl,hxs,cw (by decide +kernel) (by decide +kernel),_,rfl,fld hx G.ay G.bG j2 ⟨_,rfl,_,rfl,_,rfl,fld hx G.ay G.fe qM ⟨_,rfl,fld hx G.ay G.gE rN
    ⟨A,p.s,p.R,rfl,hp.s0,hp.s8,hp.sR,z.x,z.hd,z.rl,z.l,M,r,b,cv,_,ke,rfl,S,hl,hk,λH' S' kp'=>k H' S' kp'⟩⟩⟩⟩⟩
theorem Bz (G:Gs K mg a d):FnOk P w K mg base CX0 4 a.gX d.gX ["self","name","worth"] (E9 w a.bX a.aH):=by
 have c_Store_read:FnOk P w K mg base CX0 2 _ _ _ _:=qc G
 have c_Store_write:FnOk P w K mg base CX0 1 _ _ _ _:=kQ G
 have c_Ring_write_further:FnOk P w K mg base CX0 2 _ _ _ _:=pq G
 have c_Ring_place_at:FnOk P w K mg base CX0 2 _ _ _ _:=pQ G
 refine G.wj.ok oa (λvs H Q E h=>?_) (λcdv A' outer s H vs Q E hr h=>?_)
 . obtain⟨q,z,b,w0,w1,w2,p,M,r,A,nm,wv,rfl,_⟩:=h
   rfl
 . obtain⟨q,z,b,w0,w1,w2,p,M,r,A,nm,wv,rfl,⟨dx,hx⟩,S,hp,o0,o1,hl,hA,k⟩:=h
   refine⟨_,(@ac _ _ _ _ _ (@aB _ _ 3 _ _ _ _ oa.nd rfl (Or.inl rfl) (au (am (pv 0) rfl) G.aF G.cS c_Store_read (hr.mono (by decide)) G.dI .nil ax (@a6 _ _ _ _ _ (am (pv 0) rfl) (@a6 _ _ _ _ _ (am (pv 0) rfl) a9 (by rfl)) (by rfl))) (by rfl) (by first|exact .inl rfl|exact .inr rfl|assumption))
    (@ac _ _ _ _ _ (aM (cm (am (pv 0) rfl)) (@af _ _ _ (@aI _ _ _ _ (au (pv 0) G.ay G.cJ c_Ring_write_further (hr.mono (by decide)) G.cV .nil ax (@a6 _ _ _ _ _ (am (pv 0) rfl) (@a6 _ _ _ _ _ (pv 3) a9 (by rfl)) (by rfl))) (by rfl))) ao)
    (@ac _ _ _ _ _ (@aI _ _ _ _ (au (am (pv 0) rfl) G.aF G.dc c_Store_write (hr.mono (by decide)) G.dO .nil ax (@a6 _ _ _ _ _ (am (pv 0) rfl) (@a6 _ _ _ _ _ (au (pv 0) G.ay G.iL c_Ring_place_at (hr.mono (by decide)) G.iY .nil ax (@a6 _ _ _ _ _ (pv 3) a9 (by rfl))) (@a6 _ _ _ _ _ (@av _ _ _ _ _ (@a6 _ _ _ _ _ (pv 1) (@a6 _ _ _ _ _ (pv 2) a9 (by rfl)) (by rfl))) a9 (by rfl)) (by rfl)) (by rfl))) (by rfl))
    (@af _ _ _ (aM (eE (cm (am (pv 0) rfl))) (@af _ _ _ (@aI _ _ _ _ (au (pv 0) G.ay G.cJ c_Ring_write_further (hr.mono (by decide)) G.cV .nil ax (@a6 _ _ _ _ _ (am (pv 0) rfl) (@a6 _ _ _ _ _ (pv 3) a9 (by rfl)) (by rfl))) (by rfl))) ao))))),?_⟩
   obtain⟨dxs,hxs⟩:=S.ob
   refine⟨_,rfl,fld hx G.ay G.bv gs ⟨z.x,dxs,_,rfl,hxs,cw (by decide +kernel) (by decide +kernel),_,rfl,fld hx G.ay G.bG j2 ⟨_,rfl,fld hx G.ay G.eZ qb ⟨z.x,z.hd,z.rl,z.l,M,r,b,.str w1,.str w1,rfl,S,kS o1,?_⟩⟩⟩⟩
   rw[hA]
   refine⟨_,rfl,fld hx G.ay G.bJ pZ ⟨_,rfl,?_⟩⟩
   cases he:p.e with
  |true =>
    refine iT ?_
    refine⟨_,rfl,q,dx,_,rfl,hx,ly,_,rfl,fld hx G.ay G.eZ qb ⟨_,rfl,q,z,b,w0,w1,w2,p,M,r,A,.str w1,.str w1,rfl,⟨dx,hx⟩,S,hp,by omega,kS o1,λH1 S1 kp1=>?_⟩⟩
    have hx1:=kp1 _ _ (S.noI hx) hx
    obtain⟨dx1,hs1⟩:=S1.ob
    refine⟨_,rfl,fld hx1 G.ay G.bv gs ⟨z.x,dx1,_,rfl,hs1,cw (by decide +kernel) (by decide +kernel),_,rfl,fld hx1 G.ay G.bG j2 ⟨_,rfl,q,dx,_,rfl,hx1,qd,_,rfl,q,z.x,b,w0,w1,w2,p,A,rfl,⟨dx,hx1⟩,hp,λt1 ht1=>⟨_,rfl,_,rfl,l2,λt2 ht2=>?_⟩⟩⟩⟩
    have e1:=ah (o:=.tup [V.str w0,V.int (A % p.s)]) ht1
    have e2:=ah (o:=.tup [nm,wv]) ht2
    have e12:=e1.trans e2
    have S2:=S1.same e12
    have v1:=e2 _ _ (a8 (H:=H1) (a:=t1) (o:=.tup [V.str w0,V.int (A % p.s)]))
    have v2:=a8 (H:=upd H1 t1 (.tup [V.str w0,V.int (A % p.s)])) (a:=t2) (o:=.tup [nm,wv])
    have n2:H t2=none:=gc kp1 (bK e1 ht2) λx hx=>by
     obtain⟨ts,e,_⟩:=S1.rw b
     rw[List.mem_singleton.mp hx,e];intro z;cases z
    have hx2:=e12 _ _ hx1
    generalize upd (upd H1 t1 (.tup [V.str w0,V.int (A % p.s)])) t2 (.tup [nm,wv])=H2 at e2 e12 S2 v1 v2 hx2 |-
    refine⟨z.x,z.hd,z.rl,z.l,M,_,b,.ref t1,.ref t2,.tuple [.str w0,.int (A % p.s)],rfl,S2,by rw[aS,List.length_append];show _+1 < _;omega,kT o0 v1,λH3 S3 kp3=>?_⟩
    have hx3:=kp3 _ _ (S2.noI hx2) hx2
    refine⟨_,rfl,fld hx3 G.ay G.bJ pZ ⟨_,rfl,?_⟩⟩
    rw[he]
    refine fw ?_
    refine k t2 H3 n2 (kp3 _ _ (S2.noT v2) v2) ?_ λc o n e=>kp3 c o n (e12 _ _ (kp1 c o n e))
    rw[aS,pN,List.append_assoc]at S3
    unfold mP
    rw[he]
    exact S3
  |false =>
    refine fw ?_
    refine⟨_,rfl,fld hx G.ay G.bv gs ⟨z.x,dxs,_,rfl,hxs,cw (by decide +kernel) (by decide +kernel),_,rfl,fld hx G.ay G.bG j2 ⟨_,rfl,q,dx,_,rfl,hx,qd,_,rfl,q,z.x,b,w0,w1,w2,p,A,rfl,⟨dx,hx⟩,hp,λt1 ht1=>⟨_,rfl,_,rfl,l2,λt2 ht2=>?_⟩⟩⟩⟩
    have e1:=ah (o:=.tup [V.str w0,V.int (A % p.s)]) ht1
    have e2:=ah (o:=.tup [nm,wv]) ht2
    have e12:=e1.trans e2
    have S2:=S.same e12
    have v1:=e2 _ _ (a8 (H:=H) (a:=t1) (o:=.tup [V.str w0,V.int (A % p.s)]))
    have v2:=a8 (H:=upd H t1 (.tup [V.str w0,V.int (A % p.s)])) (a:=t2) (o:=.tup [nm,wv])
    have n2:H t2=none:=bK e1 ht2
    have hx2:=e12 _ _ hx
    generalize upd (upd H t1 (.tup [V.str w0,V.int (A % p.s)])) t2 (.tup [nm,wv])=H2 at e2 e12 S2 v1 v2 hx2 |-
    refine⟨z.x,z.hd,z.rl,z.l,M,r,b,.ref t1,.ref t2,.tuple [.str w0,.int (A % p.s)],rfl,S2,by omega,kT o0 v1,λH3 S3 kp3=>?_⟩
    have hx3:=kp3 _ _ (S2.noI hx2) hx2
    refine⟨_,rfl,fld hx3 G.ay G.bJ pZ ⟨_,rfl,?_⟩⟩
    rw[he]
    refine iT ?_
    refine⟨_,rfl,q,dx,_,rfl,hx3,ly,_,rfl,fld hx3 G.ay G.eZ qb ⟨_,rfl,q,z,b,w0,w1,w2,p,M,_,A,.str w1,.str w1,rfl,⟨dx,hx3⟩,S3,hp,by rw[aS,List.length_append];show _+1 < _;omega,kS o1,λH4 S4 kp4=>?_⟩⟩
    have v3:=kp3 _ _ (S2.noT v2) v2
    refine k t2 H4 n2 (kp4 _ _ (S3.noT v3) v3) ?_ λc o n e=>kp4 c o n (kp3 c o n (e12 _ _ e))
    rw[aS,pN,List.append_assoc]at S4
    unfold mP
    rw[he]
    exact S4
theorem uE (G:Gs K mg a d):FnOk P w K mg base CX0 5 a.eN d.eN ["self"] (zM w a.bX a.aH):=by
 have c_Store_read:FnOk P w K mg base CX0 2 _ _ _ _:=qc G
 have c_Ring_filled:FnOk P w K mg base CX0 3 _ _ _ _:=kM G
 have c_Ring_write_further:FnOk P w K mg base CX0 2 _ _ _ _:=pq G
 have c_Ring_place_at:FnOk P w K mg base CX0 2 _ _ _ _:=pQ G
 refine G.sO.ok iq (λvs H Q E h=>?_) (λcdv A' outer s H vs Q E hr h=>?_)
 . obtain⟨q,z,b,w0,w1,w2,p,M,r,A,T,rfl,_⟩:=h
   rfl
 . obtain⟨q,z,b,w0,w1,w2,p,M,r,A,T,rfl,⟨dx,hx⟩,S,hp,o0,o1,o2,hl,hA,hT,k⟩:=h
   refine⟨_,(@ac _ _ _ _ _ (aM (aq bN (aX (pv 0) G.ay G.eW c_Ring_filled (hr.mono (by decide)) G.fF .nil ax) ae (az _)) (@af _ _ _ (@ar _ _ _ _ cC)) ao)
    (@ac _ _ _ _ _ (@aB _ _ 1 _ _ _ _ iq.nd rfl (Or.inl rfl) (au (am (pv 0) rfl) G.aF G.cS c_Store_read (hr.mono (by decide)) G.dI .nil ax (@a6 _ _ _ _ _ (am (pv 0) rfl) (@a6 _ _ _ _ _ (am (pv 0) rfl) a9 (by rfl)) (by rfl))) (by rfl) (by first|exact .inl rfl|exact .inr rfl|assumption))
    (@ac _ _ _ _ _ (@aB _ _ 2 _ _ _ _ iq.nd rfl (Or.inl rfl) (au (am (pv 0) rfl) G.aF G.cS c_Store_read (hr.mono (by decide)) G.dI .nil ax (@a6 _ _ _ _ _ (am (pv 0) rfl) (@a6 _ _ _ _ _ (au (pv 0) G.ay G.iL c_Ring_place_at (hr.mono (by decide)) G.iY .nil ax (@a6 _ _ _ _ _ (pv 1) a9 (by rfl))) a9 (by rfl)) (by rfl))) (by rfl) (by first|exact .inl rfl|exact .inr rfl|assumption))
    (@ac _ _ _ _ _ (@aI _ _ _ _ (au (pv 0) G.ay G.cJ c_Ring_write_further (hr.mono (by decide)) G.cV .nil ax (@a6 _ _ _ _ _ (am (pv 0) rfl) (@a6 _ _ _ _ _ (pv 1) a9 (by rfl)) (by rfl))) (by rfl))
    (@af _ _ _ (@ar _ _ _ _ (kF (cm (aZ cB (by rfl) G.bn ba (@a6 _ _ _ _ _ (pv 2) (@a6 _ _ _ _ _ (hV (v:=.ty "tuple") (by rfl) G.fU dX rfl) a9 (by rfl)) (by rfl)))) (pv 2) (@av _ _ _ _ _ (@a6 _ _ _ _ _ cC (@a6 _ _ _ _ _ cC a9 (by rfl)) (by rfl)))))))))),?_⟩
   obtain⟨dxs,hxs⟩:=S.ob
   refine⟨_,rfl,q,dx,_,rfl,hx,kP,q,z,b,w0,w1,w2,p,M,r,A,T,rfl,⟨dx,hx⟩,S,hp,o1,o2,hA,hT,rfl,_,rfl,?_⟩
   by_cases h0:(A - T) % (p.s * p.R)=0
   . rw[if_pos h0]at k
     rw[h0]
     exact AQ rfl k
   rw[if_neg h0]at k
   refine zv (λz=>h0 (fE z)) ?_
   refine⟨_,rfl,fld hx G.ay G.bv gs ⟨z.x,dxs,_,rfl,hxs,cw (by decide +kernel) (by decide +kernel),_,rfl,fld hx G.ay G.bG j2 ⟨_,rfl,fld hx G.ay G.dS lK ⟨z.x,z.hd,z.rl,z.l,M,r,b,.str w2,.str w2,rfl,S,kS o2,?_⟩⟩⟩⟩
   rw[hT]
   refine⟨_,rfl,fld hx G.ay G.bv gs ⟨z.x,dxs,_,rfl,hxs,cw (by decide +kernel) (by decide +kernel),_,rfl,fld hx G.ay G.bG j2 ⟨_,rfl,q,dx,_,rfl,hx,qd,_,rfl,q,z.x,b,w0,w1,w2,p,T,rfl,⟨dx,hx⟩,hp,λt1 ht1=>?_⟩⟩⟩
   have e1:=ah (o:=.tup [V.str w0,V.int (T % p.s)]) ht1
   have S1:=S.same e1
   have v1:=a8 (H:=H) (a:=t1) (o:=.tup [V.str w0,V.int (T % p.s)])
   have hx1:=e1 _ _ hx
   generalize upd H t1 (.tup [V.str w0,V.int (T % p.s)])=H1 at e1 S1 v1 hx1 |-
   refine⟨z.x,z.hd,z.rl,z.l,M,r,b,.ref t1,.tuple [.str w0,.int (T % p.s)],rfl,S1,kT o0 v1,?_⟩
   refine⟨_,rfl,q,dx,_,rfl,hx1,ly,_,rfl,fld hx1 G.ay G.dS lK ⟨_,rfl,q,z,b,w0,w1,w2,p,M,r,T,.str w2,.str w2,rfl,⟨dx,hx1⟩,S1,hp,hl,kS o2,λH2 S2 kp2=>?_⟩⟩
   rcases k with⟨c,vs,e,hc,k⟩|⟨i,e,k⟩
   . rw[e]
     have hc2:=kp2 _ _ (S1.noT (e1 _ _ hc)) (e1 _ _ hc)
     exact⟨_,rfl,_,_,_,true,rfl,TyOf.tup hc2,sH,_,rfl,iT ⟨_,rfl,k H2 S2 λc o n q=>kp2 c o n (e1 _ _ q)⟩⟩
   . rw[e]
     refine⟨_,rfl,_,_,_,false,rfl,TyOf.int i,Fv,_,rfl,fw ⟨l2,λt ht=>?_⟩⟩
     have e3:=ah (o:=.tup [V.non,V.non]) ht
     have n3:H t=none:=bK e1 (gc kp2 ht λx hx=>by
      obtain⟨ts,e,_⟩:=S2.rw b
      rw[List.mem_singleton.mp hx,e];intro z;cases z)
     exact k t _ n3 a8 (S2.same e3) λc o n q=>e3 _ _ (kp2 c o n (e1 _ _ q))
end
def Ae (CH CR:Addr):Sp:=λvs H Q _=>∃ (h dx st ft:Addr) (s R n:Int) (fs:List Str),vs=[.ref h,.ref st,.int s,.int R,.int n,.ref ft]/\H h=some (.ins CH dx [])/\H ft=some (.tup (fs.map V.str)) /\
 ∀ (z:HA) (H':Hp),z.h=h->H z.ra=none->H z.rb=none->H z.gd=none->Hn CH CR H' z st ⟨s,if fs.contains "round" then 1 else R,fs.contains "counter"⟩ n []->Kp [h] H H'->Q .non H'
def zK (CH CR:Addr):Sp:=λvs H Q _=>∃ (z:HA) (st:Addr) (p:RP) (n:Nat) (aw:List Int),vs=[.ref z.h]/\Hn CH CR H z st p n aw/\n <= 9/\Q (match d9 n aw with|some k=>.int k|none=>.non) H
def uD (w:World) (CH CR CS F N:Addr):Sp:=λvs H Q E=>∃ (z:HA) (sa:SA) (p:RP) (n:Nat) (aw:List Int) (M:List (PyData × V)) (r:Bool->List (PyData × V)) (A T:Int),vs=[.ref z.h]/\Hn CH CR H z sa.x p n aw/\sa.At w CS H M r/\p.Ok/\n <= 9 /\
 cr M (r false) (.str "asked")=.int A/\cr M (r false) (.str "taken")=.int T/\if (A - T) % (p.s * p.R)=p.s then E (.ref F) none H else match d9 n aw with|none=>E (.ref N) none H|some _=>Q .non H
def Bi (w:World) (CH CR CS F N:Addr):Sp:=λvs H Q E=>∃ (z:HA) (sa:SA) (p:RP) (n:Nat) (aw:List Int) (M:List (PyData × V)) (r:Bool->List (PyData × V)) (wv:V) (A T:Int),vs=[.ref z.h,wv]/\Hn CH CR H z sa.x p n aw/\sa.At w CS H M r/\p.Ok/\n <= 9/\aw.length < 1000/\(r false).length < 99999 /\
 cr M (r false) (.str "asked")=.int A/\cr M (r false) (.str "taken")=.int T/\if (A - T) % (p.s * p.R)=p.s then E (.ref F) none H else match d9 n aw with
 |none=>E (.ref N) none H
 |some nm=>∀ t H',H t=none->H' t=some (.tup [.int nm,wv])->Hn CH CR H' z sa.x p n (aw++[nm])->sa.At w CS H' M (bt r false (r false++mP p "ask" "asked" A (.ref t)))->Kp [z.gd,sa.l false] H H'->Q (.int nm) H'
def Af (CH CR:Addr):Sp:=λvs H Q _=>∃ (z:HA) (st:Addr) (p:RP) (n:Int) (aw:List Int),vs=[.ref z.h]/\Hn CH CR H z st p n aw/\aw.length < 64/\∀ (l:Addr) (ns:List Int),H l=none->ns.Perm aw->ns.Pairwise (· <= ·)->Q (.ref l) (upd H l (.lst (ns.map V.int)))
def pj (w:World) (CH CR CS:Addr):Sp:=λvs H Q _=>∃ (z:HA) (sa:SA) (p:RP) (n:Int) (aw:List Int) (M:List (PyData × V)) (r:Bool->List (PyData × V)) (A T:Int),vs=[.ref z.h]/\Hn CH CR H z sa.x p n aw/\sa.At w CS H M r/\p.Ok/\(r false).length < 100000 /\
 cr M (r false) (.str "answered")=.int A/\cr M (r false) (.str "handed")=.int T/\(if (A - T) % (p.s * p.R)=0 then Q .non H else
  (∃ c nm wv,cr M (r false) (.tuple [.str "answer",.int (T % p.s)])=.ref c/\H c=some (.tup [.int nm,wv])/\∀ H',Hn CH CR H' z sa.x p n (aw.filter λk=>decide (k≠nm))->sa.At w CS H' M (bt r false (r false++[(.str "handed",.int ((T+1) % (p.s * p.R)))]))->Kp [z.gd,sa.l false] H H'->Q (.ref c) H') \/
  ∃ i,cr M (r false) (.tuple [.str "answer",.int (T % p.s)])=.int i/\∀ t H',H t=none->H' t=some (.tup [.non,.non])->Hn CH CR H' z sa.x p n aw->sa.At w CS H' M (bt r false (r false++[(.str "handed",.int ((T+1) % (p.s * p.R)))]))->Kp [sa.l false] H H'->Q (.ref t) H')
section
variable {P:Program}{w:World}{K:PySem.W.Frag}{mg:Str->Option Value}{base:Heap}{a:Ad}{d:Fd}
theorem A4 (G:Gs K mg a d):FnOk P w K mg base CX0 4 a.eO d.eO ["self","store","size","rounds","names","faults"] (Ae a.d4 a.bX):=by
 have c_Ring__init:FnOk P w K mg base CX0 2 _ _ _ _:=uS G
 refine G.sY.ok qO (λvs H Q E h=>?_) (λcdv A outer s H vs Q E hr h=>?_)
 . obtain⟨h,dx,st,ft,s,R,n,fs,rfl,_⟩:=h
   rfl
 . obtain⟨h,dx,st,ft,s,R,n,fs,rfl,hx,hf,k⟩:=h
   refine⟨_,(@ac _ _ _ _ _ (bF (pv 0) (jO G.uN c_Ring__init (hr.mono (by decide)) (by rfl) G.vn G.gm .nil ax (@a6 _ _ _ _ _ (pv 1) (@a6 _ _ _ _ _ ae (@a6 _ _ _ _ _ (eI (v:=.ref a.jJ) (by rfl) G.B6 rfl) (@a6 _ _ _ _ _ (pv 2) (@a6 _ _ _ _ _ (pv 3) (@a6 _ _ _ _ _ (pv 5) a9 (by rfl)) (by rfl)) (by rfl)) (by rfl)) (by rfl)) (by rfl))) rfl)
    (@ac _ _ _ _ _ (bF (pv 0) (jO G.uN c_Ring__init (hr.mono (by decide)) (by rfl) G.vn G.gm .nil ax (@a6 _ _ _ _ _ (pv 1) (@a6 _ _ _ _ _ ae (@a6 _ _ _ _ _ (eI (v:=.ref a.d8) (by rfl) G.sE rfl) (@a6 _ _ _ _ _ (pv 2) (@a6 _ _ _ _ _ (pv 3) (@a6 _ _ _ _ _ (pv 5) a9 (by rfl)) (by rfl)) (by rfl)) (by rfl)) (by rfl)) (by rfl))) rfl)
    (@ac _ _ _ _ _ (bF (pv 0) (pv 4) rfl)
    (@af _ _ _ (bF (pv 0) qg rfl))))),?_⟩
   refine⟨_,rfl,_,rfl,_,rfl,_,rfl,λra da na nda nea=>?_⟩
   refine⟨ra,da,st,a.jJ,ft,false,"ask","asked","taken",s,R,fs,rfl,a8,G.BA,?_,λH1 r1 kp1=>?_⟩
   . rw[ag (aj hf na),ag (aj hf nda)];exact hf
   have e1:bU H H1:=λc o e=>kp1 c o (λz=>aj e na (List.mem_singleton.mp z)) (by rw[ag (aj e na),ag (aj e nda)];exact e)
   clear kp1
   refine⟨rfl,_,rfl,h,a.d4,dx,[],rfl,e1 _ _ hx,G.br,G.j5,by decide,?_⟩
   have n1:ra≠h:=λz=>by rw[z,hx]at na;cases na
   have hx1:=e1 _ _ hx
   have kp2:Kp [h] H (upd H1 h (.ins a.d4 dx (bP "asks" (.ref ra) []))):=λc o n e=>by rw[ag λz=>n (List.mem_singleton.mpr z)];exact e1 _ _ e
   have hx2:upd H1 h (.ins a.d4 dx (bP "asks" (.ref ra) [])) h=some (.ins a.d4 dx (bP "asks" (.ref ra) [])):=a8
   have r2:=r1.keep (H':=upd H1 h (.ins a.d4 dx (bP "asks" (.ref ra) []))) λo e=>by rw[ag n1];exact e
   have hf2:upd H1 h (.ins a.d4 dx (bP "asks" (.ref ra) [])) ft=some (.tup (fs.map V.str)):=by
    rw[ag (hZ (e1 _ _ hf) hx1 (by intro z;cases z))];exact e1 _ _ hf
   generalize upd H1 h (.ins a.d4 dx (bP "asks" (.ref ra) []))=H2 at kp2 hx2 r2 hf2 |-
   refine⟨_,rfl,_,rfl,_,rfl,_,rfl,λrb db nb ndb neb=>?_⟩
   refine⟨rb,db,st,a.d8,ft,false,"answer","answered","handed",s,R,fs,rfl,a8,G.sX,?_,λH3 r3 kp3=>?_⟩
   . rw[ag (aj hf2 nb),ag (aj hf2 ndb)];exact hf2
   have e3:bU H2 H3:=λc o e=>kp3 c o (λz=>aj e nb (List.mem_singleton.mp z)) (by rw[ag (aj e nb),ag (aj e ndb)];exact e)
   clear kp3
   have nbH:H rb=none:=gc kp2 nb λx m=>by rw[List.mem_singleton.mp m,hx2];intro z;cases z
   have n3:rb≠h:=λz=>by rw[z,hx2]at nb;cases nb
   refine⟨rfl,_,rfl,h,a.d4,dx,_,rfl,e3 _ _ hx2,G.br,G.fT,by show 1 < 1000;decide,?_⟩
   refine⟨_,rfl,_,rfl,h,a.d4,dx,_,rfl,a8,G.br,G.ky,by show 2 < 1000;decide,?_⟩
   rw[cX]
   refine λgd hg=>⟨_,rfl,h,a.d4,dx,_,rfl,(by rw[ag (aj a8 hg)];exact a8),G.br,G.cR,by show 3 < 1000;decide,?_⟩
   obtain⟨ng,hg3⟩:=up1 hg
   have gdH:H gd=none:=gc kp2 (bK e3 hg3) λx m=>by rw[List.mem_singleton.mp m,hx2];intro z;cases z
   refine k ⟨h,ra,rb,gd⟩ _ rfl na nbH gdH ⟨⟨dx,a8⟩,(r2.keep λo e=>e3 _ _ e).keep λo e=>?_,r3.keep λo e=>?_,?_⟩ λc o nc ec=>?_
   . rw[ag n1,ag (aj e hg3),ag n1];exact e
   . rw[ag n3,ag (aj e hg3),ag n3];exact e
   . rw[ag ng,a8];rfl
   . have c1:c≠h:=λz=>nc (List.mem_singleton.mpr z)
     have e4:=e3 _ _ (kp2 c o nc ec)
     rw[ag c1,ag (aj e4 hg3),ag c1];exact e4
theorem uW (G:Gs K mg a d):FnOk P w K mg base CX0 1 a.bx d.bx ["self"] (zK a.d4 a.bX):=by
 refine G.lx.ok gu (λvs H Q E h=>?_) (λcdv A outer s H vs Q E hr h=>?_)
 . obtain⟨z,st,p,n,aw,rfl,_⟩:=h
   rfl
 . obtain⟨z,st,p,n,aw,rfl,hn,hn9,k⟩:=h
   have hu:=eC hr
   refine⟨_,(@ac _ _ _ _ _ (kN PassesOwn.never rfl (yC (by rfl) G.Cl (@a6 _ _ _ _ _ (am (pv 0) rfl) a9 (by rfl))) (cZ (i:=1) gu.nd rfl (Or.inl rfl)) (@af _ _ _ (aM (By (t9 hu (pv 1) (am (pv 0) rfl))) (@af _ _ _ (@ar _ _ _ _ (pv 1))) ao)))
    (@af _ _ _ (@ar _ _ _ _ cC))),?_⟩
   obtain⟨dx,hx⟩:=hn.ob
   refine⟨_,rfl,fld hx G.br G.ky Ax ⟨n,rfl,by omega,by omega,?_⟩⟩
   refine zc (n:=((n:Nat):Int).toNat) (λi σ H'=>(∃ v,σ=[some (.ref z.h),v])/\H'=H/\∀ j < i,aw.contains (j:Int)=true) ⟨⟨_,rfl⟩,rfl,λj hj=>absurd hj (by omega)⟩ ?_ ?_
   . rintro i σ H' hi ⟨⟨v,rfl⟩,rfl,hno⟩
     rw[Int.zero_add]
     refine⟨_,rfl,_,rfl,fld hx G.br G.cR kJ ⟨z.gd,_,rfl,Dc.k (k:=.inl (i:Int)) hn.go,_,rfl,?_⟩⟩
     rw[nE]
     cases hc:aw.contains (i:Int) with
    |false =>
      rw[wJ (by omega) hc hno]at k
      exact iT ⟨_,rfl,k⟩
    |true =>
      refine fw ⟨⟨_,rfl⟩,rfl,λj hj=>?_⟩
      by_cases hji:j < i
      . exact hno j hji
      . have e:j=i:=by omega
        rw[e];exact hc
   . rintro σ H' ⟨⟨v,rfl⟩,rfl,hno⟩
     rw[ww λj hj=>hno j (by omega)]at k
     exact k
theorem qz (G:Gs K mg a d):FnOk P w K mg base (CXv P w) 6 a.bO d.bO ["self"] (uD w a.d4 a.bX a.aH a.r9 a.fA):=by
 have c_Ring_is_full:FnOk P w K mg base CX0 4 _ _ _ _:=yz G
 have c_Hand_least_free:FnOk P w K mg base CX0 1 _ _ _ _:=uW G
 refine G.m9.okX (k:=5) lH (λvs H Q E h=>?_) (λcdv A' outer s' H vs Q E hr hR h=>?_)
 . obtain⟨z,sa,p,n,aw,M,r,A,T,rfl,_⟩:=h
   rfl
 . obtain⟨z,sa,p,n,aw,M,r,A,T,rfl,hn,S,hp,n9,hA,hT,k⟩:=h
   refine⟨_,(@ac _ _ _ _ _ (aM (cm (aX (am (pv 0) rfl) G.ay G.j8 c_Ring_is_full (hr.mono (by decide)) G.jM .nil ax)) (@af _ _ _ (eV hR hr.hd (by rfl) G.sQ G.xc_Full (@a6 _ _ _ _ _ ai a9 (by rfl)))) ao)
    (@af _ _ _ (aM (aq xJ (aX (pv 0) G.br G.gr c_Hand_least_free (hr.mono (by decide)) G.gJ .nil ax) cC (az _)) (@af _ _ _ (eV hR hr.hd (by rfl) G.mB G.xc_NoName (@a6 _ _ _ _ _ ai a9 (by rfl)))) ao))),?_⟩
   obtain⟨dx,hx⟩:=hn.ob
   obtain⟨dr,hra⟩:=hn.ra
   refine⟨_,rfl,fld hx G.br G.j5 xT ⟨z.ra,dr,_,rfl,hra,y7,z.ra,sa,false,"ask","asked","taken",p,M,r,A,T,rfl,⟨dr,hra⟩,S,hp,by decide +kernel,by decide +kernel,hA,hT,_,rfl,?_⟩⟩
   by_cases hc:(A - T) % (p.s * p.R)=p.s
   . rw[if_pos hc]at k
     exact AQ hc ⟨by show 1 <= sizeLine;decide,k⟩
   rw[if_neg hc]at k
   refine zv hc ?_
   refine⟨_,rfl,z.h,dx,_,rfl,hx,vh,z,sa.x,p,n,aw,rfl,hn,n9,rfl,_,rfl,?_⟩
   cases hle:d9 n aw with
  |none =>
    rw[hle]at k
    exact AQ rfl ⟨by show 1 <= sizeLine;decide,k⟩
  |some nm =>
    rw[hle]at k
    exact zv (by intro z;cases z) k
theorem DP (G:Gs K mg a d):FnOk P w K mg base (CXv P w) 8 a.im d.im ["self","worth"] (Bi w a.d4 a.bX a.aH a.r9 a.fA):=by
 have cx_Hand_check_ask:FnOk P w K mg base (CXv P w) 6 _ _ _ _:=qz G
 have c_Hand_least_free:FnOk P w K mg base CX0 1 _ _ _ _:=uW G
 have c_Ring_lay:FnOk P w K mg base CX0 4 _ _ _ _:=Bz G
 refine G.wM.okX (k:=7) og (λvs H Q E h=>?_) (λcdv A' outer s' H vs Q E hr hR h=>?_)
 . obtain⟨z,sa,p,n,aw,M,r,wv,A,T,rfl,_⟩:=h
   rfl
 . obtain⟨z,sa,p,n,aw,M,r,wv,A,T,rfl,hn,S,hp,n9,hal,hrl,hA,hT,k⟩:=h
   have hu:=eC hr
   refine⟨_,(@ac _ _ _ _ _ (@aI _ _ _ _ (aX (pv 0) G.br G.eM cx_Hand_check_ask (hr.mono (by decide)) G.fm .nil hR.passes) (by rfl))
    (@ac _ _ _ _ _ (@aB _ _ 2 _ _ _ _ og.nd rfl (Or.inl rfl) (aX (pv 0) G.br G.gr c_Hand_least_free (hr.mono (by decide)) G.gJ .nil ax) (by rfl) (by first|exact .inl rfl|exact .inr rfl|assumption))
    (@ac _ _ _ _ _ (zg hu (am (pv 0) rfl) (pv 2) cn rfl)
    (@ac _ _ _ _ _ (@aI _ _ _ _ (au (am (pv 0) rfl) G.ay G.om c_Ring_lay (hr.mono (by decide)) G.pC .nil ax (@a6 _ _ _ _ _ (pv 2) (@a6 _ _ _ _ _ (pv 1) a9 (by rfl)) (by rfl))) (by rfl))
    (@af _ _ _ (@ar _ _ _ _ (pv 2))))))),?_⟩
   obtain⟨dx,hx⟩:=hn.ob
   refine⟨_,rfl,z.h,dx,_,rfl,hx,vt,z,sa,p,n,aw,M,r,A,T,rfl,hn,S,hp,n9,hA,hT,?_⟩
   by_cases hc:(A - T) % (p.s * p.R)=p.s
   . rw[if_pos hc]at k |-
     exact k
   rw[if_neg hc]at k |-
   cases hle:d9 n aw with
  |none=>rw[hle]at k;exact k
  |some nm =>
    rw[hle]at k
    refine⟨_,rfl,z.h,dx,_,rfl,hx,vh,z,sa.x,p,n,aw,rfl,hn,n9,?_⟩
    rw[hle]
    refine⟨_,rfl,fld hx G.br G.cR kJ ⟨_,rfl,z.gd,_,rfl,Da.k (k:=.inl nm) hn.go (Nat.lt_of_lt_of_le (by rw[Bo];exact hal) (by decide)),?_⟩⟩
    rw[Bk nm aw (pz hle)]
    have n1:z.h≠z.gd:=hZ hx hn.go (by intro z;cases z)
    have kp1:Kp [z.gd] H (upd H z.gd (.dK (gK (aw++[nm])))):=Kp.one
    have S1:=Sto.kp S kp1 (λc hc=>by rw[List.mem_singleton.mp hc];exact S.noD hn.go) (λc hc vs e=>by rw[List.mem_singleton.mp hc,hn.go]at e;cases e)
    have hn1:Hn a.d4 a.bX (upd H z.gd (.dK (gK (aw++[nm])))) z sa.x p n (aw++[nm]):=by
     obtain⟨d1,x1⟩:=hn.ra
     obtain⟨d2,x2⟩:=hn.rb
     exact⟨⟨dx,by rw[ag n1];exact hx⟩,⟨d1,by rw[ag (hZ x1 hn.go (by intro z;cases z))];exact x1⟩,⟨d2,by rw[ag (hZ x2 hn.go (by intro z;cases z))];exact x2⟩,a8⟩
    generalize upd H z.gd (.dK (gK (aw++[nm])))=H1 at kp1 S1 hn1 |-
    obtain⟨dx1,hx1⟩:=hn1.ob
    obtain⟨dr,hra⟩:=hn1.ra
    refine⟨_,rfl,fld hx1 G.br G.j5 xT ⟨z.ra,dr,_,rfl,hra,Bc,_,rfl,_,rfl,z.ra,sa,false,"ask","asked","taken",p,M,r,A,.int nm,wv,rfl,⟨dr,hra⟩,S1,hp,by decide +kernel,by decide +kernel,hrl,hA,λt H2 n2 v2 S2 kp2=>⟨_,rfl,?_⟩⟩⟩
    refine k t H2 (gc kp1 n2 λx m=>by rw[List.mem_singleton.mp m,hn1.go];intro z;cases z) v2 (hn1.lists kp2 λc m=>.inl ?_) S2 λc o nc e=>?_
    . obtain⟨ts,e,_⟩:=S1.rw false
      exact⟨ts,by rw[List.mem_singleton.mp m];exact e⟩
    . exact kp2 c o (λm=>nc (List.mem_cons_of_mem _ m)) (kp1 c o (λm=>nc (by rw[List.mem_singleton.mp m];exact List.mem_cons_self)) e)
theorem AU (G:Gs K mg a d):FnOk P w K mg base CX0 1 a.bQ d.bQ ["self"] (Af a.d4 a.bX):=by
 refine G.m7.ok lc (λvs H Q E h=>?_) (λcdv A outer s H vs Q E hr h=>?_)
 . obtain⟨z,st,p,n,aw,rfl,_⟩:=h
   rfl
 . obtain⟨z,st,p,n,aw,rfl,hn,hl,k⟩:=h
   refine⟨_,(@af _ _ _ (@ar _ _ _ _ (aZ (lO rfl) (by rfl) G.qZ n8 (@a6 _ _ _ _ _ (am (pv 0) rfl) a9 (by rfl))))),?_⟩
   obtain⟨dx,hx⟩:=hn.ob
   exact⟨_,rfl,fld hx G.br G.cR kJ ⟨z.gd,_,aw,rfl,hn.go,by unfold gK;rw[List.map_map];rfl,hl,λp ns hp h1 h2=>k p ns hp h1 h2⟩⟩
theorem pA (G:Gs K mg a d):FnOk P w K mg base CX0 7 a.cH d.cH ["self"] (pj w a.d4 a.bX a.aH):=by
 have c_Ring_fetch:FnOk P w K mg base CX0 5 _ _ _ _:=uE G
 refine G.oN.ok iW (λvs H Q E h=>?_) (λcdv A' outer s' H vs Q E hr h=>?_)
 . obtain⟨z,sa,p,n,aw,M,r,A,T,rfl,_⟩:=h
   rfl
 . obtain⟨z,sa,p,n,aw,M,r,A,T,rfl,hn,S,hp,hrl,hA,hT,k⟩:=h
   refine⟨_,(@ac _ _ _ _ _ (@aB _ _ 1 _ _ _ _ iW.nd rfl (Or.inl rfl) (aX (am (pv 0) rfl) G.ay G.kX c_Ring_fetch (hr.mono (by decide)) G.lN .nil ax) (by rfl) (by first|exact .inl rfl|exact .inr rfl|assumption))
    (@ac _ _ _ _ _ (aM (aq lv (pv 1) cC (az _)) (@af _ _ _ (@aI _ _ _ _ (xz (am (pv 0) rfl) (@aK _ _ _ _ _ _ _ aC (pv 1) ae (λ_ _=>rfl)) cC ⟨rfl,rfl,rfl,rfl⟩) (by rfl))) ao)
    (@af _ _ _ (@ar _ _ _ _ (pv 1))))),?_⟩
   obtain⟨dx,hx⟩:=hn.ob
   obtain⟨dr,hrb⟩:=hn.rb
   refine⟨_,rfl,fld hx G.br G.fT pO ⟨z.rb,dr,_,rfl,hrb,uV,z.rb,sa,false,"answer","answered","handed",p,M,r,A,T,rfl,⟨dr,hrb⟩,S,hp,by decide +kernel,by decide +kernel,by decide +kernel,hrl,hA,hT,?_⟩⟩
   by_cases h0:(A - T) % (p.s * p.R)=0
   . rw[if_pos h0]at k |-
     exact⟨_,rfl,rfl,_,rfl,fw ⟨_,rfl,k⟩⟩
   rw[if_neg h0]at k |-
   rcases k with⟨c,nm,wv,hrd,hc,k⟩|⟨i,hrd,k⟩
   rotate_left
   . refine .inr ⟨i,hrd,λt H1 n1 v1 S1 kp1=>?_⟩
     have hn1:=hn.lists kp1 λc m=>.inl (by
      obtain⟨ts,e,_⟩:=S.rw false
      exact⟨ts,by rw[List.mem_singleton.mp m];exact e⟩)
     obtain⟨dx1,hx1⟩:=hn1.ob
     exact⟨_,rfl,rfl,_,rfl,iT ⟨_,rfl,fld hx1 G.br G.cR kJ ⟨z.gd,rfl,.inl ⟨_,.inl hn1.go⟩,_,rfl,t,_,_,_,rfl,rfl,SqT.of v1,rfl,_,hn1.go,.inr ⟨rfl,_,rfl,k t H1 n1 v1 hn1 S1 kp1⟩⟩⟩⟩
   refine .inl ⟨c,_,hrd,hc,λH1 S1 kp1=>?_⟩
   have hn1:=hn.lists kp1 λc m=>.inl (by
    obtain⟨ts,e,_⟩:=S.rw false
    exact⟨ts,by rw[List.mem_singleton.mp m];exact e⟩)
   have hc1:=kp1 _ _ (S.noT hc) hc
   obtain⟨dx1,hx1⟩:=hn1.ob
   refine⟨_,rfl,rfl,_,rfl,iT ?_⟩
   refine⟨_,rfl,fld hx1 G.br G.cR kJ ⟨z.gd,rfl,.inl ⟨_,.inl hn1.go⟩,_,rfl,c,_,_,_,rfl,rfl,SqT.of hc1,rfl,_,hn1.go,.inl ⟨.inl nm,rfl,λv hv=>⟨_,rfl,?_⟩,λhv=>⟨_,rfl,?_⟩⟩⟩⟩
   . rw[tN]
     refine k _ ?_ (S1.kp Kp.one (λc hc=>by rw[List.mem_singleton.mp hc];exact S1.noD hn1.go) λc hc vs e=>by rw[List.mem_singleton.mp hc,hn1.go]at e;cases e) λc o nc e=>?_
     . obtain⟨d1,x1⟩:=hn1.ra
       obtain⟨d2,x2⟩:=hn1.rb
       exact⟨⟨dx1,by rw[ag (hZ hx1 hn1.go (by intro z;cases z))];exact hx1⟩,⟨d1,by rw[ag (hZ x1 hn1.go (by intro z;cases z))];exact x1⟩,⟨d2,by rw[ag (hZ x2 hn1.go (by intro z;cases z))];exact x2⟩,a8⟩
     . rw[ag λz=>nc (by rw[z];exact List.mem_cons_self)]
       exact kp1 c o (λm=>nc (List.mem_cons_of_mem _ m)) e
   . rw[nE]at hv
     have hno:aw.contains nm=false:=by
      cases z:aw.contains nm with
     |false=>rfl
     |true=>rw[z]at hv;cases hv
     have ef:aw.filter (λk=>decide (k≠nm))=aw:=by
      rw[List.filter_eq_self]
      intro x hx
      refine decide_eq_true λz=>?_
      rw[z]at hx
      rw[List.contains_eq_mem,decide_eq_false_iff_not]at hno
      exact hno hx
     rw[ef]at k
     exact k H1 hn1 S1 λc o nc e=>kp1 c o (λm=>nc (List.mem_cons_of_mem _ m)) e
end
def zT (CT CR:Addr):Sp:=λvs H Q _=>∃ (h dx st ft:Addr) (s R:Int) (fs:List Str),vs=[.ref h,.ref st,.int s,.int R,.ref ft]/\H h=some (.ins CT dx [])/\H ft=some (.tup (fs.map V.str)) /\
 ∀ (z:TA') (H':Hp),z.h=h->H z.ra=none->H z.rb=none->H z.gd=none->Tn CT CR H' z st ⟨s,if fs.contains "round" then 1 else R,fs.contains "counter"⟩ []->Kp [h] H H'->Q .non H'
def vd (w:World) (CT CR CS:Addr):Sp:=λvs H Q _=>∃ (z:TA') (sa:SA) (p:RP) (ts:List Int) (M:List (PyData × V)) (r:Bool->List (PyData × V)) (A T:Int),vs=[.ref z.h]/\Tn CT CR H z sa.x p ts/\sa.At w CS H M r/\p.Ok/\ts.length < 1000/\(r true).length < 100000 /\
 cr M (r true) (.str "asked")=.int A/\cr M (r true) (.str "taken")=.int T/\(if (A - T) % (p.s * p.R)=0 then Q .non H else
  (∃ c nm wv,cr M (r true) (.tuple [.str "ask",.int (T % p.s)])=.ref c/\H c=some (.tup [.int nm,wv])/\∀ H',Tn CT CR H' z sa.x p (lu ts nm)->sa.At w CS H' M (bt r true (r true++[(.str "taken",.int ((T+1) % (p.s * p.R)))]))->Kp [z.gd,sa.l true] H H'->Q (.ref c) H') \/
  ∃ i,cr M (r true) (.tuple [.str "ask",.int (T % p.s)])=.int i/\∀ t H',H t=none->H' t=some (.tup [.non,.non])->Tn CT CR H' z sa.x p ts->sa.At w CS H' M (bt r true (r true++[(.str "taken",.int ((T+1) % (p.s * p.R)))]))->Kp [sa.l true] H H'->Q (.ref t) H')
def rG (w:World) (CT CR CS F N:Addr):Sp:=λvs H Q E=>∃ (z:TA') (sa:SA) (p:RP) (ts:List Int) (M:List (PyData × V)) (r:Bool->List (PyData × V)) (A T nm:Int),vs=[.ref z.h,.int nm]/\Tn CT CR H z sa.x p ts/\sa.At w CS H M r/\p.Ok /\
 cr M (r true) (.str "answered")=.int A/\cr M (r true) (.str "handed")=.int T/\if ts.contains nm=false then E (.ref N) none H else if (A - T) % (p.s * p.R)=p.s then E (.ref F) none H else Q .non H
def sf (w:World) (CT CR CS F N:Addr):Sp:=λvs H Q E=>∃ (z:TA') (sa:SA) (p:RP) (ts:List Int) (M:List (PyData × V)) (r:Bool->List (PyData × V)) (A T nm:Int) (wv:V),vs=[.ref z.h,.int nm,wv]/\Tn CT CR H z sa.x p ts/\sa.At w CS H M r/\p.Ok/\(r true).length < 99999 /\
 cr M (r true) (.str "answered")=.int A/\cr M (r true) (.str "handed")=.int T/\if ts.contains nm=false then E (.ref N) none H else if (A - T) % (p.s * p.R)=p.s then E (.ref F) none H else
  ∀ t H',H t=none->H' t=some (.tup [.int nm,wv])->Tn CT CR H' z sa.x p (ts.filter λk=>decide (k≠nm))->sa.At w CS H' M (bt r true (r true++mP p "answer" "answered" A (.ref t)))->Kp [z.gd,sa.l true] H H'->Q .non H'
def AH (CT CR:Addr):Sp:=λvs H Q _=>∃ (z:TA') (st:Addr) (p:RP) (ts:List Int),vs=[.ref z.h]/\Tn CT CR H z st p ts/\ts.length < 64/\∀ (l:Addr) (ns:List Int),H l=none->ns.Perm ts->ns.Pairwise (· <= ·)->Q (.ref l) (upd H l (.lst (ns.map V.int)))
section
variable {P:Program}{w:World}{K:PySem.W.Frag}{mg:Str->Option Value}{base:Heap}{a:Ad}{d:Fd}
theorem AN (G:Gs K mg a d):FnOk P w K mg base CX0 4 a.dw d.dw ["self","store","size","rounds","faults"] (zT a.b7 a.bX):=by
 have c_Ring__init:FnOk P w K mg base CX0 2 _ _ _ _:=uS G
 refine G.qU.ok oZ (λvs H Q E h=>?_) (λcdv A outer s H vs Q E hr h=>?_)
 . obtain⟨h,dx,st,ft,s,R,fs,rfl,_⟩:=h
   rfl
 . obtain⟨h,dx,st,ft,s,R,fs,rfl,hx,hf,k⟩:=h
   refine⟨_,(@ac _ _ _ _ _ (bF (pv 0) (jO G.uN c_Ring__init (hr.mono (by decide)) (by rfl) G.vn G.gm .nil ax (@a6 _ _ _ _ _ (pv 1) (@a6 _ _ _ _ _ ae (@a6 _ _ _ _ _ (eI (v:=.ref a.jJ) (by rfl) G.B6 rfl) (@a6 _ _ _ _ _ (pv 2) (@a6 _ _ _ _ _ (pv 3) (@a6 _ _ _ _ _ (pv 4) a9 (by rfl)) (by rfl)) (by rfl)) (by rfl)) (by rfl)) (by rfl))) rfl)
    (@ac _ _ _ _ _ (bF (pv 0) (jO G.uN c_Ring__init (hr.mono (by decide)) (by rfl) G.vn G.gm .nil ax (@a6 _ _ _ _ _ (pv 1) (@a6 _ _ _ _ _ ae (@a6 _ _ _ _ _ (eI (v:=.ref a.d8) (by rfl) G.sE rfl) (@a6 _ _ _ _ _ (pv 2) (@a6 _ _ _ _ _ (pv 3) (@a6 _ _ _ _ _ (pv 4) a9 (by rfl)) (by rfl)) (by rfl)) (by rfl)) (by rfl)) (by rfl))) rfl)
    (@af _ _ _ (bF (pv 0) qg rfl)))),?_⟩
   refine⟨_,rfl,_,rfl,_,rfl,_,rfl,λra da na nda nea=>?_⟩
   refine⟨ra,da,st,a.jJ,ft,true,"ask","asked","taken",s,R,fs,rfl,a8,G.BA,?_,λH1 r1 kp1=>?_⟩
   . rw[ag (aj hf na),ag (aj hf nda)];exact hf
   have e1:bU H H1:=λc o e=>kp1 c o (λz=>aj e na (List.mem_singleton.mp z)) (by rw[ag (aj e na),ag (aj e nda)];exact e)
   clear kp1
   refine⟨rfl,_,rfl,h,a.b7,dx,[],rfl,e1 _ _ hx,G.bu,G.iG,by decide,?_⟩
   have n1:ra≠h:=λz=>by rw[z,hx]at na;cases na
   have hx1:=e1 _ _ hx
   have kp2:Kp [h] H (upd H1 h (.ins a.b7 dx (bP "asks" (.ref ra) []))):=λc o n e=>by rw[ag λz=>n (List.mem_singleton.mpr z)];exact e1 _ _ e
   have hx2:upd H1 h (.ins a.b7 dx (bP "asks" (.ref ra) [])) h=some (.ins a.b7 dx (bP "asks" (.ref ra) [])):=a8
   have r2:=r1.keep (H':=upd H1 h (.ins a.b7 dx (bP "asks" (.ref ra) []))) λo e=>by rw[ag n1];exact e
   have hf2:upd H1 h (.ins a.b7 dx (bP "asks" (.ref ra) [])) ft=some (.tup (fs.map V.str)):=by
    rw[ag (hZ (e1 _ _ hf) hx1 (by intro z;cases z))];exact e1 _ _ hf
   generalize upd H1 h (.ins a.b7 dx (bP "asks" (.ref ra) []))=H2 at kp2 hx2 r2 hf2 |-
   refine⟨_,rfl,_,rfl,_,rfl,_,rfl,λrb db nb ndb neb=>?_⟩
   refine⟨rb,db,st,a.d8,ft,true,"answer","answered","handed",s,R,fs,rfl,a8,G.sX,?_,λH3 r3 kp3=>?_⟩
   . rw[ag (aj hf2 nb),ag (aj hf2 ndb)];exact hf2
   have e3:bU H2 H3:=λc o e=>kp3 c o (λz=>aj e nb (List.mem_singleton.mp z)) (by rw[ag (aj e nb),ag (aj e ndb)];exact e)
   clear kp3
   have nbH:H rb=none:=gc kp2 nb λx m=>by rw[List.mem_singleton.mp m,hx2];intro z;cases z
   have n3:rb≠h:=λz=>by rw[z,hx2]at nb;cases nb
   refine⟨rfl,_,rfl,h,a.b7,dx,_,rfl,e3 _ _ hx2,G.bu,G.fi,by show 1 < 1000;decide,?_⟩
   refine λgd hg=>⟨_,rfl,h,a.b7,dx,_,rfl,(by rw[ag (aj a8 hg)];exact a8),G.bu,G.d7,by show 2 < 1000;decide,?_⟩
   obtain⟨ng,hg3⟩:=up1 hg
   have gdH:H gd=none:=gc kp2 (bK e3 hg3) λx m=>by rw[List.mem_singleton.mp m,hx2];intro z;cases z
   refine k ⟨h,ra,rb,gd⟩ _ rfl na nbH gdH ⟨⟨dx,a8⟩,(r2.keep λo e=>e3 _ _ e).keep λo e=>?_,r3.keep λo e=>?_,?_⟩ λc o nc ec=>?_
   . rw[ag n1,ag (aj e hg3),ag n1];exact e
   . rw[ag n3,ag (aj e hg3),ag n3];exact e
   . rw[ag ng,a8];rfl
   . have c1:c≠h:=λz=>nc (List.mem_singleton.mpr z)
     have e4:=e3 _ _ (kp2 c o nc ec)
     rw[ag c1,ag (aj e4 hg3),ag c1];exact e4
theorem uT (G:Gs K mg a d):FnOk P w K mg base CX0 7 a.eR d.eR ["self"] (vd w a.b7 a.bX a.aH):=by
 have c_Ring_fetch:FnOk P w K mg base CX0 5 _ _ _ _:=uE G
 refine G.t7.ok kZ (λvs H Q E h=>?_) (λcdv A' outer s' H vs Q E hr h=>?_)
 . obtain⟨z,sa,p,ts,M,r,A,T,rfl,_⟩:=h
   rfl
 . obtain⟨z,sa,p,ts,M,r,A,T,rfl,hn,S,hp,htl,hrl,hA,hT,k⟩:=h
   have hu:=eC hr
   refine⟨_,(@ac _ _ _ _ _ (@aB _ _ 1 _ _ _ _ kZ.nd rfl (Or.inl rfl) (aX (am (pv 0) rfl) G.ay G.kX c_Ring_fetch (hr.mono (by decide)) G.lN .nil ax) (by rfl) (by first|exact .inl rfl|exact .inr rfl|assumption))
    (@ac _ _ _ _ _ (aM ((mT (aq lv (pv 1) cC (az _)) (mW (aq lv (@aK _ _ _ _ _ _ _ aC (pv 1) ae (λ_ _=>rfl)) cC (az _))))).pt (@af _ _ _ (zg hu (am (pv 0) rfl) (@aK _ _ _ _ _ _ _ aC (pv 1) ae (λ_ _=>rfl)) cn rfl)) ao)
    (@af _ _ _ (@ar _ _ _ _ (pv 1))))),?_⟩
   obtain⟨dx,hx⟩:=hn.ob
   obtain⟨dr,hra⟩:=hn.ra
   refine⟨_,rfl,fld hx G.bu G.iG xc ⟨z.ra,dr,_,rfl,hra,uV,z.ra,sa,true,"ask","asked","taken",p,M,r,A,T,rfl,⟨dr,hra⟩,S,hp,by decide +kernel,by decide +kernel,by decide +kernel,hrl,hA,hT,?_⟩⟩
   by_cases h0:(A - T) % (p.s * p.R)=0
   . rw[if_pos h0]at k |-
     exact⟨_,rfl,rfl,_,rfl,fw ⟨_,rfl,k⟩⟩
   rw[if_neg h0]at k |-
   rcases k with⟨c,nm,wv,hrd,hc,k⟩|⟨i,hrd,k⟩
   . refine .inl ⟨c,_,hrd,hc,λH1 S1 kp1=>?_⟩
     have hn1:=hn.lists kp1 λc m=>.inl (by
      obtain⟨ts,e,_⟩:=S.rw true
      exact⟨ts,by rw[List.mem_singleton.mp m];exact e⟩)
     have hc1:=kp1 _ _ (S.noT hc) hc
     obtain⟨dx1,hx1⟩:=hn1.ob
     refine⟨_,rfl,rfl,_,rfl,iT ⟨_,rfl,c,_,_,_,rfl,rfl,SqT.of hc1,rfl,rfl,_,rfl,iT ?_⟩⟩
     refine⟨_,rfl,fld hx1 G.bu G.d7 mF ⟨_,rfl,c,_,_,_,rfl,rfl,SqT.of hc1,rfl,z.gd,_,rfl,Da.k (k:=.inl nm) hn1.go (Nat.lt_of_lt_of_le (by rw[Bo];exact htl) (by decide)),_,rfl,?_⟩⟩
     rw[CD]
     refine k _ ?_ (S1.kp Kp.one (λc hc=>by rw[List.mem_singleton.mp hc];exact S1.noD hn1.go) λc hc vs e=>by rw[List.mem_singleton.mp hc,hn1.go]at e;cases e) λc o nc e=>?_
     . obtain⟨d1,x1⟩:=hn1.ra
       obtain⟨d2,x2⟩:=hn1.rb
       exact⟨⟨dx1,by rw[ag (hZ hx1 hn1.go (by intro z;cases z))];exact hx1⟩,⟨d1,by rw[ag (hZ x1 hn1.go (by intro z;cases z))];exact x1⟩,⟨d2,by rw[ag (hZ x2 hn1.go (by intro z;cases z))];exact x2⟩,a8⟩
     . rw[ag λz=>nc (by rw[z];exact List.mem_cons_self)]
       exact kp1 c o (λm=>nc (List.mem_cons_of_mem _ m)) e
   . refine .inr ⟨i,hrd,λt H1 n1 v1 S1 kp1=>?_⟩
     have hn1:=hn.lists kp1 λc m=>.inl (by
      obtain⟨ts,e,_⟩:=S.rw true
      exact⟨ts,by rw[List.mem_singleton.mp m];exact e⟩)
     exact⟨_,rfl,rfl,_,rfl,iT ⟨_,rfl,t,_,_,_,rfl,rfl,SqT.of v1,rfl,rfl,_,rfl,fw ⟨_,rfl,k t H1 n1 v1 hn1 S1 kp1⟩⟩⟩
theorem o3 (G:Gs K mg a d):FnOk P w K mg base (CXv P w) 6 a.b8 d.b8 ["self","name"] (rG w a.b7 a.bX a.aH a.r9 a.fC):=by
 have c_Ring_is_full:FnOk P w K mg base CX0 4 _ _ _ _:=yz G
 refine G.jt.okX (k:=5) iV (λvs H Q E h=>?_) (λcdv A' outer s' H vs Q E hr hR h=>?_)
 . obtain⟨z,sa,p,ts,M,r,A,T,nm,rfl,_⟩:=h
   rfl
 . obtain⟨z,sa,p,ts,M,r,A,T,nm,rfl,hn,S,hp,hA,hT,k⟩:=h
   have hu:=eC hr
   refine⟨_,(@ac _ _ _ _ _ (aM (By (t9 hu (pv 1) (am (pv 0) rfl))) (@af _ _ _ (eV hR hr.hd (by rfl) G.mJ G.xc_NoTask (@a6 _ _ _ _ _ ai a9 (by rfl)))) ao)
    (@af _ _ _ (aM (cm (aX (am (pv 0) rfl) G.ay G.j8 c_Ring_is_full (hr.mono (by decide)) G.jM .nil ax)) (@af _ _ _ (eV hR hr.hd (by rfl) G.sQ G.xc_Full (@a6 _ _ _ _ _ ai a9 (by rfl)))) ao))),?_⟩
   obtain⟨dx,hx⟩:=hn.ob
   obtain⟨dr,hrb⟩:=hn.rb
   refine⟨_,rfl,_,rfl,fld hx G.bu G.d7 mF ⟨z.gd,_,rfl,Dc.k (k:=.inl nm) hn.go,_,rfl,?_⟩⟩
   rw[nE]
   cases hc:ts.contains nm with
  |false =>
    rw[if_pos hc]at k
    exact iT ⟨by show 1 <= sizeLine;decide,k⟩
  |true =>
    rw[if_neg (by rw[hc];decide)]at k
    refine fw ?_
    refine⟨_,rfl,fld hx G.bu G.fi pP ⟨z.rb,dr,_,rfl,hrb,y7,z.rb,sa,true,"answer","answered","handed",p,M,r,A,T,rfl,⟨dr,hrb⟩,S,hp,by decide +kernel,by decide +kernel,hA,hT,_,rfl,?_⟩⟩
    by_cases hf:(A - T) % (p.s * p.R)=p.s
    . rw[if_pos hf]at k
      exact AQ hf ⟨by show 1 <= sizeLine;decide,k⟩
    . rw[if_neg hf]at k
      exact zv hf k
theorem ym (G:Gs K mg a d):FnOk P w K mg base (CXv P w) 8 a.cD d.cD ["self","name","worth"] (sf w a.b7 a.bX a.aH a.r9 a.fC):=by
 have cx_Heart_check_answer:FnOk P w K mg base (CXv P w) 6 _ _ _ _:=o3 G
 have c_Ring_lay:FnOk P w K mg base CX0 4 _ _ _ _:=Bz G
 refine G.oS.okX (k:=7) nO (λvs H Q E h=>?_) (λcdv A' outer s' H vs Q E hr hR h=>?_)
 . obtain⟨z,sa,p,ts,M,r,A,T,nm,wv,rfl,_⟩:=h
   rfl
 . obtain⟨z,sa,p,ts,M,r,A,T,nm,wv,rfl,hn,S,hp,hrl,hA,hT,k⟩:=h
   refine⟨_,(@ac _ _ _ _ _ (@aI _ _ _ _ (au (pv 0) G.bu G.cA cx_Heart_check_answer (hr.mono (by decide)) G.cY .nil hR.passes (@a6 _ _ _ _ _ (pv 1) a9 (by rfl))) (by rfl))
    (@ac _ _ _ _ _ (@aI _ _ _ _ (au (am (pv 0) rfl) G.ay G.om c_Ring_lay (hr.mono (by decide)) G.pC .nil ax (@a6 _ _ _ _ _ (pv 1) (@a6 _ _ _ _ _ (pv 2) a9 (by rfl)) (by rfl))) (by rfl))
    (@af _ _ _ (@aI _ _ _ _ (A6 (am (pv 0) rfl) (pv 1) ⟨rfl,rfl,rfl,rfl⟩) (by rfl))))),?_⟩
   obtain⟨dx,hx⟩:=hn.ob
   obtain⟨dr,hrb⟩:=hn.rb
   refine⟨_,rfl,z.h,dx,_,rfl,hx,v6,_,rfl,z,sa,p,ts,M,r,A,T,nm,rfl,hn,S,hp,hA,hT,?_⟩
   by_cases hc:ts.contains nm=false
   . rw[if_pos hc]at k |-
     exact k
   rw[if_neg hc]at k |-
   by_cases hf:(A - T) % (p.s * p.R)=p.s
   . rw[if_pos hf]at k |-
     exact k
   rw[if_neg hf]at k |-
   refine⟨_,rfl,fld hx G.bu G.fi pP ⟨z.rb,dr,_,rfl,hrb,Bc,_,rfl,_,rfl,z.rb,sa,true,"answer","answered","handed",p,M,r,A,.int nm,wv,rfl,⟨dr,hrb⟩,S,hp,by decide +kernel,by decide +kernel,hrl,hA,λt H1 n1 v1 S1 kp1=>?_⟩⟩
   have hn1:=hn.lists kp1 λc m=>.inl (by
    obtain⟨ts,e,_⟩:=S.rw true
    exact⟨ts,by rw[List.mem_singleton.mp m];exact e⟩)
   obtain⟨dx1,hx1⟩:=hn1.ob
   have hv:oX (gK ts) (.inl nm)=some (.bl true):=by
    rw[nE]
    cases y:ts.contains nm with
   |true=>rfl
   |false=>exact absurd y hc
   refine⟨_,rfl,fld hx1 G.bu G.d7 mF ⟨z.gd,rfl,.inl ⟨_,.inl hn1.go⟩,_,rfl,_,.inl nm,_,hn1.go,rfl,hv,?_⟩⟩
   rw[tN]
   refine k t _ n1 ?_ ?_ (S1.kp Kp.one (λc hc=>by rw[List.mem_singleton.mp hc];exact S1.noD hn1.go) λc hc vs e=>by rw[List.mem_singleton.mp hc,hn1.go]at e;cases e) λc o nc e=>?_
   . rw[ag (hZ v1 hn1.go (by intro z;cases z))];exact v1
   . obtain⟨d1,x1⟩:=hn1.ra
     obtain⟨d2,x2⟩:=hn1.rb
     exact⟨⟨dx1,by rw[ag (hZ hx1 hn1.go (by intro z;cases z))];exact hx1⟩,⟨d1,by rw[ag (hZ x1 hn1.go (by intro z;cases z))];exact x1⟩,⟨d2,by rw[ag (hZ x2 hn1.go (by intro z;cases z))];exact x2⟩,a8⟩
   . rw[ag λz=>nc (by rw[z];exact List.mem_cons_self)]
     exact kp1 c o (λm=>nc (List.mem_cons_of_mem _ m)) e
theorem Aq (G:Gs K mg a d):FnOk P w K mg base CX0 1 a.dD d.dD ["self"] (AH a.b7 a.bX):=by
 refine G.qA.ok ph (λvs H Q E h=>?_) (λcdv A outer s H vs Q E hr h=>?_)
 . obtain⟨z,st,p,ts,rfl,_⟩:=h
   rfl
 . obtain⟨z,st,p,ts,rfl,hn,hl,k⟩:=h
   refine⟨_,(@af _ _ _ (@ar _ _ _ _ (aZ (lO rfl) (by rfl) G.qZ n8 (@a6 _ _ _ _ _ (am (pv 0) rfl) a9 (by rfl))))),?_⟩
   obtain⟨dx,hx⟩:=hn.ob
   exact⟨_,rfl,fld hx G.bu G.d7 mF ⟨z.gd,_,ts,rfl,hn.go,by unfold gK;rw[List.map_map];rfl,hl,λp ns hp h1 h2=>k p ns hp h1 h2⟩⟩
end
def Ay (w:World) (C:Addr):Sp:=λvs H Q _=>∃ x dx,vs=[.ref x]/\H x=some (.ins C dx []) /\
 ∀ (sa:SA) (H':Hp),sa.x=x->(∀ c,sa.own c->c≠x->H c=none)->StT w C H' sa Mem.zero (λ_=>[])->Kp [x] H H'->Q .non H'
def yw (w:World) (C:Addr):Sp:=λvs H Q _=>∃ (sa:SA) (m:Mem) (rs:Bool->List Wr) (b:Bool) (cv wv:V) (x:Wr),vs=[.ref sa.x,.int (sdI b),cv,wv]/\StT w C H sa m rs/\(rs b).length < 99990/\mv H x.key cv/\DV H x.dat wv/\x.Ok /\
 ∀ H',StT w C H' sa m (bt rs b (rs b++[x]))->Kp [sa.l b] H H'->Q .non H'
def yL (w:World) (C:Addr):Sp:=λvs H Q _=>∃ (sa:SA) (m:Mem) (rs:Bool->List Wr) (b:Bool) (x:Wr) (bS:List Wr),vs=[.ref sa.x,.int (sdI b)]/\StT w C H sa m rs/\rs b=x :: bS /\
 ∀ H',StT w C H' sa (m.put x) (bt rs b bS)->Kp [sa.l b,sa.hd] H H'->Q .non H'
def wrD (x:Wr):PyData:=.tuple [x.key,x.dat]
def za (w:World) (C:Addr):Sp:=λvs H Q _=>∃ (sa:SA) (m:Mem) (rs:Bool->List Wr) (b:Bool),vs=[.ref sa.x,.int (sdI b)]/\StT w C H sa m rs /\
 ∀ (p:Addr) (ts:List V),H p=none->DVs H ((rs b).map wrD) ts->Q (.ref p) (upd H p (.lst ts))
theorem uG {H:Hp}:∀ {row:List Wr}{es:List (PyData × V)},Paired (WrR H) row es->Paired (RD H) es (row.map wrD)
|_,_,.nil=>.nil
|x :: _,_,.cons ⟨_,hk,hd⟩ t=>.cons ⟨x.dat,by rw[hk];rfl,hd⟩ (uG t)
theorem Fz {w:World}{C:Addr}{vs:List V}{H:Hp}{Q:VK}{E:XK}(h:Ay w C vs H Q E):xZ w C vs H Q E:=by
 obtain⟨x,dx,rfl,hx,k⟩:=h
 refine⟨x,dx,rfl,hx,λhd rl l H' f1 f2 f3 S kp=>k ⟨x,hd,rl,l⟩ H' rfl (λc hc n=>?_) ⟨[],_,S,MemR.zero,λ_=>.nil⟩ kp⟩
 rcases hc with y|y|y|y|y
 . exact absurd y n
 . rw[y];exact f1
 . rw[y];exact f2
 . rw[y];exact f3 _
 . rw[y];exact f3 _
theorem xy {w:World}{C:Addr}{vs:List V}{H:Hp}{Q:VK}{E:XK}(h:yw w C vs H Q E):uw w C vs H Q E:=by
 obtain⟨sa,m,rs,b,cv,wv,x,rfl,⟨M,r,S,R,P⟩,hl,hk,hd,ho,k⟩:=h
 have hl':=bA (P b)
 refine⟨sa.x,sa.hd,sa.rl,sa.l,M,r,b,cv,wv,x.key,rfl,S,by omega,hk,λH' S' kp=>k H' ?_ kp⟩
 have ht:∀ c vs,H c=some (.tup vs)->H' c=some (.tup vs):=λc vs e=>kp c _ (S.noT e) e
 exact StT.grow R P S' ht (.cons ⟨ho,rfl,DV.keep ht _ _ x.dat_kd hd⟩ .nil)
theorem Be {w:World}{C:Addr}{vs:List V}{H:Hp}{Q:VK}{E:XK}(h:yL w C vs H Q E):uU w C vs H Q E:=by
 obtain⟨sa,m,rs,b,x,bS,rfl,⟨M,r,S,R,P⟩,hb,k⟩:=h
 have pb:=P b
 rw[hb]at pb
 cases hr:r b with
|nil=>rw[hr]at pb;cases pb
|cons q es =>
  rw[hr]at pb
  cases pb with
 |cons hx pt =>
   refine⟨sa.x,sa.hd,sa.rl,sa.l,M,r,b,q.1,q.2,es,rfl,S,hr,Nat.lt_of_le_of_lt (StT.small S R) (by decide),λH' S' kp=>k H' ⟨_,_,S',?_,λc=>?_⟩ kp⟩
   all_goals
    have ht:∀ c vs,H c=some (.tup vs)->H' c=some (.tup vs):=λc vs e=>kp c _ (λmm=>by
     rcases List.mem_cons.mp mm with y|y
     . exact S.noT (b:=b) e (List.mem_singleton.mpr y)
     . obtain⟨ee,e'⟩:=S.me.there
       rw[List.mem_singleton.mp y,e']at e;cases e) e
   . exact(R.put hx).keep ht
   . by_cases e:c=b
     . subst e
       rw[aS,aS]
       exact Paired.mapP pt λ_ _ q=>q.keep ht
     . rw[ff e,ff e]
       exact Paired.mapP (P c) λ_ _ q=>q.keep ht
theorem vc {w:World}{C:Addr}{vs:List V}{H:Hp}{Q:VK}{E:XK}(h:za w C vs H Q E):uB w C vs H Q E:=by
 obtain⟨sa,m,rs,b,rfl,⟨M,r,S,R,P⟩,k⟩:=h
 exact⟨sa.x,sa.hd,sa.rl,sa.l,M,r,b,rfl,S,λp ts hp pr=>k p ts hp (uI pr (uG (P b)))⟩
def D3 (w:World) (CH CR CS F N:Addr):Sp:=λvs H Q E=>∃ (z:HA) (sa:SA) (p:RP) (n:Nat) (aw:List Int) (m:Mem) (rs:Bool->List Wr) (wt:Int),vs=[.ref z.h,.int wt]/\Hn CH CR H z sa.x p n aw/\StT w CS H sa m rs/\p.Ok/\n <= 9/\aw.length < 1000/\(rs false).length < 99990 /\
 if bo p m (rs false) .asked .taken=p.s then E (.ref F) none H else match d9 n aw with
 |none=>E (.ref N) none H
 |some nm=>∀ H',Hn CH CR H' z sa.x p n (aw++[nm])->StT w CS H' sa m (bt rs false (rs false++AY p m (rs false) false .asked nm wt))->Kp [z.gd,sa.l false] H H'->Q (.int nm) H'
def tY (w:World) (CH CR CS:Addr):Sp:=λvs H Q _=>∃ (z:HA) (sa:SA) (p:RP) (n:Int) (aw:List Int) (m:Mem) (rs:Bool->List Wr),vs=[.ref z.h]/\Hn CH CR H z sa.x p n aw/\StT w CS H sa m rs/\p.Ok/\(rs false).length < 99990 /\
 (if bo p m (rs false) .answered .handed=0 then Q .non H else match rdP m (rs false) true (rdC m (rs false) .handed % p.s) with
 |some nw=>∀ c H',H' c=some (.tup [.int nw.1,.int nw.2])->Hn CH CR H' z sa.x p n (aw.filter λk=>decide (k≠nw.1))->StT w CS H' sa m (bt rs false (rs false++[lq p m (rs false) .handed]))->Kp [z.gd,sa.l false] H H'->Q (.ref c) H'
 |none=>∀ c H',H' c=some (.tup [.non,.non])->Hn CH CR H' z sa.x p n aw->StT w CS H' sa m (bt rs false (rs false++[lq p m (rs false) .handed]))->Kp [z.gd,sa.l false] H H'->Q (.ref c) H')
theorem Gr {w:World}{CH CR CS F N:Addr}{vs:List V}{H:Hp}{Q:VK}{E:XK}(h:D3 w CH CR CS F N vs H Q E):Bi w CH CR CS F N vs H Q E:=by
 obtain⟨z,sa,p,n,aw,m,rs,wt,rfl,hn,⟨M,r,S,R,P⟩,hp,n9,hal,hrl,k⟩:=h
 have hl:=bA (P false)
 refine⟨z,sa,p,n,aw,M,r,.int wt,rdC m (rs false) .asked,rdC m (rs false) .taken,rfl,hn,S,hp,n9,hal,by omega,cG R (P false) .asked,cG R (P false) .taken,?_⟩
 unfold bo at k
 by_cases hc:(rdC m (rs false) .asked - rdC m (rs false) .taken) % (p.s * p.R)=p.s
 . rw[if_pos hc]at k |-;exact k
 . rw[if_neg hc]at k |-
   cases hle:d9 n aw with
  |none=>rw[hle]at k;exact k
  |some nm =>
    rw[hle]at k
    intro t H' n2 v2 hn2 S2 kp2
    have ht:∀ c vs,H c=some (.tup vs)->H' c=some (.tup vs):=λc vs e=>kp2 c _ (λmm=>by
     rcases List.mem_cons.mp mm with y|y
     . rw[y,hn.go]at e;cases e
     . exact S.noT e y) e
    exact k H' hn2 (StT.grow R P S2 ht (uY hp (by have:=vw hle;omega) v2)) kp2
theorem uX {w:World}{CH CR CS:Addr}{vs:List V}{H:Hp}{Q:VK}{E:XK}(h:tY w CH CR CS vs H Q E):pj w CH CR CS vs H Q E:=by
 obtain⟨z,sa,p,n,aw,m,rs,rfl,hn,⟨M,r,S,R,P⟩,hp,hrl,k⟩:=h
 have hl:=bA (P false)
 refine⟨z,sa,p,n,aw,M,r,rdC m (rs false) .answered,rdC m (rs false) .handed,rfl,hn,S,hp,by omega,cG R (P false) .answered,cG R (P false) .handed,?_⟩
 unfold bo at k
 by_cases hc:(rdC m (rs false) .answered - rdC m (rs false) .handed) % (p.s * p.R)=0
 . rw[if_pos hc]at k |-;exact k
 . rw[if_neg hc]at k |-
   have ht:∀ {H':Hp} {xs:List Addr},(∀ x∈xs,x=z.gd\/x=sa.l false)->Kp xs H H'->∀ c vs,H c=some (.tup vs)->H' c=some (.tup vs):=λhx kp c vs e=>kp c _ (λmm=>by
    rcases hx c mm with y|y
    . rw[y,hn.go]at e;cases e
    . exact S.noT (b:=false) e (List.mem_singleton.mpr y)) e
   rcases x6 R (P false) true (rdC m (rs false) .handed % p.s) with⟨e1,e2⟩|⟨nm,wt,c,e1,e2,hc'⟩
   . rw[e1]at k
     refine .inr ⟨0,e2,λt H' n1 v1 hn1 S1 kp1=>k t H' v1 hn1 (StT.grow R P S1 (ht (λx mx=>.inr (List.mem_singleton.mp mx)) kp1) (.cons ⟨trivial,rfl,rfl⟩ .nil)) (kp1.mono λc mc=>List.mem_cons_of_mem _ mc)⟩
   . rw[e1]at k
     refine .inl ⟨c,nm,.int wt,e2,hc',λH' hn1 S1 kp1=>?_⟩
     have ht':=ht (λx mx=>by
      rcases List.mem_cons.mp mx with y|y
      . exact .inl y
      . exact .inr (List.mem_singleton.mp y)) kp1
     exact k c H' (ht' _ _ hc') hn1 (StT.grow R P S1 ht' (.cons ⟨trivial,rfl,rfl⟩ .nil)) kp1
def B2 (w:World) (CT CR CS:Addr):Sp:=λvs H Q _=>∃ (z:TA') (sa:SA) (p:RP) (ts:List Int) (m:Mem) (rs:Bool->List Wr),vs=[.ref z.h]/\Tn CT CR H z sa.x p ts/\StT w CS H sa m rs/\p.Ok/\ts.length < 1000/\(rs true).length < 99990 /\
 (if bo p m (rs true) .asked .taken=0 then Q .non H else match rdP m (rs true) false (rdC m (rs true) .taken % p.s) with
 |some nw=>∀ c H',H' c=some (.tup [.int nw.1,.int nw.2])->Tn CT CR H' z sa.x p (lu ts nw.1)->StT w CS H' sa m (bt rs true (rs true++[lq p m (rs true) .taken]))->Kp [z.gd,sa.l true] H H'->Q (.ref c) H'
 |none=>∀ c H',H' c=some (.tup [.non,.non])->Tn CT CR H' z sa.x p ts->StT w CS H' sa m (bt rs true (rs true++[lq p m (rs true) .taken]))->Kp [z.gd,sa.l true] H H'->Q (.ref c) H')
def wu (w:World) (CT CR CS F N:Addr):Sp:=λvs H Q E=>∃ (z:TA') (sa:SA) (p:RP) (ts:List Int) (m:Mem) (rs:Bool->List Wr) (nm wt:Int),vs=[.ref z.h,.int nm,.int wt]/\Tn CT CR H z sa.x p ts/\StT w CS H sa m rs/\p.Ok/\(rs true).length < 99990/\(∀ x∈ts,0 <= x/\x < 9) /\
 if ts.contains nm=false then E (.ref N) none H else if bo p m (rs true) .answered .handed=p.s then E (.ref F) none H else
  ∀ H',Tn CT CR H' z sa.x p (ts.filter λk=>decide (k≠nm))->StT w CS H' sa m (bt rs true (rs true++AY p m (rs true) true .answered nm wt))->Kp [z.gd,sa.l true] H H'->Q .non H'
theorem Du {w:World}{CT CR CS:Addr}{vs:List V}{H:Hp}{Q:VK}{E:XK}(h:B2 w CT CR CS vs H Q E):vd w CT CR CS vs H Q E:=by
 obtain⟨z,sa,p,ts,m,rs,rfl,hn,⟨M,r,S,R,P⟩,hp,htl,hrl,k⟩:=h
 have hl:=bA (P true)
 refine⟨z,sa,p,ts,M,r,rdC m (rs true) .asked,rdC m (rs true) .taken,rfl,hn,S,hp,htl,by omega,cG R (P true) .asked,cG R (P true) .taken,?_⟩
 unfold bo at k
 by_cases hc:(rdC m (rs true) .asked - rdC m (rs true) .taken) % (p.s * p.R)=0
 . rw[if_pos hc]at k |-;exact k
 . rw[if_neg hc]at k |-
   have ht:∀ {H':Hp} {xs:List Addr},(∀ x∈xs,x=z.gd\/x=sa.l true)->Kp xs H H'->∀ c vs,H c=some (.tup vs)->H' c=some (.tup vs):=λhx kp c vs e=>kp c _ (λmm=>by
    rcases hx c mm with y|y
    . rw[y,hn.go]at e;cases e
    . exact S.noT (b:=true) e (List.mem_singleton.mpr y)) e
   rcases x6 R (P true) false (rdC m (rs true) .taken % p.s) with⟨e1,e2⟩|⟨nm,wt,c,e1,e2,hc'⟩
   . rw[e1]at k
     refine .inr ⟨0,e2,λt H' n1 v1 hn1 S1 kp1=>k t H' v1 hn1 (StT.grow R P S1 (ht (λx mx=>.inr (List.mem_singleton.mp mx)) kp1) (.cons ⟨trivial,rfl,rfl⟩ .nil)) (kp1.mono λc mc=>List.mem_cons_of_mem _ mc)⟩
   . rw[e1]at k
     refine .inl ⟨c,nm,.int wt,e2,hc',λH' hn1 S1 kp1=>?_⟩
     have ht':=ht (λx mx=>by
      rcases List.mem_cons.mp mx with y|y
      . exact .inl y
      . exact .inr (List.mem_singleton.mp y)) kp1
     exact k c H' (ht' _ _ hc') hn1 (StT.grow R P S1 ht' (.cons ⟨trivial,rfl,rfl⟩ .nil)) kp1
theorem C6 {w:World}{CT CR CS F N:Addr}{vs:List V}{H:Hp}{Q:VK}{E:XK}(h:wu w CT CR CS F N vs H Q E):sf w CT CR CS F N vs H Q E:=by
 obtain⟨z,sa,p,ts,m,rs,nm,wt,rfl,hn,⟨M,r,S,R,P⟩,hp,hrl,hts,k⟩:=h
 have hl:=bA (P true)
 refine⟨z,sa,p,ts,M,r,rdC m (rs true) .answered,rdC m (rs true) .handed,nm,.int wt,rfl,hn,S,hp,by omega,cG R (P true) .answered,cG R (P true) .handed,?_⟩
 unfold bo at k
 by_cases h0:ts.contains nm=false
 . rw[if_pos h0]at k |-;exact k
 rw[if_neg h0]at k |-
 by_cases hc:(rdC m (rs true) .answered - rdC m (rs true) .handed) % (p.s * p.R)=p.s
 . rw[if_pos hc]at k |-;exact k
 . rw[if_neg hc]at k |-
   intro t H' n2 v2 hn2 S2 kp2
   have ht:∀ c vs,H c=some (.tup vs)->H' c=some (.tup vs):=λc vs e=>kp2 c _ (λmm=>by
    rcases List.mem_cons.mp mm with y|y
    . rw[y,hn.go]at e;cases e
    . exact S.noT e y) e
   exact k H' hn2 (StT.grow R P S2 ht (uY hp (hts nm (by
    cases y:ts.contains nm with
   |false=>exact absurd y h0
   |true=>rw[List.contains_eq_mem]at y;exact of_decide_eq_true y)) v2)) kp2
def Ap:Sp:=λvs H Q _=>∃ (v:V) (o:Option Int),vs=[v]/\TV H v o/\Q (.bl o.isSome) H
def tR:Sp:=λvs H Q _=>∃ (v:V) (o:Option Int) (k:Str),vs=[v,.str k]/\TV H v o/\∀ H',bU H H'->Q (.bl (lb o k)) H'
def xG:Sp:=λvs H Q _=>∃ (t:Addr) (x:Dd),vs=[.ref t]/\H t=some (.tup x.vs)/\x.Ok/\∀ H',bU H H'->Q (.bl true) H'
def xA:Sp:=λvs H Q _=>∃ v:V,vs=[v]/\ND H v/\∀ H',bU H H'->Q (.bl false) H'
def BY:Sp:=λvs H Q _=>∃ (t:Addr) (x:Dd),vs=[.ref t]/\H t=some (.tup x.vs)/\∀ H',bU H H'->Q (.int (sdI x.side)) H'
section
variable {P:Program}{w:World}{K:PySem.W.Frag}{mg:Str->Option Value}{base:Heap}{a:Ad}{d:Fd}
theorem B3 (G:Gs K mg a d):FnOk P w K mg base CX0 1 a.iI d.iI ["value"] Ap:=by
 refine G.pR.ok tS (λvs H Q E h=>?_) (λcdv A' outer s' H vs Q E hr h=>?_)
 . obtain⟨v,o,rfl,_⟩:=h
   rfl
 . obtain⟨v,o,rfl,tv,k⟩:=h
   refine⟨_,(@af _ _ _ (@ar _ _ _ _ (Bw (aZ cB (by rfl) G.bn ba (@a6 _ _ _ _ _ (pv 0) (@a6 _ _ _ _ _ (hV (v:=.ty "int") (by rfl) G.Dv Bv rfl) a9 (by rfl)) (by rfl))) (Bu (DZ (aZ cB (by rfl) G.bn ba (@a6 _ _ _ _ _ (pv 0) (@a6 _ _ _ _ _ (hV (v:=.ty "bool") (by rfl) G.Ep CG rfl) a9 (by rfl)) (by rfl)))))))),?_⟩
   obtain⟨ty,b,t1,t2,t3,t4⟩:=tv.ty (K:=K)
   refine⟨_,rfl,_,_,ty,b,rfl,t1,t2,_,rfl,?_⟩
   cases b with
  |true =>
    refine iT ⟨_,rfl,_,_,ty,_,rfl,t1,t3 rfl,_,rfl,?_⟩
    show Q (.bl (!(!o.isSome))) H
    rw[Bool.not_not];exact k
  |false =>
    rw[t4 rfl]at k
    exact fw k
theorem yD (G:Gs K mg a d):FnOk P w K mg base CX0 2 a.jZ d.jZ ["value","kind"] tR:=by
 have c_is_whole:FnOk P w K mg base CX0 1 _ _ _ _:=B3 G
 refine G.nj.ok wq (λvs H Q E h=>?_) (λcdv A' outer s' H vs Q E hr h=>?_)
 . obtain⟨v,o,k,rfl,_⟩:=h
   rfl
 . obtain⟨v,o,kd,rfl,tv,k⟩:=h
   refine⟨_,(@ac _ _ _ _ _ (aM (eE (cm (aP c_is_whole (hr.mono (by decide)) (by rfl) G.wH G.pR.kp G.vY .nil ax (@a6 _ _ _ _ _ (pv 0) a9 (by rfl))))) (@af _ _ _ (@ar _ _ _ _ cn)) ao)
    (@ac _ _ _ _ _ (aM (aq bN (pv 1) ai (az _)) (@af _ _ _ (@ar _ _ _ _ (Ab DW DW (oM jB (uZ (by rfl) G.lR)) (pv 0) (uZ (by rfl) G.lR)))) ao)
    (@ac _ _ _ _ _ (aM (aq bN (pv 1) ai (az _)) (@af _ _ _ (@ar _ _ _ _ (ii gM (pv 0) (@av _ _ _ _ _ (@a6 _ _ _ _ _ ae (@a6 _ _ _ _ _ ae a9 (by rfl)) (by rfl))) (by with_unfolding_all rfl)))) ao)
    (@af _ _ _ (@ar _ _ _ _ cn))))),?_⟩
   cases o with
  |none=>exact⟨_,rfl,v,none,rfl,tv,_,rfl,iT (k _ λ_ _ z=>z)⟩
  |some i =>
   cases tv
   refine⟨_,rfl,_,some i,rfl,.int i,_,rfl,fw ?_⟩
   have k:∀ H',bU H H'->Q (.bl (dU i kd)) H':=k
   refine⟨_,rfl,rfl,_,rfl,?_⟩
   by_cases h1:kd="worth"
   . refine jv (decide_eq_true (by rw[h1])) ?_
     have e:dU i kd=(decide (-1000000000 <= i) && decide (i <= 1000000000)):=by unfold dU;rw[if_pos h1]
     refine⟨_,rfl,_,rfl,_,_,rfl,rfl,_,rfl,?_⟩
     by_cases hb:-1000000000 <= i
     . refine jv (decide_eq_true hb) ⟨_,_,rfl,rfl,?_⟩
       rw[decide_eq_true hb,Bool.true_and]at e
       show Q (.bl (decide (i <= 1000000000))) H
       rw[<-e];exact k _ λ_ _ z=>z
     . refine cP (by rw[decide_eq_true_eq];exact hb) ?_
       rw[decide_eq_false hb,Bool.false_and]at e
       show Q (.bl false) H
       rw[<-e];exact k _ λ_ _ z=>z
   . refine cP (by rw[decide_eq_true_eq];exact sne h1) ?_
     refine⟨_,rfl,rfl,_,rfl,?_⟩
     by_cases h2:kd="side"
     . refine jv (decide_eq_true (by rw[h2])) ?_
       have e:dU i kd=(decide (i=0) || decide (i=1)):=by unfold dU;rw[if_neg h1,if_pos h2]
       refine⟨_,rfl,l2,λt ht=>⟨t,_,rfl,.inr (SqT.of a8),rfl,rfl,?_⟩⟩
       simp only[Bool.false_eq_true,if_false]
       have e2:inV (.int i) [V.int 0,V.int 1]=dU i kd:=by
        have:=pS i [0,1]
        show inV (.int i) (([0,1]:List Int).map V.int)=_
        rw[this,e,List.contains_eq_mem,Bool.eq_iff_iff,decide_eq_true_eq,Bool.or_eq_true,decide_eq_true_eq,decide_eq_true_eq]
        simp
       rw[e2]
       exact k _ (ah ht)
     . refine cP (by rw[decide_eq_true_eq];exact sne h2) ?_
       have e:dU i kd=true:=by unfold dU;rw[if_neg h1,if_neg h2]
       show Q (.bl true) H
       rw[<-e]
       exact k _ λ_ _ z=>z
theorem AE (x:Dd):∃ b,PyProof.Rows.KTD.datumAt x.word [("ask",a.dN),("collect",a.dQ),("take",a.dY),("answer",a.dW),("bell",a.dP),("lie",a.dR),("look",a.el),("drain",a.eo)]=some b/\(∀ (G:Gs K mg a d) (H:Hp),SqT K H b (x.ks.map V.str)):=by
 cases x
 . exact⟨_,rfl,λG=>G.rm⟩
 . exact⟨_,rfl,λG=>G.sU⟩
 . exact⟨_,rfl,λG=>G.tm⟩
 . exact⟨_,rfl,λG=>G.sF⟩
 . exact⟨_,rfl,λG=>G.sx⟩
 . exact⟨_,rfl,λG=>G.rO⟩
 . exact⟨_,rfl,λG=>G.sN⟩
 . exact⟨_,rfl,λG=>G.sv⟩
theorem yJ (G:Gs K mg a d):FnOk P w K mg base CX0 3 a.iJ d.iJ ["some"] xG:=by
 have c_is_part:FnOk P w K mg base CX0 2 _ _ _ _:=yD G
 refine G.l8.ok jq (λvs H Q E h=>?_) (λcdv A' outer s' H vs Q E hr h=>?_)
 . obtain⟨t,x,rfl,_⟩:=h
   rfl
 . obtain⟨t,x,rfl,ht,hx,k⟩:=h
   have hu:=eC hr
   refine⟨_,(@ac _ _ _ _ _ (aM ((qr (eE (cm (aZ cB (by rfl) G.bn ba (@a6 _ _ _ _ _ (pv 0) (@a6 _ _ _ _ _ (hV (v:=.ty "tuple") (by rfl) G.fU dX rfl) a9 (by rfl)) (by rfl))))) (qr (aq bN (aZ bH (by rfl) G.qk kK (@a6 _ _ _ _ _ (pv 0) a9 (by rfl))) ae (az _)) (mR (eE (cm (aZ cB (by rfl) G.bn ba (@a6 _ _ _ _ _ (@aK _ _ _ _ _ _ _ aC (pv 0) ae (λ_ _=>rfl)) (@a6 _ _ _ _ _ (hV (v:=.ty "str") (by rfl) G.Cm yQ rfl) a9 (by rfl)) (by rfl))))))))).pt (@af _ _ _ (@ar _ _ _ _ cn)) ao)
    (@ac _ _ _ _ _ (@aB _ _ 1 _ _ _ _ jq.nd rfl (Or.inl rfl) (rP (by rfl) G.xx G.zl (@aK _ _ _ _ _ _ _ aC (pv 0) ae (λ_ _=>rfl)) ⟨rfl,rfl,rfl,rfl⟩) (by rfl) (by first|exact .inl rfl|exact .inr rfl|assumption))
    (@ac _ _ _ _ _ (aM ((qr (aq xJ (pv 1) cC (az _)) (mR (aq mO (aZ bH (by rfl) G.qk kK (@a6 _ _ _ _ _ (pv 0) a9 (by rfl))) (@aA _ _ _ _ _ _ _ _ gp (aZ bH (by rfl) G.qk kK (@a6 _ _ _ _ _ (pv 1) a9 (by rfl))) ae) (az _))))).pt (@af _ _ _ (@ar _ _ _ _ cn)) ao)
    (@af _ _ _ (@ar _ _ _ _ (aZ (vB rfl) (by rfl) G.De Ba (@a6 _ _ _ _ _ (by exact uH (x:="value") (x2:="kind") (g:=EJ K 2 (u9 (gS 0) (u9 (gS 1) EI))) (tc:=λ_ H Q=>Q true H) (te:=C0 tR [] E0 (o6 (ou 0) (o6 (ou 1) zu))) (caps:=[]) (js:=[]) rfl (nC rfl rfl (by decide +kernel) (by decide +kernel) rfl trivial rfl rfl) (nC rfl rfl (by decide +kernel) (by decide +kernel) rfl trivial rfl rfl) (λC s₃ H₃ pins ex E'=>by exact Bs rfl (show (["value","kind"]:List Str).Nodup from by decide +kernel) rfl rfl (.inl (lookup_relabel_local rfl)) (.inl (lookup_relabel_local rfl)) rfl rfl) (λy hy=>by cases hy) .nil (λy hy=>by cases hy) (Bp (by rfl) G.Et (@a6 _ _ _ _ _ (iw Bg (pv 0) (iA ae) nG) (@a6 _ _ _ _ _ (pv 1) a9 (by rfl)) (by rfl))) (λC s₃ H₃ pins ex E'=>by exact mH) (λC s₃ H₃ pins ex E'=>by exact(aP c_is_part (hr.mono (by decide)) (by rfl) G.rQ G.nj.kp G.rX .nil ax (@a6 _ _ _ _ _ (pv 0) (@a6 _ _ _ _ _ (pv 1) a9 (by rfl)) (by rfl))))) a9 (by rfl)))))))),?_⟩
   obtain⟨b,hb,hs⟩:=AE (K:=K) (mg:=mg) (d:=d) (a:=a) x
   have hs:=hs G
   obtain⟨l1,l2'⟩:=x.len
   have ht':H t=some (.tup (.str x.word :: x.args.map V.int)):=by rw[<-x.vs_eq];exact ht
   refine⟨_,rfl,_,_,.type "tuple",true,rfl,.tup ht',sH,_,rfl,fw ?_⟩
   refine⟨_,rfl,t,_,rfl,.inr (SqT.of ht'),rfl,_,rfl,cP (by rw[decide_eq_true_eq];exact λy=>by have:=fE y;rw[List.length_cons]at this;omega) ?_⟩
   refine⟨_,rfl,t,_,_,_,rfl,rfl,SqT.of ht',aY,_,_,.type "str",true,rfl,.str _,zC,_,rfl,fw ?_⟩
   refine⟨_,rfl,t,_,_,_,rfl,rfl,SqT.of ht',aY,x.word,rfl,?_⟩
   rw[hb]
   refine⟨_,rfl,rfl,_,rfl,fw ?_⟩
   refine⟨_,rfl,t,_,rfl,.inr (SqT.of ht'),_,rfl,b,_,rfl,.inr (hs H),_,_,rfl,rfl,rfl,_,rfl,cP ?_ ?_⟩
   . rw[Bool.not_eq_true',decide_eq_false_iff_not,Decidable.not_not]
     refine congrArg V.int ?_
     rw[List.length_cons,List.length_map,List.length_map,l1];rfl
   refine⟨_,rfl,_,rfl,t,_,rfl,SqT.of ht',?_,λp1 hp1=>⟨_,rfl,true,p1,b,_,_,rfl,SqT.of a8,hs _,?_⟩⟩
   . rintro⟨y,_⟩
     rw[show (some (1:Int))=some ((1:Nat):Int) from rfl,HT.sIx_nat,List.length_cons]at y
     omega
   have e1:=ah (o:=.tup (lS (V.str x.word :: x.args.map V.int) (some 1) none)) hp1
   rw[show (some (1:Int))=some ((1:Nat):Int) from rfl,lJ,show List.drop 1 (V.str x.word :: x.args.map V.int)=x.args.map V.int from rfl]at e1 |-
   have v1:upd H p1 (.tup (x.args.map V.int)) p1=some (.tup (x.args.map V.int)):=a8
   intro D hD
   generalize upd H p1 (.tup (x.args.map V.int))=H1 at e1 v1 hD |-
   refine⟨λi mm ys H'=>i <= x.args.length/\mm=x.args.length - i/\ys=(List.replicate i true).map V.bl/\H' D=some (.lst ys)/\∀ c o,c≠D->H1 c=some o->H' c=some o,⟨_,Nat.zero_le _,rfl,rfl,a8,λc o n e=>by rw[ag n];exact e⟩,?_⟩
   rintro i mm ys H2 ⟨hi,rfl,rfl,hD2,k2⟩
   have e2:bU H1 H2:=λc o e=>k2 c o (λy=>by rw[y,hD]at e;cases e) e
   refine⟨hD2,Nat.lt_of_lt_of_le (show _ < 1000 by rw[List.length_map,List.length_replicate];omega) (by decide),?_⟩
   by_cases hii:i=x.args.length
   . refine .inl ⟨⟨_,SqT.of (e2 _ _ v1),by rw[List.length_map];omega⟩,D,List.replicate i true,rfl,SqL.of hD2,?_⟩
     have:(List.replicate i true).all id=true:=by
      rw[List.all_eq_true]
      intro y hy
      rw[(List.mem_replicate.mp hy).2];rfl
     rw[this]
     exact k _ (e1.trans e2)
   . have hlt:i < x.args.length:=by omega
     have hlt2:i < x.ks.length:=by omega
     refine .inr ⟨⟨_,_,_,_,SqT.of (e2 _ _ v1),hs _,by rw[List.getElem?_map,List.getElem?_eq_getElem hlt];rfl,by rw[List.getElem?_map,List.getElem?_eq_getElem hlt2];rfl⟩,?_⟩
     rintro v H3 ⟨T,xv,yv,hT,rfl,rfl,hxv,hyv⟩ v0 v1'
     have hxv:=hxv _ (SqT.of (e2 _ _ v1))
     have hyv:=hyv _ (hs _)
     rw[List.getElem?_map,List.getElem?_eq_getElem hlt]at hxv
     rw[List.getElem?_map,List.getElem?_eq_getElem hlt2]at hyv
     cases hxv
     cases hyv
     refine⟨T,_,rfl,SqT.of a8,rfl,_,_,rfl,_,_,rfl,rfl,_,_,rfl,?_⟩
     refine iT ⟨_,rfl,_,rfl,_,some _,_,rfl,.int _,λH4 e4=>?_⟩
     have hp:=Dd.part hx i _ _ (List.getElem?_eq_getElem hlt) (List.getElem?_eq_getElem hlt2)
     rw[show lb (some _) _=true from hp]
     have nD:D≠T:=λy=>by rw[<-y,hD2]at hT;cases hT
     refine⟨e4 _ _ (by rw[ag nD];exact hD2),x.args.length - (i+1),by omega,by omega,rfl,by rw[List.replicate_succ',List.map_append];rfl,a8,λc o n e=>?_⟩
     rw[ag n]
     exact e4 _ _ (ah hT _ _ (k2 c o n e))
theorem nX (s:Str):(PyProof.Rows.KTD.datumAt s [("ask",a.dN),("collect",a.dQ),("take",a.dY),("answer",a.dW),("bell",a.dP),("lie",a.dR),("look",a.el),("drain",a.eo)]=none/\fB s=none)\/∃ b ks,PyProof.Rows.KTD.datumAt s [("ask",a.dN),("collect",a.dQ),("take",a.dY),("answer",a.dW),("bell",a.dP),("lie",a.dR),("look",a.el),("drain",a.eo)]=some b/\fB s=some ks/\(∀ (G:Gs K mg a d) (H:Hp),SqT K H b (ks.map V.str)):=by
 by_cases h0:s="ask"
 . subst h0;exact .inr ⟨_,_,rfl,rfl,λG=>G.rm⟩
 by_cases h1:s="collect"
 . subst h1;exact .inr ⟨_,_,rfl,rfl,λG=>G.sU⟩
 by_cases h2:s="take"
 . subst h2;exact .inr ⟨_,_,rfl,rfl,λG=>G.tm⟩
 by_cases h3:s="answer"
 . subst h3;exact .inr ⟨_,_,rfl,rfl,λG=>G.sF⟩
 by_cases h4:s="bell"
 . subst h4;exact .inr ⟨_,_,rfl,rfl,λG=>G.sx⟩
 by_cases h5:s="lie"
 . subst h5;exact .inr ⟨_,_,rfl,rfl,λG=>G.rO⟩
 by_cases h6:s="look"
 . subst h6;exact .inr ⟨_,_,rfl,rfl,λG=>G.sN⟩
 by_cases h7:s="drain"
 . subst h7;exact .inr ⟨_,_,rfl,rfl,λG=>G.sv⟩
 refine .inl ⟨?_,?_⟩
 . unfold PyProof.Rows.KTD.datumAt;rw[decide_eq_false h0,if_neg (by decide)]
   unfold PyProof.Rows.KTD.datumAt;rw[decide_eq_false h1,if_neg (by decide)]
   unfold PyProof.Rows.KTD.datumAt;rw[decide_eq_false h2,if_neg (by decide)]
   unfold PyProof.Rows.KTD.datumAt;rw[decide_eq_false h3,if_neg (by decide)]
   unfold PyProof.Rows.KTD.datumAt;rw[decide_eq_false h4,if_neg (by decide)]
   unfold PyProof.Rows.KTD.datumAt;rw[decide_eq_false h5,if_neg (by decide)]
   unfold PyProof.Rows.KTD.datumAt;rw[decide_eq_false h6,if_neg (by decide)]
   unfold PyProof.Rows.KTD.datumAt;rw[decide_eq_false h7,if_neg (by decide)]
   rfl
 . unfold fB;rw[if_neg h0,if_neg h1,if_neg h2,if_neg h3,if_neg h4,if_neg h5,if_neg h6,if_neg h7]
theorem xL (G:Gs K mg a d):FnOk P w K mg base CX0 3 a.iJ d.iJ ["some"] xA:=by
 have c_is_part:FnOk P w K mg base CX0 2 _ _ _ _:=yD G
 refine G.l8.ok jq (λvs H Q E h=>?_) (λcdv A' outer s' H vs Q E hr h=>?_)
 . obtain⟨v,rfl,_⟩:=h
   rfl
 . obtain⟨v,rfl,nd,k⟩:=h
   have hu:=eC hr
   refine⟨_,(@ac _ _ _ _ _ (aM ((qr (eE (cm (aZ cB (by rfl) G.bn ba (@a6 _ _ _ _ _ (pv 0) (@a6 _ _ _ _ _ (hV (v:=.ty "tuple") (by rfl) G.fU dX rfl) a9 (by rfl)) (by rfl))))) (qr (aq bN (aZ bH (by rfl) G.qk kK (@a6 _ _ _ _ _ (pv 0) a9 (by rfl))) ae (az _)) (mR (eE (cm (aZ cB (by rfl) G.bn ba (@a6 _ _ _ _ _ (@aK _ _ _ _ _ _ _ aC (pv 0) ae (λ_ _=>rfl)) (@a6 _ _ _ _ _ (hV (v:=.ty "str") (by rfl) G.Cm yQ rfl) a9 (by rfl)) (by rfl))))))))).pt (@af _ _ _ (@ar _ _ _ _ cn)) ao)
    (@ac _ _ _ _ _ (@aB _ _ 1 _ _ _ _ jq.nd rfl (Or.inl rfl) (rP (by rfl) G.xx G.zl (@aK _ _ _ _ _ _ _ aC (pv 0) ae (λ_ _=>rfl)) ⟨rfl,rfl,rfl,rfl⟩) (by rfl) (by first|exact .inl rfl|exact .inr rfl|assumption))
    (@ac _ _ _ _ _ (aM ((qr (aq xJ (pv 1) cC (az _)) (mR (aq mO (aZ bH (by rfl) G.qk kK (@a6 _ _ _ _ _ (pv 0) a9 (by rfl))) (@aA _ _ _ _ _ _ _ _ gp (aZ bH (by rfl) G.qk kK (@a6 _ _ _ _ _ (pv 1) a9 (by rfl))) ae) (az _))))).pt (@af _ _ _ (@ar _ _ _ _ cn)) ao)
    (@af _ _ _ (@ar _ _ _ _ (aZ (vB rfl) (by rfl) G.De Ba (@a6 _ _ _ _ _ (by exact uH (x:="value") (x2:="kind") (g:=EJ K 2 (u9 (gS 0) (u9 (gS 1) EI))) (tc:=λ_ H Q=>Q true H) (te:=C0 tR [] E0 (o6 (ou 0) (o6 (ou 1) zu))) (caps:=[]) (js:=[]) rfl (nC rfl rfl (by decide +kernel) (by decide +kernel) rfl trivial rfl rfl) (nC rfl rfl (by decide +kernel) (by decide +kernel) rfl trivial rfl rfl) (λC s₃ H₃ pins ex E'=>by exact Bs rfl (show (["value","kind"]:List Str).Nodup from by decide +kernel) rfl rfl (.inl (lookup_relabel_local rfl)) (.inl (lookup_relabel_local rfl)) rfl rfl) (λy hy=>by cases hy) .nil (λy hy=>by cases hy) (Bp (by rfl) G.Et (@a6 _ _ _ _ _ (iw Bg (pv 0) (iA ae) nG) (@a6 _ _ _ _ _ (pv 1) a9 (by rfl)) (by rfl))) (λC s₃ H₃ pins ex E'=>by exact mH) (λC s₃ H₃ pins ex E'=>by exact(aP c_is_part (hr.mono (by decide)) (by rfl) G.rQ G.nj.kp G.rX .nil ax (@a6 _ _ _ _ _ (pv 0) (@a6 _ _ _ _ _ (pv 1) a9 (by rfl)) (by rfl))))) a9 (by rfl)))))))),?_⟩
   have k0:Q (.bl false) H:=k H λ_ _ z=>z
   have tupl:∀ {t:Addr} {l:List V},H t=some (.tup l)->TyOf K H (.ref t) (.type "tuple"):=λh=>.tup h
   cases nd with
  |oth tv n =>
    obtain⟨ty,t1,t2⟩:=tv.nt (K:=K) n
    exact⟨_,rfl,_,_,ty,false,rfl,t1,t2,_,rfl,iT k0⟩
  |emp h=>exact⟨_,rfl,_,_,.type "tuple",true,rfl,tupl h,sH,_,rfl,fw ⟨_,rfl,_,_,rfl,.inr (SqT.of h),rfl,_,rfl,jv (decide_eq_true rfl) k0⟩⟩
  |nos h tv n =>
    refine⟨_,rfl,_,_,.type "tuple",true,rfl,tupl h,sH,_,rfl,fw ?_⟩
    refine⟨_,rfl,_,_,rfl,.inr (SqT.of h),rfl,_,rfl,cP (by rw[decide_eq_true_eq];exact λy=>by have:=fE y;rw[List.length_cons]at this;omega) ?_⟩
    obtain⟨ty,t1,t2⟩:=tv.ns (K:=K) n
    exact⟨_,rfl,_,_,_,_,rfl,rfl,SqT.of h,aY,_,_,ty,false,rfl,t1,t2,_,rfl,iT k0⟩
  |wrd h n =>
    rename_i t s l
    refine⟨_,rfl,_,_,.type "tuple",true,rfl,tupl h,sH,_,rfl,fw ?_⟩
    refine⟨_,rfl,t,_,rfl,.inr (SqT.of h),rfl,_,rfl,cP (by rw[decide_eq_true_eq];exact λy=>by have:=fE y;rw[List.length_cons]at this;omega) ?_⟩
    refine⟨_,rfl,t,_,_,_,rfl,rfl,SqT.of h,aY,_,_,.type "str",true,rfl,.str _,zC,_,rfl,fw ?_⟩
    refine⟨_,rfl,t,_,_,_,rfl,rfl,SqT.of h,aY,s,rfl,?_⟩
    rcases nX (K:=K) (mg:=mg) (d:=d) (a:=a) s with⟨hb,_⟩|⟨b,ks,_,hf,_⟩
    . rw[hb]
      exact⟨_,rfl,rfl,_,rfl,iT k0⟩
    . rw[n]at hf;cases hf
  |len h f n =>
    rename_i t s l ks
    refine⟨_,rfl,_,_,.type "tuple",true,rfl,tupl h,sH,_,rfl,fw ?_⟩
    refine⟨_,rfl,t,_,rfl,.inr (SqT.of h),rfl,_,rfl,cP (by rw[decide_eq_true_eq];exact λy=>by have:=fE y;rw[List.length_cons]at this;omega) ?_⟩
    refine⟨_,rfl,t,_,_,_,rfl,rfl,SqT.of h,aY,_,_,.type "str",true,rfl,.str _,zC,_,rfl,fw ?_⟩
    refine⟨_,rfl,t,_,_,_,rfl,rfl,SqT.of h,aY,s,rfl,?_⟩
    rcases nX (K:=K) (mg:=mg) (d:=d) (a:=a) s with⟨_,hf⟩|⟨b,ks',hb,hf,hs⟩
    . rw[f]at hf;cases hf
    rw[f]at hf
    cases hf
    rw[hb]
    refine⟨_,rfl,rfl,_,rfl,fw ?_⟩
    refine⟨_,rfl,t,_,rfl,.inr (SqT.of h),_,rfl,b,_,rfl,.inr (hs G H),_,_,rfl,rfl,rfl,_,rfl,jv ?_ k0⟩
    rw[Bool.not_eq_true',decide_eq_false_iff_not]
    intro y
    have y:=fE y
    rw[List.length_cons,List.length_map]at y
    omega
  |prt h f e n =>
    rename_i t s ps ks
    have k2':=vE f
    refine⟨_,rfl,_,_,.type "tuple",true,rfl,tupl h,sH,_,rfl,fw ?_⟩
    refine⟨_,rfl,t,_,rfl,.inr (SqT.of h),rfl,_,rfl,cP (by rw[decide_eq_true_eq];exact λy=>by have:=fE y;rw[List.length_cons]at this;omega) ?_⟩
    refine⟨_,rfl,t,_,_,_,rfl,rfl,SqT.of h,aY,_,_,.type "str",true,rfl,.str _,zC,_,rfl,fw ?_⟩
    refine⟨_,rfl,t,_,_,_,rfl,rfl,SqT.of h,aY,s,rfl,?_⟩
    rcases nX (K:=K) (mg:=mg) (d:=d) (a:=a) s with⟨_,hf⟩|⟨b,ks',hb,hf,hs⟩
    . rw[f]at hf;cases hf
    rw[f]at hf
    cases hf
    have hs:=hs G
    rw[hb]
    refine⟨_,rfl,rfl,_,rfl,fw ?_⟩
    refine⟨_,rfl,t,_,rfl,.inr (SqT.of h),_,rfl,b,_,rfl,.inr (hs H),_,_,rfl,rfl,rfl,_,rfl,cP ?_ ?_⟩
    . rw[Bool.not_eq_true',decide_eq_false_iff_not,Decidable.not_not]
      refine congrArg V.int ?_
      rw[List.length_cons,List.length_map,List.length_map,e];rfl
    refine⟨_,rfl,_,rfl,t,_,rfl,SqT.of h,?_,λp1 hp1=>⟨_,rfl,true,p1,b,_,_,rfl,SqT.of a8,hs _,?_⟩⟩
    . rintro⟨y,_⟩
      rw[show (some (1:Int))=some ((1:Nat):Int) from rfl,HT.sIx_nat,List.length_cons]at y
      omega
    have e1:=ah (o:=.tup (lS (V.str s :: ps.map Pt.v) (some 1) none)) hp1
    rw[show (some (1:Int))=some ((1:Nat):Int) from rfl,lJ,show List.drop 1 (V.str s :: ps.map Pt.v)=ps.map Pt.v from rfl]at e1 |-
    have v1:upd H p1 (.tup (ps.map Pt.v)) p1=some (.tup (ps.map Pt.v)):=a8
    intro D hD
    generalize upd H p1 (.tup (ps.map Pt.v))=H1 at e1 v1 hD |-
    have lz:(fu ps ks).length=ps.length:=by unfold fu;rw[List.length_zipWith];omega
    refine⟨λi mm ys H'=>i <= ps.length/\mm=ps.length - i/\ys=((fu ps ks).take i).map V.bl/\H' D=some (.lst ys)/\∀ c o,c≠D->H1 c=some o->H' c=some o,⟨_,Nat.zero_le _,rfl,rfl,a8,λc o n e=>by rw[ag n];exact e⟩,?_⟩
    rintro i mm ys H2 ⟨hi,rfl,rfl,hD2,k2⟩
    have e2:bU H1 H2:=λc o e=>k2 c o (λy=>by rw[y,hD]at e;cases e) e
    refine⟨hD2,Nat.lt_of_lt_of_le (show _ < 1000 by rw[List.length_map,List.length_take];omega) (by decide),?_⟩
    by_cases hii:i=ps.length
    . refine .inl ⟨⟨_,SqT.of (e2 _ _ v1),by rw[List.length_map];omega⟩,D,(fu ps ks).take i,rfl,SqL.of hD2,?_⟩
      rw[List.take_of_length_le (by omega),n]
      exact k _ (e1.trans e2)
    . have hlt:i < ps.length:=by omega
      have hlt2:i < ks.length:=by omega
      refine .inr ⟨⟨_,_,_,_,SqT.of (e2 _ _ v1),hs _,by rw[List.getElem?_map,List.getElem?_eq_getElem hlt];rfl,by rw[List.getElem?_map,List.getElem?_eq_getElem hlt2];rfl⟩,?_⟩
      rintro v H3 ⟨T,xv,yv,hT,rfl,rfl,hxv,hyv⟩ v0 v1'
      have hxv:=hxv _ (SqT.of (e2 _ _ v1))
      have hyv:=hyv _ (hs _)
      rw[List.getElem?_map,List.getElem?_eq_getElem hlt]at hxv
      rw[List.getElem?_map,List.getElem?_eq_getElem hlt2]at hyv
      cases hxv
      cases hyv
      refine⟨T,_,rfl,SqT.of a8,rfl,_,_,rfl,_,_,rfl,rfl,_,_,rfl,?_⟩
      refine iT ⟨_,rfl,_,rfl,_,ps[i].o,_,rfl,ps[i].tv,λH4 e4=>?_⟩
      have nD:D≠T:=λy=>by rw[<-y,hD2]at hT;cases hT
      refine⟨e4 _ _ (by rw[ag nD];exact hD2),ps.length - (i+1),by omega,by omega,rfl,?_,a8,λc o n e=>?_⟩
      . have:(fu ps ks)[i]?=some (lb ps[i].o ks[i]):=by
         unfold fu
         rw[List.getElem?_zipWith,List.getElem?_eq_getElem hlt,List.getElem?_eq_getElem hlt2]
        rw[List.take_add_one,this,List.map_append];rfl
      rw[ag n]
      exact e4 _ _ (ah hT _ _ (k2 c o n e))
theorem xH (G:Gs K mg a d):FnOk P w K mg base CX0 1 a.jS d.jS ["some"] BY:=by
 refine G.nU.ok wz (λvs H Q E h=>?_) (λcdv A' outer s' H vs Q E hr h=>?_)
 . obtain⟨t,x,rfl,_⟩:=h
   rfl
 . obtain⟨t,x,rfl,ht,k⟩:=h
   have hu:=eC hr
   refine⟨_,(@ac _ _ _ _ _ (aM (aq gM (@aK _ _ _ _ _ _ _ aC (pv 0) ae (λ_ _=>rfl)) (@av _ _ _ _ _ (@a6 _ _ _ _ _ ai (@a6 _ _ _ _ _ ai a9 (by rfl)) (by rfl))) (by with_unfolding_all rfl)) (@af _ _ _ (@ar _ _ _ _ ae)) ao)
    (@ac _ _ _ _ _ (aM (aq gM (@aK _ _ _ _ _ _ _ aC (pv 0) ae (λ_ _=>rfl)) (@av _ _ _ _ _ (@a6 _ _ _ _ _ ai (@a6 _ _ _ _ _ ai a9 (by rfl)) (by rfl))) (by with_unfolding_all rfl)) (@af _ _ _ (@ar _ _ _ _ ae)) ao)
    (@af _ _ _ (@ar _ _ _ _ (@aK _ _ _ _ _ _ _ aC (pv 0) ae (λ_ _=>rfl)))))),?_⟩
   have ht':H t=some (.tup (.str x.word :: x.args.map V.int)):=by rw[<-x.vs_eq];exact ht
   refine⟨_,rfl,t,_,_,_,rfl,rfl,SqT.of ht',aY,l2,λt1 h1=>⟨t1,_,rfl,.inr (SqT.of a8),rfl,rfl,_,rfl,?_⟩⟩
   have e1:=ah (o:=.tup [V.str "ask",V.str "collect"]) h1
   generalize upd H t1 (.tup [V.str "ask",V.str "collect"])=H1 at e1 |-
   rcases x.grp with⟨c1,hsd⟩|⟨c1,hsd⟩|⟨c1,hsd⟩
   . refine jv ?_ ?_
     . rcases c1 with y|y<;>(rw[y];decide +kernel)
     . rw[hsd]at k
       exact k H1 e1
   . refine cP ?_ ?_
     . rcases c1 with y|y<;>(rw[y];decide +kernel)
     refine⟨_,rfl,t,_,_,_,rfl,rfl,SqT.of (e1 _ _ ht'),aY,l2,λt2 h2=>⟨t2,_,rfl,.inr (SqT.of a8),rfl,rfl,_,rfl,jv ?_ ?_⟩⟩
     . rcases c1 with y|y<;>(rw[y];decide +kernel)
     . rw[hsd]at k
       exact k _ (e1.trans (ah h2))
   . refine cP ?_ ?_
     . rcases c1 with y|y|y|y<;>(rw[y];decide +kernel)
     refine⟨_,rfl,t,_,_,_,rfl,rfl,SqT.of (e1 _ _ ht'),aY,l2,λt2 h2=>⟨t2,_,rfl,.inr (SqT.of a8),rfl,rfl,_,rfl,cP ?_ ?_⟩⟩
     . rcases c1 with y|y|y|y<;>(rw[y];decide +kernel)
     rw[hsd]at ht'
     exact⟨_,rfl,t,_,_,_,rfl,rfl,SqT.of ((e1.trans (ah h2)) _ _ ht'),rfl,k _ (e1.trans (ah h2))⟩
end
def wO (w:World) (CH CR CS F N:Addr):Sp:=λvs H Q E=>∃ (z:HA) (sa:SA) (p:RP) (n:Nat) (aw:List Int) (m:Mem) (rs:Bool->List Wr),vs=[.ref z.h]/\Hn CH CR H z sa.x p n aw/\StT w CS H sa m rs/\p.Ok/\n <= 9 /\
 if bo p m (rs false) .asked .taken=p.s then E (.ref F) none H else match d9 n aw with|none=>E (.ref N) none H|some _=>Q .non H
def wS (w:World) (CT CR CS F N:Addr):Sp:=λvs H Q E=>∃ (z:TA') (sa:SA) (p:RP) (ts:List Int) (m:Mem) (rs:Bool->List Wr) (nm:Int),vs=[.ref z.h,.int nm]/\Tn CT CR H z sa.x p ts/\StT w CS H sa m rs/\p.Ok /\
 if ts.contains nm=false then E (.ref N) none H else if bo p m (rs true) .answered .handed=p.s then E (.ref F) none H else Q .non H
theorem yV {w:World}{CH CR CS F N:Addr}{vs:List V}{H:Hp}{Q:VK}{E:XK}(h:wO w CH CR CS F N vs H Q E):uD w CH CR CS F N vs H Q E:=by
 obtain⟨z,sa,p,n,aw,m,rs,rfl,hn,⟨M,r,S,R,P⟩,hp,n9,k⟩:=h
 exact⟨z,sa,p,n,aw,M,r,rdC m (rs false) .asked,rdC m (rs false) .taken,rfl,hn,S,hp,n9,cG R (P false) .asked,cG R (P false) .taken,k⟩
theorem zi {w:World}{CT CR CS F N:Addr}{vs:List V}{H:Hp}{Q:VK}{E:XK}(h:wS w CT CR CS F N vs H Q E):rG w CT CR CS F N vs H Q E:=by
 obtain⟨z,sa,p,ts,m,rs,nm,rfl,hn,⟨M,r,S,R,P⟩,hp,k⟩:=h
 exact⟨z,sa,p,ts,M,r,rdC m (rs true) .answered,rdC m (rs true) .handed,nm,rfl,hn,S,hp,cG R (P true) .answered,cG R (P true) .handed,k⟩
def rfC (a:Ad):Rf->Addr
|.deed=>a.bD
|.full=>a.r9
|.name=>a.fA
|.task=>a.fC
def ze (w:World) (ad:Ad):Sp:=λvs H Q E=>∃ (a:YA) (q:YP) (S:YS) (x:Dd) (t:Addr),vs=[.ref a.y,.ref t]/\Yn w ad.bg ad.d4 ad.b7 ad.bX ad.aH H a q S/\q.Ok/\H t=some (.tup x.vs)/\x.Ok /\
 ∀ H',bU H H'->match x.chk q S with|none=>Q .non H'|some r=>E (.ref (rfC ad r)) none H'
theorem tT {f:Bool->Bd}(b:Bool):atI [V.str (f false).key,V.str (f true).key] (sdI b)=some (.str (f b).key):=by cases b<;>rfl
theorem EK {f:Bool->Bool}(b:Bool):atI [V.bl (f false),V.bl (f true)] (sdI b)=some (.bl (f b)):=by cases b<;>rfl
section
variable {P:Program}{w:World}{K:PySem.W.Frag}{mg:Str->Option Value}{base:Heap}{a:Ad}{d:Fd}
theorem zn (G:Gs K mg a d):FnOk P w K mg base (CXv P w) 8 a.cO d.cO ["self","some"] (ze w a):=by
 have c_is_deed:FnOk P w K mg base CX0 3 _ _ _ _:=yJ G
 have c_side_of:FnOk P w K mg base CX0 1 _ _ _ _:=xH G
 have c_Store_waits:FnOk P w K mg base CX0 1 _ _ _ _:=(mz G).imp λvs H Q E=>vc
 have cx_Hand_check_ask:FnOk P w K mg base (CXv P w) 6 _ _ _ _:=(qz G).imp λvs H Q E=>yV
 have cx_Heart_check_answer:FnOk P w K mg base (CXv P w) 6 _ _ _ _:=(o3 G).imp λvs H Q E=>zi
 refine G.lQ.okX (k:=7) kI (λvs H Q E h=>?_) (λcdv A' outer s' H vs Q E hr hR h=>?_)
 . obtain⟨y,q,S,x,t,rfl,_⟩:=h
   rfl
 . obtain⟨y,q,S,x,t,rfl,Y,qo,ht,hx,k⟩:=h
   have hu:=eC hr
   refine⟨_,(@ac _ _ _ _ _ (aM (eE (cm (aP c_is_deed (hr.mono (by decide)) (by rfl) G.sB G.l8.kp G.sI .nil ax (@a6 _ _ _ _ _ (pv 1) a9 (by rfl))))) (@af _ _ _ (eV hR hr.hd (by rfl) G.fG G.xc_NoDeed (@a6 _ _ _ _ _ ai a9 (by rfl)))) ao)
    (@ac _ _ _ _ _ (aM (aq bN (@aK _ _ _ _ _ _ _ aC (pv 1) ae (λ_ _=>rfl)) ai (az _)) (@ac _ _ _ _ _ (aM (eE (mE (au (am (pv 0) rfl) G.aF G.de c_Store_waits (hr.mono (by decide)) G.dM .nil ax (@a6 _ _ _ _ _ (@aK _ _ _ _ _ _ _ aC (pv 1) ae (λ_ _=>rfl)) a9 (by rfl))) (λ_=>rfl))) (@af _ _ _ (eV hR hr.hd (by rfl) G.fG G.xc_NoDeed (@a6 _ _ _ _ _ ai a9 (by rfl)))) ao)
    (@af _ _ _ ub)) ao)
    (@ac _ _ _ _ _ (aM (aq mO (@aK _ _ _ _ _ _ _ bz (am (pv 0) rfl) (aP c_side_of (hr.mono (by decide)) (by rfl) G.re G.nU.kp G.rY .nil ax (@a6 _ _ _ _ _ (pv 1) a9 (by rfl))) (λ_ _=>rfl)) (kF (aq bN (@aK _ _ _ _ _ _ _ aC (pv 1) ae (λ_ _=>rfl)) ai (az _)) ai ai) (az _)) (@af _ _ _ (eV hR hr.hd (by rfl) G.fG G.xc_NoDeed (@a6 _ _ _ _ _ ai a9 (by rfl)))) ao)
    (@ac _ _ _ _ _ (aM (aq bN (@aK _ _ _ _ _ _ _ aC (pv 1) ae (λ_ _=>rfl)) ai (az _)) (@af _ _ _ (@aI _ _ _ _ (aX (am (pv 0) rfl) G.br G.eM cx_Hand_check_ask (hr.mono (by decide)) G.fm .nil hR.passes) (by rfl))) ao)
    (@af _ _ _ (aM (aq bN (@aK _ _ _ _ _ _ _ aC (pv 1) ae (λ_ _=>rfl)) ai (az _)) (@af _ _ _ (@aI _ _ _ _ (au (am (pv 0) rfl) G.bu G.cA cx_Heart_check_answer (hr.mono (by decide)) G.cY .nil hR.passes (@a6 _ _ _ _ _ (@aK _ _ _ _ _ _ _ aC (pv 1) ae (λ_ _=>rfl)) a9 (by rfl))) (by rfl))) ao)))))),?_⟩
   have ht':H t=some (.tup (.str x.word :: x.args.map V.int)):=by rw[<-x.vs_eq];exact ht
   refine⟨_,rfl,t,x,rfl,ht,hx,λH1 e1=>⟨_,rfl,fw ?_⟩⟩
   have Y1:=Y.same e1
   have ht1:=e1 _ _ ht'
   refine⟨_,rfl,t,_,_,_,rfl,rfl,SqT.of ht1,aY,rfl,_,rfl,?_⟩
   by_cases hd:∃ b,x=.drain b
   . obtain⟨b,rfl⟩:=hd
     refine jv (decide_eq_true rfl) ?_
     refine⟨_,rfl,gk Y1.ob G.al G.aL cN (f8 Y1.x.st.ob (cw (by decide +kernel) (by decide +kernel)) ?_)⟩
     refine⟨_,rfl,t,_,_,_,rfl,rfl,SqT.of ht1,rfl,y.sa,S.m,S.rs,b,rfl,Y1.x.st,λp2 ts hp2 dv=>?_⟩
     have e2:=ah (o:=.lst ts) hp2
     have hl:=lj dv
     rw[List.length_map]at hl
     refine⟨!ts.isEmpty,.inl ⟨_,SqL.of a8,rfl⟩,?_⟩
     have k2:=k _ (e1.trans e2)
     cases hrs:S.rs b with
    |nil =>
      rw[hrs]at hl
      have:ts=[]:=List.length_eq_zero_iff.mp hl
      subst this
      rw[show (Dd.drain b).chk q S=some .deed from if_pos hrs]at k2
      exact iT ⟨by show 1 <= sizeLine;decide,k2⟩
    |cons r bS =>
      rw[hrs]at hl
      have:ts.isEmpty=false:=by cases ts with|nil=>cases hl|cons=>rfl
      rw[this]
      rw[show (Dd.drain b).chk q S=none from if_neg (by rw[hrs];exact λy=>by cases y)]at k2
      exact fw k2
   . have hnd:∀ b,x≠.drain b:=λb e=>hd ⟨b,e⟩
     refine cP (by rw[decide_eq_true_eq];exact sne λy=>hd ((x.word_drain).mp y)) ?_
     refine⟨_,rfl,gk Y1.ob G.al G.aN bL ?_⟩
     refine⟨_,rfl,t,x,rfl,e1 _ _ ht,λH2 e2=>?_⟩
     have Y2:=Y1.same e2
     have ht2:=e2 _ _ ht1
     refine⟨y.sl,_,_,_,rfl,rfl,SqL.of Y2.sl,tT x.side,?_⟩
     refine⟨_,rfl,t,_,_,_,rfl,rfl,SqT.of ht2,aY,rfl,_,rfl,?_⟩
     have e3:=e1.trans e2
     have bad:∀ {X:Prop},S.bd x.side≠x.need->E (.ref a.bD) none H2:=λ{X} hb=>by
      have k2:=k H2 e3
      rw[Dd.chk_bed hnd hb]at k2
      exact k2
     rcases x.word_look with⟨hw,hn,b,rfl⟩|⟨hw,hn⟩
     . refine jv (decide_eq_true (by rw[hw])) ⟨rfl,_,rfl,?_⟩
       by_cases hb:S.bd (Dd.look b).side=(Dd.look b).need
       . refine cP (by rw[hb,hn];decide +kernel) ?_
         refine⟨_,rfl,t,_,_,_,rfl,rfl,SqT.of ht2,aY,rfl,_,rfl,cP (by rw[decide_eq_true_eq];exact sne (show ¬ (("look":Str)="ask") by decide +kernel)) ?_⟩
         refine⟨_,rfl,t,_,_,_,rfl,rfl,SqT.of ht2,aY,rfl,_,rfl,cP (by rw[decide_eq_true_eq];exact sne (show ¬ (("look":Str)="answer") by decide +kernel)) ?_⟩
         have k2:=k H2 e3
         rw[show (Dd.look b).chk q S=none from if_pos hb]at k2
         exact k2
       . refine jv ?_ ⟨by show 1 <= sizeLine;decide,bad (X:=True) hb⟩
         have:=D5 hb
         rw[hn]at this
         rw[Bool.not_eq_true',decide_eq_false_iff_not]
         exact this
     . refine cP (by rw[decide_eq_true_eq];exact sne hw) ⟨rfl,_,rfl,?_⟩
       by_cases hb:S.bd x.side=x.need
       . refine cP (by rw[hb,hn];decide +kernel) ?_
         rcases x.word_aa with⟨wt,rfl⟩|⟨nm,wt,rfl⟩|⟨h1,h2,h3⟩
         . refine⟨_,rfl,t,_,_,_,rfl,rfl,SqT.of ht2,aY,rfl,_,rfl,jv (decide_eq_true rfl) ?_⟩
           refine⟨_,rfl,gk Y2.ob G.al G.dJ nA (f8 Y2.x.hn.ob vt ⟨y.z,y.sa,q.p,q.n,S.un,S.m,S.rs,rfl,Y2.x.hn,Y2.x.st,qo.ok,qo.n9,?_⟩)⟩
           have k2:=k H2 e3
           rw[show (Dd.ask wt).chk q S=_ from if_pos hb]at k2
           by_cases hc:bo q.p S.m (S.rs false) .asked .taken=q.p.s
           . rw[if_pos hc]at k2 |-
             exact k2
           . rw[if_neg hc]at k2 |-
             cases hl:d9 q.n S.un with
            |none=>rw[hl]at k2;exact k2
            |some nm =>
              rw[hl]at k2
              exact⟨_,rfl,t,_,_,_,rfl,rfl,SqT.of ht2,aY,rfl,_,rfl,cP (by rw[decide_eq_true_eq];exact sne (show ¬ (("ask":Str)="answer") by decide +kernel)) k2⟩
         . refine⟨_,rfl,t,_,_,_,rfl,rfl,SqT.of ht2,aY,rfl,_,rfl,cP (by rw[decide_eq_true_eq];exact sne (show ¬ (("answer":Str)="ask") by decide +kernel)) ?_⟩
           refine⟨_,rfl,t,_,_,_,rfl,rfl,SqT.of ht2,aY,rfl,_,rfl,jv (decide_eq_true rfl) ?_⟩
           refine⟨_,rfl,gk Y2.ob G.al G.cT kD (f8 Y2.x.tn.ob v6 ⟨_,rfl,t,_,_,_,rfl,rfl,SqT.of ht2,rfl,y.zt,y.sa,q.p,S.tk,S.m,S.rs,nm,rfl,Y2.x.tn,Y2.x.st,qo.ok,?_⟩)⟩
           have k2:=k H2 e3
           rw[show (Dd.answer nm wt).chk q S=_ from if_pos hb]at k2
           by_cases h0:S.tk.contains nm=false
           . rw[if_pos h0]at k2 |-
             exact k2
           . rw[if_neg h0]at k2 |-
             by_cases hc:bo q.p S.m (S.rs true) .answered .handed=q.p.s
             . rw[if_pos hc]at k2 |-
               exact k2
             . rw[if_neg hc]at k2 |-
               exact k2
         . refine⟨_,rfl,t,_,_,_,rfl,rfl,SqT.of ht2,aY,rfl,_,rfl,cP (by rw[decide_eq_true_eq];exact sne h1) ?_⟩
           refine⟨_,rfl,t,_,_,_,rfl,rfl,SqT.of ht2,aY,rfl,_,rfl,cP (by rw[decide_eq_true_eq];exact sne h2) ?_⟩
           have k2:=k H2 e3
           rw[h3 q S hnd hb]at k2
           exact k2
       . refine jv ?_ ⟨by show 1 <= sizeLine;decide,bad (X:=True) hb⟩
         have:=D5 hb
         rw[hn]at this
         rw[Bool.not_eq_true',decide_eq_false_iff_not]
         exact this
end
def ED (s R:Int) (n:Nat) (fs:List Str):YP:=⟨⟨s,if fs.contains "round" then 1 else R,fs.contains "counter"⟩,n,!fs.contains "bell",!fs.contains "lie",!fs.contains "look"⟩
def Av (w:World) (ad:Ad):Sp:=λvs H Q _=>∃ (y dx ft:Addr) (s R:Int) (n:Nat) (fs:List Str),vs=[.ref y,.int s,.int R,.int n,.ref ft]/\H y=some (.ins ad.bg dx [])/\H ft=some (.tup (fs.map V.str)) /\
 ∀ (a:YA) (H':Hp),a.y=y->(∀ c,a.own c->c≠y->H c=none)->Yn w ad.bg ad.d4 ad.b7 ad.bX ad.aH H' a (ED s R n fs) YS.zero->Kp [y] H H'->Q .non H'
def zB (w:World) (ad:Ad):Sp:=λvs H Q _=>∃ (a:YA) (q:YP) (S:YS),vs=[.ref a.y]/\Yn w ad.bg ad.d4 ad.b7 ad.bX ad.aH H a q S/\∀ l ts,H l=none->DVs H S.hs ts->Q (.ref l) (upd H l (.lst ts))
def vX (w:World) (ad:Ad):Sp:=λvs H Q _=>∃ (a:YA) (q:YP) (S:YS) (b:Bool),vs=[.ref a.y,.int (sdI b)]/\Yn w ad.bg ad.d4 ad.b7 ad.bX ad.aH H a q S/\Q (.str (S.bd b).key) H
def vW (w:World) (ad:Ad):Sp:=λvs H Q _=>∃ (a:YA) (q:YP) (S:YS) (b:Bool),vs=[.ref a.y,.int (sdI b)]/\Yn w ad.bg ad.d4 ad.b7 ad.bX ad.aH H a q S/\Q (.bl (S.qt b)) H
def xt (w:World) (ad:Ad):Sp:=λvs H Q _=>∃ (a:YA) (q:YP) (S:YS),vs=[.ref a.y]/\Yn w ad.bg ad.d4 ad.b7 ad.bX ad.aH H a q S/\Q (.ref a.sa.x) H
section
variable {P:Program}{w:World}{K:PySem.W.Frag}{mg:Str->Option Value}{base:Heap}{a:Ad}{d:Fd}
theorem Ao (G:Gs K mg a d):FnOk P w K mg base CX0 1 a.eF d.eF ["self"] (zB w a):=by
 refine G.sS.ok qJ (λvs H Q E h=>?_) (λcdv A' outer s' H vs Q E hr h=>?_)
 . obtain⟨y,q,S,rfl,_⟩:=h
   rfl
 . obtain⟨y,q,S,rfl,Y,k⟩:=h
   refine⟨_,(@af _ _ _ (@ar _ _ _ _ (cx lM (by rfl) G.BI yI (@a6 _ _ _ _ _ (am (pv 0) rfl) a9 (by rfl))))),?_⟩
   obtain⟨ts,h1,h2⟩:=Y.hp
   exact⟨_,rfl,gk Y.ob G.al G.ce iH ⟨y.hp,ts,rfl,.inl (SqL.of h1),λl hl=>k l ts hl h2⟩⟩
theorem jo (G:Gs K mg a d):FnOk P w K mg base CX0 1 a.cL d.cL ["self","side"] (vX w a):=by
 refine G.p9.ok oj (λvs H Q E h=>?_) (λcdv A' outer s' H vs Q E hr h=>?_)
 . obtain⟨y,q,S,b,rfl,_⟩:=h
   rfl
 . obtain⟨y,q,S,b,rfl,Y,k⟩:=h
   refine⟨_,(@af _ _ _ (@ar _ _ _ _ (@aK _ _ _ _ _ _ _ bz (am (pv 0) rfl) (pv 1) (λ_ _=>rfl)))),?_⟩
   exact⟨_,rfl,gk Y.ob G.al G.aN bL ⟨_,rfl,y.sl,_,_,_,rfl,rfl,SqL.of Y.sl,tT b,k⟩⟩
theorem vV (G:Gs K mg a d):FnOk P w K mg base CX0 1 a.bY d.bY ["self","side"] (vW w a):=by
 refine G.nT.ok m6 (λvs H Q E h=>?_) (λcdv A' outer s' H vs Q E hr h=>?_)
 . obtain⟨y,q,S,b,rfl,_⟩:=h
   rfl
 . obtain⟨y,q,S,b,rfl,Y,k⟩:=h
   refine⟨_,(@af _ _ _ (@ar _ _ _ _ (@aK _ _ _ _ _ _ _ bz (am (pv 0) rfl) (pv 1) (λ_ _=>rfl)))),?_⟩
   exact⟨_,rfl,gk Y.ob G.al G.eg mG ⟨_,rfl,y.qu,_,_,_,rfl,rfl,SqL.of Y.qu,EK b,k⟩⟩
theorem xb (G:Gs K mg a d):FnOk P w K mg base CX0 1 a.eT d.eT ["self"] (xt w a):=by
 refine G.rS.ok pW (λvs H Q E h=>?_) (λcdv A' outer s' H vs Q E hr h=>?_)
 . obtain⟨y,q,S,rfl,_⟩:=h
   rfl
 . obtain⟨y,q,S,rfl,Y,k⟩:=h
   refine⟨_,(@af _ _ _ (@ar _ _ _ _ (am (pv 0) rfl))),?_⟩
   exact⟨_,rfl,gk Y.ob G.al G.aL cN k⟩
theorem Ag (G:Gs K mg a d):FnOk P w K mg base CX0 6 a.eS d.eS ["self","size","rounds","names","faults"] (Av w a):=by
 have c_rounds_with:FnOk P w K mg base CX0 1 _ _ _ _:=vj G
 have c_Store__init:FnOk P w K mg base CX0 1 _ _ _ _:=(Cy G).imp λvs H Q E=>Fz
 have c_Hand__init:FnOk P w K mg base CX0 4 _ _ _ _:=A4 G
 have c_Heart__init:FnOk P w K mg base CX0 4 _ _ _ _:=AN G
 refine G.rM.ok qH (λvs H Q E h=>?_) (λcdv A' outer s' H vs Q E hr h=>?_)
 . obtain⟨y,dx,ft,s,R,n,fs,rfl,_⟩:=h
   rfl
 . obtain⟨y,dx,ft,s,R,n,fs,rfl,hx,hf,k⟩:=h
   have hu:=eC hr
   refine⟨_,(@ac _ _ _ _ _ (bF (pv 0) (pv 1) rfl)
    (@ac _ _ _ _ _ (bF (pv 0) (aP c_rounds_with (hr.mono (by decide)) (by rfl) G.kL G.iD.kp G.kW .nil ax (@a6 _ _ _ _ _ (pv 2) (@a6 _ _ _ _ _ (pv 4) a9 (by rfl)) (by rfl))) rfl)
    (@ac _ _ _ _ _ (bF (pv 0) (cx cc (by rfl) G.fU dX (@a6 _ _ _ _ _ (pv 4) a9 (by rfl))) rfl)
    (@ac _ _ _ _ _ (bF (pv 0) (AW G.Cj c_Store__init (hr.mono (by decide)) (by rfl) G.Ci G.qR .nil ax) rfl)
    (@ac _ _ _ _ _ (bF (pv 0) (jO G.DS c_Hand__init (hr.mono (by decide)) (by rfl) G.DO G.sV .nil ax (@a6 _ _ _ _ _ (am (pv 0) rfl) (@a6 _ _ _ _ _ (pv 1) (@a6 _ _ _ _ _ (pv 2) (@a6 _ _ _ _ _ (pv 3) (@a6 _ _ _ _ _ (pv 4) a9 (by rfl)) (by rfl)) (by rfl)) (by rfl)) (by rfl))) rfl)
    (@ac _ _ _ _ _ (bF (pv 0) (jO G.Cc c_Heart__init (hr.mono (by decide)) (by rfl) G.C7 G.qm .nil ax (@a6 _ _ _ _ _ (am (pv 0) rfl) (@a6 _ _ _ _ _ (pv 1) (@a6 _ _ _ _ _ (pv 2) (@a6 _ _ _ _ _ (pv 4) a9 (by rfl)) (by rfl)) (by rfl)) (by rfl))) rfl)
    (@ac _ _ _ _ _ (bF (pv 0) (ii gl ai (pv 4) (by with_unfolding_all rfl)) rfl)
    (@ac _ _ _ _ _ (bF (pv 0) (ii gl ai (pv 4) (by with_unfolding_all rfl)) rfl)
    (@ac _ _ _ _ _ (bF (pv 0) (ii gl ai (pv 4) (by with_unfolding_all rfl)) rfl)
    (@ac _ _ _ _ _ (bF (pv 0) (@bc _ _ _ _ (@a6 _ _ _ _ _ ai (@a6 _ _ _ _ _ ai a9 (by rfl)) (by rfl))) rfl)
    (@ac _ _ _ _ _ (bF (pv 0) (@bc _ _ _ _ (@a6 _ _ _ _ _ cn (@a6 _ _ _ _ _ cn a9 (by rfl)) (by rfl))) rfl)
    (@af _ _ _ (bF (pv 0) (@bc _ _ _ _ a9) rfl))))))))))))),?_⟩
   refine⟨_,rfl,_,rfl,y,a.bg,dx,[],rfl,hx,G.al,G.rC,by decide,?_⟩
   have fy:ft≠y:=λz=>by rw[z,hx]at hf;cases hf
   refine⟨_,rfl,_,rfl,R,ft,fs,rfl,by rw[ag fy];exact hf,_,rfl,y,a.bg,dx,_,rfl,a8,G.al,G.oC,by show 1 < 1000;decide,?_⟩
   rw[cX]
   refine⟨_,rfl,ft,_,rfl,.inr ⟨SqT.of (by rw[ag fy];exact hf),?_⟩⟩
   refine⟨_,rfl,y,a.bg,dx,_,rfl,a8,G.al,G.oE,by show 2 < 1000;decide,?_⟩
   rw[cX]
   generalize hF3:bP "faults" (.ref ft) (bP "rounds" (.int (if fs.contains "round" then 1 else R)) (bP "size" (.int s) []))=F3
   have hl3:F3.length=3:=by rw[<-hF3];rfl
   have kp3:Kp [y] H (upd H y (.ins a.bg dx F3)):=Kp.one
   have hx3:upd H y (.ins a.bg dx F3) y=some (.ins a.bg dx F3):=a8
   have hf3:upd H y (.ins a.bg dx F3) ft=some (.tup (fs.map V.str)):=by rw[ag fy];exact hf
   generalize upd H y (.ins a.bg dx F3)=H3 at kp3 hx3 hf3 |-
   have up:∀ {Hi:Hp} {F:List (Str × V)} {c:Addr} {o:HO},c≠y->Hi c=some o->upd Hi y (.ins a.bg dx F) c=some o:=λn e=>by rw[ag n];exact e
   have nn:∀ {Hi:Hp} {F:List (Str × V)} {c:Addr},Hi y=some (.ins a.bg dx F)->Hi c=none->c≠y:=λe h z=>by rw[z,e]at h;cases h
   intro x dxs nx ndx nex
   refine⟨x,dxs,rfl,a8,λsa H4 hsx fsa S4 kp4=>⟨rfl,?_⟩⟩
   have e4:=mD nx ndx kp4
   have fs4:∀ c,sa.own c->H3 c=none:=λc hc=>by
    by_cases z:c=x
    . rw[z];exact nx
    . exact(up1 (up1 (fsa c hc z)).2).2
   subst hsx
   refine⟨_,rfl,y,a.bg,dx,F3,rfl,e4 _ _ hx3,G.al,G.aL,by rw[hl3];decide,?_⟩
   clear kp4 nx ndx nex fsa
   have S5:StT w a.aH (upd H4 y (.ins a.bg dx (bP "shelf" (.ref sa.x) F3))) sa Mem.zero λ_=>[]:=S4.keep (λc o hc e=>up (nn hx3 (fs4 c hc)) e) λb vs e=>up (λz=>by rw[z,e4 _ _ hx3]at e;cases e) e
   have kp5:Kp [y] H3 (upd H4 y (.ins a.bg dx (bP "shelf" (.ref sa.x) F3))):=λc o n e=>up (λz=>n (List.mem_singleton.mpr z)) (e4 _ _ e)
   have hx5:upd H4 y (.ins a.bg dx (bP "shelf" (.ref sa.x) F3)) y=some (.ins a.bg dx (bP "shelf" (.ref sa.x) F3)):=a8
   have hf5:upd H4 y (.ins a.bg dx (bP "shelf" (.ref sa.x) F3)) ft=some (.tup (fs.map V.str)):=up fy (e4 _ _ hf3)
   generalize upd H4 y (.ins a.bg dx (bP "shelf" (.ref sa.x) F3))=H5 at S5 kp5 hx5 hf5 |-
   clear S4 e4
   refine⟨_,rfl,gk ⟨dx,hx5⟩ G.al G.aL (v:=.ref sa.x) (by rw[aa,if_pos rfl]) ⟨_,rfl,_,rfl,_,rfl,_,rfl,?_⟩⟩
   intro h dh nh ndh neh
   refine⟨h,dh,sa.x,ft,s,R,n,fs,rfl,a8,?_,λz H6 hz g1 g2 g3 hn6 kp6=>⟨rfl,?_⟩⟩
   . rw[ag (aj hf5 nh),ag (aj hf5 ndh)];exact hf5
   have e6:=mD nh ndh kp6
   have fz:∀ c,z.own c->H5 c=none:=λc h2=>by
    rcases h2 with y|y|y|y
    . rw[y,hz];exact nh
    . rw[y];exact(up1 (up1 g1).2).2
    . rw[y];exact(up1 (up1 g2).2).2
    . rw[y];exact(up1 (up1 g3).2).2
   subst hz
   refine⟨_,rfl,y,a.bg,dx,_,rfl,e6 _ _ hx5,G.al,G.dJ,?_,?_⟩
   . rw[<-hF3];show 4 < 1000;decide
   generalize hF7:bP "hand" (.ref z.h) (bP "shelf" (.ref sa.x) F3)=F7
   have S7:StT w a.aH (upd H6 y (.ins a.bg dx F7)) sa Mem.zero λ_=>[]:=(S5.same e6).keep (λc o hc e=>up (nn hx3 (fs4 c hc)) e) λb vs e=>up (λz=>by rw[z,e6 _ _ hx5]at e;cases e) e
   have hn7:Hn a.d4 a.bX (upd H6 y (.ins a.bg dx F7)) z sa.x ⟨s,if fs.contains "round" then 1 else R,fs.contains "counter"⟩ n []:=hn6.keep λc o hc e=>up (nn hx5 (fz c hc)) e
   have kp7:Kp [y] H5 (upd H6 y (.ins a.bg dx F7)):=λc o n e=>up (λz=>n (List.mem_singleton.mpr z)) (e6 _ _ e)
   have hx7:upd H6 y (.ins a.bg dx F7) y=some (.ins a.bg dx F7):=a8
   have hf7:upd H6 y (.ins a.bg dx F7) ft=some (.tup (fs.map V.str)):=up fy (e6 _ _ hf5)
   generalize upd H6 y (.ins a.bg dx F7)=H7 at S7 hn7 kp7 hx7 hf7 |-
   clear kp6 nh ndh neh g1 g2 g3 S5 hn6 e6
   refine⟨_,rfl,gk ⟨dx,hx7⟩ G.al G.aL (v:=.ref sa.x) (by rw[<-hF7,aa,if_neg (by decide +kernel),aa,if_pos rfl]) ⟨_,rfl,_,rfl,_,rfl,?_⟩⟩
   intro h dh nh ndh neh
   refine⟨h,dh,sa.x,ft,s,R,fs,rfl,a8,?_,λzt H8 hz g1 g2 g3 tn8 kp8=>⟨rfl,?_⟩⟩
   . rw[ag (aj hf7 nh),ag (aj hf7 ndh)];exact hf7
   have e8:=mD nh ndh kp8
   have fzt:∀ c,zt.own c->H7 c=none:=λc h2=>by
    rcases h2 with y|y|y|y
    . rw[y,hz];exact nh
    . rw[y];exact(up1 (up1 g1).2).2
    . rw[y];exact(up1 (up1 g2).2).2
    . rw[y];exact(up1 (up1 g3).2).2
   subst hz
   have dz:∀ c,z.own c->¬ zt.own c:=λc h1 h2=>by
    obtain⟨o,e,_⟩:=hn7.there h1
    rw[fzt c h2]at e;cases e
   refine⟨_,rfl,y,a.bg,dx,_,rfl,e8 _ _ hx7,G.al,G.cT,?_,?_⟩
   . rw[<-hF7,<-hF3];show 5 < 1000;decide
   have hf9:∀ F,upd H8 y (.ins a.bg dx F) ft=some (.tup (fs.map V.str)):=λF=>up fy (e8 _ _ hf7)
   refine⟨_,rfl,ft,_,rfl,.inr (SqT.of (hf9 _)),rfl,gQ fs,?_⟩
   refine⟨_,rfl,y,a.bg,dx,_,rfl,a8,G.al,G.fX,?_,?_⟩
   . rw[<-hF7,<-hF3];show 6 < 1000;decide
   rw[cX]
   refine⟨_,rfl,ft,_,rfl,.inr (SqT.of (hf9 _)),rfl,gQ fs,?_⟩
   refine⟨_,rfl,y,a.bg,dx,_,rfl,a8,G.al,G.gq,?_,?_⟩
   . rw[<-hF7,<-hF3];show 7 < 1000;decide
   rw[cX]
   refine⟨_,rfl,ft,_,rfl,.inr (SqT.of (hf9 _)),rfl,gQ fs,?_⟩
   refine⟨_,rfl,y,a.bg,dx,_,rfl,a8,G.al,G.gP,?_,?_⟩
   . rw[<-hF7,<-hF3];show 8 < 1000;decide
   rw[cX]
   simp only[if_true,qE]
   generalize hF9:bP "look_sees" (V.bl (!fs.contains "look")) (bP "lie_fences" (V.bl (!fs.contains "lie")) (bP "bell_fences" (V.bl (!fs.contains "bell")) (bP "heart" (V.ref zt.h) F7)))=F9
   have hl9:F9.length=9:=by rw[<-hF9,<-hF7,<-hF3];rfl
   have S9:StT w a.aH (upd H8 y (.ins a.bg dx F9)) sa Mem.zero λ_=>[]:=(S7.same e8).keep (λc o hc e=>up (nn hx3 (fs4 c hc)) e) λb vs e=>up (λz=>by rw[z,e8 _ _ hx7]at e;cases e) e
   have hn9:=(hn7.same e8).keep (H':=upd H8 y (.ins a.bg dx F9)) λc o hc e=>up (nn hx5 (fz c hc)) e
   have tn9:=Tn.keep (H':=upd H8 y (.ins a.bg dx F9)) tn8 λc o hc e=>up (nn hx7 (fzt c hc)) e
   have kp9:Kp [y] H7 (upd H8 y (.ins a.bg dx F9)):=λc o n e=>up (λz=>n (List.mem_singleton.mpr z)) (e8 _ _ e)
   have hx9:upd H8 y (.ins a.bg dx F9) y=some (.ins a.bg dx F9):=a8
   generalize upd H8 y (.ins a.bg dx F9)=H9 at S9 hn9 tn9 kp9 hx9 |-
   clear kp8 nh ndh neh g1 g2 g3 S7 hn7 e8 tn8 hf9
   have X9:X5 w a.d4 a.b7 a.bX a.aH H9 z zt sa ⟨s,if fs.contains "round" then 1 else R,fs.contains "counter"⟩ n Mem.zero (λ_=>[]) [] []:=⟨hn9,tn9,S9,dz⟩
   clear S9 hn9 tn9
   have kpA:Kp [y] H H9:=kp3.trans (kp5.trans (kp7.trans kp9))
   have ow:∀ c,wP z zt sa c->H3 c=none:=λc hc=>by
    rcases hc with hc|hc|hc
    . exact gc kp5 (fz c hc) λx mx=>by rw[List.mem_singleton.mp mx,hx5];exact λz=>by cases z
    . exact gc (kp5.trans kp7) (fzt c hc) λx mx=>by rw[List.mem_singleton.mp mx,hx7];exact λz=>by cases z
    . exact fs4 c hc
   have owH:∀ c,wP z zt sa c->H c=none:=λc hc=>gc kp3 (ow c hc) λx mx=>by rw[List.mem_singleton.mp mx,hx3];exact λz=>by cases z
   have owy:¬ wP z zt sa y:=λhc=>by have:=ow y hc;rw[hx3]at this;cases this
   clear kp3 kp5 kp7 kp9 fs4 fz fzt
   have stp:∀ {Hi:Hp} {Fi F':List (Str × V)} {l:Addr} {o:HO},Hi y=some (.ins a.bg dx Fi)->Hi l=none->(∀ c u,c≠y->Hi c=some u->upd (upd Hi l o) y (.ins a.bg dx F') c=some u)/\upd (upd Hi l o) y (.ins a.bg dx F') l=some o/\upd (upd Hi l o) y (.ins a.bg dx F') y=some (.ins a.bg dx F'):=λ{Hi Fi F' l o} hy hl =>
    ⟨λc u n e=>up n (by rw[ag (aj e hl)];exact e),up (nn hy hl) a8,a8⟩
   have kx:∀ {Hi Hj:Hp},(∀ c u,c≠y->Hi c=some u->Hj c=some u)->(∃ F,Hi y=some (.ins a.bg dx F))->X5 w a.d4 a.b7 a.bX a.aH Hi z zt sa ⟨s,if fs.contains "round" then 1 else R,fs.contains "counter"⟩ n Mem.zero (λ_=>[]) [] []->X5 w a.d4 a.b7 a.bX a.aH Hj z zt sa ⟨s,if fs.contains "round" then 1 else R,fs.contains "counter"⟩ n Mem.zero (λ_=>[]) [] []:=λ{Hi Hj} kk ⟨F,hy⟩ X=>X.keep (λc o hc e=>kk c o (λy'=>owy (by rw[<-y'];exact hc)) e) λb vs e=>kk b _ (λy'=>by rw[y',hy]at e;cases e) e
   refine⟨l2,λsl hsl=>⟨_,rfl,y,a.bg,dx,F9,rfl,(by rw[ag (aj hx9 hsl)];exact hx9),G.al,G.aN,by rw[hl9];decide,?_⟩⟩
   obtain⟨a1,a2,a3⟩:=stp (F':=bP "sleepers" (.ref sl) F9) (o:=.lst [V.str "up",V.str "up"]) hx9 hsl
   generalize upd (upd H9 sl (.lst [V.str "up",V.str "up"])) y (.ins a.bg dx (bP "sleepers" (.ref sl) F9))=H10 at a1 a2 a3 |-
   have X10:=kx a1 ⟨_,hx9⟩ X9
   refine⟨l2,λqu hqu=>⟨_,rfl,y,a.bg,dx,_,rfl,(by rw[ag (aj a3 hqu)];exact a3),G.al,G.eg,?_,?_⟩⟩
   . rw[<-hF9,<-hF7,<-hF3];show 10 < 1000;decide
   obtain⟨b1,b2,b3⟩:=stp (F':=bP "quiet" (.ref qu) (bP "sleepers" (.ref sl) F9)) (o:=.lst [V.bl true,V.bl true]) a3 hqu
   generalize upd (upd H10 qu (.lst [V.bl true,V.bl true])) y (.ins a.bg dx (bP "quiet" (.ref qu) (bP "sleepers" (.ref sl) F9)))=H11 at b1 b2 b3 |-
   have X11:=kx b1 ⟨_,a3⟩ X10
   have b4:=b1 _ _ (nn hx9 hsl) a2
   refine⟨uc,λhp hhp=>⟨_,rfl,y,a.bg,dx,_,rfl,(by rw[ag (aj b3 hhp)];exact b3),G.al,G.ce,?_,?_⟩⟩
   . rw[<-hF9,<-hF7,<-hF3];show 11 < 1000;decide
   obtain⟨c1,c2,c3⟩:=stp (F':=bP "happened" (.ref hp) (bP "quiet" (.ref qu) (bP "sleepers" (.ref sl) F9))) (o:=.lst []) b3 hhp
   generalize upd (upd H11 hp (.lst [])) y (.ins a.bg dx (bP "happened" (.ref hp) (bP "quiet" (.ref qu) (bP "sleepers" (.ref sl) F9))))=H12 at c1 c2 c3 |-
   have X12:=kx c1 ⟨_,b3⟩ X11
   have c4:=c1 _ _ (nn hx9 hsl) b4
   have c5:=c1 _ _ (nn a3 hqu) b2
   have n1:sl≠qu:=aj a2 hqu
   have n2:sl≠hp:=aj b4 hhp
   have n3:qu≠hp:=aj b2 hhp
   have kpB:Kp [y] H H12:=λc o n e=>c1 c o (λz=>n (List.mem_singleton.mpr z)) (b1 c o (λz=>n (List.mem_singleton.mpr z)) (a1 c o (λz=>n (List.mem_singleton.mpr z)) (kpA c o n e)))
   have nH:∀ {Hi:Hp} {c:Addr},Kp [y] H Hi->(∃ F,Hi y=some (.ins a.bg dx F))->Hi c=none->H c=none:=λkk ⟨F,e⟩ h=>gc kk h λx mx=>by rw[List.mem_singleton.mp mx,e];exact λz=>by cases z
   have kp10:Kp [y] H H10:=λc o n e=>a1 c o (λz=>n (List.mem_singleton.mpr z)) (kpA c o n e)
   have kp11:Kp [y] H H11:=λc o n e=>b1 c o (λz=>n (List.mem_singleton.mpr z)) (kp10 c o n e)
   refine k ⟨y,ft,sa,z,zt,sl,qu,hp⟩ H12 rfl (λc hc ny=>?_) ⟨⟨dx,?_⟩,X12,c4,c5,⟨[],c2,rfl⟩,λ_ h=>(by cases h),λc hc h5=>?_,⟨n1,n2,n3⟩,owy⟩ kpB
   . rcases hc with y'|hc|y'|y'|y'
     . exact absurd y' ny
     . exact owH c hc
     . rw[y'];exact nH kpA ⟨_,hx9⟩ hsl
     . rw[y'];exact nH kp10 ⟨_,a3⟩ hqu
     . rw[y'];exact nH kp11 ⟨_,b3⟩ hhp
   . rw[c3,<-hF9,<-hF7,<-hF3];rfl
   . rcases hc with y'|y'|y'
     . obtain⟨o,e,_⟩:=X9.there h5
       rw[y',hsl]at e;cases e
     . obtain⟨o,e,_⟩:=X10.there h5
       rw[y',hqu]at e;cases e
     . obtain⟨o,e,_⟩:=X11.there h5
       rw[y',hhp]at e;cases e
end
section
variable {H:Hp}{M:List (PyData × V)}{m:Mem}
theorem BK (R:MemR H M m):EH M:=λp hp=>by
 obtain⟨c,_,e⟩:=vA _ (R.ks p hp)
 cases c with
|c k=>exact .inl ⟨_,e.symm⟩
|p g i=>exact .inr ⟨_,e.symm⟩
theorem DX (R:MemR H M m) (nd:(M.map (·.1)).Nodup):∀ p∈M,WV H p.2:=λp hp=>by
 obtain⟨c,_,e⟩:=vA _ (R.ks p hp)
 have hp':(c.key,p.2)∈M:=by rw[e];exact hp
 rcases Cp R nd c with⟨_,z⟩|⟨dd,v,e1,hv,_,dv⟩
 . rw[z _ hp'];exact⟨.int 0,rfl,by show 0 <= 8;decide,rfl⟩
 . have a1:=ki nd R.kk hv
   have a2:=ki nd R.kk hp'
   rw[a1]at a2
   cases a2
   cases c with
  |c k =>
    have e1':(if m.c k=0 then none else some (PyData.int (m.c k)))=some dd:=e1
    split at e1'
    . cases e1'
    . cases e1';exact⟨_,rfl,by show 0 <= 8;decide,dv⟩
  |p g i =>
    obtain⟨nw,_,rfl⟩:=Option.map_eq_some_iff.mp e1
    exact⟨_,rfl,by show 1 <= 8;decide,dv⟩
end
def Cb:Sp:=λvs H Q _=>∃ (v:V) (c:Ck),vs=[v]/\c∈eB/\DV H c.key v/\∀ H',bU H H'->Q (.str (lY c.key)) H'
theorem FA {g:Bool}{i:Int}(h:Ck.p g i∈eB):0 <= i/\i < 8:=by
 simp only[eB,List.mem_cons,List.not_mem_nil,or_false,Ck.p.injEq,reduceCtorEq,false_or]at h
 omega
def Ds (g:Bool) (i:Int):Prop:=i.natAbs.log2 < 1920/\([mq g,(toString i:String)].map (λs:Str=>s.length)).sum+[mq g,(toString i:String)].length * (" ":Str).length <= 16777216
theorem Ei {g:Bool}{i:Int}(h:0 <= i/\i < 8):Ds g i:=by
 have:i=0\/i=1\/i=2\/i=3\/i=4\/i=5\/i=6\/i=7:=by omega
 unfold Ds
 rcases this with rfl|rfl|rfl|rfl|rfl|rfl|rfl|rfl<;>cases g<;>decide +kernel
section
variable {P:Program}{w:World}{K:PySem.W.Frag}{mg:Str->Option Value}{base:Heap}{a:Ad}{d:Fd}
theorem CB (G:Gs K mg a d):FnOk P w K mg base CX0 1 a.jV d.jV ["cell"] Cb:=by
 refine G.yr.ok vK (λvs H Q E h=>?_) (λcdv A' outer s' H vs Q E hr h=>?_)
 . obtain⟨v,c,rfl,_⟩:=h
   rfl
 . obtain⟨v,c,rfl,hc,dv,k⟩:=h
   refine⟨_,(@ac _ _ _ _ _ (aM (cm (aZ cB (by rfl) G.bn ba (@a6 _ _ _ _ _ (pv 0) (@a6 _ _ _ _ _ (hV (v:=.ty "tuple") (by rfl) G.fU dX rfl) a9 (by rfl)) (by rfl)))) (@af _ _ _ (@ar _ _ _ _ (@mf _ _ _ _ _ _ _ _ _ _ _ _ PySem.F.plainAttrs_str PySem.F.slot_str_join PySem.F.type_str_join Cg ai (@a6 _ _ _ _ _ (by exact ug (caps:=[]) (js:=[]) rfl (nC rfl rfl (by decide +kernel) (by decide +kernel) rfl trivial rfl rfl) (by decide +kernel) (λy hy=>by cases hy) .nil (λy hy=>by cases hy) (xw (pv 0)) (λC s₃ H₃ pins ex E'=>by exact mH) (λC s₃ H₃ pins ex E'=>by exact(cx AD (by rfl) G.Cm yQ (@a6 _ _ _ _ _ (pv 0) a9 (by rfl))))) a9 (by rfl)) (by rfl) (by rfl) (by rfl) (by rfl) (by rfl)))) ao)
    (@af _ _ _ (@ar _ _ _ _ (pv 0)))),?_⟩
   cases c with
  |c kn =>
    have:v=.str kn.key:=dv
    subst this
    exact⟨_,rfl,_,_,.type "str",false,rfl,.str _,Ft,_,rfl,fw ⟨_,rfl,k H λ_ _ e=>e⟩⟩
  |p g i =>
    obtain⟨t,vs,rfl,ht,u1,r1,rfl,e1,u2,r2,rfl,e2,rfl⟩:=dv
    have e1':u1=.str (mq g):=e1
    have e2':u2=.int i:=e2
    subst e1' e2'
    obtain⟨b1,b2⟩:=Ei (g:=g) (FA hc)
    refine⟨_,rfl,_,_,.type "tuple",true,rfl,.tup ht,sH,_,rfl,iT ?_⟩
    refine⟨rfl,_,rfl,t,rfl,⟨_,SqT.of ht⟩,λD hD=>?_⟩
    have e0:∀ ys,bU H (upd H D (.lst ys)):=λys=>ah hD
    refine⟨λj mm ys H'=>j <= 2/\mm=2 - j/\ys=([V.str (mq g),V.str (toString i:String)]:List V).take j/\H'=upd H D (.lst ys),⟨_,Nat.zero_le _,rfl,rfl,rfl⟩,?_⟩
    rintro j mm ys H2 ⟨hj,rfl,rfl,rfl⟩
    refine⟨a8,Nat.lt_of_lt_of_le (show _ < 1000 by rw[List.length_take];show min j 2 < 1000;omega) (by decide),?_⟩
    match j,hj with
   |0,_ =>
     refine .inr ⟨⟨_,_,SqT.of (e0 _ _ _ ht),rfl⟩,?_⟩
     rintro v H3 ⟨rfl,hv⟩
     have hv:=hv _ (SqT.of (e0 _ _ _ ht))
     cases hv
     exact iT ⟨_,rfl,.inr ⟨_,rfl,a8,1,by decide,by decide,rfl,rfl,by rw[cX]⟩⟩
   |1,_ =>
     refine .inr ⟨⟨_,_,SqT.of (e0 _ _ _ ht),rfl⟩,?_⟩
     rintro v H3 ⟨rfl,hv⟩
     have hv:=hv _ (SqT.of (e0 _ _ _ ht))
     cases hv
     exact iT ⟨_,rfl,.inl ⟨i,rfl,b1,a8,0,by decide,by decide,rfl,rfl,by rw[cX]⟩⟩
   |2,_ =>
     exact .inl ⟨⟨_,SqT.of (e0 _ _ _ ht),Nat.le_refl _⟩," ",D,[mq g,(toString i:String)],rfl,rfl,SqL.of a8,b2,k _ (e0 _)⟩
end
theorem x8 {α β:Type}{R:α->β->Prop}{L:α->α->Prop}{L':β->β->Prop}(h:∀ a a' b b',R a b->R a' b'->L' b b'->L a a'):∀ {as:List α}{bs:List β},Paired R as bs->bs.Pairwise L'->as.Pairwise L:=by
 intro as bs p
 induction p with
|nil=>intro _;exact .nil
|@cons a b as bs r t ih =>
  intro hb
  rw[List.pairwise_cons]at hb |-
  refine⟨λa' ha'=>?_,ih hb.2⟩
  obtain⟨i,hi,rfl⟩:=List.getElem_of_mem ha'
  obtain⟨b',hb',r'⟩:=Paired.at' t (List.getElem?_eq_getElem hi)
  exact h a as[i] b b' r r' (hb.1 b' (List.mem_of_getElem? hb'))
def PT (H:Hp) (p:PyData × PyData) (v:V):Prop:=MX.kd (.tuple [p.1,p.2])=true/\DV H (.tuple [p.1,p.2]) v
theorem PT.keep {H H':Hp}(ht:∀ b vs,H b=some (.tup vs)->H' b=some (.tup vs)) {ps:List (PyData × PyData)}{vs:List V}(h:Paired (PT H) ps vs):Paired (PT H') ps vs:=Paired.mapP h λ_ _ q=>⟨q.1,DV.keep ht _ _ q.1 q.2⟩
theorem Bj {H:Hp}:∀ {ps:List (PyData × PyData)}{vs:List V},Paired (PT H) ps vs->DVs H (ps.map λp=>.tuple [p.1,p.2]) vs
|_,_,.nil=>rfl
|_,_,.cons r t=>⟨_,_,rfl,r.2,Bj t⟩
theorem rK:∀ row:List Wr,MX.kds (row.map wrD)=true
|[]=>rfl
|x :: row=>by
  show ((MX.kd x.key && (MX.kd x.dat && true)) && MX.kds (row.map wrD))=true
  rw[x.key_kd,x.dat_kd,rK row];rfl
theorem mK {H:Hp}:∀ ns:List Int,DVs H (ns.map PyData.int) (ns.map V.int)
|[]=>rfl
|n :: ns=>⟨_,_,rfl,rfl,mK ns⟩
theorem oq {H:Hp}:∀ {kvs:List (PyData × V)}{ts:List V},Paired (λ(kv:PyData × V) t=>mv H kv.1 t) kvs ts->Paired (λ(kv:PyData × V) (p:Str × V)=>p.1=lY kv.1/\mv H kv.1 p.2) kvs ((kvs.map λkv=>lY kv.1).zip ts)
|_,_,.nil=>.nil
|_,_,.cons r t=>.cons ⟨rfl,r⟩ (oq t)
def Fr (row:List Wr):PyData:=.tuple (row.map wrD)
def Fu (ns:List Int):PyData:=.tuple (ns.map PyData.int)
def pE (S:YS) (us ks:List Int):PyData:=.tuple [.tuple ((fW S.m).map λp=>.tuple [p.1,p.2]),Fr (S.rs false),Fr (S.rs true),Fu us,Fu ks,.str (S.bd false).key,.str (S.bd true).key]
def zS (w:World) (ad:Ad):Sp:=λvs H Q _=>∃ (a:YA) (q:YP) (S:YS),vs=[.ref a.y]/\Yn w ad.bg ad.d4 ad.b7 ad.bX ad.aH H a q S/\S.un.length < 64/\S.tk.length < 64 /\
 ∀ (t:Addr) (us ks:List Int) (vs:List V) (H':Hp),us.Perm S.un->us.Pairwise (· <= ·)->ks.Perm S.tk->ks.Pairwise (· <= ·)->H t=none->bU H H'->H' t=some (.tup vs)->DV H' (pE S us ks) (.ref t)->Q (.ref t) H'
section
variable {P:Program}{w:World}{K:PySem.W.Frag}{mg:Str->Option Value}{base:Heap}{a:Ad}{d:Fd}
theorem zw (G:Gs K mg a d):FnOk P w K mg base CX0 4 a.eL d.eL ["self"] (zS w a):=by
 have c_Store_cells:FnOk P w K mg base CX0 1 _ _ _ _:=Ac G
 have c_Store_memory:FnOk P w K mg base CX0 1 _ _ _ _:=rB G
 have c_Store_waits:FnOk P w K mg base CX0 1 _ _ _ _:=(mz G).imp λvs H Q E=>vc
 have c_Hand_under_way:FnOk P w K mg base CX0 1 _ _ _ _:=AU G
 have c_Heart_tasks:FnOk P w K mg base CX0 1 _ _ _ _:=Aq G
 have c_text_of:FnOk P w K mg base CX0 1 _ _ _ _:=CB G
 refine G.sJ.ok kB (λvs H Q E h=>?_) (λcdv A' outer s' H vs Q E hr h=>?_)
 . obtain⟨y,q,S,rfl,_⟩:=h
   rfl
 . obtain⟨y,q,S,rfl,Y,ul,kl,k⟩:=h
   have hu:=eC hr
   refine⟨_,(@ac _ _ _ _ _ (@aB _ _ 1 _ _ _ _ kB.nd rfl (Or.inl rfl) (A0 c_text_of (hr.mono (by decide)) G.yj (by rfl) G.qZ (by rfl) G.wZ (aX (am (pv 0) rfl) G.aF G.oB c_Store_cells (hr.mono (by decide)) G.qx .nil ax)) (by rfl) (by first|exact .inl rfl|exact .inr rfl|assumption))
    (@af _ _ _ (@ar _ _ _ _ (@av _ _ _ _ _ (@a6 _ _ _ _ _ (cx cc (by rfl) G.fU dX (@a6 _ _ _ _ _ (by exact ug (tc:=λ_ H Q=>Q true H) (te:=DM (o6 (ou 0) (o6 (CM a.aH "memory" (rA w a.aH) [] E0 (F5 K (ou 1) "shelf") (o6 (ou 0) zu)) zu))) (caps:=["self"]) (js:=[0]) rfl (nC rfl rfl (by decide +kernel) (by decide +kernel) rfl ⟨rfl,trivial⟩ rfl rfl) (by decide +kernel) (λy hy=>by simp only[List.mem_cons,List.not_mem_nil,or_false]at hy;rcases hy with rfl<;>exact⟨_,rfl⟩) (.cons ⟨rfl,.inl rfl⟩ .nil) (λy hy=>by simp only[List.mem_cons,List.not_mem_nil,or_false]at hy;rcases hy with rfl<;>exact Or.inl rfl) (l9 (pv 1)) (λC s₃ H₃ pins ex E'=>by exact mH) (λC s₃ H₃ pins ex E'=>by exact(@av _ _ _ _ _ (@a6 _ _ _ _ _ (pv 0) (@a6 _ _ _ _ _ (au (am (pv 1) rfl) G.aF G.jl c_Store_memory (hr.mono (by decide)) G.jG .nil ax (@a6 _ _ _ _ _ (pv 0) a9 (by rfl))) a9 (by rfl)) (by rfl))))) a9 (by rfl))) (@a6 _ _ _ _ _ (cx cc (by rfl) G.fU dX (@a6 _ _ _ _ _ (au (am (pv 0) rfl) G.aF G.de c_Store_waits (hr.mono (by decide)) G.dM .nil ax (@a6 _ _ _ _ _ ae a9 (by rfl))) a9 (by rfl))) (@a6 _ _ _ _ _ (cx cc (by rfl) G.fU dX (@a6 _ _ _ _ _ (au (am (pv 0) rfl) G.aF G.de c_Store_waits (hr.mono (by decide)) G.dM .nil ax (@a6 _ _ _ _ _ ae a9 (by rfl))) a9 (by rfl))) (@a6 _ _ _ _ _ (cx cc (by rfl) G.fU dX (@a6 _ _ _ _ _ (aX (am (pv 0) rfl) G.br G.lh c_Hand_under_way (hr.mono (by decide)) G.ma .nil ax) a9 (by rfl))) (@a6 _ _ _ _ _ (cx cc (by rfl) G.fU dX (@a6 _ _ _ _ _ (aX (am (pv 0) rfl) G.bu G.oK c_Heart_tasks (hr.mono (by decide)) G.qp .nil ax) a9 (by rfl))) (@a6 _ _ _ _ _ (@aK _ _ _ _ _ _ _ bz (am (pv 0) rfl) ae (λ_ _=>rfl)) (@a6 _ _ _ _ _ (@aK _ _ _ _ _ _ _ bz (am (pv 0) rfl) ae (λ_ _=>rfl)) a9 (by rfl)) (by rfl)) (by rfl)) (by rfl)) (by rfl)) (by rfl)) (by rfl)))))),?_⟩
   obtain⟨M,r,St,R,Pr⟩:=id Y.x.st
   have nd:(M.map (·.1)).Nodup:=by obtain⟨_,_,_,_,nd,_⟩:=St.me;exact nd
   have ml:=StT.small St R
   refine⟨_,rfl,gk Y.ob G.al G.aL cN (f8 Y.x.st.ob (cw (by decide +kernel) (by decide +kernel)) ⟨y.sa.x,y.sa.hd,y.sa.rl,y.sa.l,M,r,rfl,St,BK R,by omega,DX R nd,λp1 ts hp1 pr1=>?_⟩)⟩
   have fl:=List.length_filter_le nz M
   have tl:=bA pr1
   refine⟨p1,ts,(M.filter nz).map λkv=>lY kv.1,rfl,SqL.of a8,by rw[List.length_map];exact tl,by omega,?_,λD H1 ps hD e1 hD1 pm pw=>?_⟩
   . intro i x key hx hkey H' e'
     obtain⟨kv,hkv,hK⟩:=nS pr1 hx
     rw[List.getElem?_map,hkv]at hkey
     cases hkey
     have hm:=(List.mem_filter.mp (List.mem_of_getElem? hkv)).1
     obtain⟨c,hc,ec⟩:=vA _ (R.ks kv hm)
     refine⟨x,c,rfl,hc,?_,λH'' e''=>⟨by rw[ec],e''⟩⟩
     rw[ec]
     exact DV.keep (λb vs e=>e' _ _ (ah hp1 _ _ e)) _ _ hK.1 hK.2.2.1
   obtain⟨qs,pq1,pq2⟩:=mQ pm (oq pr1)
   have pqs:qs.Pairwise λa b=>leS (lY a.1) (lY b.1):=x8 (λa a' b b' r r' h=>by rw[<-r.1,<-r'.1];exact h) pq2 pw
   have cd:=xm R nd pq1 pqs
   have E1:bU H H1:=(ah hp1).trans e1
   have cl:=bA cd
   have pl2:=bA pq2
   have ql:=pq1.length_eq
   refine⟨_,rfl,D,rfl,⟨_,SqL.of hD1⟩,λD2 hD2=>?_⟩
   refine⟨λi mm ys H'=>i <= ps.length/\mm=ps.length - i/\Paired (PT H') ((fW S.m).take i) ys/\H' D2=some (.lst ys)/\∀ c o,c≠D2->H1 c=some o->H' c=some o,⟨_,Nat.zero_le _,rfl,.nil,a8,λc o n e=>by rw[ag n];exact e⟩,?_⟩
   rintro i mm ys H2 ⟨hi,rfl,py,hD22,k2⟩
   have e2:bU H1 H2:=λc o e=>k2 c o (λy=>by rw[y,hD2]at e;cases e) e
   have yl:=bA py
   rw[List.length_take]at yl
   refine⟨hD22,Nat.lt_of_lt_of_le (show _ < 1000 by omega) (by decide),?_⟩
   by_cases hii:i=ps.length
   rotate_left
   . have hlt:i < ps.length:=by omega
     refine .inr ⟨⟨_,_,SqL.of (e2 _ _ hD1),by rw[List.getElem?_map,List.getElem?_eq_getElem hlt];rfl⟩,?_⟩
     rintro v H3 ⟨rfl,hv⟩
     have hv:=hv _ (SqL.of (e2 _ _ hD1))
     rw[List.getElem?_map,List.getElem?_eq_getElem hlt]at hv
     cases hv
     obtain⟨kv,hkv,r1,r2⟩:=nS pq2 (List.getElem?_eq_getElem hlt)
     obtain⟨p,hp,c1,c2⟩:=Paired.at' cd hkv
     have hm:=(List.mem_filter.mp (pq1.mem_iff.mp (List.mem_of_getElem? hkv))).1
     have E2:bU H H3:=E1.trans e2
     have Y2:=Y.same E2
     have tu:∀ b vs,H b=some (.tup vs)->H3 b=some (.tup vs):=λb vs=>E2 b _
     refine iT ⟨_,rfl,_,rfl,gk Y2.ob G.al G.aL cN (f8 Y2.x.st.ob (cw (by decide +kernel) (by decide +kernel)) ⟨_,rfl,y.sa.x,y.sa.hd,y.sa.rl,y.sa.l,M,r,_,kv.1,rfl,St.keep (λc o _=>E2 c o) tu,⟨r2.1,r2.2.1,DV.keep tu _ _ r2.1 r2.2.2.1,r2.2.2.2⟩,l2,λt ht=>?_⟩)⟩
     rw[ki nd R.kk (show (kv.1,kv.2)∈M from hm)]
     have et:=ah (o:=.tup [ps[i].2,((some kv.2).getD (V.int 0))]) ht
     have nD:D2≠t:=aj hD22 ht
     have tu2:∀ b vs,H3 b=some (.tup vs)->upd (upd H3 t (.tup [ps[i].2,((some kv.2).getD (V.int 0))])) D2 (.lst (ys++[.ref t])) b=some (.tup vs):=λb vs e=>by
      rw[ag (λz=>by rw[z,hD22]at e;cases e)];exact et _ _ e
     have kdp:MX.kd p.2=true/\MX.kd p.1=true:=by
      obtain⟨c,hc,e⟩:=List.mem_filterMap.mp (List.mem_of_getElem? hp)
      obtain⟨dd,hd,rfl⟩:=Option.map_eq_some_iff.mp e
      cases c with
     |c kk =>
       have hd':(if S.m.c kk=0 then none else some (PyData.int (S.m.c kk)))=some dd:=hd
       split at hd'
       . cases hd'
       . cases hd';exact⟨rfl,oO kk⟩
     |p g j =>
       obtain⟨nw,_,rfl⟩:=Option.map_eq_some_iff.mp hd
       exact⟨rfl,oY g j⟩
     refine⟨by rw[ag nD];exact hD22,ps.length - (i+1),by omega,by omega,rfl,?_,a8,λc o n e=>by rw[ag n];exact et _ _ (k2 c o n e)⟩
     rw[List.take_add_one,hp]
     refine Paired.snoc (PT.keep tu2 py) ⟨?_,?_⟩
     . show (MX.kd p.1 && (MX.kd p.2 && true))=true
       rw[kdp.1,kdp.2];rfl
     . refine⟨t,_,rfl,(by rw[ag (Ne.symm nD)];exact a8),_,_,rfl,?_,_,_,rfl,?_,rfl⟩
       . rw[<-c1]
         exact DV.keep (λb vs e=>tu2 _ _ (tu _ _ e)) _ _ r2.1 r2.2.2.1
       . exact DV.keep (λb vs e=>tu2 _ _ (tu _ _ e)) _ _ kdp.1 c2
   refine .inl ⟨⟨_,SqL.of (e2 _ _ hD1),by rw[List.length_map];omega⟩,?_⟩
   rw[hii,List.take_of_length_le (by omega)]at py
   refine⟨D2,ys,rfl,.inl ⟨SqL.of hD22,λt1 ht1=>?_⟩⟩
   have E2:bU H H2:=E1.trans e2
   have s1:=ah (o:=.tup ys) ht1
   have v1:upd H2 t1 (.tup ys) t1=some (.tup ys):=a8
   have p1':=PT.keep (λb vs=>s1 b _) py
   have E3:bU H (upd H2 t1 (.tup ys)):=E2.trans s1
   generalize upd H2 t1 (.tup ys)=H3 at s1 v1 p1' E3 |-
   clear py hD22 k2 e2 s1 E2 hD1 hD2 e1 hD pm pw pq1 pq2 cd E1
   have Y3:=Y.same E3
   refine⟨_,rfl,gk Y3.ob G.al G.aL cN (f8 Y3.x.st.ob (cw (by decide +kernel) (by decide +kernel)) ⟨y.sa,S.m,S.rs,false,rfl,Y3.x.st,λq2 r2 hq2 d2=>⟨q2,r2,rfl,.inl ⟨SqL.of a8,λt2 ht2=>?_⟩⟩⟩)⟩
   have s2:=(ah (o:=.lst r2) hq2).trans (ah (o:=.tup r2) ht2)
   have v2:upd (upd H3 q2 (.lst r2)) t2 (.tup r2) t2=some (.tup r2):=a8
   generalize upd (upd H3 q2 (.lst r2)) t2 (.tup r2)=H4 at s2 v2 |-
   have d2':=DVs.keep (λb vs=>s2 b _) _ _ (rK _) d2
   have Y4:=Y3.same s2
   refine⟨_,rfl,gk Y4.ob G.al G.aL cN (f8 Y4.x.st.ob (cw (by decide +kernel) (by decide +kernel)) ⟨y.sa,S.m,S.rs,true,rfl,Y4.x.st,λq3 r3 hq3 d3=>⟨q3,r3,rfl,.inl ⟨SqL.of a8,λt3 ht3=>?_⟩⟩⟩)⟩
   have s3:=(ah (o:=.lst r3) hq3).trans (ah (o:=.tup r3) ht3)
   have v3:upd (upd H4 q3 (.lst r3)) t3 (.tup r3) t3=some (.tup r3):=a8
   generalize upd (upd H4 q3 (.lst r3)) t3 (.tup r3)=H5 at s3 v3 |-
   have d3':=DVs.keep (λb vs=>s3 b _) _ _ (rK _) d3
   have Y5:=Y4.same s3
   refine⟨_,rfl,gk Y5.ob G.al G.dJ nA (f8 Y5.x.hn.ob zU ⟨y.z,y.sa.x,q.p,_,S.un,rfl,Y5.x.hn,ul,λq4 us hq4 pmu pwu=>⟨q4,us.map V.int,rfl,.inl ⟨SqL.of a8,λt4 ht4=>?_⟩⟩⟩)⟩
   have s4:=(ah (o:=.lst (us.map V.int)) hq4).trans (ah (o:=.tup (us.map V.int)) ht4)
   have v4:upd (upd H5 q4 (.lst (us.map V.int))) t4 (.tup (us.map V.int)) t4=some (.tup (us.map V.int)):=a8
   generalize upd (upd H5 q4 (.lst (us.map V.int))) t4 (.tup (us.map V.int))=H6 at s4 v4 |-
   have Y6:=Y5.same s4
   refine⟨_,rfl,gk Y6.ob G.al G.cT kD (f8 Y6.x.tn.ob zN ⟨y.zt,y.sa.x,q.p,S.tk,rfl,Y6.x.tn,kl,λq5 ks hq5 pmk pwk=>⟨q5,ks.map V.int,rfl,.inl ⟨SqL.of a8,λt5 ht5=>?_⟩⟩⟩)⟩
   have s5:=(ah (o:=.lst (ks.map V.int)) hq5).trans (ah (o:=.tup (ks.map V.int)) ht5)
   have v5:upd (upd H6 q5 (.lst (ks.map V.int))) t5 (.tup (ks.map V.int)) t5=some (.tup (ks.map V.int)):=a8
   generalize upd (upd H6 q5 (.lst (ks.map V.int))) t5 (.tup (ks.map V.int))=H7 at s5 v5 |-
   have Y7:=Y6.same s5
   refine⟨_,rfl,gk Y7.ob G.al G.aN bL ⟨y.sl,_,_,_,rfl,rfl,SqL.of Y7.sl,tT (f:=S.bd) false,?_⟩⟩
   refine⟨_,rfl,gk Y7.ob G.al G.aN bL ⟨y.sl,_,_,_,rfl,rfl,SqL.of Y7.sl,tT (f:=S.bd) true,?_⟩⟩
   refine⟨by show 7 <= sizeLine;decide,λt8 ht8=>?_⟩
   have s8:=ah (o:=.tup [V.ref t1,V.ref t2,V.ref t3,V.ref t4,V.ref t5,V.str (S.bd false).key,V.str (S.bd true).key]) ht8
   have v8:upd H7 t8 (.tup [V.ref t1,V.ref t2,V.ref t3,V.ref t4,V.ref t5,V.str (S.bd false).key,V.str (S.bd true).key]) t8=some (.tup [V.ref t1,V.ref t2,V.ref t3,V.ref t4,V.ref t5,V.str (S.bd false).key,V.str (S.bd true).key]):=a8
   have E7:bU H H7:=E3.trans (s2.trans (s3.trans (s4.trans s5)))
   generalize upd H7 t8 (.tup [V.ref t1,V.ref t2,V.ref t3,V.ref t4,V.ref t5,V.str (S.bd false).key,V.str (S.bd true).key])=H8 at s8 v8 |-
   have b5:=s5.trans s8
   have b4:=s4.trans b5
   have b3:=s3.trans b4
   have b2:=s2.trans b3
   refine k t8 us ks _ H8 pmu pwu pmk pwk (bK E7 ht8) (E7.trans s8) v8 ⟨t8,_,rfl,v8,_,_,rfl,⟨t1,ys,rfl,b2 _ _ v1,Bj (PT.keep (λb vs=>b2 b _) p1')⟩,_,_,rfl,⟨t2,r2,rfl,b3 _ _ v2,DVs.keep (λb vs=>b3 b _) _ _ (rK _) d2'⟩,_,_,rfl,⟨t3,r3,rfl,b4 _ _ v3,DVs.keep (λb vs=>b4 b _) _ _ (rK _) d3'⟩,_,_,rfl,⟨t4,_,rfl,b5 _ _ v4,mK us⟩,_,_,rfl,⟨t5,_,rfl,s8 _ _ v5,mK ks⟩,_,_,rfl,rfl,_,_,rfl,rfl,rfl⟩
end
section
variable {K:PySem.W.Frag}
end
section
variable {P:Program}{w:World}{K:PySem.W.Frag}{mg:Str->Option Value}{base:Heap}{a:Ad}{d:Fd}
end
def rR (ns:List Int) (k:Nat):Int:=ns.getD k 0
def xN (K:PySem.W.Frag):Sp:=λvs H Q _=>∃ (b:Addr) (ns:List Int) (k:Nat),vs=[.ref b,.int k]/\SqL K H b (ns.map V.int)/\Q (.int (rR ns k)) H
structure MkOk (s R n:Int) (fs:List Str):Prop where
 s1:1 <= s
 s8:s <= 8
 R2:2 <= R
 R4:R <= 4
 n1:1 <= n
 n9:n <= 9
 fl:fs.length <= 5
def Cs:Sp:=λvs H Q _=>∃ c:Int,vs=[.int c]/\∀ (t ft:Addr) (s R n:Int) (fs:List Str) (H':Hp),MkOk s R n fs->bU H H'->H t=none->H' t=some (.tup [.int s,.int R,.int n,.ref ft])->H' ft=some (.tup (fs.map V.str))->Q (.ref t) H'
section
variable {P:Program}{w:World}{K:PySem.W.Frag}{mg:Str->Option Value}{base:Heap}{a:Ad}{d:Fd}
theorem yn (G:Gs K mg a d):FnOk P w K mg base CX0 1 a.dA d.dA ["script","k"] (xN K):=by
 refine G.ez.ok oW (λvs H Q E h=>?_) (λcdv A' outer s' H vs Q E hr h=>?_)
 . obtain⟨b,ns,k,rfl,_⟩:=h
   rfl
 . obtain⟨b,ns,k,rfl,hS,q⟩:=h
   refine⟨_,(@ac _ _ _ _ _ (aM (aq F4 (pv 1) (aZ bH (by rfl) G.qk kK (@a6 _ _ _ _ _ (pv 0) a9 (by rfl))) (az _)) (@af _ _ _ (@ar _ _ _ _ (@aK _ _ _ _ _ _ _ bz (pv 0) (pv 1) (λ_ _=>rfl)))) ao)
    (@af _ _ _ (@ar _ _ _ _ ae))),?_⟩
   refine⟨_,rfl,_,rfl,b,_,rfl,.inl hS,_,_,rfl,rfl,_,rfl,?_⟩
   by_cases h:k < ns.length
   . refine jv (decide_eq_true (by rw[List.length_map];omega)) ?_
     refine⟨_,rfl,_,rfl,b,_,_,_,rfl,rfl,hS,E8 (j:=k) (v:=.int (rR ns k)) ?_,q⟩
     unfold rR
     rw[List.getElem?_map,List.getElem?_eq_getElem h,List.getD_eq_getElem?_getD,List.getElem?_eq_getElem h];rfl
   . refine cP (by rw[decide_eq_true_eq,List.length_map];omega) ?_
     have:rR ns k=0:=by unfold rR;rw[List.getD_eq_getElem?_getD,List.getElem?_eq_none (by omega)];rfl
     rw[this]at q
     exact q
theorem D4 (G:Gs K mg a d):FnOk P w K mg base CX0 1 a.iC d.iC ["cell"] Cs:=by
 refine G.pK.ok cz (λvs H Q E h=>?_) (λcdv A' outer s' H vs Q E hr h=>?_)
 . obtain⟨c,rfl,_⟩:=h
   rfl
 . obtain⟨c,rfl,k⟩:=h
   refine⟨_,(@ac _ _ _ _ _ (@aB _ _ 1 _ _ _ _ cz.nd rfl (Or.inl rfl) (@aA _ _ _ _ _ _ _ _ bh (pv 0) (@aA _ _ _ _ _ _ _ _ f9 ae ae)) (by rfl) (by first|exact .inl rfl|exact .inr rfl|assumption))
    (@ac _ _ _ _ _ (@aB _ _ 2 _ _ _ _ cz.nd rfl (Or.inl rfl) (@aA _ _ _ _ _ _ _ _ gp ae (@aA _ _ _ _ _ _ _ _ bh (pv 1) ae)) (by rfl) (by first|exact .inl rfl|exact .inr rfl|assumption))
    (@gh _ _ _ _ _ (aM (aq bN (@aA _ _ _ _ _ _ _ _ bh (@aA _ _ _ _ _ _ _ _ bB (pv 1) ae) ae) ae (az _)) (@af _ _ _ (@aB _ _ 2 _ _ _ _ cz.nd rfl (Or.inl rfl) (@aA _ _ _ _ _ _ _ _ gp ae (@aA _ _ _ _ _ _ _ _ bh (pv 1) ae)) (by rfl) (by first|exact .inl rfl|exact .inr rfl|assumption))) ao)
    (@ac _ _ _ _ _ (@aB _ _ 3 _ _ _ _ cz.nd rfl (Or.inl rfl) (@bc _ _ _ _ a9) (by rfl) (by first|exact .inl rfl|exact .inr rfl|assumption))
    (@ac _ _ _ _ _ (@aB _ _ 4 _ _ _ _ cz.nd rfl (Or.inl rfl) (@aA _ _ _ _ _ _ _ _ bB (pv 1) ae) (by rfl) (by first|exact .inl rfl|exact .inr rfl|assumption))
    (@ac _ _ _ _ _ (kN PassesOwn.never rfl (l9 (@bc _ _ _ _ (@a6 _ _ _ _ _ ai (@a6 _ _ _ _ _ ai (@a6 _ _ _ _ _ ai (@a6 _ _ _ _ _ ai (@a6 _ _ _ _ _ ai a9 (by rfl)) (by rfl)) (by rfl)) (by rfl)) (by rfl)))) (cZ (i:=5) cz.nd rfl (Or.inl rfl)) (@gh _ _ _ _ _ (aM (aq bN (@aA _ _ _ _ _ _ _ _ bh (pv 4) ae) ae (az _)) (@af _ _ _ (@aI _ _ _ _ (@mf _ _ _ _ _ _ _ _ _ _ _ _ PySem.F.plainAttrs_list PySem.F.slot_list_append PySem.F.type_list_append cq (pv 3) (@a6 _ _ _ _ _ (pv 5) a9 (by rfl)) (by rfl) (by rfl) (by rfl) (by rfl) (by rfl)) (by rfl))) ao)
    (@af _ _ _ (@aB _ _ 4 _ _ _ _ cz.nd rfl (Or.inl rfl) (@aA _ _ _ _ _ _ _ _ bB (pv 4) ae) (by rfl) (by first|exact .inl rfl|exact .inr rfl|assumption)))))
    (@af _ _ _ (@ar _ _ _ _ (@av _ _ _ _ _ (@a6 _ _ _ _ _ (pv 2) (@a6 _ _ _ _ _ (@aA _ _ _ _ _ _ _ _ gp ae (@aA _ _ _ _ _ _ _ _ bh (@aA _ _ _ _ _ _ _ _ bB (pv 1) ae) ae)) (@a6 _ _ _ _ _ (@aA _ _ _ _ _ _ _ _ gp ae (@aA _ _ _ _ _ _ _ _ bh (@aA _ _ _ _ _ _ _ _ bB (pv 1) ae) ae)) (@a6 _ _ _ _ _ (cx cc (by rfl) G.fU dX (@a6 _ _ _ _ _ (pv 3) a9 (by rfl))) a9 (by rfl)) (by rfl)) (by rfl)) (by rfl))))))))))),?_⟩
   have e12:(10:Int) ^ (12:Int).toNat=1000000000000:=by decide
   refine⟨_,rfl,_,_,rfl,rfl,⟨by decide,by decide,by decide⟩,_,_,rfl,rfl,by show (0:Int) < 10 ^ (12:Int).toNat;decide,?_⟩
   have d0:=Int.emod_nonneg c (show (10 ^ (12:Int).toNat:Int)≠0 by decide)
   have d1:=Int.emod_lt_of_pos c (show (0:Int) < 10 ^ (12:Int).toNat by decide)
   rw[e12]at d0 d1
   obtain⟨dr,hdr⟩:∃ dr,dr=c % 10 ^ (12:Int).toNat:=⟨_,rfl⟩
   have m8:=Int.emod_nonneg dr (show (8:Int)≠0 by decide)
   have m8':=Int.emod_lt_of_pos dr (show (0:Int) < 8 by decide)
   have m3:=Int.emod_nonneg dr (show (3:Int)≠0 by decide)
   have m3':=Int.emod_lt_of_pos dr (show (0:Int) < 3 by decide)
   refine⟨_,rfl,_,_,rfl,rfl,(show (0:Int) < 8 from by decide),_,_,rfl,rfl,?_⟩
   refine⟨λσ' H'=>H'=H/\∃ s,σ'=[some (.int c),some (.int dr),some (.int s),none,none,none]/\1 <= s/\s <= 8,?_,?_⟩
   . refine⟨_,rfl,_,_,rfl,rfl,⟨by decide,by decide⟩,_,_,rfl,rfl,(show (0:Int) < 2 from by decide),rfl,_,rfl,?_⟩
     refine u7 (λ_=>?_) (λ_=>?_)
     . exact⟨_,rfl,_,_,rfl,rfl,(show (0:Int) < 3 from by decide),_,_,rfl,rfl,rfl,1+dr % 3,by rw[hdr];rfl,by omega,by omega⟩
     . exact⟨rfl,1+dr % 8,by rw[hdr];rfl,by omega,by omega⟩
   . rintro σ' H' ⟨rfl,s,rfl,s1,s8⟩
     refine⟨uc,λfl hfl=>?_⟩
     refine⟨_,rfl,_,_,rfl,rfl,⟨by decide,by decide⟩,?_⟩
     refine⟨by show 5 <= sizeLine;decide,λlw hlw=>⟨lw,rfl,⟨_,SqL.of a8⟩,?_⟩⟩
     have e1:=(ah (o:=.lst []) hfl).trans (ah (o:=.lst [V.str "bell",V.str "counter",V.str "lie",V.str "look",V.str "round"]) hlw)
     have v1:upd (upd H' fl (.lst [])) lw (.lst [V.str "bell",V.str "counter",V.str "lie",V.str "look",V.str "round"]) fl=some (.lst (([]:List Str).map V.str)):=by rw[ag (aj a8 hlw)];exact a8
     have vl:upd (upd H' fl (.lst [])) lw (.lst [V.str "bell",V.str "counter",V.str "lie",V.str "look",V.str "round"]) lw=some (.lst [V.str "bell",V.str "counter",V.str "lie",V.str "look",V.str "round"]):=a8
     generalize upd (upd H' fl (.lst [])) lw (.lst [V.str "bell",V.str "counter",V.str "lie",V.str "look",V.str "round"])=H1 at e1 v1 vl |-
     have nfl:lw≠fl:=λz=>by rw[z,v1]at vl;cases vl
     refine kY (K:=K) (a:=lw) (xs:=[V.str "bell",V.str "counter",V.str "lie",V.str "look",V.str "round"]) (λi σ H2=>∃ (fs:List Str) (b:Int),(∃ v5,σ=[some (.int c),some (.int dr),some (.int s),some (.ref fl),some (.int b),v5])/\fs.length <= i/\H2 fl=some (.lst (fs.map V.str))/\(∀ c o,c≠fl->H1 c=some o->H2 c=some o))
      ⟨[],_,⟨_,rfl⟩,Nat.le_refl _,v1,λ_ _ _ e=>e⟩ (λ_ _ _ _ ⟨_,_,_,_,_,z⟩=>SqL.of (z _ _ nfl vl)) ?_ ?_
     . rintro i x σ H2 hi ⟨fs,b,⟨v5,rfl⟩,fll,v2,k2⟩
       have hi5:i < 5:=(List.getElem?_eq_some_iff.mp hi).1
       obtain⟨wd,rfl⟩:∃ wd,x=.str wd:=by
        match i,hi with
       |0,hi=>cases hi;exact⟨_,rfl⟩
       |1,hi=>cases hi;exact⟨_,rfl⟩
       |2,hi=>cases hi;exact⟨_,rfl⟩
       |3,hi=>cases hi;exact⟨_,rfl⟩
       |4,hi=>cases hi;exact⟨_,rfl⟩
       |_+5,hi=>cases hi
       refine⟨λσ' H3=>∃ (fs:List Str),σ'=[some (.int c),some (.int dr),some (.int s),some (.ref fl),some (.int b),some (.str wd)]/\fs.length <= i+1/\H3 fl=some (.lst (fs.map V.str))/\(∀ c o,c≠fl->H1 c=some o->H3 c=some o),?_,?_⟩
       . refine⟨_,rfl,_,_,rfl,rfl,(show (0:Int) < 2 from by decide),rfl,_,rfl,?_⟩
         refine u7 (λ_=>?_) (λ_=>?_)
         . refine⟨_,rfl,.inl ⟨rfl,_,SqL.of v2⟩,_,rfl,fl,_,_,rfl,rfl,v2,Nat.lt_of_lt_of_le (show _ < 1000 by rw[List.length_map];omega) (by decide),fs++[wd],rfl,by rw[List.length_append];show _+1 <= _;omega,by rw[a8,List.map_append];rfl,λc o n e=>by rw[ag n];exact k2 c o n e⟩
         . exact⟨fs,rfl,by omega,v2,k2⟩
       . rintro σ' H3 ⟨fs',rfl,fl3,v3,k3⟩
         exact⟨_,rfl,_,_,rfl,rfl,⟨by decide,by decide⟩,fs',_,⟨_,rfl⟩,fl3,v3,k3⟩
     . rintro σ H2 ⟨fs,b,⟨v5,rfl⟩,fll,v2,k2⟩
       have a0:=Int.emod_nonneg (dr / 16) (show (3:Int)≠0 by decide)
       have a1:=Int.emod_lt_of_pos (dr / 16) (show (0:Int) < 3 by decide)
       have b0:=Int.emod_nonneg (dr / 48) (show (9:Int)≠0 by decide)
       have b1:=Int.emod_lt_of_pos (dr / 48) (show (0:Int) < 9 by decide)
       refine⟨_,rfl,_,rfl,_,_,rfl,rfl,⟨by decide,by decide⟩,_,_,rfl,rfl,(show (0:Int) < 3 from by decide),_,_,rfl,rfl,_,rfl,_,_,rfl,rfl,⟨by decide,by decide⟩,_,_,rfl,rfl,(show (0:Int) < 9 from by decide),_,_,rfl,rfl,?_⟩
       refine⟨_,rfl,fl,_,rfl,.inl ⟨SqL.of v2,λft hft=>⟨by show 4 <= sizeLine;decide,λt ht=>?_⟩⟩⟩
       have e2:bU H' H2:=λc o e=>k2 c o (λz=>aj e hfl z) (e1 _ _ e)
       have e3:=(ah (o:=.tup (fs.map V.str)) hft)
       have e4:=ah (o:=.tup [V.int s,V.int (2+dr / 16 % 3),V.int (1+dr / 48 % 9),V.ref ft]) ht
       exact k t ft s _ _ fs _ ⟨s1,s8,by omega,by omega,by omega,by omega,fll⟩ ((e2.trans e3).trans e4) (bK (e2.trans e3) ht) a8 (e4 _ _ a8)
end
def ye (w:World) (CH CR CS:Addr):Sp:=λvs H Q _=>∃ (z:HA) (sa:SA) (p:RP) (n:Int) (aw:List Int) (m:Mem) (rs:Bool->List Wr),vs=[.ref z.h]/\Hn CH CR H z sa.x p n aw/\StT w CS H sa m rs/\p.Ok/\Q (.bl (decide (bo p m (rs false) .answered .handed≠0))) H
def xh (w:World) (CT CR CS:Addr):Sp:=λvs H Q _=>∃ (z:TA') (sa:SA) (p:RP) (ts:List Int) (m:Mem) (rs:Bool->List Wr),vs=[.ref z.h]/\Tn CT CR H z sa.x p ts/\StT w CS H sa m rs/\p.Ok/\Q (.bl (decide (bo p m (rs true) .asked .taken≠0))) H
def x0 (w:World) (ad:Ad):Sp:=λvs H Q _=>∃ (a:YA) (q:YP) (S:YS) (b:Bool),vs=[.ref a.y,.int (sdI b)]/\Yn w ad.bg ad.d4 ad.b7 ad.bX ad.aH H a q S/\q.Ok/\Q (.bl (swT q S b)) H
def Bh (w:World) (ad:Ad) (a:YA) (q:YP) (S':YS) (L:Nat) (dd:PyData) (H:Hp) (Q:VK):Prop:=∀ (v:V) (H':Hp),Yn w ad.bg ad.d4 ad.b7 ad.bX ad.aH H' a q S'->YI q S' (L+2)->DV H' dd v->KO a.own H H'->Q v H'
structure Rdy (w:World) (ad:Ad) (H:Hp) (a:YA) (q:YP) (S:YS) (L:Nat):Prop where
 y:Yn w ad.bg ad.d4 ad.b7 ad.bX ad.aH H a q S
 ok:q.Ok
 i:YI q S L
 l:L < 90000
def An (w:World) (ad:Ad):Sp:=λvs H Q _=>∃ (a:YA) (q:YP) (S:YS) (L:Nat) (wt:Int),vs=[.ref a.y,.int wt]/\Rdy w ad H a q S L/\bo q.p S.m (S.rs false) .asked .taken≠q.p.s/\d9 q.n S.un≠none/\Bh w ad a q ((Dd.ask wt).run q S).2 L ((Dd.ask wt).run q S).1 H Q
def zy (w:World) (ad:Ad):Sp:=λvs H Q _=>∃ (a:YA) (q:YP) (S:YS) (L:Nat) (nm wt:Int),vs=[.ref a.y,.int nm,.int wt]/\Rdy w ad H a q S L/\S.tk.contains nm≠false/\bo q.p S.m (S.rs true) .answered .handed≠q.p.s/\Bh w ad a q ((Dd.answer nm wt).run q S).2 L ((Dd.answer nm wt).run q S).1 H Q
theorem ot {own:Addr->Prop}{H1 H2 H3:Hp}(h1:KO own H1 H2) (h2:KO own H2 H3):KO own H1 H3:=h1.trans h2 λ_ hc=>.inl hc
theorem oQ {own:Addr->Prop}{H:Hp}{c:Addr}{o:HO}(h:own c):KO own H (upd H c o):=KO.of_kp Kp.one λx hx=>by rw[List.mem_singleton.mp hx];exact h
theorem uJ {p:RP}{m:Mem}{row:List Wr}{g:Bool}{a:Cn}{nm wt:Int}:(AY p m row g a nm wt).length=2:=by
 unfold AY;cases p.e<;>rfl
theorem jj {rs:Bool->List Wr}{L n:Nat}(h:∀ b,(rs b).length <= L) (b:Bool) {row:List Wr}(hr:row.length <= L+n):∀ c,(bt rs b row c).length <= L+n:=λc=>by
 by_cases e:c=b
 . subst e;rw[aS];exact hr
 . rw[ff e];have:=h c;omega
section
variable {P:Program}{w:World}{K:PySem.W.Frag}{mg:Str->Option Value}{base:Heap}{a:Ad}{d:Fd}
theorem xU (G:Gs K mg a d):FnOk P w K mg base CX0 6 a.aU d.aU ["self"] (ye w a.d4 a.bX a.aH):=by
 have c_Ring_filled:FnOk P w K mg base CX0 3 _ _ _ _:=kM G
 refine G.iP.ok i9 (λvs H Q E h=>?_) (λcdv A' outer s' H vs Q E hr h=>?_)
 . obtain⟨z,sa,p,n,aw,m,rs,rfl,_⟩:=h
   rfl
 . obtain⟨z,sa,p,n,aw,m,rs,rfl,hn,⟨M,r,S,R,Pr⟩,hp,k⟩:=h
   refine⟨_,(@af _ _ _ (@ar _ _ _ _ (ii mO (aX (am (pv 0) rfl) G.ay G.eW c_Ring_filled (hr.mono (by decide)) G.fF .nil ax) ae (az _)))),?_⟩
   obtain⟨dx,hx⟩:=hn.ob
   obtain⟨dr,hrb⟩:=hn.rb
   refine⟨_,rfl,fld hx G.br G.fT pO ⟨z.rb,dr,_,rfl,hrb,kP,z.rb,sa,false,"answer","answered","handed",p,M,r,rdC m (rs false) .answered,rdC m (rs false) .handed,rfl,⟨dr,hrb⟩,S,hp,by decide +kernel,by decide +kernel,cG R (Pr false) .answered,cG R (Pr false) .handed,rfl,?_⟩⟩
   have e:(!decide (V.int ((rdC m (rs false) .answered - rdC m (rs false) .handed) % (p.s * p.R))=V.int 0))=decide (bo p m (rs false) .answered .handed≠0):=by
    rw[Bool.eq_iff_iff,Bool.not_eq_true',decide_eq_false_iff_not,decide_eq_true_eq]
    exact not_congr ⟨λh=>by injection h,λh=>congrArg V.int h⟩
   rw[e]
   exact k
theorem yd (G:Gs K mg a d):FnOk P w K mg base CX0 6 a.aR d.aR ["self"] (xh w a.b7 a.bX a.aH):=by
 have c_Ring_filled:FnOk P w K mg base CX0 3 _ _ _ _:=kM G
 refine G.iE.ok gL (λvs H Q E h=>?_) (λcdv A' outer s' H vs Q E hr h=>?_)
 . obtain⟨z,sa,p,ts,m,rs,rfl,_⟩:=h
   rfl
 . obtain⟨z,sa,p,ts,m,rs,rfl,hn,⟨M,r,S,R,Pr⟩,hp,k⟩:=h
   refine⟨_,(@af _ _ _ (@ar _ _ _ _ (ii mO (aX (am (pv 0) rfl) G.ay G.eW c_Ring_filled (hr.mono (by decide)) G.fF .nil ax) ae (az _)))),?_⟩
   obtain⟨dx,hx⟩:=hn.ob
   obtain⟨dr,hra⟩:=hn.ra
   refine⟨_,rfl,fld hx G.bu G.iG xc ⟨z.ra,dr,_,rfl,hra,kP,z.ra,sa,true,"ask","asked","taken",p,M,r,rdC m (rs true) .asked,rdC m (rs true) .taken,rfl,⟨dr,hra⟩,S,hp,by decide +kernel,by decide +kernel,cG R (Pr true) .asked,cG R (Pr true) .taken,rfl,?_⟩⟩
   have e:(!decide (V.int ((rdC m (rs true) .asked - rdC m (rs true) .taken) % (p.s * p.R))=V.int 0))=decide (bo p m (rs true) .asked .taken≠0):=by
    rw[Bool.eq_iff_iff,Bool.not_eq_true',decide_eq_false_iff_not,decide_eq_true_eq]
    exact not_congr ⟨λh=>by injection h,λh=>congrArg V.int h⟩
   rw[e]
   exact k
theorem yq (G:Gs K mg a d):FnOk P w K mg base CX0 7 a.aV d.aV ["self","side"] (x0 w a):=by
 have c_Hand_something_waits:FnOk P w K mg base CX0 6 _ _ _ _:=xU G
 have c_Heart_something_waits:FnOk P w K mg base CX0 6 _ _ _ _:=yd G
 refine G.iS.ok i6 (λvs H Q E h=>?_) (λcdv A' outer s' H vs Q E hr h=>?_)
 . obtain⟨y,q,S,b,rfl,_⟩:=h
   rfl
 . obtain⟨y,q,S,b,rfl,Y,qo,k⟩:=h
   refine⟨_,(@af _ _ _ (@ar _ _ _ _ (kF (aq bN (pv 1) ae (az _)) (aX (am (pv 0) rfl) G.br G.ik c_Hand_something_waits (hr.mono (by decide)) G.iR .nil ax) (aX (am (pv 0) rfl) G.bu G.gI c_Heart_something_waits (hr.mono (by decide)) G.ip .nil ax)))),?_⟩
   refine⟨_,rfl,rfl,_,rfl,?_⟩
   cases b with
  |false =>
    refine jv (by decide +kernel) ?_
    exact⟨_,rfl,gk Y.ob G.al G.dJ nA (f8 Y.x.hn.ob Ar ⟨y.z,y.sa,q.p,_,S.un,S.m,S.rs,rfl,Y.x.hn,Y.x.st,qo.ok,k⟩)⟩
  |true =>
    refine cP (by decide +kernel) ?_
    exact⟨_,rfl,gk Y.ob G.al G.cT kD (f8 Y.x.tn.ob B5 ⟨y.zt,y.sa,q.p,S.tk,S.m,S.rs,rfl,Y.x.tn,Y.x.st,qo.ok,k⟩)⟩
theorem uQ (G:Gs K mg a d):FnOk P w K mg base CX0 9 a.di d.di ["self","worth"] (An w a):=by
 have cx_Hand_ask:FnOk P w K mg base (CXv P w) 8 _ _ _ _:=(DP G).imp λvs H Q E=>Gr
 refine G.qh.ok jE (λvs H Q E h=>?_) (λcdv A' outer s' H vs Q E hr h=>?_)
 . obtain⟨y,q,S,L,wt,rfl,_⟩:=h
   rfl
 . obtain⟨y,q,S,L,wt,rfl,Rd,hc,hl,k⟩:=h
   have Y:=Rd.y
   have ll:=Rd.l
   have ul:=Rd.i.und.len (by have:=Rd.ok.n9;omega)
   have rl:=Rd.i.len
   have hsl:=Rd.i.hl
   refine⟨_,(@ac _ _ _ _ _ (@aB _ _ 2 _ _ _ _ jE.nd rfl (Or.inl rfl) (au (am (pv 0) rfl) G.br G.ui cx_Hand_ask (hr.mono (by decide)) G.vQ .nil rE (@a6 _ _ _ _ _ (pv 1) a9 (by rfl))) (by rfl) (by first|exact .inl rfl|exact .inr rfl|assumption))
    (@ac _ _ _ _ _ (@aI _ _ _ _ (@mf _ _ _ _ _ _ _ _ _ _ _ _ PySem.F.plainAttrs_list PySem.F.slot_list_append PySem.F.type_list_append cq (am (pv 0) rfl) (@a6 _ _ _ _ _ (@av _ _ _ _ _ (@a6 _ _ _ _ _ ai (@a6 _ _ _ _ _ (pv 2) (@a6 _ _ _ _ _ (pv 1) a9 (by rfl)) (by rfl)) (by rfl))) a9 (by rfl)) (by rfl) (by rfl) (by rfl) (by rfl) (by rfl)) (by rfl))
    (@ac _ _ _ _ _ (@lP _ _ _ _ _ _ cn (mS (am (pv 0) rfl) ae gZ) (by rfl) (by rfl) (by rfl))
    (@af _ _ _ (@ar _ _ _ _ (pv 2)))))),?_⟩
   cases hle:d9 q.n S.un with
  |none=>exact absurd hle hl
  |some nm =>
    refine⟨_,rfl,gk Y.ob G.al G.dJ nA (f8 Y.x.hn.ob DB ⟨_,rfl,y.z,y.sa,q.p,q.n,S.un,S.m,S.rs,wt,rfl,Y.x.hn,Y.x.st,Rd.ok.ok,Rd.ok.n9,by omega,by have:=rl false;omega,?_⟩)⟩
    rw[if_neg hc,hle]
    intro H1 hn1 st1 kp1
    have Y1:=Y.parts (Y.x.hand hn1 st1 kp1) kp1 pF
    obtain⟨ts,h1,h2⟩:=Y1.hp
    have tl:=lj h2
    refine⟨_,rfl,gk Y1.ob G.al G.ce iH ⟨.inl ⟨rfl,_,SqL.of h1⟩,_,rfl,_,rfl,l3,λt ht=>?_⟩⟩
    have e2:=ah (o:=.tup [V.str "asked",V.int nm,V.int wt]) ht
    have v2:upd H1 t (.tup [V.str "asked",V.int nm,V.int wt]) t=some (.tup [V.str "asked",V.int nm,V.int wt]):=a8
    generalize upd H1 t (.tup [V.str "asked",V.int nm,V.int wt])=H2 at e2 v2 |-
    have Y2:=Y1.same e2
    refine⟨y.hp,ts,_,rfl,rfl,e2 _ _ h1,Nat.lt_of_lt_of_le (show _ < 100000 by rw[tl];show S.hs.length < _;omega) (by decide),?_⟩
    have Y3:=Y2.setHp (e2 _ _ h1) (x:=qS "asked" (.int nm) (.int wt)) (v:=.ref t) ⟨t,_,rfl,v2,_,_,rfl,rfl,_,_,rfl,rfl,_,_,rfl,rfl,rfl⟩ rfl
    refine⟨_,rfl,gk Y3.ob G.al G.eg mG ⟨y.qu,_,_,_,rfl,rfl,Y3.qu,rfl,?_⟩⟩
    have Y4:=Y3.setQu false false (ys:=[.bl false,.bl (S.qt true)]) rfl
    have hrun:(Dd.ask wt).run q S=(.int nm,{ S with rs:=bt S.rs false (S.rs false++AY q.p S.m (S.rs false) false .asked nm wt),un:=S.un++[nm],qt:=bt S.qt false false,hs:=S.hs++[qS "asked" (.int nm) (.int wt)] }):=by
     show (match d9 q.n S.un with|some nm=>_|none=>_)=_
     rw[hle]
    rw[hrun]at k
    refine⟨_,rfl,k (.int nm) _ Y4 ⟨Rd.i.und.snoc (pz hle) (vw hle),Rd.i.tkd,jj rl false (by rw[List.length_append,uJ];have:=rl false;omega),by show (S.hs++[_]).length <= _;rw[List.length_append];show _+1 <= _;omega⟩ rfl ?_⟩
    exact ot (KO.of_kp kp1 λc hc=>.inr (.inl (pF c hc))) (ot (KO.of_same e2) (ot (oQ (.inr (.inr (.inr (.inr rfl))))) (oQ (.inr (.inr (.inr (.inl rfl)))))))
theorem vx (G:Gs K mg a d):FnOk P w K mg base CX0 9 a.bM d.bM ["self","name","worth"] (zy w a):=by
 have cx_Heart_answer:FnOk P w K mg base (CXv P w) 8 _ _ _ _:=(ym G).imp λvs H Q E=>C6
 refine G.mi.ok lF (λvs H Q E h=>?_) (λcdv A' outer s' H vs Q E hr h=>?_)
 . obtain⟨y,q,S,L,nm,wt,rfl,_⟩:=h
   rfl
 . obtain⟨y,q,S,L,nm,wt,rfl,Rd,h0,hc,k⟩:=h
   have Y:=Rd.y
   have ll:=Rd.l
   have rl:=Rd.i.len
   have hsl:=Rd.i.hl
   refine⟨_,(@ac _ _ _ _ _ (@aI _ _ _ _ (au (am (pv 0) rfl) G.bu G.oo cx_Heart_answer (hr.mono (by decide)) G.oR .nil rE (@a6 _ _ _ _ _ (pv 1) (@a6 _ _ _ _ _ (pv 2) a9 (by rfl)) (by rfl))) (by rfl))
    (@ac _ _ _ _ _ (@aI _ _ _ _ (@mf _ _ _ _ _ _ _ _ _ _ _ _ PySem.F.plainAttrs_list PySem.F.slot_list_append PySem.F.type_list_append cq (am (pv 0) rfl) (@a6 _ _ _ _ _ (@av _ _ _ _ _ (@a6 _ _ _ _ _ ai (@a6 _ _ _ _ _ (pv 1) (@a6 _ _ _ _ _ (pv 2) a9 (by rfl)) (by rfl)) (by rfl))) a9 (by rfl)) (by rfl) (by rfl) (by rfl) (by rfl) (by rfl)) (by rfl))
    (@af _ _ _ (@lP _ _ _ _ _ _ cn (mS (am (pv 0) rfl) ae gZ) (by rfl) (by rfl) (by rfl))))),?_⟩
   refine⟨_,rfl,gk Y.ob G.al G.cT kD (f8 Y.x.tn.ob yH ⟨_,rfl,_,rfl,y.zt,y.sa,q.p,S.tk,S.m,S.rs,nm,wt,rfl,Y.x.tn,Y.x.st,Rd.ok.ok,by have:=rl true;omega,λx hx=>Rd.i.tkd.2 x hx,?_⟩)⟩
   rw[if_neg h0,if_neg hc]
   intro H1 tn1 st1 kp1
   have Y1:=Y.parts (Y.x.heart tn1 st1 kp1) kp1 pB
   obtain⟨ts,h1,h2⟩:=Y1.hp
   have tl:=lj h2
   refine⟨_,rfl,gk Y1.ob G.al G.ce iH ⟨.inl ⟨rfl,_,SqL.of h1⟩,_,rfl,_,rfl,l3,λt ht=>?_⟩⟩
   have e2:=ah (o:=.tup [V.str "answered",V.int nm,V.int wt]) ht
   have v2:upd H1 t (.tup [V.str "answered",V.int nm,V.int wt]) t=some (.tup [V.str "answered",V.int nm,V.int wt]):=a8
   generalize upd H1 t (.tup [V.str "answered",V.int nm,V.int wt])=H2 at e2 v2 |-
   have Y2:=Y1.same e2
   refine⟨y.hp,ts,_,rfl,rfl,e2 _ _ h1,Nat.lt_of_lt_of_le (show _ < 100000 by rw[tl];show S.hs.length < _;omega) (by decide),?_⟩
   have Y3:=Y2.setHp (e2 _ _ h1) (x:=qS "answered" (.int nm) (.int wt)) (v:=.ref t) ⟨t,_,rfl,v2,_,_,rfl,rfl,_,_,rfl,rfl,_,_,rfl,rfl,rfl⟩ rfl
   refine⟨_,rfl,gk Y3.ob G.al G.eg mG ⟨y.qu,_,_,_,rfl,rfl,Y3.qu,rfl,?_⟩⟩
   have Y4:=Y3.setQu true false (ys:=[.bl (S.qt false),.bl false]) rfl
   refine k .non _ Y4 ⟨Rd.i.und,Rd.i.tkd.filter,jj rl true (by rw[List.length_append,uJ];have:=rl true;omega),by show (S.hs++[_]).length <= _;rw[List.length_append];show _+1 <= _;omega⟩ rfl ?_
   exact ot (KO.of_kp kp1 λc hc=>.inr (.inl (pB c hc))) (ot (KO.of_same e2) (ot (oQ (.inr (.inr (.inr (.inr rfl))))) (oQ (.inr (.inr (.inr (.inl rfl)))))))
end
def CJ (w:World) (ad:Ad):Sp:=λvs H Q _=>∃ (a:YA) (q:YP) (S:YS) (wd:Str) (tv:V),vs=[.ref a.y,.str wd,tv]/\Yn w ad.bg ad.d4 ad.b7 ad.bX ad.aH H a q S/\S.hs.length < 99000 /\
 ((tv=.non/\Q .non H)\/∃ (t:Addr) (v1 v2:V) (d1 d2:PyData),tv=.ref t/\H t=some (.tup [v1,v2])/\DV H d1 v1/\DV H d2 v2/\scD d1=true/\scD d2=true/\∀ H',Yn w ad.bg ad.d4 ad.b7 ad.bX ad.aH H' a q { S with hs:=S.hs++[qS wd d1 d2] }->KO a.own H H'->H' t=some (.tup [v1,v2])->Q (.ref t) H')
section
variable {P:Program}{w:World}{K:PySem.W.Frag}{mg:Str->Option Value}{base:Heap}{a:Ad}{d:Fd}
theorem yx (G:Gs K mg a d):FnOk P w K mg base CX0 1 a.bf d.bf ["self","word","told"] (CJ w a):=by
 refine G.jX.ok jw (λvs H Q E h=>?_) (λcdv A' outer s' H vs Q E hr h=>?_)
 . obtain⟨y,q,S,wd,tv,rfl,_⟩:=h
   rfl
 . obtain⟨y,q,S,wd,tv,rfl,Y,hsl,k⟩:=h
   refine⟨_,(@gh _ _ _ _ _ (aM (aq lv (pv 2) cC (az _)) (@af _ _ _ (@aI _ _ _ _ (@mf _ _ _ _ _ _ _ _ _ _ _ _ PySem.F.plainAttrs_list PySem.F.slot_list_append PySem.F.type_list_append cq (am (pv 0) rfl) (@a6 _ _ _ _ _ (@av _ _ _ _ _ (@a6 _ _ _ _ _ (pv 1) (@a6 _ _ _ _ _ (@aK _ _ _ _ _ _ _ aC (pv 2) ae (λ_ _=>rfl)) (@a6 _ _ _ _ _ (@aK _ _ _ _ _ _ _ aC (pv 2) ae (λ_ _=>rfl)) a9 (by rfl)) (by rfl)) (by rfl))) a9 (by rfl)) (by rfl) (by rfl) (by rfl) (by rfl) (by rfl)) (by rfl))) ao)
    (@af _ _ _ (@ar _ _ _ _ (pv 2)))),?_⟩
   rcases k with⟨rfl,k⟩|⟨t,v1,v2,d1,d2,rfl,ht,dv1,dv2,s1,s2,k⟩
   . refine⟨λσ' H'=>H'=H/\σ'=[some (.ref y.y),some (.str wd),some .non],?_,?_⟩
     . exact⟨_,rfl,rfl,_,rfl,fw ⟨rfl,rfl⟩⟩
     . rintro σ' H' ⟨rfl,rfl⟩
       exact⟨_,rfl,k⟩
   . refine⟨λσ' H'=>σ'=[some (.ref y.y),some (.str wd),some (.ref t)]/\Yn w a.bg a.d4 a.b7 a.bX a.aH H' y q { S with hs:=S.hs++[qS wd d1 d2] }/\KO y.own H H'/\H' t=some (.tup [v1,v2]),?_,?_⟩
     . refine⟨_,rfl,rfl,_,rfl,iT ?_⟩
       obtain⟨ts,h1,h2⟩:=Y.hp
       have tl:=lj h2
       refine⟨_,rfl,gk Y.ob G.al G.ce iH ⟨.inl ⟨rfl,_,SqL.of h1⟩,_,rfl,_,rfl,t,_,_,_,rfl,rfl,SqT.of ht,rfl,_,rfl,t,_,_,_,rfl,rfl,SqT.of ht,rfl,l3,λt2 ht2=>?_⟩⟩
       have e2:=ah (o:=.tup [V.str wd,v1,v2]) ht2
       have w2:upd H t2 (.tup [V.str wd,v1,v2]) t2=some (.tup [V.str wd,v1,v2]):=a8
       generalize upd H t2 (.tup [V.str wd,v1,v2])=H2 at e2 w2 |-
       have Y2:=Y.same e2
       refine⟨y.hp,ts,_,rfl,rfl,e2 _ _ h1,Nat.lt_of_lt_of_le (show _ < 100000 by rw[tl];omega) (by decide),rfl,?_,?_,?_⟩
       . exact Y2.setHp (e2 _ _ h1) (x:=qS wd d1 d2) (v:=.ref t2) ⟨t2,_,rfl,w2,_,_,rfl,rfl,_,_,rfl,DV.sc s1 dv1,_,_,rfl,DV.sc s2 dv2,rfl⟩ (by show (true && (scD d1 && (scD d2 && true)))=true;rw[s1,s2];rfl)
       . exact ot (KO.of_same e2) (oQ (.inr (.inr (.inr (.inr rfl)))))
       . rw[ag (λz=>by rw[z,h1]at ht;cases ht)];exact e2 _ _ ht
     . rintro σ' H' ⟨rfl,Y',ko,ht'⟩
       exact⟨_,rfl,k H' Y' ko ht'⟩
end
theorem MemR.putAllY {H:Hp}:∀ {row:List Wr}{es M:List (PyData × V)}{m:Mem},MemR H M m->Paired (WrR H) row es->MemR H (kU M es) (m.putAllY row)
|_,_,_,_,R,.nil=>R
|_,_,_,_,R,.cons hx t=>by
  have h:=MemR.putAllY (R.put hx) t
  exact h
def yE (w:World) (C:Addr):Sp:=λvs H Q _=>∃ (sa:SA) (m:Mem) (rs:Bool->List Wr) (b:Bool),vs=[.ref sa.x,.int (sdI b)]/\StT w C H sa m rs/\(rs b).length < 99000 /\
 ∀ H',StT w C H' sa (m.putAllY (rs b)) (bt rs b [])->Kp [sa.l b,sa.hd] H H'->Q .non H'
theorem Bq {w:World}{C:Addr}{vs:List V}{H:Hp}{Q:VK}{E:XK}(h:yE w C vs H Q E):uA w C vs H Q E:=by
 obtain⟨sa,m,rs,b,rfl,⟨M,r,S,R,P⟩,hl,k⟩:=h
 have hl':=bA (P b)
 have hM:=StT.small S R
 refine⟨sa.x,sa.hd,sa.rl,sa.l,M,r,b,rfl,S,by omega,λH' S' kp=>k H' ?_ kp⟩
 have ht:∀ c vs,H c=some (.tup vs)->H' c=some (.tup vs):=λc vs e=>kp c _ (λmm=>by
  rcases List.mem_cons.mp mm with y|y
  . exact S.noT (b:=b) e (List.mem_singleton.mpr y)
  . obtain⟨ee,e'⟩:=S.me.there
    rw[List.mem_singleton.mp y,e']at e;cases e) e
 refine⟨_,_,S',(MemR.putAllY R (P b)).keep ht,λc=>?_⟩
 by_cases e:c=b
 . subst e
   rw[aS,aS];exact .nil
 . rw[ff e,ff e]
   exact Paired.mapP (P c) λ_ _ q=>q.keep ht
def AJ (w:World) (C:Addr):Sp:=λvs H Q _=>∃ (sa:SA) (m:Mem) (rs:Bool->List Wr) (b:Bool) (k:Cn),vs=[.ref sa.x,.int (sdI b),.str k.key]/\StT w C H sa m rs/\Q (.int (rdC m (rs b) k)) H
theorem EQ {w:World}{C:Addr}{vs:List V}{H:Hp}{Q:VK}{E:XK}(h:AJ w C vs H Q E):xP w C vs H Q E:=by
 obtain⟨sa,m,rs,b,k,rfl,⟨M,r,S,R,P⟩,q⟩:=h
 refine⟨sa.x,sa.hd,sa.rl,sa.l,M,r,b,.str k.key,.str k.key,rfl,S,kS (xM k),?_⟩
 rw[cG R (P b) k]
 exact q
def jN (b:Bool):Nat:=if b then 1 else 0
theorem wT {b:Bool}:ixN 2 (sdI b)=some (jN b):=by cases b<;>rfl
theorem sA {f:Bool->Bd}{b:Bool}{x:Bd}:[V.str (f false).key,V.str (f true).key].set (jN b) (.str x.key)=[V.str (bt f b x false).key,V.str (bt f b x true).key]:=by cases b<;>rfl
theorem DH {f:Bool->Bool}{b x:Bool}:[V.bl (f false),V.bl (f true)].set (jN b) (.bl x)=[V.bl (bt f b x false),V.bl (bt f b x true)]:=by cases b<;>rfl
theorem uO {b:Bool}:atI [V.str "hand sleeps",V.str "heart sleeps"] (sdI b)=some (.str (kj b).key):=by cases b<;>rfl
theorem ve (b:Bool):(1:Int) - sdI b=sdI (!b):=by cases b<;>rfl
def yc (w:World) (ad:Ad):Sp:=λvs H Q _=>∃ (a:YA) (q:YP) (S:YS) (L:Nat) (b:Bool),vs=[.ref a.y,.int (sdI b)]/\Rdy w ad H a q S L/\Bh w ad a q ((Dd.bell b).run q S).2 L ((Dd.bell b).run q S).1 H Q
def AO (w:World) (ad:Ad):Sp:=λvs H Q _=>∃ (a:YA) (q:YP) (S:YS) (L:Nat) (b:Bool),vs=[.ref a.y,.int (sdI b)]/\Rdy w ad H a q S L/\Bh w ad a q ((Dd.lie b).run q S).2 L ((Dd.lie b).run q S).1 H Q
def y0 (w:World) (ad:Ad):Sp:=λvs H Q _=>∃ (a:YA) (q:YP) (S:YS) (L:Nat) (b:Bool),vs=[.ref a.y,.int (sdI b)]/\Rdy w ad H a q S L/\Bh w ad a q ((Dd.look b).run q S).2 L ((Dd.look b).run q S).1 H Q
section
variable {P:Program}{w:World}{K:PySem.W.Frag}{mg:Str->Option Value}{base:Heap}{a:Ad}{d:Fd}
theorem BC {ad:Ad}{H H':Hp}{y:YA}{q:YP}{S:YS}{b:Bool}(Y:Yn w ad.bg ad.d4 ad.b7 ad.bX ad.aH H y q S) (st:StT w ad.aH H' y.sa (S.m.putAllY (S.rs b)) (bt S.rs b [])) (kp:Kp [y.sa.l b,y.sa.hd] H H'):Yn w ad.bg ad.d4 ad.b7 ad.bX ad.aH H' y q (S.fence b):=Y.parts (Y.x.store st kp) kp rD
theorem xR {ad:Ad}{H H':Hp}{y:YA}{q:YP}{S:YS}{b:Bool}{x:Wr}(Y:Yn w ad.bg ad.d4 ad.b7 ad.bX ad.aH H y q S) (st:StT w ad.aH H' y.sa S.m (bt S.rs b (S.rs b++[x]))) (kp:Kp [y.sa.l b] H H'):Yn w ad.bg ad.d4 ad.b7 ad.bX ad.aH H' y q (S.wr b x):=Y.parts (Y.x.store (b:=b) st (kp.mono λc hc=>by rw[List.mem_singleton.mp hc];exact List.mem_cons_self)) kp λc hc=>rD (b:=b) c (by rw[List.mem_singleton.mp hc];exact List.mem_cons_self)
theorem Fa {y:YA}{H H':Hp}{b:Bool}(kp:Kp [y.sa.l b,y.sa.hd] H H'):KO y.own H H':=KO.of_kp kp λc hc=>.inr (.inl (rD c hc))
theorem EE {y:YA}{H H':Hp}{b:Bool}(kp:Kp [y.sa.l b] H H'):KO y.own H H':=KO.of_kp kp λc hc=>.inr (.inl (rD (b:=b) c (by rw[List.mem_singleton.mp hc];exact List.mem_cons_self)))
theorem sK (G:Gs K mg a d):FnOk P w K mg base CX0 8 a.cE d.cE ["self","side"] (y0 w a):=by
 have c_Yard_something_waits:FnOk P w K mg base CX0 7 _ _ _ _:=yq G
 have c_Store_write:FnOk P w K mg base CX0 1 _ _ _ _:=(kQ G).imp λvs H Q E=>xy
 refine G.pc.ok nk (λvs H Q E h=>?_) (λcdv A' outer s' H vs Q E hr h=>?_)
 . obtain⟨y,q,S,L,b,rfl,_⟩:=h
   rfl
 . obtain⟨y,q,S,L,b,rfl,Rd,k⟩:=h
   have Y:=Rd.y
   have ll:=Rd.l
   have rl:=Rd.i.len
   have hu:=eC hr
   refine⟨_,(@ac _ _ _ _ _ (aM ((qr (eE (cm (am (pv 0) rfl))) (mR (eE (cm (au (pv 0) G.al G.gT c_Yard_something_waits (hr.mono (by decide)) G.iQ .nil ax (@a6 _ _ _ _ _ (pv 1) a9 (by rfl)))))))).pt (@ac _ _ _ _ _ (@lP _ _ _ _ _ _ ai (mS (am (pv 0) rfl) (pv 1) gZ) (by rfl) (by rfl) (by rfl))
    (@af _ _ _ (@ar _ _ _ _ cn))) ao)
    (@ac _ _ _ _ _ (@aI _ _ _ _ (au (am (pv 0) rfl) G.aF G.dc c_Store_write (hr.mono (by decide)) G.dO .nil ax (@a6 _ _ _ _ _ (pv 1) (@a6 _ _ _ _ _ (@aK _ _ _ _ _ _ _ aC (eI (v:=.ref a.aQ) (by rfl) G.fO rfl) (pv 1) (λ_ _=>rfl)) (@a6 _ _ _ _ _ ae a9 (by rfl)) (by rfl)) (by rfl))) (by rfl))
    (@ac _ _ _ _ _ (@lP _ _ _ _ _ _ ai (mS (am (pv 0) rfl) (pv 1) gZ) (by rfl) (by rfl) (by rfl))
    (@af _ _ _ (@ar _ _ _ _ cn))))),?_⟩
   have bad:¬ (q.fk=true/\swT q S b=true)->Q (.bl false) (upd H y.sl (.lst [.str (bt S.bd b .asleep false).key,.str (bt S.bd b .asleep true).key])):=λhn=>by
    have k2:=k
    rw[show (Dd.look b).run q S=_ from if_neg hn]at k2
    exact k2 (.bl false) _ (Y.setSl b .asleep rfl) ⟨Rd.i.und,Rd.i.tkd,λc=>by have:=rl c;show (S.rs c).length <= _;omega,by have:=Rd.i.hl;show S.hs.length <= _;omega⟩ rfl (oQ (.inr (.inr (.inl rfl))))
   refine⟨_,rfl,gk Y.ob G.al G.gP BL ⟨_,rfl,?_⟩⟩
   cases hfk:q.fk with
  |false =>
    refine iT ?_
    exact⟨_,rfl,gk Y.ob G.al G.aN bL ⟨_,rfl,y.sl,_,_,_,rfl,rfl,Y.sl,wT,by rw[show (V.str "asleep":V)=.str (Bd.key .asleep) from rfl,sA];exact bad (by rw[hfk];exact λz=>by cases z.1)⟩⟩
  |true =>
    refine fw ?_
    refine⟨_,rfl,f8 Y.ob (dL (by decide +kernel)) ⟨_,rfl,y,q,S,b,rfl,Y,Rd.ok,_,rfl,?_⟩⟩
    cases hw:swT q S b with
   |false =>
     refine iT ?_
     exact⟨_,rfl,gk Y.ob G.al G.aN bL ⟨_,rfl,y.sl,_,_,_,rfl,rfl,Y.sl,wT,by rw[show (V.str "asleep":V)=.str (Bd.key .asleep) from rfl,sA];exact bad (by rw[hw];exact λz=>by cases z.2)⟩⟩
   |true =>
     refine fw ?_
     refine⟨_,rfl,gk Y.ob G.al G.aL cN (f8 Y.x.st.ob (cw (by decide +kernel) (by decide +kernel)) ⟨_,rfl,_,rfl,a.aQ,_,sdI b,.str (kj b).key,rfl,rfl,G.fL _,uO,y.sa,S.m,S.rs,b,.str (kj b).key,.int 0,.c (kj b) 0,rfl,Y.x.st,by have:=rl b;omega,kS (xM _),rfl,trivial,λH1 st1 kp1=>?_⟩)⟩
     have Y1:=xR Y st1 kp1
     refine⟨_,rfl,gk Y1.ob G.al G.aN bL ⟨_,rfl,y.sl,_,_,_,rfl,rfl,Y1.sl,wT,?_⟩⟩
     rw[show (V.str "up":V)=.str (Bd.key .up) from rfl,sA]
     have Y2:=Y1.setSl b .up rfl
     have k2:=k
     rw[show (Dd.look b).run q S=_ from if_pos ⟨hfk,hw⟩]at k2
     exact k2 (.bl true) _ Y2 ⟨Rd.i.und,Rd.i.tkd,jj rl b (by rw[List.length_append];have:=rl b;show _+1 <= _;omega),by have:=Rd.i.hl;show S.hs.length <= _;omega⟩ rfl (ot (EE kp1) (oQ (.inr (.inr (.inl rfl)))))
theorem vq (G:Gs K mg a d):FnOk P w K mg base CX0 8 a.dj d.dj ["self","side"] (AO w a):=by
 have c_Store_write:FnOk P w K mg base CX0 1 _ _ _ _:=(kQ G).imp λvs H Q E=>xy
 have c_Store_fence:FnOk P w K mg base CX0 2 _ _ _ _:=(uP G).imp λvs H Q E=>Bq
 refine G.qK.ok pf (λvs H Q E h=>?_) (λcdv A' outer s' H vs Q E hr h=>?_)
 . obtain⟨y,q,S,L,b,rfl,_⟩:=h
   rfl
 . obtain⟨y,q,S,L,b,rfl,Rd,k⟩:=h
   have Y:=Rd.y
   have ll:=Rd.l
   have rl:=Rd.i.len
   have hu:=eC hr
   refine⟨_,(@ac _ _ _ _ _ (@aI _ _ _ _ (au (am (pv 0) rfl) G.aF G.dc c_Store_write (hr.mono (by decide)) G.dO .nil ax (@a6 _ _ _ _ _ (pv 1) (@a6 _ _ _ _ _ (@aK _ _ _ _ _ _ _ aC (eI (v:=.ref a.aQ) (by rfl) G.fO rfl) (pv 1) (λ_ _=>rfl)) (@a6 _ _ _ _ _ ae a9 (by rfl)) (by rfl)) (by rfl))) (by rfl))
    (@gh _ _ _ _ _ (aM (cm (am (pv 0) rfl)) (@af _ _ _ (@aI _ _ _ _ (au (am (pv 0) rfl) G.aF G.jL c_Store_fence (hr.mono (by decide)) G.ku .nil ax (@a6 _ _ _ _ _ (pv 1) a9 (by rfl))) (by rfl))) ao)
    (@af _ _ _ (@lP _ _ _ _ _ _ ai (mS (am (pv 0) rfl) (pv 1) gZ) (by rfl) (by rfl) (by rfl))))),?_⟩
   refine⟨_,rfl,gk Y.ob G.al G.aL cN (f8 Y.x.st.ob (cw (by decide +kernel) (by decide +kernel)) ⟨_,rfl,_,rfl,a.aQ,_,sdI b,.str (kj b).key,rfl,rfl,G.fL _,uO,y.sa,S.m,S.rs,b,.str (kj b).key,.int 1,.c (kj b) 1,rfl,Y.x.st,by have:=rl b;omega,kS (xM _),rfl,trivial,λH1 st1 kp1=>?_⟩)⟩
   have Y1:=xR Y st1 kp1
   have rl1:∀ c,((S.wr b (.c (kj b) 1)).rs c).length <= L+2:=jj rl b (by rw[List.length_append];have:=rl b;show _+1 <= _;omega)
   refine⟨λσ' H'=>σ'=[some (.ref y.y),some (.int (sdI b))]/\KO y.own H H'/\∃ S2:YS,S2=(if q.fl then (S.wr b (.c (kj b) 1)).fence b else S.wr b (.c (kj b) 1))/\Yn w a.bg a.d4 a.b7 a.bX a.aH H' y q S2,?_,?_⟩
   . refine⟨_,rfl,gk Y1.ob G.al G.gq DD ⟨_,rfl,?_⟩⟩
     cases hfl:q.fl with
    |true =>
      refine iT ?_
      refine⟨_,rfl,gk Y1.ob G.al G.aL cN (f8 Y1.x.st.ob (cw (by decide +kernel) (by decide +kernel)) ⟨_,rfl,y.sa,_,_,b,rfl,Y1.x.st,by have:=rl1 b;omega,λH2 st2 kp2=>⟨rfl,ot (EE kp1) (Fa kp2),_,rfl,BC Y1 st2 kp2⟩⟩)⟩
    |false=>exact fw ⟨rfl,EE kp1,_,rfl,Y1⟩
   . rintro σ' H2 ⟨rfl,ko,S2,hS2,Y2⟩
     refine⟨_,rfl,gk Y2.ob G.al G.aN bL ⟨_,rfl,y.sl,_,_,_,rfl,rfl,Y2.sl,wT,?_⟩⟩
     rw[show (V.str "lies":V)=.str (Bd.key .lies) from rfl,sA]
     have Y3:=Y2.setSl b .lies rfl
     have k2:Bh w a y q { S2 with bd:=bt S2.bd b .lies } L .none H Q:=by rw[hS2];exact k
     have hun:S2.un=S.un/\S2.tk=S.tk/\S2.hs=S.hs/\∀ c,(S2.rs c).length <= L+2:=by
      rw[hS2]
      cases q.fl with
     |true =>
       refine⟨rfl,rfl,rfl,λc=>?_⟩
       show (bt _ b [] c).length <= _
       by_cases e:c=b
       . subst e;rw[aS];exact Nat.zero_le _
       . rw[ff e];exact rl1 c
     |false=>exact⟨rfl,rfl,rfl,rl1⟩
     exact k2 .non _ Y3 ⟨by show Nms _ S2.un;rw[hun.1];exact Rd.i.und,by show Nms _ S2.tk;rw[hun.2.1];exact Rd.i.tkd,hun.2.2.2,by have:=Rd.i.hl;show S2.hs.length <= _;rw[hun.2.2.1];omega⟩ rfl (ot ko (oQ (.inr (.inr (.inl rfl)))))
theorem rc (G:Gs K mg a d):FnOk P w K mg base CX0 8 a.cM d.cM ["self","side"] (yc w a):=by
 have c_Store_write:FnOk P w K mg base CX0 1 _ _ _ _:=(kQ G).imp λvs H Q E=>xy
 have c_Store_fence:FnOk P w K mg base CX0 2 _ _ _ _:=(uP G).imp λvs H Q E=>Bq
 have c_Store_read:FnOk P w K mg base CX0 2 _ _ _ _:=(qc G).imp λvs H Q E=>EQ
 refine G.oz.ok iZ (λvs H Q E h=>?_) (λcdv A' outer s' H vs Q E hr h=>?_)
 . obtain⟨y,q,S,L,b,rfl,_⟩:=h
   rfl
 . obtain⟨y,q,S,L,b,rfl,Rd,k⟩:=h
   have Y:=Rd.y
   have ll:=Rd.l
   have rl:=Rd.i.len
   have hu:=eC hr
   refine⟨_,(@ac _ _ _ _ _ (@aB _ _ 2 _ _ _ _ iZ.nd rfl (Or.inl rfl) (@aA _ _ _ _ _ _ _ _ lU ae (pv 1)) (by rfl) (by first|exact .inl rfl|exact .inr rfl|assumption))
    (@gh _ _ _ _ _ (aM (cm (am (pv 0) rfl)) (@af _ _ _ (@aI _ _ _ _ (au (am (pv 0) rfl) G.aF G.jL c_Store_fence (hr.mono (by decide)) G.ku .nil ax (@a6 _ _ _ _ _ (pv 1) a9 (by rfl))) (by rfl))) ao)
    (@ac _ _ _ _ _ (@lP _ _ _ _ _ _ cn (mS (am (pv 0) rfl) (pv 1) gZ) (by rfl) (by rfl) (by rfl))
    (@ac _ _ _ _ _ (aM (aq (vp hr.units) (au (am (pv 0) rfl) G.aF G.cS c_Store_read (hr.mono (by decide)) G.dI .nil ax (@a6 _ _ _ _ _ (pv 1) (@a6 _ _ _ _ _ (@aK _ _ _ _ _ _ _ aC (eI (v:=.ref a.aQ) (by rfl) G.fO rfl) (pv 2) (λ_ _=>rfl)) a9 (by rfl)) (by rfl))) ae (az _)) (@af _ _ _ (@ar _ _ _ _ cn)) ao)
    (@gh _ _ _ _ _ (aM (aq bN (@aK _ _ _ _ _ _ _ bz (am (pv 0) rfl) (pv 2) (λ_ _=>rfl)) ai (az _)) (@ac _ _ _ _ _ (@lP _ _ _ _ _ _ ai (mS (am (pv 0) rfl) (pv 2) gZ) (by rfl) (by rfl) (by rfl))
    (@af _ _ _ (@aI _ _ _ _ (au (am (pv 0) rfl) G.aF G.dc c_Store_write (hr.mono (by decide)) G.dO .nil ax (@a6 _ _ _ _ _ (pv 2) (@a6 _ _ _ _ _ (@aK _ _ _ _ _ _ _ aC (eI (v:=.ref a.aQ) (by rfl) G.fO rfl) (pv 2) (λ_ _=>rfl)) (@a6 _ _ _ _ _ ae a9 (by rfl)) (by rfl)) (by rfl))) (by rfl)))) ao)
    (@af _ _ _ (@ar _ _ _ _ cn))))))),?_⟩
   refine⟨_,rfl,_,_,rfl,rfl,?_⟩
   refine⟨λσ' H'=>σ'=[some (.ref y.y),some (.int (sdI b)),some (.int (sdI (!b)))]/\KO y.own H H'/\∃ S1:YS,S1=(if q.fb then S.fence b else S)/\Yn w a.bg a.d4 a.b7 a.bX a.aH H' y q S1,?_,?_⟩
   . refine⟨_,rfl,gk Y.ob G.al G.fX BR ⟨_,rfl,?_⟩⟩
     cases hfb:q.fb with
    |true =>
      refine iT ?_
      refine⟨_,rfl,gk Y.ob G.al G.aL cN (f8 Y.x.st.ob (cw (by decide +kernel) (by decide +kernel)) ⟨_,rfl,y.sa,_,_,b,rfl,Y.x.st,by have:=rl b;omega,λH2 st2 kp2=>⟨by rw[<-ve];rfl,Fa kp2,_,rfl,BC Y st2 kp2⟩⟩)⟩
    |false=>exact fw ⟨by rw[<-ve];rfl,KO.refl _ _,_,rfl,Y⟩
   . rintro σ' H1 ⟨rfl,ko1,S1,hS1,Y1⟩
     refine⟨_,rfl,gk Y1.ob G.al G.eg mG ⟨_,rfl,y.qu,_,_,jN b,rfl,rfl,Y1.qu,wT,?_⟩⟩
     rw[DH]
     have Y2:=Y1.setQu b true rfl
     have ko2:KO y.own H (upd H1 y.qu (.lst [V.bl (bt S1.qt b true false),V.bl (bt S1.qt b true true)])):=ot ko1 (oQ (.inr (.inr (.inr (.inl rfl)))))
     generalize upd H1 y.qu (.lst [V.bl (bt S1.qt b true false),V.bl (bt S1.qt b true true)])=H2 at Y2 ko2 |-
     obtain⟨S2,hS2⟩:∃ S2:YS,S2={ S1 with qt:=bt S1.qt b true }:=⟨_,rfl⟩
     rw[<-hS2]at Y2
     have fS:S2.un=S.un/\S2.tk=S.tk/\S2.hs=S.hs/\(∀ c,(S2.rs c).length <= L):=by
      rw[hS2,hS1]
      cases q.fb with
     |true =>
       refine⟨rfl,rfl,rfl,λc=>?_⟩
       show (bt S.rs b [] c).length <= _
       by_cases e:c=b
       . subst e;rw[aS];exact Nat.zero_le _
       . rw[ff e];exact rl c
     |false=>exact⟨rfl,rfl,rfl,rl⟩
     have yi:YI q S2 (L+2):=⟨by rw[fS.1];exact Rd.i.und,by rw[fS.2.1];exact Rd.i.tkd,λc=>by have:=fS.2.2.2 c;omega,by rw[fS.2.2.1];have:=Rd.i.hl;omega⟩
     have hrun:(Dd.bell b).run q S=(if rdC S2.m (S2.rs b) (kj (!b))≠1 then (.bool false,S2) else if S2.bd (!b)=.asleep then (.bool true,({ S2 with bd:=bt S2.bd (!b) .up }:YS).wr (!b) (.c (kj (!b)) 0)) else (.bool true,S2)):=by rw[hS2,hS1];rfl
     rw[hrun]at k
     clear hrun hS2 hS1 Y1 ko1
     refine⟨_,rfl,gk Y2.ob G.al G.aL cN (f8 Y2.x.st.ob (cw (by decide +kernel) (by decide +kernel)) ⟨_,rfl,_,rfl,a.aQ,_,sdI (!b),.str (kj (!b)).key,rfl,rfl,G.fL _,uO,y.sa,_,_,b,kj (!b),rfl,Y2.x.st,?_⟩)⟩
     refine⟨.int (rdC S2.m (S2.rs b) (kj (!b))),.int 1,rfl,rfl,tt.int _,tt.int _,_,rfl,?_⟩
     simp only[if_true]
     by_cases h1:rdC S2.m (S2.rs b) (kj (!b))=1
     . rw[if_neg (by rw[h1];exact λz=>z rfl)]at k
       refine cP ?_ ?_
       . rw[h1];decide +kernel
       refine⟨λσ' H'=>σ'=[some (.ref y.y),some (.int (sdI b)),some (.int (sdI (!b)))]/\Q (.bl true) H',?_,?_⟩
       . refine⟨_,rfl,gk Y2.ob G.al G.aN bL ⟨_,rfl,y.sl,_,_,_,rfl,rfl,SqL.of Y2.sl,tT (!b),rfl,_,rfl,?_⟩⟩
         by_cases h2:S2.bd (!b)=.asleep
         . rw[if_pos h2]at k
           refine jv (decide_eq_true (by rw[h2];rfl)) ?_
           refine⟨_,rfl,gk Y2.ob G.al G.aN bL ⟨_,rfl,y.sl,_,_,jN (!b),rfl,rfl,Y2.sl,wT,?_⟩⟩
           rw[show (V.str "up":V)=.str (Bd.key .up) from rfl,sA]
           have Y3:=Y2.setSl (!b) .up rfl
           have ko3:KO y.own H (upd H2 y.sl (.lst [V.str (bt S2.bd (!b) .up false).key,V.str (bt S2.bd (!b) .up true).key])):=ot ko2 (oQ (.inr (.inr (.inl rfl))))
           generalize upd H2 y.sl (.lst [V.str (bt S2.bd (!b) .up false).key,V.str (bt S2.bd (!b) .up true).key])=H3 at Y3 ko3 |-
           refine⟨_,rfl,gk Y3.ob G.al G.aL cN (f8 Y3.x.st.ob (cw (by decide +kernel) (by decide +kernel)) ⟨_,rfl,_,rfl,a.aQ,_,sdI (!b),.str (kj (!b)).key,rfl,rfl,G.fL _,uO,y.sa,_,_,!b,.str (kj (!b)).key,.int 0,.c (kj (!b)) 0,rfl,Y3.x.st,by have:=fS.2.2.2 (!b);show (S2.rs (!b)).length < _;omega,kS (xM _),rfl,trivial,λH4 st4 kp4=>⟨rfl,?_⟩⟩)⟩
           have Y4:=xR Y3 st4 kp4
           exact k (.bl true) H4 Y4 ⟨yi.und,yi.tkd,jj fS.2.2.2 (!b) (by show (S2.rs (!b)++[_]).length <= _;rw[List.length_append];have:=fS.2.2.2 (!b);show _+1 <= _;omega),yi.hl⟩ rfl (ot ko3 (EE kp4))
         . rw[if_neg h2]at k
           refine cP (by rw[decide_eq_true_eq];exact D5 h2) ⟨rfl,?_⟩
           exact k (.bl true) H2 Y2 yi rfl ko2
       . rintro σ' H' ⟨rfl,k'⟩
         exact k'
     . rw[if_pos h1]at k
       refine jv ?_ (k (.bl false) H2 Y2 yi rfl ko2)
       rw[Bool.not_eq_true']
       cases z:PyData.eqv (.int (rdC S2.m (S2.rs b) (kj (!b)))) (.int 1) with
      |false=>rfl
      |true=>exact absurd (by have:=(MX.eqv_iff _ _ rfl rfl).mp z;injection this) h1
end
theorem CZ {q:YP}{S:YS}{wt:Int}(h:(Dd.ask wt).chk q S=none):bo q.p S.m (S.rs false) .asked .taken≠q.p.s/\d9 q.n S.un≠none:=by
 have h':(if S.bd false=.up then (if bo q.p S.m (S.rs false) .asked .taken=q.p.s then some Rf.full else match d9 q.n S.un with|none=>some Rf.name|some _=>none) else some Rf.deed)=none:=h
 split at h'
 . split at h'
   . cases h'
   . rename_i z
     refine⟨z,λy=>?_⟩
     rw[y]at h'
     cases h'
 . cases h'
theorem CA {q:YP}{S:YS}{nm wt:Int}(h:(Dd.answer nm wt).chk q S=none):S.tk.contains nm≠false/\bo q.p S.m (S.rs true) .answered .handed≠q.p.s:=by
 have h':(if S.bd true=.up then (if S.tk.contains nm=false then some Rf.task else if bo q.p S.m (S.rs true) .answered .handed=q.p.s then some Rf.full else none) else some Rf.deed)=none:=h
 split at h'
 . split at h'
   . cases h'
   . split at h'
     . cases h'
     . rename_i z1 z2
       exact⟨z1,z2⟩
 . cases h'
theorem xq {q:YP}{S:YS}{b:Bool}(h:(Dd.drain b).chk q S=none):∃ x bS,S.rs b=x :: bS:=by
 cases e:S.rs b with
|cons x bS=>exact⟨x,bS,rfl⟩
|nil =>
  have h':(if S.rs b=[] then some Rf.deed else none)=none:=h
  rw[e]at h'
  cases h'
def BW (w:World) (ad:Ad):Sp:=λvs H Q E=>∃ (a:YA) (q:YP) (S:YS) (L:Nat) (x:Dd) (t:Addr),vs=[.ref a.y,.ref t]/\Rdy w ad H a q S L/\H t=some (.tup x.vs)/\x.Ok /\
 match x.chk q S with
|none=>Bh w ad a q (x.run q S).2 L (x.run q S).1 H Q
|some r=>∀ H',bU H H'->E (.ref (rfC ad r)) none H'
section
variable {P:Program}{w:World}{K:PySem.W.Frag}{mg:Str->Option Value}{base:Heap}{a:Ad}{d:Fd}
theorem mV (G:Gs K mg a d):FnOk P w K mg base (CXv P w) 10 a.eA d.eA ["self","some"] (BW w a):=by
 have cx_Yard_check:FnOk P w K mg base (CXv P w) 8 _ _ _ _:=zn G
 have c_Yard_do_ask:FnOk P w K mg base CX0 9 _ _ _ _:=uQ G
 have c_Yard_do_answer:FnOk P w K mg base CX0 9 _ _ _ _:=vx G
 have c_Yard_do_bell:FnOk P w K mg base CX0 8 _ _ _ _:=rc G
 have c_Yard_do_lie:FnOk P w K mg base CX0 8 _ _ _ _:=vq G
 have c_Yard_do_look:FnOk P w K mg base CX0 8 _ _ _ _:=sK G
 have c_Yard_tell_fetched:FnOk P w K mg base CX0 1 _ _ _ _:=yx G
 have c_Hand_collect:FnOk P w K mg base CX0 7 _ _ _ _:=(pA G).imp λvs H Q E=>uX
 have c_Heart_take:FnOk P w K mg base CX0 7 _ _ _ _:=(uT G).imp λvs H Q E=>Du
 have c_Store_drain:FnOk P w K mg base CX0 1 _ _ _ _:=(qX G).imp λvs H Q E=>Be
 refine G.o4.okX (k:=9) gn (λvs H Q E h=>?_) (λcdv A' outer s' H vs Q E hr hR h=>?_)
 . obtain⟨y,q,S,L,x,t,rfl,_⟩:=h
   rfl
 . obtain⟨y,q,S,L,x,t,rfl,Rd,ht,hx,k⟩:=h
   have hu:=eC hr
   refine⟨_,(@ac _ _ _ _ _ (@aI _ _ _ _ (au (pv 0) G.al G.kA cx_Yard_check (hr.mono (by decide)) G.lT .nil hR.passes (@a6 _ _ _ _ _ (pv 1) a9 (by rfl))) (by rfl))
    (@ac _ _ _ _ _ (@aB _ _ 2 _ _ _ _ gn.nd rfl (Or.inl rfl) (@aK _ _ _ _ _ _ _ aC (pv 1) ae (λ_ _=>rfl)) (by rfl) (by first|exact .inl rfl|exact .inr rfl|assumption))
    (@ac _ _ _ _ _ (aM (aq bN (pv 2) ai (az _)) (@af _ _ _ (@ar _ _ _ _ (au (pv 0) G.al G.jF c_Yard_do_ask (hr.mono (by decide)) G.kG .nil ax (@a6 _ _ _ _ _ (@aK _ _ _ _ _ _ _ aC (pv 1) ae (λ_ _=>rfl)) a9 (by rfl))))) ao)
    (@ac _ _ _ _ _ (aM (aq bN (pv 2) ai (az _)) (@af _ _ _ (@ar _ _ _ _ (au (pv 0) G.al G.bV c_Yard_tell_fetched (hr.mono (by decide)) G.c8 .nil ax (@a6 _ _ _ _ _ ai (@a6 _ _ _ _ _ (aX (am (pv 0) rfl) G.br G.j3 c_Hand_collect (hr.mono (by decide)) G.jy .nil ax) a9 (by rfl)) (by rfl))))) ao)
    (@ac _ _ _ _ _ (aM (aq bN (pv 2) ai (az _)) (@af _ _ _ (@ar _ _ _ _ (au (pv 0) G.al G.bV c_Yard_tell_fetched (hr.mono (by decide)) G.c8 .nil ax (@a6 _ _ _ _ _ ai (@a6 _ _ _ _ _ (aX (am (pv 0) rfl) G.bu G.kz c_Heart_take (hr.mono (by decide)) G.lW .nil ax) a9 (by rfl)) (by rfl))))) ao)
    (@ac _ _ _ _ _ (aM (aq bN (pv 2) ai (az _)) (@af _ _ _ (@ar _ _ _ _ (au (pv 0) G.al G.gN c_Yard_do_answer (hr.mono (by decide)) G.iO .nil ax (@a6 _ _ _ _ _ (@aK _ _ _ _ _ _ _ aC (pv 1) ae (λ_ _=>rfl)) (@a6 _ _ _ _ _ (@aK _ _ _ _ _ _ _ aC (pv 1) ae (λ_ _=>rfl)) a9 (by rfl)) (by rfl))))) ao)
    (@ac _ _ _ _ _ (aM (aq bN (pv 2) ai (az _)) (@af _ _ _ (@ar _ _ _ _ (au (pv 0) G.al G.j9 c_Yard_do_bell (hr.mono (by decide)) G.jH .nil ax (@a6 _ _ _ _ _ (@aK _ _ _ _ _ _ _ aC (pv 1) ae (λ_ _=>rfl)) a9 (by rfl))))) ao)
    (@ac _ _ _ _ _ (aM (aq bN (pv 2) ai (az _)) (@af _ _ _ (@ar _ _ _ _ (au (pv 0) G.al G.jA c_Yard_do_lie (hr.mono (by decide)) G.kH .nil ax (@a6 _ _ _ _ _ (@aK _ _ _ _ _ _ _ aC (pv 1) ae (λ_ _=>rfl)) a9 (by rfl))))) ao)
    (@ac _ _ _ _ _ (aM (aq bN (pv 2) ai (az _)) (@af _ _ _ (@ar _ _ _ _ (au (pv 0) G.al G.j4 c_Yard_do_look (hr.mono (by decide)) G.jC .nil ax (@a6 _ _ _ _ _ (@aK _ _ _ _ _ _ _ aC (pv 1) ae (λ_ _=>rfl)) a9 (by rfl))))) ao)
    (@af _ _ _ (@ar _ _ _ _ (au (am (pv 0) rfl) G.aF G.gy c_Store_drain (hr.mono (by decide)) G.gR .nil ax (@a6 _ _ _ _ _ (@aK _ _ _ _ _ _ _ aC (pv 1) ae (λ_ _=>rfl)) a9 (by rfl)))))))))))))),?_⟩
   refine⟨_,rfl,f8 Rd.y.ob (dL (by decide +kernel)) ⟨_,rfl,y,q,S,x,t,rfl,Rd.y,Rd.ok,ht,hx,λH1 e1=>?_⟩⟩
   cases hc:x.chk q S with
  |some r =>
    rw[hc]at k
    exact k H1 e1
  |none =>
    rw[hc]at k
    have Rd1:Rdy w a H1 y q S L:=⟨Rd.y.same e1,Rd.ok,Rd.i,Rd.l⟩
    have k1:Bh w a y q (x.run q S).2 L (x.run q S).1 H1 Q:=λv H' Y' i' dv ko=>k v H' Y' i' dv (ot (KO.of_same e1) ko)
    have ht1:=e1 _ _ ht
    clear k ht Rd e1
    refine⟨_,rfl,t,_,_,_,rfl,rfl,SqT.of ht1,by rw[x.vs_eq];exact aY,?_⟩
    cases x with
   |ask wt =>
     refine⟨_,rfl,rfl,_,rfl,jv (decide_eq_true rfl) ?_⟩
     obtain⟨c1,c2⟩:=CZ hc
     exact⟨_,rfl,f8 Rd1.y.ob (dL (by decide +kernel)) ⟨_,rfl,t,_,_,_,rfl,rfl,SqT.of ht1,rfl,y,q,S,L,wt,rfl,Rd1,c1,c2,k1⟩⟩
   |collect =>
     refine⟨_,rfl,rfl,_,rfl,cP (by rw[decide_eq_true_eq];exact sne (show ¬ (("collect":Str)="ask") by decide +kernel)) ?_⟩
     refine⟨_,rfl,rfl,_,rfl,jv (decide_eq_true rfl) ?_⟩
     refine⟨_,rfl,f8 Rd1.y.ob (dL (by decide +kernel)) ⟨_,rfl,gk Rd1.y.ob G.al G.dJ nA (f8 Rd1.y.x.hn.ob wQ ⟨y.z,y.sa,q.p,_,S.un,S.m,S.rs,rfl,Rd1.y.x.hn,Rd1.y.x.st,Rd1.ok.ok,by have:=Rd1.i.len false;have:=Rd1.l;omega,?_⟩)⟩⟩
     have rl:=Rd1.i.len
     have hsl:=Rd1.i.hl
     have ll:=Rd1.l
     unfold Dd.run at k1
     by_cases h0:bo q.p S.m (S.rs false) .answered .handed=0
     . rw[if_pos h0]at k1 |-
       exact⟨y,q,S,"handed",.non,rfl,Rd1.y,by omega,.inl ⟨rfl,k1 .non H1 Rd1.y (Rd1.i.mono (by omega)) rfl (KO.refl _ _)⟩⟩
     . rw[if_neg h0]at k1 |-
       have rl2:∀ c,(bt S.rs false (S.rs false++[lq q.p S.m (S.rs false) .handed]) c).length <= L+2:=jj rl false (by rw[List.length_append];have:=rl false;show _+1 <= _;omega)
       cases hrd:rdP S.m (S.rs false) true (rdC S.m (S.rs false) .handed % q.p.s) with
      |none =>
        rw[hrd]at k1
        intro c H2 hc2 hn2 st2 kp2
        have Y2:=Rd1.y.parts (Rd1.y.x.hand hn2 st2 kp2) kp2 pF
        refine⟨y,q,_,"handed",.ref c,rfl,Y2,by show S.hs.length < _;omega,.inr ⟨c,.non,.non,.none,.none,rfl,hc2,rfl,rfl,rfl,rfl,λH3 Y3 ko3 hc3=>k1 (.ref c) H3 Y3 ⟨Rd1.i.und,Rd1.i.tkd,rl2,?_⟩ ⟨c,_,rfl,hc3,_,_,rfl,rfl,_,_,rfl,rfl,rfl⟩ (ot (KO.of_kp kp2 λc hc=>.inr (.inl (pF c hc))) ko3)⟩⟩
        show (S.hs++[_]).length <= _
        rw[List.length_append];show _+1 <= _;omega
      |some nw =>
        rw[hrd]at k1
        intro c H2 hc2 hn2 st2 kp2
        have Y2:=Rd1.y.parts (Rd1.y.x.hand hn2 st2 kp2) kp2 pF
        refine⟨y,q,_,"handed",.ref c,rfl,Y2,by show S.hs.length < _;omega,.inr ⟨c,.int nw.1,.int nw.2,.int nw.1,.int nw.2,rfl,hc2,rfl,rfl,rfl,rfl,λH3 Y3 ko3 hc3=>k1 (.ref c) H3 Y3 ⟨Rd1.i.und.filter,Rd1.i.tkd,rl2,?_⟩ (DV2 hc3) (ot (KO.of_kp kp2 λc hc=>.inr (.inl (pF c hc))) ko3)⟩⟩
        show (S.hs++[_]).length <= _
        rw[List.length_append];show _+1 <= _;omega
   |take =>
     refine⟨_,rfl,rfl,_,rfl,cP (by rw[decide_eq_true_eq];exact sne (show ¬ (("take":Str)="ask") by decide +kernel)) ?_⟩
     refine⟨_,rfl,rfl,_,rfl,cP (by rw[decide_eq_true_eq];exact sne (show ¬ (("take":Str)="collect") by decide +kernel)) ?_⟩
     refine⟨_,rfl,rfl,_,rfl,jv (decide_eq_true rfl) ?_⟩
     refine⟨_,rfl,f8 Rd1.y.ob (dL (by decide +kernel)) ⟨_,rfl,gk Rd1.y.ob G.al G.cT kD (f8 Rd1.y.x.tn.ob Cw ⟨y.zt,y.sa,q.p,S.tk,S.m,S.rs,rfl,Rd1.y.x.tn,Rd1.y.x.st,Rd1.ok.ok,by have:=Rd1.i.tkd.len (by omega);omega,by have:=Rd1.i.len true;have:=Rd1.l;omega,?_⟩)⟩⟩
     have rl:=Rd1.i.len
     have hsl:=Rd1.i.hl
     have ll:=Rd1.l
     unfold Dd.run at k1
     by_cases h0:bo q.p S.m (S.rs true) .asked .taken=0
     . rw[if_pos h0]at k1 |-
       exact⟨y,q,S,"taken",.non,rfl,Rd1.y,by omega,.inl ⟨rfl,k1 .non H1 Rd1.y (Rd1.i.mono (by omega)) rfl (KO.refl _ _)⟩⟩
     . rw[if_neg h0]at k1 |-
       have rl2:∀ c,(bt S.rs true (S.rs true++[lq q.p S.m (S.rs true) .taken]) c).length <= L+2:=jj rl true (by rw[List.length_append];have:=rl true;show _+1 <= _;omega)
       cases hrd:rdP S.m (S.rs true) false (rdC S.m (S.rs true) .taken % q.p.s) with
      |none =>
        rw[hrd]at k1
        intro c H2 hc2 tn2 st2 kp2
        have Y2:=Rd1.y.parts (Rd1.y.x.heart tn2 st2 kp2) kp2 pB
        refine⟨y,q,_,"taken",.ref c,rfl,Y2,by show S.hs.length < _;omega,.inr ⟨c,.non,.non,.none,.none,rfl,hc2,rfl,rfl,rfl,rfl,λH3 Y3 ko3 hc3=>k1 (.ref c) H3 Y3 ⟨Rd1.i.und,Rd1.i.tkd,rl2,?_⟩ ⟨c,_,rfl,hc3,_,_,rfl,rfl,_,_,rfl,rfl,rfl⟩ (ot (KO.of_kp kp2 λc hc=>.inr (.inl (pB c hc))) ko3)⟩⟩
        show (S.hs++[_]).length <= _
        rw[List.length_append];show _+1 <= _;omega
      |some nw =>
        rw[hrd]at k1
        intro c H2 hc2 tn2 st2 kp2
        have Y2:=Rd1.y.parts (Rd1.y.x.heart tn2 st2 kp2) kp2 pB
        have nok:0 <= nw.1/\nw.1 < 9:=Rd1.y.x.st.names hrd
        refine⟨y,q,_,"taken",.ref c,rfl,Y2,by show S.hs.length < _;omega,.inr ⟨c,.int nw.1,.int nw.2,.int nw.1,.int nw.2,rfl,hc2,rfl,rfl,rfl,rfl,λH3 Y3 ko3 hc3=>k1 (.ref c) H3 Y3 ⟨Rd1.i.und,Rd1.i.tkd.next nok,rl2,?_⟩ (DV2 hc3) (ot (KO.of_kp kp2 λc hc=>.inr (.inl (pB c hc))) ko3)⟩⟩
        show (S.hs++[_]).length <= _
        rw[List.length_append];show _+1 <= _;omega
   |answer nm wt =>
     refine⟨_,rfl,rfl,_,rfl,cP (by rw[decide_eq_true_eq];exact sne (show ¬ (("answer":Str)="ask") by decide +kernel)) ?_⟩
     refine⟨_,rfl,rfl,_,rfl,cP (by rw[decide_eq_true_eq];exact sne (show ¬ (("answer":Str)="collect") by decide +kernel)) ?_⟩
     refine⟨_,rfl,rfl,_,rfl,cP (by rw[decide_eq_true_eq];exact sne (show ¬ (("answer":Str)="take") by decide +kernel)) ?_⟩
     refine⟨_,rfl,rfl,_,rfl,jv (decide_eq_true rfl) ?_⟩
     obtain⟨c1,c2⟩:=CA hc
     exact⟨_,rfl,f8 Rd1.y.ob (dL (by decide +kernel)) ⟨_,rfl,t,_,_,_,rfl,rfl,SqT.of ht1,rfl,_,rfl,t,_,_,_,rfl,rfl,SqT.of ht1,rfl,y,q,S,L,nm,wt,rfl,Rd1,c1,c2,k1⟩⟩
   |bell b =>
     refine⟨_,rfl,rfl,_,rfl,cP (by rw[decide_eq_true_eq];exact sne (show ¬ (("bell":Str)="ask") by decide +kernel)) ?_⟩
     refine⟨_,rfl,rfl,_,rfl,cP (by rw[decide_eq_true_eq];exact sne (show ¬ (("bell":Str)="collect") by decide +kernel)) ?_⟩
     refine⟨_,rfl,rfl,_,rfl,cP (by rw[decide_eq_true_eq];exact sne (show ¬ (("bell":Str)="take") by decide +kernel)) ?_⟩
     refine⟨_,rfl,rfl,_,rfl,cP (by rw[decide_eq_true_eq];exact sne (show ¬ (("bell":Str)="answer") by decide +kernel)) ?_⟩
     refine⟨_,rfl,rfl,_,rfl,jv (decide_eq_true rfl) ?_⟩
     exact⟨_,rfl,f8 Rd1.y.ob (dL (by decide +kernel)) ⟨_,rfl,t,_,_,_,rfl,rfl,SqT.of ht1,rfl,y,q,S,L,b,rfl,Rd1,k1⟩⟩
   |lie b =>
     refine⟨_,rfl,rfl,_,rfl,cP (by rw[decide_eq_true_eq];exact sne (show ¬ (("lie":Str)="ask") by decide +kernel)) ?_⟩
     refine⟨_,rfl,rfl,_,rfl,cP (by rw[decide_eq_true_eq];exact sne (show ¬ (("lie":Str)="collect") by decide +kernel)) ?_⟩
     refine⟨_,rfl,rfl,_,rfl,cP (by rw[decide_eq_true_eq];exact sne (show ¬ (("lie":Str)="take") by decide +kernel)) ?_⟩
     refine⟨_,rfl,rfl,_,rfl,cP (by rw[decide_eq_true_eq];exact sne (show ¬ (("lie":Str)="answer") by decide +kernel)) ?_⟩
     refine⟨_,rfl,rfl,_,rfl,cP (by rw[decide_eq_true_eq];exact sne (show ¬ (("lie":Str)="bell") by decide +kernel)) ?_⟩
     refine⟨_,rfl,rfl,_,rfl,jv (decide_eq_true rfl) ?_⟩
     exact⟨_,rfl,f8 Rd1.y.ob (dL (by decide +kernel)) ⟨_,rfl,t,_,_,_,rfl,rfl,SqT.of ht1,rfl,y,q,S,L,b,rfl,Rd1,k1⟩⟩
   |look b =>
     refine⟨_,rfl,rfl,_,rfl,cP (by rw[decide_eq_true_eq];exact sne (show ¬ (("look":Str)="ask") by decide +kernel)) ?_⟩
     refine⟨_,rfl,rfl,_,rfl,cP (by rw[decide_eq_true_eq];exact sne (show ¬ (("look":Str)="collect") by decide +kernel)) ?_⟩
     refine⟨_,rfl,rfl,_,rfl,cP (by rw[decide_eq_true_eq];exact sne (show ¬ (("look":Str)="take") by decide +kernel)) ?_⟩
     refine⟨_,rfl,rfl,_,rfl,cP (by rw[decide_eq_true_eq];exact sne (show ¬ (("look":Str)="answer") by decide +kernel)) ?_⟩
     refine⟨_,rfl,rfl,_,rfl,cP (by rw[decide_eq_true_eq];exact sne (show ¬ (("look":Str)="bell") by decide +kernel)) ?_⟩
     refine⟨_,rfl,rfl,_,rfl,cP (by rw[decide_eq_true_eq];exact sne (show ¬ (("look":Str)="lie") by decide +kernel)) ?_⟩
     refine⟨_,rfl,rfl,_,rfl,jv (decide_eq_true rfl) ?_⟩
     exact⟨_,rfl,f8 Rd1.y.ob (dL (by decide +kernel)) ⟨_,rfl,t,_,_,_,rfl,rfl,SqT.of ht1,rfl,y,q,S,L,b,rfl,Rd1,k1⟩⟩
   |drain b =>
     refine⟨_,rfl,rfl,_,rfl,cP (by rw[decide_eq_true_eq];exact sne (show ¬ (("drain":Str)="ask") by decide +kernel)) ?_⟩
     refine⟨_,rfl,rfl,_,rfl,cP (by rw[decide_eq_true_eq];exact sne (show ¬ (("drain":Str)="collect") by decide +kernel)) ?_⟩
     refine⟨_,rfl,rfl,_,rfl,cP (by rw[decide_eq_true_eq];exact sne (show ¬ (("drain":Str)="take") by decide +kernel)) ?_⟩
     refine⟨_,rfl,rfl,_,rfl,cP (by rw[decide_eq_true_eq];exact sne (show ¬ (("drain":Str)="answer") by decide +kernel)) ?_⟩
     refine⟨_,rfl,rfl,_,rfl,cP (by rw[decide_eq_true_eq];exact sne (show ¬ (("drain":Str)="bell") by decide +kernel)) ?_⟩
     refine⟨_,rfl,rfl,_,rfl,cP (by rw[decide_eq_true_eq];exact sne (show ¬ (("drain":Str)="lie") by decide +kernel)) ?_⟩
     refine⟨_,rfl,rfl,_,rfl,cP (by rw[decide_eq_true_eq];exact sne (show ¬ (("drain":Str)="look") by decide +kernel)) ?_⟩
     obtain⟨x,bS,hb⟩:=xq hc
     have rl:=Rd1.i.len
     have k2:Bh w a y q { S with m:=S.m.put x,rs:=bt S.rs b bS } L .none H1 Q:=by
      have e:(Dd.drain b).run q S=(.none,{ S with m:=S.m.put x,rs:=bt S.rs b bS }):=by
       show (match S.rs b with|x :: bS=>_|[]=>_)=_
       rw[hb]
      rw[e]at k1;exact k1
     refine⟨_,rfl,gk Rd1.y.ob G.al G.aL cN (f8 Rd1.y.x.st.ob (cw (by decide +kernel) (by decide +kernel)) ⟨_,rfl,t,_,_,_,rfl,rfl,SqT.of ht1,rfl,y.sa,S.m,S.rs,b,x,bS,rfl,Rd1.y.x.st,hb,λH2 st2 kp2=>?_⟩)⟩
     refine k2 .non H2 (Rd1.y.parts (Rd1.y.x.store st2 kp2) kp2 rD) ⟨Rd1.i.und,Rd1.i.tkd,jj rl b (by have:=rl b;rw[hb,List.length_cons]at this;omega),by have:=Rd1.i.hl;show S.hs.length <= _;omega⟩ rfl (Fa kp2)
end
def AA:Sp:=λvs H Q _=>∃ (b:Addr) (ns:List Int) (m:Nat),vs=[.ref b,.int m]/\H b=some (.lst (ns.map V.int))/\ns.length <= 63/\∀ (p:Addr) (cs:List Int) (H':Hp),bU H H'->H p=none->H' p=some (.lst (cs.map V.int))->cs.length <= m->(∀ c∈cs,0 <= c/\c < 1000000)->Q (.ref p) H'
theorem e6p:(10:Int) ^ (6:Int).toNat=1000000:=by decide
theorem G4 {r:Int}{n:Nat}(h0:0 < r) (h1:r < 1000000 ^ n):∃ m,n=m+1/\0 <= r / 1000000/\r / 1000000 < 1000000 ^ m:=by
 cases n with
|zero=>rw[Int.pow_zero]at h1;omega
|succ m =>
  refine⟨m,rfl,by omega,?_⟩
  rw[Int.pow_succ]at h1
  exact Int.ediv_lt_of_lt_mul (by decide) h1
theorem C3 {cs:List Int}{c:Int}:(cs.map V.int)++[V.int c]=(cs++[c]).map V.int:=by rw[List.map_append];rfl
theorem Bl {cs:List Int}{r:Int}(h:∀ c∈cs,0 <= c/\c < 1000000):∀ c∈cs++[r % 1000000],0 <= c/\c < 1000000:=λc hc=>by
 rcases List.mem_append.mp hc with y|y
 . exact h c y
 . rw[List.mem_singleton.mp y];exact⟨Int.emod_nonneg _ (by decide),Int.emod_lt_of_pos _ (by decide)⟩
section
variable {P:Program}{w:World}{K:PySem.W.Frag}{mg:Str->Option Value}{base:Heap}{a:Ad}{d:Fd}
theorem AT (G:Gs K mg a d):FnOk P w K mg base CX0 1 a.g9 d.g9 ["cells","most"] AA:=by
 refine G.nM.ok dH (λvs H Q E h=>?_) (λcdv A' outer s' H vs Q E hr h=>?_)
 . obtain⟨b,ns,m,rfl,_⟩:=h
   rfl
 . obtain⟨b,ns,m,rfl,hb,hl,k⟩:=h
   refine⟨_,(@ac _ _ _ _ _ (@aB _ _ 2 _ _ _ _ dH.nd rfl (Or.inl rfl) (@bc _ _ _ _ a9) (by rfl) (by first|exact .inl rfl|exact .inr rfl|assumption))
    (@ac _ _ _ _ _ (kN PassesOwn.never rfl (l9 (pv 0)) (cZ (i:=3) dH.nd rfl (Or.inl rfl)) (@ac _ _ _ _ _ (@aB _ _ 4 _ _ _ _ dH.nd rfl (Or.inl rfl) (@aA _ _ _ _ _ _ _ _ bh (pv 3) (@aA _ _ _ _ _ _ _ _ f9 ae ae)) (by rfl) (by first|exact .inl rfl|exact .inr rfl|assumption))
    (@ac _ _ _ _ _ (@aI _ _ _ _ (@mf _ _ _ _ _ _ _ _ _ _ _ _ PySem.F.plainAttrs_list PySem.F.slot_list_append PySem.F.type_list_append cq (pv 2) (@a6 _ _ _ _ _ (@aA _ _ _ _ _ _ _ _ bh (pv 4) (@aA _ _ _ _ _ _ _ _ f9 ae ae)) a9 (by rfl)) (by rfl) (by rfl) (by rfl) (by rfl) (by rfl)) (by rfl))
    (@ac _ _ _ _ _ (@aB _ _ 4 _ _ _ _ dH.nd rfl (Or.inl rfl) (@aA _ _ _ _ _ _ _ _ bB (pv 4) (@aA _ _ _ _ _ _ _ _ f9 ae ae)) (by rfl) (by first|exact .inl rfl|exact .inr rfl|assumption))
    (@af _ _ _ (qe PassesOwn.never (aq Co (pv 4) ae (az _)) (@ac _ _ _ _ _ (@aI _ _ _ _ (@mf _ _ _ _ _ _ _ _ _ _ _ _ PySem.F.plainAttrs_list PySem.F.slot_list_append PySem.F.type_list_append cq (pv 2) (@a6 _ _ _ _ _ (@aA _ _ _ _ _ _ _ _ bh (pv 4) (@aA _ _ _ _ _ _ _ _ f9 ae ae)) a9 (by rfl)) (by rfl) (by rfl) (by rfl) (by rfl) (by rfl)) (by rfl))
    (@af _ _ _ (@aB _ _ 4 _ _ _ _ dH.nd rfl (Or.inl rfl) (@aA _ _ _ _ _ _ _ _ bB (pv 4) (@aA _ _ _ _ _ _ _ _ f9 ae ae)) (by rfl) (by first|exact .inl rfl|exact .inr rfl|assumption))))))))))
    (@af _ _ _ (@ar _ _ _ _ (iw mL (pv 2) nG (iA (pv 1))))))),?_⟩
   refine⟨uc,λp hp=>?_⟩
   have e1:=ah (o:=.lst []) hp
   have v1:upd H p (.lst []) p=some (.lst (([]:List Int).map V.int)):=a8
   generalize upd H p (.lst [])=H1 at e1 v1 |-
   have nb:b≠p:=λz=>by rw[z,hp]at hb;cases hb
   refine⟨_,rfl,b,rfl,⟨_,SqL.of (e1 _ _ hb)⟩,?_⟩
   refine kY (K:=K) (a:=b) (xs:=ns.map V.int) (λi σ H2=>∃ (cs:List Int),(∃ v3 v4,σ=[some (.ref b),some (.int m),some (.ref p),v3,v4])/\cs.length <= 10 * i/\(∀ c∈cs,0 <= c/\c < 1000000)/\H2 p=some (.lst (cs.map V.int))/\(∀ c o,c≠p->H1 c=some o->H2 c=some o))
    ⟨[],⟨_,_,rfl⟩,Nat.le_refl _,(λ_ z=>absurd z List.not_mem_nil),v1,λ_ _ _ e=>e⟩ (λ_ _ _ _ ⟨_,_,_,_,_,z⟩=>SqL.of (z _ _ nb (e1 _ _ hb))) ?_ ?_
   . rintro i x σ H2 hi ⟨cs,⟨v3,v4,rfl⟩,cl,cok,v2,k2⟩
     have hi6:i < 63:=by have:=(List.getElem?_eq_some_iff.mp hi).1;rw[List.length_map]at this;omega
     obtain⟨c,rfl⟩:∃ c,x=.int c:=by
      rw[List.getElem?_map]at hi
      cases e:ns[i]? with
     |none=>rw[e]at hi;cases hi
     |some c=>rw[e]at hi;cases hi;exact⟨c,rfl⟩
     refine⟨_,rfl,_,_,rfl,rfl,⟨by decide,by decide,by decide⟩,_,_,rfl,rfl,by show (0:Int) < 10 ^ (60:Int).toNat;decide,?_⟩
     obtain⟨r0,hr0⟩:∃ r0,r0=c % 10 ^ (60:Int).toNat:=⟨_,rfl⟩
     have r0n:0 <= r0:=by rw[hr0];exact Int.emod_nonneg _ (by decide)
     have r0l:r0 < 1000000 ^ 10:=by rw[hr0];exact Int.emod_lt_of_pos _ (by decide)
     show gS 4 (V.int (c % 10 ^ (60:Int).toNat)) _ _ _
     rw[<-hr0]
     refine⟨_,rfl,.inl ⟨rfl,_,SqL.of v2⟩,_,rfl,_,_,rfl,rfl,⟨by decide,by decide,by decide⟩,_,_,rfl,rfl,by show (0:Int) < 10 ^ (6:Int).toNat;decide,p,_,_,rfl,rfl,v2,Nat.lt_of_lt_of_le (show _ < 1000 by rw[List.length_map];omega) (by decide),?_⟩
     refine⟨_,rfl,_,_,rfl,rfl,⟨by decide,by decide,by decide⟩,_,_,rfl,rfl,by rw[e6p];exact⟨by decide,by decide⟩,?_⟩
     refine⟨λn σ H3=>∃ (cs:List Int) (r:Int),σ=[some (.ref b),some (.int m),some (.ref p),some (.int c),some (.int r)]/\0 <= r/\r < 1000000 ^ n/\cs.length+n <= 10 * (i+1)/\(∀ c∈cs,0 <= c/\c < 1000000)/\H3 p=some (.lst (cs.map V.int))/\(∀ c o,c≠p->H1 c=some o->H3 c=some o),
      ⟨9,cs++[r0 % 1000000],r0 / 1000000,by rw[<-e6p];rfl,by omega,Int.ediv_lt_of_lt_mul (by decide) (Int.lt_of_lt_of_le r0l (by decide)),by rw[List.length_append];show _+1+9 <= _;omega,Bl cok,by rw[a8,<-C3,<-e6p],λc o n e=>by rw[ag n];exact k2 c o n e⟩,?_⟩
     rintro n σ H3 ⟨cs3,r,rfl,rn,rl,cl3,cok3,v3,k3⟩
     refine⟨_,rfl,_,_,rfl,rfl,_,rfl,?_⟩
     refine u7 (λhgo=>?_) (λhstop=>?_)
     . have hr:0 < r:=of_decide_eq_true hgo
       obtain⟨n',rfl,q0,q1⟩:=G4 hr rl
       refine⟨_,λσ' H' z=>z,?_⟩
       refine⟨_,rfl,.inl ⟨rfl,_,SqL.of v3⟩,_,rfl,_,_,rfl,rfl,⟨by decide,by decide,by decide⟩,_,_,rfl,rfl,by show (0:Int) < 10 ^ (6:Int).toNat;decide,p,_,_,rfl,rfl,v3,Nat.lt_of_lt_of_le (show _ < 1000 by rw[List.length_map];omega) (by decide),?_⟩
       refine⟨_,rfl,_,_,rfl,rfl,⟨by decide,by decide,by decide⟩,_,_,rfl,rfl,by rw[e6p];exact⟨by decide,by decide⟩,?_⟩
       exact⟨n',Nat.lt_succ_self _,cs3++[r % 1000000],r / 1000000,by rw[<-e6p];rfl,q0,q1,by rw[List.length_append];show _+1+n' <= _;omega,Bl cok3,by rw[a8,<-C3,<-e6p],λc o n e=>by rw[ag n];exact k3 c o n e⟩
     . exact⟨cs3,⟨_,_,rfl⟩,by omega,cok3,v3,k3⟩
   . rintro σ H2 ⟨cs,⟨v3,v4,rfl⟩,cl,cok,v2,k2⟩
     refine⟨_,rfl,_,rfl,(m:Int),rfl,p,_,rfl,SqL.of v2,λq hq=>?_⟩
     have e2:bU H H2:=λc o e=>k2 c o (aj e hp) (e1 _ _ e)
     rw[uK,<-List.map_take]
     exact k q (cs.take m) _ (e2.trans (ah hq)) (bK e2 hq) a8 (by rw[List.length_take];omega) λc hc=>cok c (List.mem_of_mem_take hc)
end
def xC:Sp:=λvs H Q _=>∃ c:Int,vs=[.int c]/\0 <= c/\c < 1000000/\∀ (g:Int) (H':Hp),-1000000000 <= g->g <= 1000000000->bU H H'->Q (.int g) H'
def Am:Sp:=λvs H Q _=>∃ (c:Int) (p:Addr) (ts:List Int),vs=[.int c,.ref p]/\0 <= c/\c < 1000000/\H p=some (.lst (ts.map V.int))/\∀ (x:Dd) (t:Addr) (H':Hp),x.Ok->H t=none->H' t=some (.tup x.vs)->bU H H'->Q (.ref t) H'
section
variable {P:Program}{w:World}{K:PySem.W.Frag}{mg:Str->Option Value}{base:Heap}{a:Ad}{d:Fd}
theorem zk (G:Gs K mg a d):FnOk P w K mg base CX0 1 a.fY d.fY ["code"] xC:=by
 refine G.jW.ok tf (λvs H Q E h=>?_) (λcdv A' outer s' H vs Q E hr h=>?_)
 . obtain⟨c,rfl,_⟩:=h
   rfl
 . obtain⟨c,rfl,c0,c1,k⟩:=h
   refine⟨_,(@ac _ _ _ _ _ (aM (aq bN (@aA _ _ _ _ _ _ _ _ bh (pv 0) ae) ae (az _)) (@af _ _ _ (@ar _ _ _ _ (@aA _ _ _ _ _ _ _ _ lU (@aA _ _ _ _ _ _ _ _ bh (@aA _ _ _ _ _ _ _ _ bB (pv 0) ae) ae) ae))) ao)
    (@ac _ _ _ _ _ (aM (aq bN (@aA _ _ _ _ _ _ _ _ bh (pv 0) ae) ae (az _)) (@af _ _ _ (@ar _ _ _ _ (@aA _ _ _ _ _ _ _ _ lU (@aA _ _ _ _ _ _ _ _ bh (@aA _ _ _ _ _ _ _ _ sh (pv 0) ae) (@aA _ _ _ _ _ _ _ _ gp (@aA _ _ _ _ _ _ _ _ sh ae (@aA _ _ _ _ _ _ _ _ f9 ae ae)) ae)) (@aA _ _ _ _ _ _ _ _ f9 ae ae)))) ao)
    (@af _ _ _ (@ar _ _ _ _ (@aK _ _ _ _ _ _ _ bz (@bc _ _ _ _ (@a6 _ _ _ _ _ (@aA _ _ _ _ _ _ _ _ f9 ae ae) (@a6 _ _ _ _ _ (oM jB (@aA _ _ _ _ _ _ _ _ f9 ae ae)) (@a6 _ _ _ _ _ ae (@a6 _ _ _ _ _ ae a9 (by rfl)) (by rfl)) (by rfl)) (by rfl))) (@aA _ _ _ _ _ _ _ _ bh (@aA _ _ _ _ _ _ _ _ bB (pv 0) ae) ae) (λ_ _=>rfl)))))),?_⟩
   have e9:(10:Int) ^ (9:Int).toNat=1000000000:=by decide
   refine⟨_,rfl,_,_,rfl,rfl,(show (0:Int) < 3 from by decide),rfl,_,rfl,?_⟩
   refine u7 (λ_=>?_) (λ_=>?_)
   . refine⟨_,rfl,_,_,rfl,rfl,⟨by decide,by decide⟩,_,_,rfl,rfl,(show (0:Int) < 9 from by decide),_,_,rfl,rfl,?_⟩
     exact k _ _ (by show -1000000000 <= c / 3 % 9 - 4;omega) (by show c / 3 % 9 - 4 <= _;omega) λ_ _ e=>e
   . refine⟨_,rfl,_,_,rfl,rfl,(show (0:Int) < 3 from by decide),rfl,_,rfl,?_⟩
     refine u7 (λ_=>?_) (λ_=>?_)
     . refine⟨_,rfl,_,_,rfl,rfl,nL c0 (by omega),?_⟩
       refine⟨_,_,rfl,rfl,⟨by decide,by decide,by decide⟩,_,_,rfl,rfl,nL (by decide) (by decide),_,_,rfl,rfl,_,_,rfl,rfl,by show (0:Int) < 2 * 10 ^ (9:Int).toNat+1;decide,_,_,rfl,rfl,⟨by decide,by decide,by decide⟩,_,_,rfl,rfl,?_⟩
       have f0:=Int.emod_nonneg (c * 2001) (show (2 * 10 ^ (9:Int).toNat+1:Int)≠0 by decide)
       have f1:=Int.emod_lt_of_pos (c * 2001) (show (0:Int) < 2 * 10 ^ (9:Int).toNat+1 by decide)
       rw[e9]at f0 f1
       exact k _ _ (by show _ <= c * 2001 % (2 * 10 ^ (9:Int).toNat+1) - 10 ^ (9:Int).toNat;rw[e9];omega) (by show c * 2001 % (2 * 10 ^ (9:Int).toNat+1) - 10 ^ (9:Int).toNat <= _;rw[e9];omega) λ_ _ e=>e
     . refine⟨_,_,rfl,rfl,⟨by decide,by decide,by decide⟩,_,_,rfl,rfl,⟨by decide,by decide,by decide⟩,_,rfl,(by show 4 <= sizeLine;decide),λp hp=>?_⟩
       refine⟨_,rfl,_,_,rfl,rfl,⟨by decide,by decide⟩,_,_,rfl,rfl,(show (0:Int) < 4 from by decide),?_⟩
       have g0:=Int.emod_nonneg (c / 3) (show (4:Int)≠0 by decide)
       have g1:=Int.emod_lt_of_pos (c / 3) (show (0:Int) < 4 by decide)
       obtain⟨v,hv,v0,v1⟩:∃ v:Int,atI [V.int (10 ^ (9:Int).toNat),V.int (-(10 ^ (9:Int).toNat)),V.int 0,V.int 1] (c / 3 % 4)=some (.int v)/\-1000000000 <= v/\v <= 1000000000:=by
        have:c / 3 % 4=0\/c / 3 % 4=1\/c / 3 % 4=2\/c / 3 % 4=3:=by omega
        rcases this with h|h|h|h<;>rw[h]
        . exact⟨_,rfl,by rw[e9];omega,by rw[e9];omega⟩
        . exact⟨_,rfl,by rw[e9];omega,by rw[e9];omega⟩
        . exact⟨_,rfl,by omega,by omega⟩
        . exact⟨_,rfl,by omega,by omega⟩
       exact⟨p,_,_,_,rfl,rfl,SqL.of a8,hv,k v _ v0 v1 (ah hp)⟩
theorem w9 {g:Int}(h0:0 <= g) (h1:g < 9):∃ wd:Str,atI [V.str "ask",V.str "ask",V.str "ask",V.str "collect",V.str "collect",V.str "take",V.str "take",V.str "answer",V.str "answer"] g=some (.str wd)/\(wd="ask"\/wd="collect"\/wd="take"\/wd="answer"):=by
 have:g=0\/g=1\/g=2\/g=3\/g=4\/g=5\/g=6\/g=7\/g=8:=by omega
 rcases this with rfl|rfl|rfl|rfl|rfl|rfl|rfl|rfl|rfl
 . exact⟨_,rfl,.inl rfl⟩
 . exact⟨_,rfl,.inl rfl⟩
 . exact⟨_,rfl,.inl rfl⟩
 . exact⟨_,rfl,.inr (.inl rfl)⟩
 . exact⟨_,rfl,.inr (.inl rfl)⟩
 . exact⟨_,rfl,.inr (.inr (.inl rfl))⟩
 . exact⟨_,rfl,.inr (.inr (.inl rfl))⟩
 . exact⟨_,rfl,.inr (.inr (.inr rfl))⟩
 . exact⟨_,rfl,.inr (.inr (.inr rfl))⟩
theorem w7 {g:Int}(h0:0 <= g) (h1:g < 7) (b:Bool):∃ (wd:Str) (x:Dd),atI [V.str "bell",V.str "bell",V.str "lie",V.str "look",V.str "drain",V.str "drain",V.str "drain"] g=some (.str wd)/\x.vs=[.str wd,.int (sdI b)]/\x.Ok:=by
 have:g=0\/g=1\/g=2\/g=3\/g=4\/g=5\/g=6:=by omega
 rcases this with rfl|rfl|rfl|rfl|rfl|rfl|rfl
 . exact⟨_,.bell b,rfl,rfl,trivial⟩
 . exact⟨_,.bell b,rfl,rfl,trivial⟩
 . exact⟨_,.lie b,rfl,rfl,trivial⟩
 . exact⟨_,.look b,rfl,rfl,trivial⟩
 . exact⟨_,.drain b,rfl,rfl,trivial⟩
 . exact⟨_,.drain b,rfl,rfl,trivial⟩
 . exact⟨_,.drain b,rfl,rfl,trivial⟩
theorem DT {g:Int}:∃ b,g % 2=sdI b:=by
 have:=Int.emod_nonneg g (show (2:Int)≠0 by decide)
 have:=Int.emod_lt_of_pos g (show (0:Int) < 2 by decide)
 by_cases h:g % 2=0
 . exact⟨false,h⟩
 . exact⟨true,by show g % 2=1;omega⟩
theorem zI (G:Gs K mg a d):FnOk P w K mg base CX0 2 a.hG d.hG ["code","tasks"] Am:=by
 have c_law_worth:FnOk P w K mg base CX0 1 _ _ _ _:=zk G
 refine G.pL.ok gg (λvs H Q E h=>?_) (λcdv A' outer s' H vs Q E hr h=>?_)
 . obtain⟨c,p,ts,rfl,_⟩:=h
   rfl
 . obtain⟨c,p,ts,rfl,c0,c1,hp,k⟩:=h
   have hu:=eC hr
   refine⟨_,(@ac _ _ _ _ _ (@aB _ _ 2 _ _ _ _ gg.nd rfl (Or.inl rfl) (@aK _ _ _ _ _ _ _ bz (@bc _ _ _ _ (@a6 _ _ _ _ _ ai (@a6 _ _ _ _ _ ai (@a6 _ _ _ _ _ ai (@a6 _ _ _ _ _ ai (@a6 _ _ _ _ _ ai (@a6 _ _ _ _ _ ai (@a6 _ _ _ _ _ ai (@a6 _ _ _ _ _ ai (@a6 _ _ _ _ _ ai a9 (by rfl)) (by rfl)) (by rfl)) (by rfl)) (by rfl)) (by rfl)) (by rfl)) (by rfl)) (by rfl))) (@aA _ _ _ _ _ _ _ _ bh (@aA _ _ _ _ _ _ _ _ bh (pv 0) ae) ae) (λ_ _=>rfl)) (by rfl) (by first|exact .inl rfl|exact .inr rfl|assumption))
    (@ac _ _ _ _ _ (@aB _ _ 3 _ _ _ _ gg.nd rfl (Or.inl rfl) (@aA _ _ _ _ _ _ _ _ bh (@aA _ _ _ _ _ _ _ _ bB (pv 0) ae) ae) (by rfl) (by first|exact .inl rfl|exact .inr rfl|assumption))
    (@ac _ _ _ _ _ (aM (aq Co (@aA _ _ _ _ _ _ _ _ bh (pv 0) ae) ae (az _)) (@af _ _ _ (@ar _ _ _ _ (@av _ _ _ _ _ (@a6 _ _ _ _ _ (@aK _ _ _ _ _ _ _ bz (@bc _ _ _ _ (@a6 _ _ _ _ _ ai (@a6 _ _ _ _ _ ai (@a6 _ _ _ _ _ ai (@a6 _ _ _ _ _ ai (@a6 _ _ _ _ _ ai (@a6 _ _ _ _ _ ai (@a6 _ _ _ _ _ ai a9 (by rfl)) (by rfl)) (by rfl)) (by rfl)) (by rfl)) (by rfl)) (by rfl))) (@aA _ _ _ _ _ _ _ _ lU (@aA _ _ _ _ _ _ _ _ bh (pv 0) ae) ae) (λ_ _=>rfl)) (@a6 _ _ _ _ _ (pv 3) a9 (by rfl)) (by rfl))))) ao)
    (@ac _ _ _ _ _ (aM (aq bN (pv 2) ai (az _)) (@af _ _ _ (@ar _ _ _ _ (@av _ _ _ _ _ (@a6 _ _ _ _ _ (pv 2) (@a6 _ _ _ _ _ (aP c_law_worth (hr.mono (by decide)) (by rfl) G.nZ G.jW.kp G.nI .nil ax (@a6 _ _ _ _ _ (@aA _ _ _ _ _ _ _ _ bB (pv 0) ae) a9 (by rfl))) a9 (by rfl)) (by rfl))))) ao)
    (@ac _ _ _ _ _ (aM (aq mO (pv 2) ai (az _)) (@af _ _ _ (@ar _ _ _ _ (@av _ _ _ _ _ (@a6 _ _ _ _ _ (pv 2) a9 (by rfl))))) ao)
    (@ac _ _ _ _ _ (@aB _ _ 4 _ _ _ _ gg.nd rfl (Or.inl rfl) (@aA _ _ _ _ _ _ _ _ bh (@aA _ _ _ _ _ _ _ _ bB (pv 0) ae) ae) (by rfl) (by first|exact .inl rfl|exact .inr rfl|assumption))
    (@gh _ _ _ _ _ (aM (aq (vm hr.units) (pv 1) (@bc _ _ _ _ a9) (az _)) (@af _ _ _ (@aB _ _ 4 _ _ _ _ gg.nd rfl (Or.inl rfl) (@aK _ _ _ _ _ _ _ bz (pv 1) (@aA _ _ _ _ _ _ _ _ bh (@aA _ _ _ _ _ _ _ _ bB (pv 0) ae) (aZ bH (by rfl) G.qk kK (@a6 _ _ _ _ _ (pv 1) a9 (by rfl)))) (λ_ _=>rfl)) (by rfl) (by first|exact .inl rfl|exact .inr rfl|assumption))) ao)
    (@af _ _ _ (@ar _ _ _ _ (@av _ _ _ _ _ (@a6 _ _ _ _ _ (pv 2) (@a6 _ _ _ _ _ (pv 4) (@a6 _ _ _ _ _ (aP c_law_worth (hr.mono (by decide)) (by rfl) G.nZ G.jW.kp G.nI .nil ax (@a6 _ _ _ _ _ (@aA _ _ _ _ _ _ _ _ bB (pv 0) ae) a9 (by rfl))) a9 (by rfl)) (by rfl)) (by rfl)))))))))))),?_⟩
   have n0:=Int.emod_nonneg c (show (16:Int)≠0 by decide)
   have n1:=Int.emod_lt_of_pos c (show (0:Int) < 16 by decide)
   refine⟨by show 9 <= sizeLine;decide,λq hq=>⟨_,rfl,_,_,rfl,rfl,(show (0:Int) < 16 from by decide),_,_,rfl,rfl,(show (0:Int) < 9 from by decide),?_⟩⟩
   obtain⟨wd,hwd,wdc⟩:=w9 (Int.emod_nonneg (c % 16) (show (9:Int)≠0 by decide)) (Int.emod_lt_of_pos (c % 16) (show (0:Int) < 9 by decide))
   refine⟨q,_,_,_,rfl,rfl,SqL.of a8,hwd,?_⟩
   have e1:=ah (o:=.lst [V.str "ask",V.str "ask",V.str "ask",V.str "collect",V.str "collect",V.str "take",V.str "take",V.str "answer",V.str "answer"]) hq
   generalize upd H q (.lst [V.str "ask",V.str "ask",V.str "ask",V.str "collect",V.str "collect",V.str "take",V.str "take",V.str "answer",V.str "answer"])=H1 at e1 |-
   refine⟨_,rfl,_,_,rfl,rfl,⟨by decide,by decide⟩,_,_,rfl,rfl,(show (0:Int) < 2 from by decide),?_⟩
   obtain⟨b,hb⟩:=DT (g:=c / 16)
   refine⟨_,rfl,_,_,rfl,rfl,(show (0:Int) < 16 from by decide),_,_,rfl,rfl,_,rfl,?_⟩
   have c16:0 <= c / 16/\c / 16 < 1000000:=⟨by omega,by omega⟩
   refine u7 (λhg=>?_) (λ_=>?_)
   . have hg:8 < c % 16:=of_decide_eq_true hg
     refine⟨by show 7 <= sizeLine;decide,λq2 hq2=>⟨_,rfl,_,_,rfl,rfl,(show (0:Int) < 16 from by decide),_,_,rfl,rfl,?_⟩⟩
     obtain⟨wd2,x,hw2,xv,xo⟩:=w7 (g:=c % 16 - 9) (by omega) (by omega) b
     refine⟨q2,_,_,_,rfl,rfl,SqL.of a8,hw2,_,rfl,l2,λt ht=>?_⟩
     have e2:=ah (o:=.lst [V.str "bell",V.str "bell",V.str "lie",V.str "look",V.str "drain",V.str "drain",V.str "drain"]) hq2
     exact k x t _ xo (bK (e1.trans e2) ht) (by rw[a8,xv,<-hb]) ((e1.trans e2).trans (ah ht))
   refine⟨_,rfl,rfl,_,rfl,?_⟩
   refine u7 (λhg=>?_) (λhn1=>?_)
   . have hg:wd="ask":=by have:=of_decide_eq_true hg;injection this
     refine⟨_,rfl,_,rfl,_,_,rfl,rfl,⟨by decide,by decide⟩,c / 16,rfl,c16.1,c16.2,λg H2 g0 g1 e2=>⟨l2,λt ht=>?_⟩⟩
     exact k (.ask g) t _ ⟨g0,g1⟩ (bK (e1.trans e2) ht) (by rw[a8,hg];rfl) ((e1.trans e2).trans (ah ht))
   have hn1:wd≠"ask":=λz=>hn1 (decide_eq_true (by rw[z]))
   refine⟨_,rfl,rfl,_,rfl,?_⟩
   refine u7 (λhg=>?_) (λhn2=>?_)
   . have hg:wd≠"answer":=λz=>by rw[z]at hg;exact absurd hg (by decide +kernel)
     refine⟨_,rfl,by show 1 <= sizeLine;decide,λt ht=>?_⟩
     rcases wdc with z|z|z|z
     . exact absurd z hn1
     . exact k .collect t _ trivial (bK e1 ht) (by rw[a8,z];rfl) (e1.trans (ah ht))
     . exact k .take t _ trivial (bK e1 ht) (by rw[a8,z];rfl) (e1.trans (ah ht))
     . exact absurd z hg
   have hn2:wd="answer":=by
    have:=Bool.eq_false_iff.mpr hn2
    rw[Bool.not_eq_false',decide_eq_true_eq]at this
    injection this
   subst hn2
   refine⟨_,rfl,_,_,rfl,rfl,⟨by decide,by decide⟩,_,_,rfl,rfl,(show (0:Int) < 10 from by decide),?_⟩
   refine⟨λσ' H'=>∃ nm:Int,σ'=[some (.int c),some (.ref p),some (.str "answer"),some (.int (c / 16 % 2)),some (.int nm)]/\bU H1 H',?_,?_⟩
   . refine⟨_,rfl,uc,λq3 hq3=>?_⟩
     have e3:=ah (o:=.lst []) hq3
     refine⟨p,q3,_,rfl,rfl,SqL.of (e3 _ _ (e1 _ _ hp)),SqL.of a8,_,rfl,?_⟩
     refine u7 (λhg=>?_) (λ_=>⟨_,rfl,e3⟩)
     have tl:0 < (ts.length:Int):=by
      cases ts with
     |nil=>exact absurd hg (by decide)
     |cons y ys=>rw[List.length_cons];omega
     refine⟨_,rfl,_,rfl,_,_,rfl,rfl,⟨by decide,by decide⟩,_,rfl,p,_,rfl,.inl (SqL.of (e3 _ _ (e1 _ _ hp))),_,_,rfl,rfl,by rw[List.length_map];exact tl,?_⟩
     have i0:=Int.emod_nonneg (c / 32) (show (ts.length:Int)≠0 by omega)
     have i1:=Int.emod_lt_of_pos (c / 32) tl
     obtain⟨v,hv,hm⟩:=Fh (xs:=ts.map V.int) i0 (by rw[List.length_map];exact i1)
     obtain⟨nm,_,rfl⟩:=List.mem_map.mp hm
     exact⟨p,_,_,_,rfl,rfl,SqL.of (e3 _ _ (e1 _ _ hp)),by show atI _ (c / 32 % ((ts.map V.int).length:Int))=_;rw[List.length_map];exact hv,nm,rfl,e3⟩
   . rintro σ' H2 ⟨nm,rfl,e2⟩
     refine⟨_,rfl,_,rfl,_,rfl,_,_,rfl,rfl,⟨by decide,by decide⟩,c / 16,rfl,c16.1,c16.2,λg H3 g0 g1 e3=>⟨l3,λt ht=>?_⟩⟩
     have e4:=(e1.trans e2).trans e3
     exact k (.answer nm g) t _ ⟨g0,g1⟩ (bK e4 ht) a8 (e4.trans (ah ht))
end
def zo (w:World) (ad:Ad):Sp:=λvs H Q _=>∃ (a:YA) (q:YP) (S:YS) (L:Nat) (x:Dd) (t:Addr),vs=[.ref a.y,.ref t]/\Rdy w ad H a q S L/\H t=some (.tup x.vs)/\x.Ok /\
 ∀ (v:V) (r:Addr) (H':Hp),Yn w ad.bg ad.d4 ad.b7 ad.bX ad.aH H' a q (x.out q S).2.2->YI q (x.out q S).2.2 (L+2)->DV H' (x.out q S).2.1 v->H r=none->H' r=some (.tup [.str (x.out q S).1,v])->KO a.own H H'->Q (.ref r) H'
section
variable {P:Program}{w:World}{K:PySem.W.Frag}{mg:Str->Option Value}{base:Heap}{a:Ad}{d:Fd}
theorem yS (G:Gs K mg a d):FnOk P w K mg base CX0 11 a.eh d.eh ["yard","deed"] (zo w a):=by
 have cx_Yard_deed:FnOk P w K mg base (CXv P w) 10 _ _ _ _:=mV G
 refine G.gY.ok aO (λvs H Q E h=>?_) (λcdv A' outer s' H vs Q E hr h=>?_)
 . obtain⟨y,q,S,L,x,t,rfl,_⟩:=h
   rfl
 . obtain⟨y,q,S,L,x,t,rfl,Rd,ht,hx,k⟩:=h
   have hu:=eC hr
   refine⟨_,(@ac _ _ _ _ _ (@aB _ _ 2 _ _ _ _ aO.nd rfl (Or.inl rfl) cC (by rfl) (by first|exact .inl rfl|exact .inr rfl|assumption))
    (@ac _ _ _ _ _ (@aB _ _ 3 _ _ _ _ aO.nd rfl (Or.inl rfl) ai (by rfl) (by first|exact .inl rfl|exact .inr rfl|assumption))
    (@ac _ _ _ _ _ (zh ⟨rfl,rfl,rfl⟩ (λpins R=>by exact(@af _ _ _ (@aB _ _ 2 _ _ _ _ aO.nd rfl (Or.inl rfl) (qT rfl (pv 0) G.al G.bI cx_Yard_deed (hr.mono (by decide)) G.c7 .nil (@a6 _ _ _ _ _ (pv 1) a9 (by rfl))) (by rfl) (by first|exact .inl rfl|exact .inr rfl|assumption)))) (jg ⟨rfl,rfl,rfl⟩ (by rfl) G.fG (λe=>by exact(@af _ _ _ (@aB _ _ 3 _ _ _ _ aO.nd rfl (Or.inl rfl) ai (by rfl) (by first|exact .inl rfl|exact .inr rfl|assumption)))) (jg ⟨rfl,rfl,rfl⟩ (by rfl) G.sQ (λe=>by exact(@af _ _ _ (@aB _ _ 3 _ _ _ _ aO.nd rfl (Or.inl rfl) ai (by rfl) (by first|exact .inl rfl|exact .inr rfl|assumption)))) (jg ⟨rfl,rfl,rfl⟩ (by rfl) G.mB (λe=>by exact(@af _ _ _ (@aB _ _ 3 _ _ _ _ aO.nd rfl (Or.inl rfl) ai (by rfl) (by first|exact .inl rfl|exact .inr rfl|assumption)))) (jg ⟨rfl,rfl,rfl⟩ (by rfl) G.mJ (λe=>by exact(@af _ _ _ (@aB _ _ 3 _ _ _ _ aO.nd rfl (Or.inl rfl) ai (by rfl) (by first|exact .inl rfl|exact .inr rfl|assumption)))) yR)))))
    (@af _ _ _ (@ar _ _ _ _ (@av _ _ _ _ _ (@a6 _ _ _ _ _ (pv 3) (@a6 _ _ _ _ _ (pv 2) a9 (by rfl)) (by rfl)))))))),?_⟩
   have fl0:=Dh (q:=q) (S:=S) x
   refine⟨λσ' cls H'=>σ'=[some (.ref y.y),some (.ref t),some .non,some (.str "none")]/\bU H H'/\∃ r,x.chk q S=some r/\cls=.ref (rfC a r),?_,?_⟩
   . refine⟨_,rfl,f8 Rd.y.ob (dL (by decide +kernel)) ⟨_,rfl,y,q,S,L,x,t,rfl,Rd,ht,hx,?_⟩⟩
     cases hc:x.chk q S with
    |some r=>exact λH1 e1=>⟨rfl,e1,r,rfl,rfl⟩
    |none =>
      rw[Dd.out_none hc]at k fl0
      intro v H1 Y1 i1 dv1 ko1
      refine⟨_,rfl,_,rfl,l2,λr hr2=>?_⟩
      have e2:=ah (o:=.tup [V.str "none",v]) hr2
      refine k v r _ (Y1.same e2) i1 (DV.fl (λb vs e=>e2 b _ e) fl0 dv1) ?_ a8 (ot ko1 (KO.of_same e2))
      cases hr0:H r with
     |none=>rfl
     |some o =>
       by_cases ho:y.own r
       . obtain⟨o',e',_⟩:=Y1.there ho
         rw[e']at hr2;cases hr2
       . rw[ko1 r o ho hr0]at hr2;cases hr2
   . rintro σ' cls H1 ⟨rfl,e1,r,hc,rfl⟩
     rw[Dd.out_some hc]at k
     have fin:∀ (r':Addr),H1 r'=none->Q (.ref r') (upd H1 r' (.tup [V.str r.key,.non])):=λr' hr'=>by
      have e2:=ah (o:=.tup [V.str r.key,.non]) hr'
      exact k .non r' _ (Rd.y.same (e1.trans e2)) (Rd.i.mono (by omega)) rfl (bK e1 hr') a8 (KO.of_same (e1.trans e2))
     cases r with
    |deed=>exact⟨true,G.Dl,⟨_,rfl,_,rfl,l2,fin⟩⟩
    |full=>exact⟨false,G.Dm,true,G.Ef,⟨_,rfl,_,rfl,l2,fin⟩⟩
    |name=>exact⟨false,G.DU,false,G.Ed,true,G.DG,⟨_,rfl,_,rfl,l2,fin⟩⟩
    |task=>exact⟨false,G.Dq,false,G.EB,false,G.Dp,true,G.En,⟨_,rfl,_,rfl,l2,fin⟩⟩
end
def yM:Sp:=λvs H Q _=>∃ (p t r:Addr) (ts:List Int) (x:Dd) (key:Str) (d:PyData) (v:V),vs=[.ref p,.ref t,.ref r]/\H p=some (.lst (ts.map V.int))/\H t=some (.tup x.vs)/\H r=some (.tup [.str key,v])/\DV H d v/\(x.ftc->Fch d)/\ts.length < 1000 /\
 ∀ H',H' p=some (.lst ((x.aft ts key d).map V.int))->Kp [p] H H'->Q .non H'
theorem vo {ts:List Int}:(ts.map V.int).all oH=true:=by rw[List.all_eq_true];intro v hv;obtain⟨i,_,rfl⟩:=List.mem_map.mp hv;rfl
section
variable {P:Program}{w:World}{K:PySem.W.Frag}{mg:Str->Option Value}{base:Heap}{a:Ad}{d:Fd}
theorem xf (G:Gs K mg a d):FnOk P w K mg base CX0 1 a.fV d.fV ["tasks","deed","told"] yM:=by
 refine G.mM.ok sj (λvs H Q E h=>?_) (λcdv A' outer s' H vs Q E hr h=>?_)
 . obtain⟨p,t,r,ts,x,key,dd,v,rfl,_⟩:=h
   rfl
 . obtain⟨p,t,r,ts,x,key,dd,v,rfl,hp,ht,hr1,dv,fc,tl,k⟩:=h
   have hu:=eC hr
   refine⟨_,(@ac _ _ _ _ _ (aM (aq mO (@aK _ _ _ _ _ _ _ aC (pv 2) ae (λ_ _=>rfl)) ai (az _)) (@af _ _ _ ub) ao)
    (@gh _ _ _ _ _ (aM ((mT (aq bN (@aK _ _ _ _ _ _ _ aC (pv 1) ae (λ_ _=>rfl)) ai (az _)) (mT (aq lv (@aK _ _ _ _ _ _ _ aC (pv 2) ae (λ_ _=>rfl)) cC (az _)) (mT (aq lv (@aK _ _ _ _ _ _ _ aC (@aK _ _ _ _ _ _ _ aC (pv 2) ae (λ_ _=>rfl)) ae (λ_ _=>rfl)) cC (az _)) (mW (aq gl (@aK _ _ _ _ _ _ _ aC (@aK _ _ _ _ _ _ _ aC (pv 2) ae (λ_ _=>rfl)) ae (λ_ _=>rfl)) (pv 0) (by with_unfolding_all rfl))))))).pt (@af _ _ _ (@aI _ _ _ _ (@mf _ _ _ _ _ _ _ _ _ _ _ _ PySem.F.plainAttrs_list PySem.F.slot_list_append PySem.F.type_list_append cq (pv 0) (@a6 _ _ _ _ _ (@aK _ _ _ _ _ _ _ aC (@aK _ _ _ _ _ _ _ aC (pv 2) ae (λ_ _=>rfl)) ae (λ_ _=>rfl)) a9 (by rfl)) (by rfl) (by rfl) (by rfl) (by rfl) (by rfl)) (by rfl))) ao)
    (@af _ _ _ (aM ((mT (aq bN (@aK _ _ _ _ _ _ _ aC (pv 1) ae (λ_ _=>rfl)) ai (az _)) (mW (aq gM (@aK _ _ _ _ _ _ _ aC (pv 1) ae (λ_ _=>rfl)) (pv 0) (by with_unfolding_all rfl))))).pt (@af _ _ _ (@aI _ _ _ _ (@mf _ _ _ _ _ _ _ _ _ _ _ _ PySem.F.plainAttrs_list PySem.F.slot_list_remove PySem.F.type_list_remove xW (pv 0) (@a6 _ _ _ _ _ (@aK _ _ _ _ _ _ _ aC (pv 1) ae (λ_ _=>rfl)) a9 (by rfl)) (by rfl) (by rfl) (by rfl) (by rfl) (by rfl)) (by rfl))) ao)))),?_⟩
   refine⟨_,rfl,r,_,_,_,rfl,rfl,SqT.of hr1,aY,rfl,_,rfl,?_⟩
   by_cases hk:key="none"
   rotate_left
   . refine jv (by rw[Bool.not_eq_true',decide_eq_false_iff_not];exact sne hk) ?_
     exact k H (by rw[hp];unfold Dd.aft;rw[if_neg hk]) (Kp.refl _ _)
   subst hk
   refine cP (by rw[decide_eq_true rfl];exact λz=>by cases z) ?_
   have npr:p≠r:=λz=>by rw[z,hr1]at hp;cases hp
   have npt:p≠t:=λz=>by rw[z,ht]at hp;cases hp
   refine⟨λσ' H'=>σ'=[some (.ref p),some (.ref t),some (.ref r)]/\Kp [p] H H'/\∃ l1:List Int,H' p=some (.lst (l1.map V.int))/\((∃ nm wt,x=.answer nm wt)->l1=ts)/\((∀ nm wt,x≠.answer nm wt)->l1=x.aft ts "none" dd),?_,?_⟩
   . have stay:(∀ nm wt,x≠.answer nm wt)->x.aft ts "none" dd=ts->([some (V.ref p),some (.ref t),some (.ref r)]=[some (V.ref p),some (.ref t),some (.ref r)]/\Kp [p] H H/\∃ l1:List Int,H p=some (.lst (l1.map V.int))/\((∃ nm wt,x=.answer nm wt)->l1=ts)/\((∀ nm wt,x≠.answer nm wt)->l1=x.aft ts "none" dd)):=λ_ h2=>⟨rfl,Kp.refl _ _,ts,hp,λ_=>rfl,λ_=>h2.symm⟩
     refine⟨_,rfl,t,_,_,_,rfl,rfl,SqT.of ht,x.at0,rfl,_,rfl,?_⟩
     rcases x.cls2 with rfl|⟨nm,wt,rfl⟩|⟨w1,w2,w3⟩
     . refine jv (decide_eq_true rfl) ?_
       have na:∀ nm wt,Dd.take≠.answer nm wt:=λ_ _ z=>by cases z
       rcases(fc trivial).dv dv with⟨rfl,rfl⟩|⟨c,v1,v2,rfl,hc,⟨rfl,rfl,rfl⟩|⟨i,j,rfl,rfl,rfl⟩⟩
       . refine⟨_,rfl,r,_,_,_,rfl,rfl,SqT.of hr1,rfl,rfl,_,rfl,fw (fw ?_)⟩
         exact stay na rfl
       . refine⟨_,rfl,r,_,_,_,rfl,rfl,SqT.of hr1,rfl,rfl,_,rfl,iT ?_⟩
         refine⟨_,rfl,r,_,_,_,rfl,rfl,SqT.of hr1,rfl,c,_,_,_,rfl,rfl,SqT.of hc,rfl,rfl,_,rfl,fw (fw ?_)⟩
         exact stay na rfl
       . refine⟨_,rfl,r,_,_,_,rfl,rfl,SqT.of hr1,rfl,rfl,_,rfl,iT ?_⟩
         refine⟨_,rfl,r,_,_,_,rfl,rfl,SqT.of hr1,rfl,c,_,_,_,rfl,rfl,SqT.of hc,rfl,rfl,_,rfl,iT ?_⟩
         refine⟨_,rfl,r,_,_,_,rfl,rfl,SqT.of hr1,rfl,c,_,_,_,rfl,rfl,SqT.of hc,rfl,_,rfl,p,_,rfl,.inl (SqL.of hp),rfl,vo,_,rfl,?_⟩
         simp only[if_true]
         rw[pS]
         have ea:Dd.take.aft ts "none" (.tuple [.int i,.int j])=lu ts i:=rfl
         cases hin:ts.contains i with
        |true =>
          refine fw (stay na ?_)
          rw[ea];unfold lu;rw[hin];rfl
        |false =>
          refine iT ?_
          refine⟨_,rfl,.inl ⟨rfl,_,SqL.of hp⟩,_,rfl,r,_,_,_,rfl,rfl,SqT.of hr1,rfl,c,_,_,_,rfl,rfl,SqT.of hc,rfl,p,_,_,rfl,rfl,hp,Nat.lt_of_lt_of_le (show _ < 1000 by rw[List.length_map];exact tl) (by decide),?_⟩
          refine⟨rfl,Kp.one,ts++[i],by rw[a8,C3],λ⟨_,_,z⟩=>absurd z (na _ _),λ_=>?_⟩
          rw[ea];unfold lu;rw[hin];rfl
     . refine cP (by rw[decide_eq_true_eq];exact sne (show ¬ (("answer":Str)="take") by decide +kernel)) (fw ?_)
       exact⟨rfl,Kp.refl _ _,ts,hp,λ_=>rfl,λz=>absurd rfl (z nm wt)⟩
     . refine cP (by rw[decide_eq_true_eq];exact sne w1) (fw ?_)
       exact⟨rfl,Kp.refl _ _,ts,hp,λ_=>rfl,λ_=>(w3 _ _ _).symm⟩
   . rintro σ' H1 ⟨rfl,kp1,l1,h1,f1,f2⟩
     have ht1:=kp1 _ _ (λz=>npt (List.mem_singleton.mp z).symm) ht
     refine⟨_,rfl,t,_,_,_,rfl,rfl,SqT.of ht1,x.at0,rfl,_,rfl,?_⟩
     rcases x.cls2 with rfl|⟨nm,wt,rfl⟩|⟨w1,w2,w3⟩
     . refine cP (by rw[decide_eq_true_eq];exact sne (show ¬ (("take":Str)="answer") by decide +kernel)) (fw ?_)
       rw[f2 λ_ _ z=>by cases z]at h1
       exact k H1 h1 kp1
     . refine jv (decide_eq_true rfl) ?_
       have e1:=f1 ⟨_,_,rfl⟩
       subst e1
       refine⟨_,rfl,t,_,_,_,rfl,rfl,SqT.of ht1,rfl,_,rfl,p,_,rfl,.inl (SqL.of h1),rfl,vo,_,rfl,?_⟩
       simp only[Bool.false_eq_true,if_false]
       rw[pS]
       have ea:(Dd.answer nm wt).aft l1 "none" dd=l1.erase nm:=rfl
       rw[ea]at k
       cases hin:l1.contains nm with
      |true =>
        refine iT ?_
        refine⟨_,rfl,.inl ⟨rfl,_,SqL.of h1⟩,_,rfl,t,_,_,_,rfl,rfl,SqT.of ht1,rfl,p,l1,nm,rfl,rfl,h1,by rw[List.contains_eq_mem]at hin;exact of_decide_eq_true hin,?_⟩
        exact k _ a8 (kp1.trans Kp.one)
      |false =>
        refine fw ?_
        refine k H1 ?_ kp1
        rw[List.erase_of_not_mem (by rw[List.contains_eq_mem]at hin;exact of_decide_eq_false hin)];exact h1
     . refine cP (by rw[decide_eq_true_eq];exact sne w2) (fw ?_)
       rw[f2 λnm wt z=>by rw[z]at w2;exact w2 rfl]at h1
       exact k H1 h1 kp1
end
theorem mt {xs us vs:List Int}(h1:us.Perm xs) (h2:us.Pairwise (· <= ·)) (h3:vs.Perm xs) (h4:vs.Pairwise (· <= ·)):us=vs :=
 List.Perm.eq_of_pairwise (λa b _ _ p q=>Int.le_antisymm p q) h2 h4 (h1.trans h3.symm)
theorem CK {m:Mem}{p:PyData × PyData}(h:p∈fW m):MX.kd p.1=true/\p.1.depth <= 1/\MX.kd p.2=true/\p.2.depth <= 1/\p.2≠.int 0/\∃ c:Ck,c.key=p.1:=by
 obtain⟨c,hc,e⟩:=List.mem_filterMap.mp h
 obtain⟨dd,hd,rfl⟩:=Option.map_eq_some_iff.mp e
 cases c with
|c kk =>
  have hd':(if m.c kk=0 then none else some (PyData.int (m.c kk)))=some dd:=hd
  split at hd'
  . cases hd'
  . rename_i hz
    cases hd';exact⟨oO kk,by show 0 <= 1;decide,rfl,by show 0 <= 1;decide,λz=>hz (by injection z),.c kk,rfl⟩
|p g j =>
  obtain⟨nw,_,rfl⟩:=Option.map_eq_some_iff.mp hd
  exact⟨oY g j,by show 1 <= 1;decide,rfl,by show 1 <= 1;decide,(λz=>by cases z),.p g j,rfl⟩
theorem B7:∀ {ds:List PyData},(∀ d∈ds,MX.kd d=true/\d.depth <= 3)->MX.kds ds=true/\PyData.depthAll ds <= 3
|[],_=>⟨rfl,Nat.zero_le _⟩
|d :: ds,h=>by
  obtain⟨a,b⟩:=B7 (ds:=ds) λu hu=>h u (List.mem_cons_of_mem _ hu)
  have hd:=h d List.mem_cons_self
  refine⟨?_,?_⟩
  . show (MX.kd d && MX.kds ds)=true
    rw[hd.1,a];rfl
  . show max d.depth (PyData.depthAll ds) <= 3
    have:=hd.2
    omega
def Kt (d:PyData):Prop:=MX.kd d=true/\d.depth <= 4
theorem Kt.tup {ds:List PyData}(h:∀ d∈ds,MX.kd d=true/\d.depth <= 3):Kt (.tuple ds):=by
 obtain⟨a,b⟩:=B7 h
 exact⟨a,by show PyData.depthAll ds+1 <= 4;omega⟩
theorem Kt.row (row:List Wr):Kt (Fr row):=.tup λd hd=>by
 obtain⟨x,_,rfl⟩:=List.mem_map.mp hd
 refine⟨?_,?_⟩
 . show (MX.kd x.key && (MX.kd x.dat && true))=true
   rw[x.key_kd,x.dat_kd];rfl
 . cases x with
  |c k i=>show 1 <= 3;decide
  |p g i nm wt=>show 2 <= 3;decide
theorem Kt.ints (ns:List Int):Kt (Fu ns):=.tup λd hd=>by
 obtain⟨x,_,rfl⟩:=List.mem_map.mp hd
 exact⟨rfl,by show 0 <= 3;decide⟩
theorem Kt.cells (m:Mem):Kt (.tuple ((fW m).map λp=>.tuple [p.1,p.2])):=.tup λd hd=>by
 obtain⟨p,hp,rfl⟩:=List.mem_map.mp hd
 obtain⟨a,b,c,e,_⟩:=CK hp
 refine⟨?_,?_⟩
 . show (MX.kd p.1 && (MX.kd p.2 && true))=true
   rw[a,c];rfl
 . show max p.1.depth (max p.2.depth 0)+1 <= 3
   omega
theorem Kt.bed (b:Bd):Kt (.str b.key):=⟨by cases b<;>decide +kernel,by show 0 <= 4;decide⟩
theorem BE:∀ {ds:List PyData},(∀ d∈ds,Kt d)->MX.kds ds=true/\PyData.depthAll ds <= 4
|[],_=>⟨rfl,Nat.zero_le _⟩
|d :: ds,h=>by
  obtain⟨a,b⟩:=BE (ds:=ds) λu hu=>h u (List.mem_cons_of_mem _ hu)
  have hd:=h d List.mem_cons_self
  refine⟨?_,?_⟩
  . show (MX.kd d && MX.kds ds)=true
    rw[hd.1,a];rfl
  . show max d.depth (PyData.depthAll ds) <= 4
    have:=hd.2
    omega
def Kt5 (d:PyData):Prop:=MX.kd d=true/\d.depth <= 5
theorem Kt5.tup {ds:List PyData}(h:∀ d∈ds,Kt d):Kt5 (.tuple ds):=by
 obtain⟨a,b⟩:=BE h
 exact⟨a,by show PyData.depthAll ds+1 <= 5;omega⟩
theorem Kt5.lay {d:PyData}(h:Kt5 d):tt d/\d.depth <= 10:=⟨⟨MX.kd_lay _ h.1,by have:=h.2;omega⟩,by have:=h.2;omega⟩
theorem qj (S:YS) (us ks:List Int):Kt5 (pE S us ks):=.tup λd hd=>by
 simp only[List.mem_cons,List.not_mem_nil,or_false]at hd
 rcases hd with rfl|rfl|rfl|rfl|rfl|rfl|rfl
 . exact Kt.cells S.m
 . exact Kt.row _
 . exact Kt.row _
 . exact Kt.ints _
 . exact Kt.ints _
 . exact Kt.bed _
 . exact Kt.bed _
def wx (ad:Ad):Sp:=λvs H _ E=>∃ u v:V,vs=[u,v]/\ND H v/\∀ H',bU H H'->E (.ref ad.bD) none H'
def AC (w:World) (ad:Ad):Sp:=λvs H _ E=>∃ (a:YA) (q:YP) (S:YS) (v:V),vs=[.ref a.y,v]/\Yn w ad.bg ad.d4 ad.b7 ad.bX ad.aH H a q S/\ND H v/\∀ H',bU H H'->E (.ref ad.bD) none H'
def Bad (q:YP) (S:YS) (H:Hp) (v:V):Prop:=ND H v\/∃ (x:Dd) (t:Addr),v=.ref t/\H t=some (.tup x.vs)/\x.Ok/\x.chk q S=some .deed
theorem Bad.same {q:YP}{S:YS}{H H':Hp}(e:bU H H') {v:V}:Bad q S H v->Bad q S H' v
|.inl h=>.inl (h.same e)
|.inr ⟨x,t,e1,e2,e3,e4⟩=>.inr ⟨x,t,e1,e _ _ e2,e3,e4⟩
def uh (w:World) (ad:Ad):Sp:=λvs H Q _=>∃ (a:YA) (q:YP) (S:YS) (L:Nat) (v:V),vs=[.ref a.y,v]/\Rdy w ad H a q S L/\Bad q S H v/\∀ H',bU H H'->Q (.bl true) H'
section
variable {P:Program}{w:World}{K:PySem.W.Frag}{mg:Str->Option Value}{base:Heap}{a:Ad}{d:Fd}
theorem vG (G:Gs K mg a d):FnOk P w K mg base (CXv P w) 8 a.cO d.cO ["self","some"] (wx a):=by
 have c_is_deed:FnOk P w K mg base CX0 3 _ _ _ _:=xL G
 have c_side_of:FnOk P w K mg base CX0 1 _ _ _ _:=xH G
 have c_Store_waits:FnOk P w K mg base CX0 1 _ _ _ _:=(mz G).imp λvs H Q E=>vc
 have cx_Hand_check_ask:FnOk P w K mg base (CXv P w) 6 _ _ _ _:=(qz G).imp λvs H Q E=>yV
 have cx_Heart_check_answer:FnOk P w K mg base (CXv P w) 6 _ _ _ _:=(o3 G).imp λvs H Q E=>zi
 refine G.lQ.okX (k:=7) kI (λvs H Q E h=>?_) (λcdv A' outer s' H vs Q E hr hR h=>?_)
 . obtain⟨u,v,rfl,_⟩:=h
   rfl
 . obtain⟨u,v,rfl,nd,k⟩:=h
   have hu:=eC hr
   refine⟨_,(@ac _ _ _ _ _ (aM (eE (cm (aP c_is_deed (hr.mono (by decide)) (by rfl) G.sB G.l8.kp G.sI .nil ax (@a6 _ _ _ _ _ (pv 1) a9 (by rfl))))) (@af _ _ _ (eV hR hr.hd (by rfl) G.fG G.xc_NoDeed (@a6 _ _ _ _ _ ai a9 (by rfl)))) ao)
    (@ac _ _ _ _ _ (aM (aq bN (@aK _ _ _ _ _ _ _ aC (pv 1) ae (λ_ _=>rfl)) ai (az _)) (@ac _ _ _ _ _ (aM (eE (mE (au (am (pv 0) rfl) G.aF G.de c_Store_waits (hr.mono (by decide)) G.dM .nil ax (@a6 _ _ _ _ _ (@aK _ _ _ _ _ _ _ aC (pv 1) ae (λ_ _=>rfl)) a9 (by rfl))) (λ_=>rfl))) (@af _ _ _ (eV hR hr.hd (by rfl) G.fG G.xc_NoDeed (@a6 _ _ _ _ _ ai a9 (by rfl)))) ao)
    (@af _ _ _ ub)) ao)
    (@ac _ _ _ _ _ (aM (aq mO (@aK _ _ _ _ _ _ _ bz (am (pv 0) rfl) (aP c_side_of (hr.mono (by decide)) (by rfl) G.re G.nU.kp G.rY .nil ax (@a6 _ _ _ _ _ (pv 1) a9 (by rfl))) (λ_ _=>rfl)) (kF (aq bN (@aK _ _ _ _ _ _ _ aC (pv 1) ae (λ_ _=>rfl)) ai (az _)) ai ai) (az _)) (@af _ _ _ (eV hR hr.hd (by rfl) G.fG G.xc_NoDeed (@a6 _ _ _ _ _ ai a9 (by rfl)))) ao)
    (@ac _ _ _ _ _ (aM (aq bN (@aK _ _ _ _ _ _ _ aC (pv 1) ae (λ_ _=>rfl)) ai (az _)) (@af _ _ _ (@aI _ _ _ _ (aX (am (pv 0) rfl) G.br G.eM cx_Hand_check_ask (hr.mono (by decide)) G.fm .nil hR.passes) (by rfl))) ao)
    (@af _ _ _ (aM (aq bN (@aK _ _ _ _ _ _ _ aC (pv 1) ae (λ_ _=>rfl)) ai (az _)) (@af _ _ _ (@aI _ _ _ _ (au (am (pv 0) rfl) G.bu G.cA cx_Heart_check_answer (hr.mono (by decide)) G.cY .nil hR.passes (@a6 _ _ _ _ _ (@aK _ _ _ _ _ _ _ aC (pv 1) ae (λ_ _=>rfl)) a9 (by rfl))) (by rfl))) ao)))))),?_⟩
   exact⟨_,rfl,v,rfl,nd,λH1 e1=>⟨_,rfl,iT ⟨by show 1 <= sizeLine;decide,k H1 e1⟩⟩⟩
theorem B4 (G:Gs K mg a d):FnOk P w K mg base (CXv P w) 10 a.eA d.eA ["self","some"] (AC w a):=by
 have cx_Yard_check:FnOk P w K mg base (CXv P w) 8 _ _ _ _:=vG G
 have c_Yard_do_ask:FnOk P w K mg base CX0 9 _ _ _ _:=uQ G
 have c_Yard_do_answer:FnOk P w K mg base CX0 9 _ _ _ _:=vx G
 have c_Yard_do_bell:FnOk P w K mg base CX0 8 _ _ _ _:=rc G
 have c_Yard_do_lie:FnOk P w K mg base CX0 8 _ _ _ _:=vq G
 have c_Yard_do_look:FnOk P w K mg base CX0 8 _ _ _ _:=sK G
 have c_Yard_tell_fetched:FnOk P w K mg base CX0 1 _ _ _ _:=yx G
 have c_Hand_collect:FnOk P w K mg base CX0 7 _ _ _ _:=(pA G).imp λvs H Q E=>uX
 have c_Heart_take:FnOk P w K mg base CX0 7 _ _ _ _:=(uT G).imp λvs H Q E=>Du
 have c_Store_drain:FnOk P w K mg base CX0 1 _ _ _ _:=(qX G).imp λvs H Q E=>Be
 refine G.o4.okX (k:=9) gn (λvs H Q E h=>?_) (λcdv A' outer s' H vs Q E hr hR h=>?_)
 . obtain⟨y,q,S,v,rfl,_⟩:=h
   rfl
 . obtain⟨y,q,S,v,rfl,Y,nd,k⟩:=h
   have hu:=eC hr
   refine⟨_,(@ac _ _ _ _ _ (@aI _ _ _ _ (au (pv 0) G.al G.kA cx_Yard_check (hr.mono (by decide)) G.lT .nil hR.passes (@a6 _ _ _ _ _ (pv 1) a9 (by rfl))) (by rfl))
    (@ac _ _ _ _ _ (@aB _ _ 2 _ _ _ _ gn.nd rfl (Or.inl rfl) (@aK _ _ _ _ _ _ _ aC (pv 1) ae (λ_ _=>rfl)) (by rfl) (by first|exact .inl rfl|exact .inr rfl|assumption))
    (@ac _ _ _ _ _ (aM (aq bN (pv 2) ai (az _)) (@af _ _ _ (@ar _ _ _ _ (au (pv 0) G.al G.jF c_Yard_do_ask (hr.mono (by decide)) G.kG .nil ax (@a6 _ _ _ _ _ (@aK _ _ _ _ _ _ _ aC (pv 1) ae (λ_ _=>rfl)) a9 (by rfl))))) ao)
    (@ac _ _ _ _ _ (aM (aq bN (pv 2) ai (az _)) (@af _ _ _ (@ar _ _ _ _ (au (pv 0) G.al G.bV c_Yard_tell_fetched (hr.mono (by decide)) G.c8 .nil ax (@a6 _ _ _ _ _ ai (@a6 _ _ _ _ _ (aX (am (pv 0) rfl) G.br G.j3 c_Hand_collect (hr.mono (by decide)) G.jy .nil ax) a9 (by rfl)) (by rfl))))) ao)
    (@ac _ _ _ _ _ (aM (aq bN (pv 2) ai (az _)) (@af _ _ _ (@ar _ _ _ _ (au (pv 0) G.al G.bV c_Yard_tell_fetched (hr.mono (by decide)) G.c8 .nil ax (@a6 _ _ _ _ _ ai (@a6 _ _ _ _ _ (aX (am (pv 0) rfl) G.bu G.kz c_Heart_take (hr.mono (by decide)) G.lW .nil ax) a9 (by rfl)) (by rfl))))) ao)
    (@ac _ _ _ _ _ (aM (aq bN (pv 2) ai (az _)) (@af _ _ _ (@ar _ _ _ _ (au (pv 0) G.al G.gN c_Yard_do_answer (hr.mono (by decide)) G.iO .nil ax (@a6 _ _ _ _ _ (@aK _ _ _ _ _ _ _ aC (pv 1) ae (λ_ _=>rfl)) (@a6 _ _ _ _ _ (@aK _ _ _ _ _ _ _ aC (pv 1) ae (λ_ _=>rfl)) a9 (by rfl)) (by rfl))))) ao)
    (@ac _ _ _ _ _ (aM (aq bN (pv 2) ai (az _)) (@af _ _ _ (@ar _ _ _ _ (au (pv 0) G.al G.j9 c_Yard_do_bell (hr.mono (by decide)) G.jH .nil ax (@a6 _ _ _ _ _ (@aK _ _ _ _ _ _ _ aC (pv 1) ae (λ_ _=>rfl)) a9 (by rfl))))) ao)
    (@ac _ _ _ _ _ (aM (aq bN (pv 2) ai (az _)) (@af _ _ _ (@ar _ _ _ _ (au (pv 0) G.al G.jA c_Yard_do_lie (hr.mono (by decide)) G.kH .nil ax (@a6 _ _ _ _ _ (@aK _ _ _ _ _ _ _ aC (pv 1) ae (λ_ _=>rfl)) a9 (by rfl))))) ao)
    (@ac _ _ _ _ _ (aM (aq bN (pv 2) ai (az _)) (@af _ _ _ (@ar _ _ _ _ (au (pv 0) G.al G.j4 c_Yard_do_look (hr.mono (by decide)) G.jC .nil ax (@a6 _ _ _ _ _ (@aK _ _ _ _ _ _ _ aC (pv 1) ae (λ_ _=>rfl)) a9 (by rfl))))) ao)
    (@af _ _ _ (@ar _ _ _ _ (au (am (pv 0) rfl) G.aF G.gy c_Store_drain (hr.mono (by decide)) G.gR .nil ax (@a6 _ _ _ _ _ (@aK _ _ _ _ _ _ _ aC (pv 1) ae (λ_ _=>rfl)) a9 (by rfl)))))))))))))),?_⟩
   exact⟨_,rfl,f8 Y.ob (dL (by decide +kernel)) ⟨_,rfl,_,v,rfl,nd,λH1 e1=>k H1 e1⟩⟩
theorem o5 (G:Gs K mg a d):FnOk P w K mg base CX0 12 a.dm d.dm ["yard","thing"] (uh w a):=by
 have cx_Yard_deed:FnOk P w K mg base (CXv P w) 10 _ _ _ _:=(B4 G).or (mV G)
 refine G.en.ok eX (λvs H Q E h=>?_) (λcdv A' outer s' H vs Q E hr h=>?_)
 . obtain⟨y,q,S,L,v,rfl,_⟩:=h
   rfl
 . obtain⟨y,q,S,L,v,rfl,Rd,bad,k⟩:=h
   have hu:=eC hr
   refine⟨_,(@ac _ _ _ _ _ (@aB _ _ 2 _ _ _ _ eX.nd rfl (Or.inl rfl) cC (by rfl) (by first|exact .inl rfl|exact .inr rfl|assumption))
    (@ac _ _ _ _ _ (zh ⟨rfl,rfl,rfl⟩ (λpins R=>by exact(@af _ _ _ (@aI _ _ _ _ (qT rfl (pv 0) G.al G.bI cx_Yard_deed (hr.mono (by decide)) G.c7 .nil (@a6 _ _ _ _ _ (pv 1) a9 (by rfl))) (by rfl)))) (Fn (i:=3) ⟨rfl,rfl,rfl⟩ eX.nd rfl rfl (Or.inl rfl) (by rfl) G.tK (λe=>by exact(@af _ _ _ (@aB _ _ 2 _ _ _ _ eX.nd rfl (Or.inl rfl) (pv 3) (by rfl) (by first|exact .inl rfl|exact .inr rfl|assumption)))) yR))
    (@ac _ _ _ _ _ (aM (cm (aZ qG (by rfl) G.bn ba (@a6 _ _ _ _ _ (pv 2) (@a6 _ _ _ _ _ (@av _ _ _ _ _ (@a6 _ _ _ _ _ (eI (v:=.ref a.r9) (by rfl) G.sQ rfl) (@a6 _ _ _ _ _ (eI (v:=.ref a.fA) (by rfl) G.mB rfl) (@a6 _ _ _ _ _ (eI (v:=.ref a.fC) (by rfl) G.mJ rfl) (@a6 _ _ _ _ _ (eI (v:=.ref a.zZ) (by rfl) G.BV rfl) a9 (by rfl)) (by rfl)) (by rfl)) (by rfl))) a9 (by rfl)) (by rfl)))) (@af _ _ _ (@ar _ _ _ _ cn)) ao)
    (@af _ _ _ (@ar _ _ _ _ (Bw (aZ lV (by rfl) G.bn ba (@a6 _ _ _ _ _ (pv 2) (@a6 _ _ _ _ _ (eI (v:=.ref a.bD) (by rfl) G.fG rfl) a9 (by rfl)) (by rfl))) (Bu (aZ lV (by rfl) G.bn ba (@a6 _ _ _ _ _ (pv 2) (@a6 _ _ _ _ _ (hV (v:=.ty "ValueError") (by rfl) G.rH pV rfl) a9 (by rfl)) (by rfl)))))))))),?_⟩
   have Y:=Rd.y
   refine⟨λσ' cls H'=>σ'=[some (.ref y.y),some v,some .non,none]/\cls=.ref a.bD/\bU H H',?_,?_⟩
   . refine⟨_,rfl,f8 Y.ob (dL (by decide +kernel)) ⟨_,rfl,?_⟩⟩
     rcases bad with nd|⟨x,t,rfl,e2,e3,e4⟩
     . exact .inl ⟨y,q,S,v,rfl,Y,nd,λH1 e1=>⟨rfl,rfl,e1⟩⟩
     . refine .inr ⟨y,q,S,L,x,t,rfl,Rd,e2,e3,?_⟩
       rw[e4]
       exact λH1 e1=>⟨rfl,rfl,e1⟩
   . rintro σ' cls H' ⟨rfl,rfl,e0⟩
     refine⟨true,G.Gh,a.bD,rfl,λex hex=>⟨_,rfl,?_⟩⟩
     have e1:=ah (o:=xV ex a.bD) hex
     have x1:upd H' ex (xV ex a.bD) ex=some (xV ex a.bD):=a8
     generalize upd H' ex (xV ex a.bD)=H1 at e1 x1 |-
     refine⟨_,rfl,by show 4 <= sizeLine;decide,λtp htp=>?_⟩
     have e2:=ah (o:=.tup [.ref a.r9,.ref a.fA,.ref a.fC,.ref a.zZ]) htp
     refine⟨ex,tp,_,a.bD,false,rfl,a8,rfl,e2 _ _ x1,G.n5,G.G9,_,rfl,fw ?_⟩
     refine⟨_,rfl,ex,_,a.bD,true,rfl,e2 _ _ x1,G.n5,rfl,G.Gu,?_⟩
     exact⟨true,rfl,iT ⟨_,rfl,ex,_,a.bD,true,rfl,e2 _ _ x1,G.n5,rfl,G.FZ,k _ (e0.trans (e1.trans e2))⟩⟩
end
def NDE (σ:St) (t:TE):Prop:=∀ H Q,(∀ v H',bU H H'->ND H' v->Q v H')->t σ H Q
def NDL (σ:St) (n:Nat) (t:TA):Prop:=∀ H Q,(∀ vs H',bU H H'->vs.length=n->(∀ v∈vs,ND H' v)->Q vs H')->t σ H Q
def FlE (σ:St) (ts:TA) (vs:List V):Prop:=∀ H Q,Q vs H->ts σ H Q
section
variable {σ:St}{t:TE}{ts:TA}{n:Nat}{vs:List V}
theorem ji:NDL σ 0 zu:=λH Q k=>k [] H (λ_ _ e=>e) rfl (λ_ h=>by cases h)
theorem ap (h:NDE σ t) (r:NDL σ n ts):NDL σ (n+1) (o6 t ts):=λH Q k=>h H _ λv H1 e1 n1=>r H1 _ λvs H2 e2 l2 n2=>k (v :: vs) H2 (e1.trans e2) (by rw[List.length_cons,l2]) λu hu=>by
 rcases List.mem_cons.mp hu with rfl|hu
 . exact n1.same e2
 . exact n2 u hu
theorem aD (h:FlE σ ts vs) (l:vs.length <= 10) (n:∀ H t,H t=some (.tup vs)->ND H (.ref t)):NDE σ (DM ts):=λH Q k=>h H _ ⟨Nat.le_trans l (by decide),λp hp=>k _ _ (ah hp) (n _ _ a8)⟩
theorem lg (h:FlE σ ts vs) (l:vs.length <= 10):NDE σ (tG ts):=λH Q k=>h H _ ⟨Nat.le_trans l (by decide),λp hp=>k _ _ (ah hp) (.oth (.lst a8) (λt l e=>by cases e;rw[a8];intro z;cases z))⟩
theorem wl {p:Pt}:NDE σ (tC p.v):=λH Q k=>k _ _ (λ_ _ e=>e) (.oth p.tv (by cases p<;>(intro _ _ e;cases e)))
theorem DE {s:Str}:NDE σ (DM (o6 (DM (o6 (tC (.str s)) zu)) zu)):=λH Q k=>by
 refine⟨by show 1 <= sizeLine;decide,λp hp=>⟨by show 1 <= sizeLine;decide,λp2 hp2=>?_⟩⟩
 exact k _ _ ((ah hp).trans (ah hp2)) (.nos a8 (.tup (ah hp2 _ _ a8)) (λs e=>by cases e))
theorem zO:NDE σ Bt:=λH Q k=>λp hp=>k _ _ (ah hp) (.oth (.dK a8) (λt l e=>by cases e;rw[a8];intro z;cases z))
theorem uf:fB "ask"=some [("worth":Str)]:=rfl
theorem yT:fB "collect"=some []:=rfl
theorem Ec:fB "take"=some []:=rfl
theorem fI:fB "answer"=some [("name":Str),("worth":Str)]:=rfl
theorem ni:fB "bell"=some [("side":Str)]:=rfl
theorem A2:fB "lie"=some [("side":Str)]:=rfl
theorem yP:fB "look"=some [("side":Str)]:=rfl
theorem lE:fB "drain"=some [("side":Str)]:=rfl
theorem vi {i:Int}(h:i < -1000000000\/1000000000 < i):lb (some i) "worth"=false:=by
 show dU i "worth"=false
 unfold dU
 rw[if_pos rfl,Bool.and_eq_false_iff,decide_eq_false_iff_not,decide_eq_false_iff_not]
 omega
theorem Ey {i:Int}(h:1 < i):lb (some i) "side"=false:=by
 show dU i "side"=false
 unfold dU
 rw[if_neg (by decide +kernel),if_pos rfl,Bool.or_eq_false_iff,decide_eq_false_iff_not,decide_eq_false_iff_not]
 omega
variable {far:Int}(fo:1000000000 < far)
include fo
theorem Fm:(fu [.int far] ["worth"]).all id=false:=by
 show (lb (some far) "worth" && true)=false
 rw[vi (.inr fo)];rfl
theorem EU:(fu [.int (-far)] ["worth"]).all id=false:=by
 show (lb (some (-far)) "worth" && true)=false
 rw[vi (.inl (by omega))];rfl
theorem Fl:(fu [.int 0,.int far] ["name","worth"]).all id=false:=by
 show (lb (some 0) "name" && (lb (some far) "worth" && true))=false
 rw[vi (.inr fo),Bool.false_and,Bool.and_false]
theorem FC:(fu [.int 0,.int (-far)] ["name","worth"]).all id=false:=by
 show (lb (some 0) "name" && (lb (some (-far)) "worth" && true))=false
 rw[vi (.inl (by omega)),Bool.false_and,Bool.and_false]
theorem Fp:(fu [.int far] ["side"]).all id=false:=by
 show (lb (some far) "side" && true)=false
 rw[Ey (by omega)];rfl
omit fo
structure NDs (H:Hp) (p:Addr) (l:List V) (m:Nat):Prop where
 at_:H p=some (.lst l)
 ne:l≠[]
 len:l.length <= m
 nd:∀ v∈l,ND H v
theorem NDs.same {H H':Hp}{p:Addr}{l:List V}{m:Nat}(h:NDs H p l m) (e:bU H H'):NDs H' p l m:=⟨e _ _ h.at_,h.ne,h.len,λv hv=>(h.nd v hv).same e⟩
theorem yb {H:Hp}{Q:VK}(h:NDL σ (n+1) ts) (hn:n+1 <= 100) (k:∀ p l H',bU H H'->NDs H' p l (n+1)->Q (.ref p) H'):tG ts σ H Q:=h H _ λvs H1 e1 l1 n1=>⟨by rw[l1];exact Nat.le_trans hn (by decide),λp hp=>k p vs _ (e1.trans (ah hp)) ⟨a8,(λz=>by rw[z]at l1;cases l1),Nat.le_of_eq l1,λv hv=>(n1 v hv).same (ah hp)⟩⟩
theorem yk {H:Hp}{Q:VK}{p:Addr}{l:List V}{m:Nat}(g:NDs H p l m) (h2:σ[2]?=some (some (.ref p))) (h:NDL σ (n+1) ts) (hn:n+1 <= 100) (hm:m+n < 1000) (k:∀ p' l' H',bU H H'->NDs H' p' l' (m+(n+1))->Q (.ref p') H'):tOp xi (ou 2) (tG ts) σ H Q:=by
 refine⟨_,h2,yb h hn λb zs H1 e1 g1=>?_⟩
 have g0:=g.same e1
 refine⟨p,b,l,zs,rfl,rfl,g0.at_,g1.at_,Nat.le_trans (show _ <= 2000 by have:=g0.len;have:=g1.len;omega) (by decide),λp' hp'=>?_⟩
 have e2:=ah (o:=.lst (l++zs)) hp'
 refine k p' _ _ (e1.trans e2) ⟨a8,(λz=>g0.ne (List.append_eq_nil_iff.mp z).1),?_,λv hv=>?_⟩
 . rw[List.length_append]
   have:=g0.len
   have:=g1.len
   omega
 . rcases List.mem_append.mp hv with y|y
   . exact(g0.nd v y).same e2
   . exact(g1.nd v y).same e2
theorem x3 {e:TE}{u:TS}{D:_}{H:Hp}{i:Nat}{v:V}(h:∀ Q:VK,Q v H->e σ H Q) (k:u D (σ.set i (some v)) H):x4 (wY e (gS i)) u D σ H:=h (λx H1=>u D (σ.set i (some x)) H1) k
theorem BM {u:TS}{D:_}{H:Hp}(h:NDL σ (n+1) ts) (hn:n+1 <= 100) (k:∀ p l H',bU H H'->NDs H' p l (n+1)->u D (σ.set 2 (some (.ref p))) H'):x4 (wY (tG ts) (gS 2)) u D σ H:=yb (H:=H) (Q:=λx H1=>u D (σ.set 2 (some x)) H1) h hn k
theorem lD {u:TS}{D:_}{H:Hp}{p:Addr}{l:List V}{m:Nat}(g:NDs H p l m) (h2:σ[2]?=some (some (.ref p))) (h:NDL σ (n+1) ts) (hn:n+1 <= 100) (hm:m+n < 1000) (k:∀ p' l' H',bU H H'->NDs H' p' l' (m+(n+1))->u D (σ.set 2 (some (.ref p'))) H'):x4 (wY (tOp xi (ou 2) (tG ts)) (gS 2)) u D σ H:=yk (Q:=λx H1=>u D (σ.set 2 (some x)) H1) g h2 h hn hm k
theorem D7 {D:_}{H:Hp}{p:Addr}{l:List V}{m:Nat}(g:NDs H p l m) (h2:σ[2]?=some (some (.ref p))) (h:NDL σ (n+1) ts) (hn:n+1 <= 100) (hm:m+n < 1000) (k:∀ p' l' H',bU H H'->NDs H' p' l' (m+(n+1))->D.rt (.ref p') H'):F6 (tOp xi (ou 2) (tG ts)) D σ H:=yk (Q:=D.rt) g h2 h hn hm k
end
def zb:Sp:=λvs H Q _=>∃ c:Int,vs=[.int c]/\∀ (p:Addr) (l:List V) (H':Hp),bU H H'->NDs H' p l 60->Q (.ref p) H'
section
variable {P:Program}{w:World}{K:PySem.W.Frag}{mg:Str->Option Value}{base:Heap}{a:Ad}{d:Fd}
theorem zm (G:Gs K mg a d):FnOk P w K mg base CX0 1 a.fQ d.fQ ["cell"] zb:=by
 refine G.mX.ok bE (λvs H Q E h=>?_) (λcdv A' outer s' H vs Q E hr h=>?_)
 . obtain⟨c,rfl,_⟩:=h
   rfl
 . obtain⟨c,rfl,k⟩:=h
   have hu:=eC hr
   refine⟨_,(@ac _ _ _ _ _ (@aB _ _ 1 _ _ _ _ bE.nd rfl (Or.inl rfl) (@aA _ _ _ _ _ _ _ _ gp (@aA _ _ _ _ _ _ _ _ gp (@aA _ _ _ _ _ _ _ _ f9 ae ae) ae) (@aA _ _ _ _ _ _ _ _ bh (pv 0) (@aA _ _ _ _ _ _ _ _ f9 ae ae))) (by rfl) (by first|exact .inl rfl|exact .inr rfl|assumption))
    (@ac _ _ _ _ _ (@aB _ _ 2 _ _ _ _ bE.nd rfl (Or.inl rfl) (@bc _ _ _ _ (@a6 _ _ _ _ _ (@bc _ _ _ _ (@a6 _ _ _ _ _ ai (@a6 _ _ _ _ _ ae a9 (by rfl)) (by rfl))) (@a6 _ _ _ _ _ (@av _ _ _ _ _ (@a6 _ _ _ _ _ ai a9 (by rfl))) (@a6 _ _ _ _ _ (@av _ _ _ _ _ (@a6 _ _ _ _ _ ai (@a6 _ _ _ _ _ ae (@a6 _ _ _ _ _ ae a9 (by rfl)) (by rfl)) (by rfl))) (@a6 _ _ _ _ _ (@av _ _ _ _ _ (@a6 _ _ _ _ _ ai (@a6 _ _ _ _ _ cn a9 (by rfl)) (by rfl))) (@a6 _ _ _ _ _ (@av _ _ _ _ _ (@a6 _ _ _ _ _ ai (@a6 _ _ _ _ _ cC a9 (by rfl)) (by rfl))) (@a6 _ _ _ _ _ (@av _ _ _ _ _ (@a6 _ _ _ _ _ ai (@a6 _ _ _ _ _ ai a9 (by rfl)) (by rfl))) (@a6 _ _ _ _ _ (@av _ _ _ _ _ (@a6 _ _ _ _ _ ai (@a6 _ _ _ _ _ (pv 1) a9 (by rfl)) (by rfl))) (@a6 _ _ _ _ _ (@av _ _ _ _ _ (@a6 _ _ _ _ _ ai (@a6 _ _ _ _ _ (oM jB (pv 1)) a9 (by rfl)) (by rfl))) a9 (by rfl)) (by rfl)) (by rfl)) (by rfl)) (by rfl)) (by rfl)) (by rfl)) (by rfl))) (by rfl) (by first|exact .inl rfl|exact .inr rfl|assumption))
    (@ac _ _ _ _ _ (@aB _ _ 2 _ _ _ _ bE.nd rfl (Or.inl rfl) (@aA _ _ _ _ _ _ _ _ jx (pv 2) (@bc _ _ _ _ (@a6 _ _ _ _ _ (@av _ _ _ _ _ (@a6 _ _ _ _ _ ai (@a6 _ _ _ _ _ ae a9 (by rfl)) (by rfl))) (@a6 _ _ _ _ _ (@av _ _ _ _ _ (@a6 _ _ _ _ _ ai (@a6 _ _ _ _ _ ae a9 (by rfl)) (by rfl))) (@a6 _ _ _ _ _ (@av _ _ _ _ _ (@a6 _ _ _ _ _ ai (@a6 _ _ _ _ _ ae a9 (by rfl)) (by rfl))) (@a6 _ _ _ _ _ (@av _ _ _ _ _ (@a6 _ _ _ _ _ ai (@a6 _ _ _ _ _ ae a9 (by rfl)) (by rfl))) (@a6 _ _ _ _ _ (@bc _ _ _ _ (@a6 _ _ _ _ _ ai a9 (by rfl))) (@a6 _ _ _ _ _ (@bc _ _ _ _ (@a6 _ _ _ _ _ ai a9 (by rfl))) (@a6 _ _ _ _ _ ai (@a6 _ _ _ _ _ ai (@a6 _ _ _ _ _ (@av _ _ _ _ _ (@a6 _ _ _ _ _ ai a9 (by rfl))) a9 (by rfl)) (by rfl)) (by rfl)) (by rfl)) (by rfl)) (by rfl)) (by rfl)) (by rfl)) (by rfl)))) (by rfl) (by first|exact .inl rfl|exact .inr rfl|assumption))
    (@ac _ _ _ _ _ (@aB _ _ 2 _ _ _ _ bE.nd rfl (Or.inl rfl) (@aA _ _ _ _ _ _ _ _ jx (pv 2) (@bc _ _ _ _ (@a6 _ _ _ _ _ (@av _ _ _ _ _ (@a6 _ _ _ _ _ ai (@a6 _ _ _ _ _ ae a9 (by rfl)) (by rfl))) (@a6 _ _ _ _ _ (@av _ _ _ _ _ (@a6 _ _ _ _ _ ai (@a6 _ _ _ _ _ ae (@a6 _ _ _ _ _ ae (@a6 _ _ _ _ _ ae a9 (by rfl)) (by rfl)) (by rfl)) (by rfl))) (@a6 _ _ _ _ _ (@av _ _ _ _ _ (@a6 _ _ _ _ _ ai (@a6 _ _ _ _ _ cn (@a6 _ _ _ _ _ ae a9 (by rfl)) (by rfl)) (by rfl))) (@a6 _ _ _ _ _ (@av _ _ _ _ _ (@a6 _ _ _ _ _ ai (@a6 _ _ _ _ _ ae (@a6 _ _ _ _ _ cn a9 (by rfl)) (by rfl)) (by rfl))) (@a6 _ _ _ _ _ (@av _ _ _ _ _ (@a6 _ _ _ _ _ ai (@a6 _ _ _ _ _ cC (@a6 _ _ _ _ _ ae a9 (by rfl)) (by rfl)) (by rfl))) a9 (by rfl)) (by rfl)) (by rfl)) (by rfl)) (by rfl)))) (by rfl) (by first|exact .inl rfl|exact .inr rfl|assumption))
    (@ac _ _ _ _ _ (@aB _ _ 2 _ _ _ _ bE.nd rfl (Or.inl rfl) (@aA _ _ _ _ _ _ _ _ jx (pv 2) (@bc _ _ _ _ (@a6 _ _ _ _ _ (@av _ _ _ _ _ (@a6 _ _ _ _ _ ai (@a6 _ _ _ _ _ ae (@a6 _ _ _ _ _ (pv 1) a9 (by rfl)) (by rfl)) (by rfl))) (@a6 _ _ _ _ _ (@av _ _ _ _ _ (@a6 _ _ _ _ _ ai (@a6 _ _ _ _ _ ae (@a6 _ _ _ _ _ (oM jB (pv 1)) a9 (by rfl)) (by rfl)) (by rfl))) (@a6 _ _ _ _ _ (@av _ _ _ _ _ (@a6 _ _ _ _ _ ai (@a6 _ _ _ _ _ ae (@a6 _ _ _ _ _ cC a9 (by rfl)) (by rfl)) (by rfl))) (@a6 _ _ _ _ _ (@bc _ _ _ _ (@a6 _ _ _ _ _ ai (@a6 _ _ _ _ _ ae (@a6 _ _ _ _ _ ae a9 (by rfl)) (by rfl)) (by rfl))) (@a6 _ _ _ _ _ (@av _ _ _ _ _ (@a6 _ _ _ _ _ ai (@a6 _ _ _ _ _ ai (@a6 _ _ _ _ _ ae a9 (by rfl)) (by rfl)) (by rfl))) a9 (by rfl)) (by rfl)) (by rfl)) (by rfl)) (by rfl)))) (by rfl) (by first|exact .inl rfl|exact .inr rfl|assumption))
    (@ac _ _ _ _ _ (@aB _ _ 2 _ _ _ _ bE.nd rfl (Or.inl rfl) (@aA _ _ _ _ _ _ _ _ jx (pv 2) (@bc _ _ _ _ (@a6 _ _ _ _ _ (@av _ _ _ _ _ (@a6 _ _ _ _ _ ai a9 (by rfl))) (@a6 _ _ _ _ _ (@av _ _ _ _ _ (@a6 _ _ _ _ _ ai (@a6 _ _ _ _ _ ae a9 (by rfl)) (by rfl))) (@a6 _ _ _ _ _ (@av _ _ _ _ _ (@a6 _ _ _ _ _ ai (@a6 _ _ _ _ _ (oM jB ae) a9 (by rfl)) (by rfl))) (@a6 _ _ _ _ _ (@av _ _ _ _ _ (@a6 _ _ _ _ _ ai (@a6 _ _ _ _ _ cn a9 (by rfl)) (by rfl))) (@a6 _ _ _ _ _ (@av _ _ _ _ _ (@a6 _ _ _ _ _ ai (@a6 _ _ _ _ _ cn a9 (by rfl)) (by rfl))) (@a6 _ _ _ _ _ (@av _ _ _ _ _ (@a6 _ _ _ _ _ ai (@a6 _ _ _ _ _ ai a9 (by rfl)) (by rfl))) (@a6 _ _ _ _ _ (@av _ _ _ _ _ (@a6 _ _ _ _ _ ai (@a6 _ _ _ _ _ ae (@a6 _ _ _ _ _ ae a9 (by rfl)) (by rfl)) (by rfl))) a9 (by rfl)) (by rfl)) (by rfl)) (by rfl)) (by rfl)) (by rfl)) (by rfl)))) (by rfl) (by first|exact .inl rfl|exact .inr rfl|assumption))
    (@ac _ _ _ _ _ (@aB _ _ 2 _ _ _ _ bE.nd rfl (Or.inl rfl) (@aA _ _ _ _ _ _ _ _ jx (pv 2) (@bc _ _ _ _ (@a6 _ _ _ _ _ (@av _ _ _ _ _ (@a6 _ _ _ _ _ ai (@a6 _ _ _ _ _ ae a9 (by rfl)) (by rfl))) (@a6 _ _ _ _ _ (@av _ _ _ _ _ (@a6 _ _ _ _ _ ai (@a6 _ _ _ _ _ (oM jB ae) a9 (by rfl)) (by rfl))) (@a6 _ _ _ _ _ (@av _ _ _ _ _ (@a6 _ _ _ _ _ ai (@a6 _ _ _ _ _ cn a9 (by rfl)) (by rfl))) (@a6 _ _ _ _ _ (@av _ _ _ _ _ (@a6 _ _ _ _ _ ai (@a6 _ _ _ _ _ cC a9 (by rfl)) (by rfl))) (@a6 _ _ _ _ _ (@av _ _ _ _ _ (@a6 _ _ _ _ _ ai (@a6 _ _ _ _ _ ae a9 (by rfl)) (by rfl))) (@a6 _ _ _ _ _ (@av _ _ _ _ _ (@a6 _ _ _ _ _ ai (@a6 _ _ _ _ _ (oM jB ae) a9 (by rfl)) (by rfl))) (@a6 _ _ _ _ _ (@av _ _ _ _ _ (@a6 _ _ _ _ _ ai (@a6 _ _ _ _ _ cn a9 (by rfl)) (by rfl))) a9 (by rfl)) (by rfl)) (by rfl)) (by rfl)) (by rfl)) (by rfl)) (by rfl)))) (by rfl) (by first|exact .inl rfl|exact .inr rfl|assumption))
    (@ac _ _ _ _ _ (@aB _ _ 2 _ _ _ _ bE.nd rfl (Or.inl rfl) (@aA _ _ _ _ _ _ _ _ jx (pv 2) (@bc _ _ _ _ (@a6 _ _ _ _ _ (@av _ _ _ _ _ (@a6 _ _ _ _ _ ai (@a6 _ _ _ _ _ ae a9 (by rfl)) (by rfl))) (@a6 _ _ _ _ _ (@av _ _ _ _ _ (@a6 _ _ _ _ _ ai (@a6 _ _ _ _ _ (oM jB ae) a9 (by rfl)) (by rfl))) (@a6 _ _ _ _ _ (@av _ _ _ _ _ (@a6 _ _ _ _ _ ai (@a6 _ _ _ _ _ cn a9 (by rfl)) (by rfl))) (@a6 _ _ _ _ _ (@av _ _ _ _ _ (@a6 _ _ _ _ _ ai (@a6 _ _ _ _ _ cn a9 (by rfl)) (by rfl))) (@a6 _ _ _ _ _ (@av _ _ _ _ _ (@a6 _ _ _ _ _ ai a9 (by rfl))) (@a6 _ _ _ _ _ (@bc _ _ _ _ (@a6 _ _ _ _ _ ai (@a6 _ _ _ _ _ ae a9 (by rfl)) (by rfl))) (@a6 _ _ _ _ _ (@av _ _ _ _ _ (@a6 _ _ _ _ _ ae (@a6 _ _ _ _ _ ai a9 (by rfl)) (by rfl))) a9 (by rfl)) (by rfl)) (by rfl)) (by rfl)) (by rfl)) (by rfl)) (by rfl)))) (by rfl) (by first|exact .inl rfl|exact .inr rfl|assumption))
    (@af _ _ _ (@ar _ _ _ _ (@aA _ _ _ _ _ _ _ _ jx (pv 2) (@bc _ _ _ _ (@a6 _ _ _ _ _ cC (@a6 _ _ _ _ _ ae (@a6 _ _ _ _ _ cn (@a6 _ _ _ _ _ ai (@a6 _ _ _ _ _ (@av _ _ _ _ _ a9) (@a6 _ _ _ _ _ (@bc _ _ _ _ a9) (@a6 _ _ _ _ _ qg (@a6 _ _ _ _ _ (@av _ _ _ _ _ (@a6 _ _ _ _ _ (@av _ _ _ _ _ (@a6 _ _ _ _ _ ai a9 (by rfl))) a9 (by rfl))) (@a6 _ _ _ _ _ (@av _ _ _ _ _ (@a6 _ _ _ _ _ cC a9 (by rfl))) (@a6 _ _ _ _ _ (@av _ _ _ _ _ (@a6 _ _ _ _ _ ai (@a6 _ _ _ _ _ ae a9 (by rfl)) (by rfl))) (@a6 _ _ _ _ _ (@av _ _ _ _ _ (@a6 _ _ _ _ _ ai (@a6 _ _ _ _ _ (pv 1) a9 (by rfl)) (by rfl))) (@a6 _ _ _ _ _ (@av _ _ _ _ _ (@a6 _ _ _ _ _ ai (@a6 _ _ _ _ _ ae a9 (by rfl)) (by rfl))) a9 (by rfl)) (by rfl)) (by rfl)) (by rfl)) (by rfl)) (by rfl)) (by rfl)) (by rfl)) (by rfl)) (by rfl)) (by rfl)) (by rfl)))))))))))))),?_⟩
   have e9:(10:Int) ^ (9:Int).toNat=1000000000:=by decide
   refine x3 (v:=.int (10 ^ (9:Int).toNat+1+c % 10 ^ (60:Int).toNat)) (λQ q=>⟨_,_,rfl,rfl,⟨by decide,by decide,by decide⟩,_,_,rfl,rfl,_,rfl,_,_,rfl,rfl,⟨by decide,by decide,by decide⟩,_,_,rfl,rfl,(show (0:Int) < 10 ^ (60:Int).toNat from by decide),_,_,rfl,rfl,q⟩) ?_
   have f0:=Int.emod_nonneg c (show (10 ^ (60:Int).toNat:Int)≠0 by decide)
   have fo:(1000000000:Int) < 10 ^ (9:Int).toNat+1+c % 10 ^ (60:Int).toNat:=by rw[e9];omega
   generalize (10 ^ (9:Int).toNat+1+c % 10 ^ (60:Int).toNat:Int)=far at fo |-
   show x4 (wY (tG _) (gS 2)) _ _ [some (.int c),some (.int far),none] _
   have h1:∀ {u:Option V},([some (V.int c),some (V.int far),u]:St)[1]?=some (some (.int far)):=rfl
   refine BM (n:=7) ?_ (by decide) λp0 l0 H0 s0 g0=>?_
   . exact ap (lg (vs:=[V.str "ask",V.int 1]) (λ_ _ q=>q) (show 2 <= 10 by decide))
      (ap (aD (vs:=[V.str "ask"]) (λ_ _ q=>q) (show 1 <= 10 by decide) (λH t h=>.len h uf (show ¬ 0=1 by decide)))
      (ap (aD (vs:=[V.str "ask",V.int 1,V.int 1]) (λ_ _ q=>q) (show 3 <= 10 by decide) (λH t h=>.len h uf (show ¬ 2=1 by decide)))
      (ap (aD (vs:=[V.str "ask",V.bl true]) (λ_ _ q=>q) (show 2 <= 10 by decide) (λH t h=>.prt (ps:=[.bl true]) h uf rfl (by decide +kernel)))
      (ap (aD (vs:=[V.str "ask",V.non]) (λ_ _ q=>q) (show 2 <= 10 by decide) (λH t h=>.prt (ps:=[.non]) h uf rfl (by decide +kernel)))
      (ap (aD (vs:=[V.str "ask",V.str "1"]) (λ_ _ q=>q) (show 2 <= 10 by decide) (λH t h=>.prt (ps:=[.str "1"]) h uf rfl (by decide +kernel)))
      (ap (aD (vs:=[V.str "ask",V.int far]) (λ_ _ q=>⟨_,h1,q⟩) (show 2 <= 10 by decide) (λH t h=>.prt (ps:=[.int far]) h uf rfl (Fm fo)))
      (ap (aD (vs:=[V.str "ask",V.int (-far)]) (λ_ _ q=>⟨_,h1,_,rfl,q⟩) (show 2 <= 10 by decide) (λH t h=>.prt (ps:=[.int (-far)]) h uf rfl (EU fo)))
      (ji))))))))
   show x4 (wY (tOp xi (ou 2) (tG _)) (gS 2)) _ _ [some (.int c),some (.int far),some (.ref p0)] _
   refine lD (n:=8) g0 rfl ?_ (by decide) (by decide) λp1 l1 H1 s1 g1=>?_
   . exact ap (aD (vs:=[V.str "Ask",V.int 1]) (λ_ _ q=>q) (show 2 <= 10 by decide) (λH t h=>.wrd h (by decide +kernel)))
      (ap (aD (vs:=[V.str "asked",V.int 1]) (λ_ _ q=>q) (show 2 <= 10 by decide) (λH t h=>.wrd h (by decide +kernel)))
      (ap (aD (vs:=[V.str "collect",V.int 0]) (λ_ _ q=>q) (show 2 <= 10 by decide) (λH t h=>.len h yT (show ¬ 1=0 by decide)))
      (ap (aD (vs:=[V.str "take",V.int 1]) (λ_ _ q=>q) (show 2 <= 10 by decide) (λH t h=>.len h Ec (show ¬ 1=0 by decide)))
      (ap (lg (vs:=[V.str "take"]) (λ_ _ q=>q) (show 1 <= 10 by decide))
      (ap (lg (vs:=[V.str "collect"]) (λ_ _ q=>q) (show 1 <= 10 by decide))
      (ap (wl (p:=.str "take"))
      (ap (wl (p:=.str "collect"))
      (ap (aD (vs:=[V.str ""]) (λ_ _ q=>q) (show 1 <= 10 by decide) (λH t h=>.wrd h (by decide +kernel)))
      (ji)))))))))
   show x4 (wY (tOp xi (ou 2) (tG _)) (gS 2)) _ _ [some (.int c),some (.int far),some (.ref p1)] _
   refine lD (n:=4) g1 rfl ?_ (by decide) (by decide) λp2 l2 H2 s2 g2=>?_
   . exact ap (aD (vs:=[V.str "answer",V.int 0]) (λ_ _ q=>q) (show 2 <= 10 by decide) (λH t h=>.len h fI (show ¬ 1=2 by decide)))
      (ap (aD (vs:=[V.str "answer",V.int 0,V.int 1,V.int 1]) (λ_ _ q=>q) (show 4 <= 10 by decide) (λH t h=>.len h fI (show ¬ 3=2 by decide)))
      (ap (aD (vs:=[V.str "answer",V.bl true,V.int 1]) (λ_ _ q=>q) (show 3 <= 10 by decide) (λH t h=>.prt (ps:=[.bl true,.int 1]) h fI rfl (by decide +kernel)))
      (ap (aD (vs:=[V.str "answer",V.int 0,V.bl true]) (λ_ _ q=>q) (show 3 <= 10 by decide) (λH t h=>.prt (ps:=[.int 0,.bl true]) h fI rfl (by decide +kernel)))
      (ap (aD (vs:=[V.str "answer",V.non,V.int 1]) (λ_ _ q=>q) (show 3 <= 10 by decide) (λH t h=>.prt (ps:=[.non,.int 1]) h fI rfl (by decide +kernel)))
      (ji)))))
   show x4 (wY (tOp xi (ou 2) (tG _)) (gS 2)) _ _ [some (.int c),some (.int far),some (.ref p2)] _
   refine lD (n:=4) g2 rfl ?_ (by decide) (by decide) λp3 l3 H3 s3 g3=>?_
   . exact ap (aD (vs:=[V.str "answer",V.int 0,V.int far]) (λ_ _ q=>⟨_,h1,q⟩) (show 3 <= 10 by decide) (λH t h=>.prt (ps:=[.int 0,.int far]) h fI rfl (Fl fo)))
      (ap (aD (vs:=[V.str "answer",V.int 0,V.int (-far)]) (λ_ _ q=>⟨_,h1,_,rfl,q⟩) (show 3 <= 10 by decide) (λH t h=>.prt (ps:=[.int 0,.int (-far)]) h fI rfl (FC fo)))
      (ap (aD (vs:=[V.str "answer",V.int 0,V.non]) (λ_ _ q=>q) (show 3 <= 10 by decide) (λH t h=>.prt (ps:=[.int 0,.non]) h fI rfl (by decide +kernel)))
      (ap (lg (vs:=[V.str "answer",V.int 0,V.int 1]) (λ_ _ q=>q) (show 3 <= 10 by decide))
      (ap (aD (vs:=[V.str "answer",V.str "0",V.int 1]) (λ_ _ q=>q) (show 3 <= 10 by decide) (λH t h=>.prt (ps:=[.str "0",.int 1]) h fI rfl (by decide +kernel)))
      (ji)))))
   show x4 (wY (tOp xi (ou 2) (tG _)) (gS 2)) _ _ [some (.int c),some (.int far),some (.ref p3)] _
   refine lD (n:=6) g3 rfl ?_ (by decide) (by decide) λp4 l4 H4 s4 g4=>?_
   . exact ap (aD (vs:=[V.str "bell"]) (λ_ _ q=>q) (show 1 <= 10 by decide) (λH t h=>.len h ni (show ¬ 0=1 by decide)))
      (ap (aD (vs:=[V.str "bell",V.int 2]) (λ_ _ q=>q) (show 2 <= 10 by decide) (λH t h=>.prt (ps:=[.int 2]) h ni rfl (by decide +kernel)))
      (ap (aD (vs:=[V.str "bell",V.int (-1)]) (λ_ _ q=>⟨_,rfl,q⟩) (show 2 <= 10 by decide) (λH t h=>.prt (ps:=[.int (-1)]) h ni rfl (by decide +kernel)))
      (ap (aD (vs:=[V.str "bell",V.bl true]) (λ_ _ q=>q) (show 2 <= 10 by decide) (λH t h=>.prt (ps:=[.bl true]) h ni rfl (by decide +kernel)))
      (ap (aD (vs:=[V.str "bell",V.bl false]) (λ_ _ q=>q) (show 2 <= 10 by decide) (λH t h=>.prt (ps:=[.bl false]) h ni rfl (by decide +kernel)))
      (ap (aD (vs:=[V.str "bell",V.str "0"]) (λ_ _ q=>q) (show 2 <= 10 by decide) (λH t h=>.prt (ps:=[.str "0"]) h ni rfl (by decide +kernel)))
      (ap (aD (vs:=[V.str "bell",V.int 0,V.int 1]) (λ_ _ q=>q) (show 3 <= 10 by decide) (λH t h=>.len h ni (show ¬ 2=1 by decide)))
      (ji)))))))
   show x4 (wY (tOp xi (ou 2) (tG _)) (gS 2)) _ _ [some (.int c),some (.int far),some (.ref p4)] _
   refine lD (n:=6) g4 rfl ?_ (by decide) (by decide) λp5 l5 H5 s5 g5=>?_
   . exact ap (aD (vs:=[V.str "lie",V.int 2]) (λ_ _ q=>q) (show 2 <= 10 by decide) (λH t h=>.prt (ps:=[.int 2]) h A2 rfl (by decide +kernel)))
      (ap (aD (vs:=[V.str "lie",V.int (-1)]) (λ_ _ q=>⟨_,rfl,q⟩) (show 2 <= 10 by decide) (λH t h=>.prt (ps:=[.int (-1)]) h A2 rfl (by decide +kernel)))
      (ap (aD (vs:=[V.str "lie",V.bl true]) (λ_ _ q=>q) (show 2 <= 10 by decide) (λH t h=>.prt (ps:=[.bl true]) h A2 rfl (by decide +kernel)))
      (ap (aD (vs:=[V.str "lie",V.non]) (λ_ _ q=>q) (show 2 <= 10 by decide) (λH t h=>.prt (ps:=[.non]) h A2 rfl (by decide +kernel)))
      (ap (aD (vs:=[V.str "look",V.int 2]) (λ_ _ q=>q) (show 2 <= 10 by decide) (λH t h=>.prt (ps:=[.int 2]) h yP rfl (by decide +kernel)))
      (ap (aD (vs:=[V.str "look",V.int (-1)]) (λ_ _ q=>⟨_,rfl,q⟩) (show 2 <= 10 by decide) (λH t h=>.prt (ps:=[.int (-1)]) h yP rfl (by decide +kernel)))
      (ap (aD (vs:=[V.str "look",V.bl false]) (λ_ _ q=>q) (show 2 <= 10 by decide) (λH t h=>.prt (ps:=[.bl false]) h yP rfl (by decide +kernel)))
      (ji)))))))
   show x4 (wY (tOp xi (ou 2) (tG _)) (gS 2)) _ _ [some (.int c),some (.int far),some (.ref p5)] _
   refine lD (n:=6) g5 rfl ?_ (by decide) (by decide) λp6 l6 H6 s6 g6=>?_
   . exact ap (aD (vs:=[V.str "drain",V.int 2]) (λ_ _ q=>q) (show 2 <= 10 by decide) (λH t h=>.prt (ps:=[.int 2]) h lE rfl (by decide +kernel)))
      (ap (aD (vs:=[V.str "drain",V.int (-1)]) (λ_ _ q=>⟨_,rfl,q⟩) (show 2 <= 10 by decide) (λH t h=>.prt (ps:=[.int (-1)]) h lE rfl (by decide +kernel)))
      (ap (aD (vs:=[V.str "drain",V.bl true]) (λ_ _ q=>q) (show 2 <= 10 by decide) (λH t h=>.prt (ps:=[.bl true]) h lE rfl (by decide +kernel)))
      (ap (aD (vs:=[V.str "drain",V.bl false]) (λ_ _ q=>q) (show 2 <= 10 by decide) (λH t h=>.prt (ps:=[.bl false]) h lE rfl (by decide +kernel)))
      (ap (aD (vs:=[V.str "drain"]) (λ_ _ q=>q) (show 1 <= 10 by decide) (λH t h=>.len h lE (show ¬ 0=1 by decide)))
      (ap (lg (vs:=[V.str "drain",V.int 0]) (λ_ _ q=>q) (show 2 <= 10 by decide))
      (ap (aD (vs:=[V.int 0,V.str "drain"]) (λ_ _ q=>q) (show 2 <= 10 by decide) (λH t h=>.nos h (Pt.tv (.int 0)) (λs e=>by cases e)))
      (ji)))))))
   show F6 (tOp xi (ou 2) (tG _)) _ [some (.int c),some (.int far),some (.ref p6)] _
   refine D7 (n:=11) g6 rfl ?_ (by decide) (by decide) λp7 l7 H7 s7 g7=>?_
   . exact ap (wl (p:=.non))
      (ap (wl (p:=.int 0))
      (ap (wl (p:=.bl true))
      (ap (wl (p:=.str ""))
      (ap (aD (vs:=[]) (λ_ _ q=>q) (show 0 <= 10 by decide) (λH t h=>.emp h))
      (ap (lg (vs:=[]) (λ_ _ q=>q) (show 0 <= 10 by decide))
      (ap (zO)
      (ap (DE (s:="take"))
      (ap (aD (vs:=[V.non]) (λ_ _ q=>q) (show 1 <= 10 by decide) (λH t h=>.nos h (Pt.tv (.non)) (λs e=>by cases e)))
      (ap (aD (vs:=[V.str "fence",V.int 0]) (λ_ _ q=>q) (show 2 <= 10 by decide) (λH t h=>.wrd h (by decide +kernel)))
      (ap (aD (vs:=[V.str "drain",V.int far]) (λ_ _ q=>⟨_,h1,q⟩) (show 2 <= 10 by decide) (λH t h=>.prt (ps:=[.int far]) h lE rfl (Fp fo)))
      (ap (aD (vs:=[V.str "wake",V.int 1]) (λ_ _ q=>q) (show 2 <= 10 by decide) (λH t h=>.wrd h (by decide +kernel)))
      (ji))))))))))))
   exact k p7 l7 H7 (s0.trans (s1.trans (s2.trans (s3.trans (s4.trans (s5.trans (s6.trans s7))))))) g7
end
def wn (S:YS) (us ks:List Int):PyData:=.list [pE S us ks,.list S.hs,.str (S.bd false).key,.str (S.bd true).key,.bool (S.qt false),.bool (S.qt true)]
structure Seen (S:YS) (us ks:List Int) (H:Hp) (p:Addr):Prop where
 ex:∃ (v1:V) (l:Addr) (ts:List V),H p=some (.lst [v1,.ref l,.str (S.bd false).key,.str (S.bd true).key,.bl (S.qt false),.bl (S.qt true)])/\DV H (pE S us ks) v1/\H l=some (.lst ts)/\DVs H S.hs ts
 fl:∀ d∈S.hs,flD d=true
theorem Seen.same {S:YS}{us ks:List Int}{H H':Hp}{p:Addr}(h:Seen S us ks H p) (e:bU H H'):Seen S us ks H' p:=by
 obtain⟨v1,l,ts,h1,h2,h3,h4⟩:=h.ex
 exact⟨⟨v1,l,ts,e _ _ h1,DV.keep (λb vs=>e b _) _ _ (qj S us ks).1 h2,e _ _ h3,DVs.fl (λb vs=>e b _) h.fl h4⟩,h.fl⟩
theorem Seen.dv {S:YS}{us ks:List Int}{H:Hp}{p:Addr}(h:Seen S us ks H p):DV H (wn S us ks) (.ref p):=by
 obtain⟨v1,l,ts,h1,h2,h3,h4⟩:=h.ex
 exact⟨p,_,rfl,h1,_,_,rfl,h2,_,_,rfl,⟨l,ts,rfl,h3,h4⟩,_,_,rfl,rfl,_,_,rfl,rfl,_,_,rfl,rfl,_,_,rfl,rfl,rfl⟩
theorem zP {S:YS}{us ks:List Int}(h:FlL S.hs):tt (wn S us ks):=by
 have h1:=Kt5.lay (qj S us ks)
 have h2:=h.lay
 have b1:∀ b:Bd,PyData.canLay0 (.str b.key)=true:=λb=>by cases b<;>decide +kernel
 refine⟨?_,?_⟩
 . show (PyData.canLay0 (pE S us ks) && (PyData.canLay0 (.list S.hs) && (PyData.canLay0 (.str (S.bd false).key) && (PyData.canLay0 (.str (S.bd true).key) && (true && (true && true))))))=true
   rw[h1.1.1,h2.1.1,b1,b1];rfl
 . show max (pE S us ks).depth (max (PyData.list S.hs).depth (max 0 (max 0 (max 0 (max 0 0)))))+1 <= 16
   have:=h1.2
   have:=h2.2
   omega
def A7 (w:World) (ad:Ad):Sp:=λvs H Q _=>∃ (a:YA) (q:YP) (S:YS),vs=[.ref a.y]/\Yn w ad.bg ad.d4 ad.b7 ad.bX ad.aH H a q S/\S.un.length < 64/\S.tk.length < 64 /\
 ∀ (p:Addr) (us ks:List Int) (H':Hp),us.Perm S.un->us.Pairwise (· <= ·)->ks.Perm S.tk->ks.Pairwise (· <= ·)->bU H H'->H p=none->Seen S us ks H' p->Q (.ref p) H'
theorem zQ {q:YP}{S:YS}{nm wt:Int}(h:S.tk.contains nm=false):(Dd.answer nm wt).chk q S=some (if S.bd true=.up then .task else .deed):=by
 show (if S.bd true=.up then (if S.tk.contains nm=false then some Rf.task else _) else some Rf.deed)=_
 rw[if_pos h]
 split<;>rfl
section
variable {P:Program}{w:World}{K:PySem.W.Frag}{mg:Str->Option Value}{base:Heap}{a:Ad}{d:Fd}
theorem AM (G:Gs K mg a d):FnOk P w K mg base CX0 5 a.hX d.hX ["yard"] (A7 w a):=by
 have c_Yard_state:FnOk P w K mg base CX0 4 _ _ _ _:=zw G
 have c_Yard_story:FnOk P w K mg base CX0 1 _ _ _ _:=Ao G
 have c_Yard_sleeper:FnOk P w K mg base CX0 1 _ _ _ _:=jo G
 have c_Yard_is_quiet:FnOk P w K mg base CX0 1 _ _ _ _:=vV G
 refine G.jp.ok tX (λvs H Q E h=>?_) (λcdv A' outer s' H vs Q E hr h=>?_)
 . obtain⟨y,q,S,rfl,_⟩:=h
   rfl
 . obtain⟨y,q,S,rfl,Y,ul,tl,k⟩:=h
   have hu:=eC hr
   refine⟨_,(@af _ _ _ (@ar _ _ _ _ (@bc _ _ _ _ (@a6 _ _ _ _ _ (aX (pv 0) G.al G.pT c_Yard_state (hr.mono (by decide)) G.sg .nil ax) (@a6 _ _ _ _ _ (aX (pv 0) G.al G.qC c_Yard_story (hr.mono (by decide)) G.rL .nil ax) (@a6 _ _ _ _ _ (au (pv 0) G.al G.bW c_Yard_sleeper (hr.mono (by decide)) G.cg .nil ax (@a6 _ _ _ _ _ ae a9 (by rfl))) (@a6 _ _ _ _ _ (au (pv 0) G.al G.bW c_Yard_sleeper (hr.mono (by decide)) G.cg .nil ax (@a6 _ _ _ _ _ ae a9 (by rfl))) (@a6 _ _ _ _ _ (au (pv 0) G.al G.iM c_Yard_is_quiet (hr.mono (by decide)) G.ja .nil ax (@a6 _ _ _ _ _ ae a9 (by rfl))) (@a6 _ _ _ _ _ (au (pv 0) G.al G.iM c_Yard_is_quiet (hr.mono (by decide)) G.ja .nil ax (@a6 _ _ _ _ _ ae a9 (by rfl))) a9 (by rfl)) (by rfl)) (by rfl)) (by rfl)) (by rfl)) (by rfl))))),?_⟩
   refine⟨_,rfl,f8 Y.ob (dL (by decide +kernel)) ⟨y,q,S,rfl,Y,ul,tl,λt us ks vs1 H1 pu su pk sk nt e1 ht dv=>?_⟩⟩
   have Y1:=Y.same e1
   refine⟨_,rfl,f8 Y1.ob (dL (by decide +kernel)) ⟨y,q,S,rfl,Y1,λl z hl dvz=>?_⟩⟩
   have e2:=ah (o:=.lst z) hl
   have v2:upd H1 l (.lst z) l=some (.lst z):=a8
   generalize upd H1 l (.lst z)=H2 at e2 v2 |-
   have Y2:=Y1.same e2
   refine⟨_,rfl,f8 Y2.ob (dL (by decide +kernel)) ⟨y,q,S,false,rfl,Y2,?_⟩⟩
   refine⟨_,rfl,f8 Y2.ob (dL (by decide +kernel)) ⟨y,q,S,true,rfl,Y2,?_⟩⟩
   refine⟨_,rfl,f8 Y2.ob (dL (by decide +kernel)) ⟨y,q,S,false,rfl,Y2,?_⟩⟩
   refine⟨_,rfl,f8 Y2.ob (dL (by decide +kernel)) ⟨y,q,S,true,rfl,Y2,?_⟩⟩
   refine⟨by show 6 <= sizeLine;decide,λp hp=>?_⟩
   have e3:=ah (o:=.lst [V.ref t,V.ref l,.str (S.bd false).key,.str (S.bd true).key,.bl (S.qt false),.bl (S.qt true)]) hp
   have e23:=e2.trans e3
   have np:H p=none:=by
    cases hh:H p with
   |none=>rfl
   |some o=>rw[(e1.trans e2) _ _ hh]at hp;cases hp
   exact k p us ks _ pu su pk sk (e1.trans e23) np ⟨⟨_,l,z,a8,DV.keep (λb vs=>e23 b _) _ _ (qj S us ks).1 dv,e3 _ _ v2,DVs.fl (λb vs=>e23 b _) Y1.fl dvz⟩,Y1.fl⟩
end
def BD (q:YP) (S:YS) (H:Hp) (v:V):Prop:=∃ (x:Dd) (t:Addr),v=.ref t/\H t=some (.tup x.vs)/\x.Ok/\x.chk q S=some .deed
theorem BD.tup {q:YP}{S:YS}{H H':Hp}(e:∀ b vs,H b=some (.tup vs)->H' b=some (.tup vs)) {v:V}:BD q S H v->BD q S H' v
|⟨x,t,e1,e2,e3,e4⟩=>⟨x,t,e1,e _ _ e2,e3,e4⟩
structure BDs (q:YP) (S:YS) (H H':Hp) (p:Addr) (l:List V) (m:Nat):Prop where
 sm:bU H H'
 new:H p=none
 at_:H' p=some (.lst l)
 len:l.length <= m
 bd:∀ v∈l,BD q S H' v
theorem BDs.same {q:YP}{S:YS}{H H1 H2:Hp}{p:Addr}{l:List V}{m:Nat}(h:BDs q S H H1 p l m) (e:bU H1 H2):BDs q S H H2 p l m:=⟨h.sm.trans e,h.new,e _ _ h.at_,h.len,λv hv=>(h.bd v hv).tup λb vs=>e b _⟩
theorem BDs.cat {q:YP}{S:YS}{H H1:Hp}{p p':Addr}{l zs:List V}{m n:Nat}(h:BDs q S H H1 p l m) (np:H1 p'=none) (hz:∀ v∈zs,BD q S H1 v) (ln:zs.length <= n):BDs q S H (upd H1 p' (.lst (l++zs))) p' (l++zs) (m+n):=by
 have e:=ah (o:=.lst (l++zs)) np
 refine⟨h.sm.trans e,?_,a8,?_,λv hv=>?_⟩
 . cases hh:H p' with
  |none=>rfl
  |some o=>rw[h.sm _ _ hh]at np;cases np
 . rw[List.length_append]
   have:=h.len
   omega
 . rcases List.mem_append.mp hv with y|y
   . exact(h.bd v y).tup λb vs=>e b _
   . exact(hz v y).tup λb vs=>e b _
theorem BDs.app {q:YP}{S:YS}{H H1:Hp}{p:Addr}{l:List V}{v:V}{m:Nat}(h:BDs q S H H1 p l m) (hv:BD q S H1 v):BDs q S H (upd H1 p (.lst (l++[v]))) p (l++[v]) (m+1):=by
 have e:∀ b vs,H1 b=some (.tup vs)->upd H1 p (.lst (l++[v])) b=some (.tup vs):=λb vs hb=>by rw[ag (λz=>by rw[z,h.at_]at hb;cases hb)];exact hb
 refine⟨λc o hc=>by rw[ag (λz=>by rw[z,h.new]at hc;cases hc)];exact h.sm _ _ hc,h.new,a8,?_,λu hu=>?_⟩
 . rw[List.length_append]
   have:=h.len
   show _+1 <= _
   omega
 . rcases List.mem_append.mp hu with y|y
   . exact(h.bd u y).tup e
   . rw[List.mem_singleton.mp y]
     exact hv.tup e
theorem BDs.mono {q:YP}{S:YS}{H H1:Hp}{p:Addr}{l:List V}{m n:Nat}(h:BDs q S H H1 p l m) (e:m <= n):BDs q S H H1 p l n:=⟨h.sm,h.new,h.at_,Nat.le_trans h.len e,h.bd⟩
theorem sy {b:Bd}{c:Bd}:(V.str b.key=V.str c.key) ↔ b=c:=by
 cases b<;>cases c<;>first
 |exact⟨λ_=>rfl,λ_=>rfl⟩
 |(refine⟨λh=>?_,λh=>by cases h⟩;exact absurd h (by decide +kernel))
theorem tI {P:V->Prop}{u v:V}(h1:P u) (h2:P v):∀ x∈[u,v],P x:=λx hx=>by
 rcases List.mem_cons.mp hx with rfl|hx
 . exact h1
 . rw[List.mem_singleton.mp hx];exact h2
def wc:Sp:=λvs H Q _=>∃ (q:YP) (S:YS) (bp:Addr) (c:Int),vs=[.ref bp,.int c]/\H bp=some (.lst [.str (S.bd false).key,.str (S.bd true).key]) /\
 ∀ p l H',BDs q S H H' p l 20->Q (.ref p) H'
section
variable {P:Program}{w:World}{K:PySem.W.Frag}{mg:Str->Option Value}{base:Heap}{a:Ad}{d:Fd}
theorem vH (G:Gs K mg a d):FnOk P w K mg base CX0 1 a.dC d.dC ["beds","cell"] wc:=by
 refine G.kO.ok cf (λvs H Q E h=>?_) (λcdv A' outer s' H vs Q E hr h=>?_)
 . obtain⟨q,S,bp,c,rfl,_⟩:=h
   rfl
 . obtain⟨q,S,bp,c,rfl,hb,k⟩:=h
   have hu:=eC hr
   refine⟨_,(@ac _ _ _ _ _ (@aB _ _ 2 _ _ _ _ cf.nd rfl (Or.inl rfl) (@aA _ _ _ _ _ _ _ _ lU (@aA _ _ _ _ _ _ _ _ bh (pv 1) (@aA _ _ _ _ _ _ _ _ gp (@aA _ _ _ _ _ _ _ _ sh ae (@aA _ _ _ _ _ _ _ _ f9 ae ae)) ae)) (@aA _ _ _ _ _ _ _ _ f9 ae ae)) (by rfl) (by first|exact .inl rfl|exact .inr rfl|assumption))
    (@ac _ _ _ _ _ (@aB _ _ 3 _ _ _ _ cf.nd rfl (Or.inl rfl) (@bc _ _ _ _ a9) (by rfl) (by first|exact .inl rfl|exact .inr rfl|assumption))
    (@ac _ _ _ _ _ (kN PassesOwn.never rfl (xw (@av _ _ _ _ _ (@a6 _ _ _ _ _ ae (@a6 _ _ _ _ _ ae a9 (by rfl)) (by rfl)))) (cZ (i:=4) cf.nd rfl (Or.inl rfl)) (@gh _ _ _ _ _ (aM (aq mO (@aK _ _ _ _ _ _ _ bz (pv 0) (pv 4) (λ_ _=>rfl)) ai (az _)) (@ac _ _ _ _ _ (@aB _ _ 3 _ _ _ _ cf.nd rfl (Or.inl rfl) (@aA _ _ _ _ _ _ _ _ jx (pv 3) (@bc _ _ _ _ (@a6 _ _ _ _ _ (@av _ _ _ _ _ (@a6 _ _ _ _ _ ai (@a6 _ _ _ _ _ (pv 4) a9 (by rfl)) (by rfl))) (@a6 _ _ _ _ _ (@av _ _ _ _ _ (@a6 _ _ _ _ _ ai (@a6 _ _ _ _ _ (pv 4) a9 (by rfl)) (by rfl))) a9 (by rfl)) (by rfl)))) (by rfl) (by first|exact .inl rfl|exact .inr rfl|assumption))
    (@af _ _ _ (@aB _ _ 3 _ _ _ _ cf.nd rfl (Or.inl rfl) (@aA _ _ _ _ _ _ _ _ jx (pv 3) (@aK _ _ _ _ _ _ _ bz (@bc _ _ _ _ (@a6 _ _ _ _ _ (@bc _ _ _ _ (@a6 _ _ _ _ _ (@av _ _ _ _ _ (@a6 _ _ _ _ _ ai (@a6 _ _ _ _ _ (pv 2) a9 (by rfl)) (by rfl))) (@a6 _ _ _ _ _ (@av _ _ _ _ _ (@a6 _ _ _ _ _ ai a9 (by rfl))) a9 (by rfl)) (by rfl))) (@a6 _ _ _ _ _ (@bc _ _ _ _ (@a6 _ _ _ _ _ (@av _ _ _ _ _ (@a6 _ _ _ _ _ ai a9 (by rfl))) (@a6 _ _ _ _ _ (@av _ _ _ _ _ (@a6 _ _ _ _ _ ai (@a6 _ _ _ _ _ (@aA _ _ _ _ _ _ _ _ bh (pv 1) ae) (@a6 _ _ _ _ _ (pv 2) a9 (by rfl)) (by rfl)) (by rfl))) a9 (by rfl)) (by rfl))) a9 (by rfl)) (by rfl))) (pv 4) (λ_ _=>rfl))) (by rfl) (by first|exact .inl rfl|exact .inr rfl|assumption)))) ao)
    (@af _ _ _ (aM (aq mO (@aK _ _ _ _ _ _ _ bz (pv 0) (pv 4) (λ_ _=>rfl)) ai (az _)) (@af _ _ _ (@aI _ _ _ _ (@mf _ _ _ _ _ _ _ _ _ _ _ _ PySem.F.plainAttrs_list PySem.F.slot_list_append PySem.F.type_list_append cq (pv 3) (@a6 _ _ _ _ _ (@av _ _ _ _ _ (@a6 _ _ _ _ _ ai (@a6 _ _ _ _ _ (pv 4) a9 (by rfl)) (by rfl))) a9 (by rfl)) (by rfl) (by rfl) (by rfl) (by rfl) (by rfl)) (by rfl))) ao))))
    (@af _ _ _ (@ar _ _ _ _ (pv 3)))))),?_⟩
   have e9:(10:Int) ^ (9:Int).toNat=1000000000:=by decide
   refine x3 (v:=.int (c % (2 * 10 ^ (9:Int).toNat+1) - 10 ^ (9:Int).toNat)) (λQ q=>⟨_,rfl,_,_,rfl,rfl,⟨by decide,by decide,by decide⟩,_,_,rfl,rfl,nL (by decide) (by decide),_,_,rfl,rfl,_,_,rfl,rfl,(by show (0:Int) < 2 * 10 ^ (9:Int).toNat+1;decide),_,_,rfl,rfl,⟨by decide,by decide,by decide⟩,_,_,rfl,rfl,q⟩) ?_
   have f0:=Int.emod_nonneg c (show (2 * 10 ^ (9:Int).toNat+1:Int)≠0 by decide)
   have f1:=Int.emod_lt_of_pos c (show (0:Int) < 2 * 10 ^ (9:Int).toNat+1 by decide)
   rw[e9]at f0 f1
   have wo:-1000000000 <= c % (2 * 10 ^ (9:Int).toNat+1) - 10 ^ (9:Int).toNat/\c % (2 * 10 ^ (9:Int).toNat+1) - 10 ^ (9:Int).toNat <= 1000000000:=by rw[e9];omega
   generalize (c % (2 * 10 ^ (9:Int).toNat+1) - 10 ^ (9:Int).toNat:Int)=wt at wo |-
   clear f0 f1 e9
   refine⟨uc,λp0 np0=>⟨l2,λtw htw=>?_⟩⟩
   have s1:=ah (o:=.lst []) np0
   have s2:=ah (o:=.tup [V.int 0,V.int 1]) htw
   have g0:BDs q S H (upd (upd H p0 (.lst [])) tw (.tup [V.int 0,V.int 1])) p0 [] 0:=(⟨s1,np0,a8,Nat.le_refl _,λv hv=>by cases hv⟩:BDs q S H (upd H p0 (.lst [])) p0 [] 0).same s2
   have v2:upd (upd H p0 (.lst [])) tw (.tup [V.int 0,V.int 1]) tw=some (.tup [V.int 0,V.int 1]):=a8
   generalize upd (upd H p0 (.lst [])) tw (.tup [V.int 0,V.int 1])=H2 at g0 v2 |-
   clear s1 s2 htw np0
   refine⟨tw,rfl,⟨_,SqT.of v2⟩,?_⟩
   refine yK (K:=K) (a:=tw) (xs:=[V.int 0,V.int 1]) (λi σ H'=>∃ (p:Addr) (l:List V),(∃ v4,σ=[some (.ref bp),some (.int c),some (.int wt),some (.ref p),v4])/\BDs q S H H' p l (10 * i)/\H' tw=some (.tup [V.int 0,V.int 1]))
    ⟨_,_,⟨_,rfl⟩,g0,v2⟩ (λ_ _ _ _ ⟨_,_,_,_,z⟩=>SqT.of z) ?_ ?_
   . clear g0 v2 H2 p0
     rintro i x σ H3 hi ⟨p,l,⟨v4,rfl⟩,g,htw⟩
     have hi2:i < 2:=(List.getElem?_eq_some_iff.mp hi).1
     obtain⟨b,rfl⟩:∃ b,x=.int (sdI b):=by
      match i,hi with
     |0,hi=>cases hi;exact⟨false,rfl⟩
     |1,hi=>cases hi;exact⟨true,rfl⟩
     |_+2,hi=>cases hi
     have hll:=g.len
     refine⟨λσ' H'=>∃ (p:Addr) (l:List V),σ'=[some (.ref bp),some (.int c),some (.int wt),some (.ref p),some (.int (sdI b))]/\BDs q S H H' p l (10 * i+4)/\H' tw=some (.tup [V.int 0,V.int 1]),?_,?_⟩
     . refine⟨_,rfl,_,rfl,bp,_,_,_,rfl,rfl,SqL.of (g.sm _ _ hb),tT b,rfl,_,rfl,?_⟩
       by_cases hup:S.bd b=.up
       . refine cP (by rw[hup];decide +kernel) ?_
         exact⟨p,l,rfl,g.mono (by omega),htw⟩
       . refine jv (by rw[Bool.not_eq_true',decide_eq_false_iff_not];exact λz=>hup (sy (c:=.up) |>.mp z)) ?_
         refine⟨_,rfl,_,rfl,l2,λt1 h1=>?_⟩
         have s1:=ah (o:=.tup [V.str "bell",.int (sdI b)]) h1
         have b1:BD q S (upd H3 t1 (.tup [V.str "bell",.int (sdI b)])) (.ref t1):=⟨.bell b,t1,rfl,a8,trivial,if_neg hup⟩
         have g1:=g.same s1
         have w1:=s1 _ _ htw
         generalize upd H3 t1 (.tup [V.str "bell",.int (sdI b)])=H4 at s1 b1 g1 w1 |-
         refine⟨_,rfl,l2,λt2 h2=>?_⟩
         have s2:=ah (o:=.tup [V.str "lie",.int (sdI b)]) h2
         have b2:BD q S (upd H4 t2 (.tup [V.str "lie",.int (sdI b)])) (.ref t2):=⟨.lie b,t2,rfl,a8,trivial,if_neg hup⟩
         have b1:=b1.tup λc vs=>s2 c (.tup vs)
         have g2:=g1.same s2
         have w2:=s2 _ _ w1
         generalize upd H4 t2 (.tup [V.str "lie",.int (sdI b)])=H5 at s2 b1 b2 g2 w2 |-
         refine⟨l2,λpl hpl=>?_⟩
         have s3:=ah (o:=.lst [V.ref t1,V.ref t2]) hpl
         have g3:=g2.same s3
         have w3:=s3 _ _ w2
         have z3:=tI (P:=BD q S (upd H5 pl (.lst [V.ref t1,V.ref t2]))) (b1.tup λc vs=>s3 c (.tup vs)) (b2.tup λc vs=>s3 c (.tup vs))
         have a3:upd H5 pl (.lst [V.ref t1,V.ref t2]) pl=some (.lst [V.ref t1,V.ref t2]):=a8
         generalize upd H5 pl (.lst [V.ref t1,V.ref t2])=H6 at s3 g3 w3 z3 a3 |-
         refine⟨p,pl,_,_,rfl,rfl,g3.at_,a3,Nat.le_trans (show l.length+2 <= 100 by omega) (by decide),λp' hp'=>?_⟩
         have g4:=g3.cat hp' z3 (n:=2) (Nat.le_refl _)
         have w4:=ah (o:=.lst (l++[V.ref t1,V.ref t2])) hp' _ _ w3
         generalize upd H6 p' (.lst (l++[V.ref t1,V.ref t2]))=H7 at g4 w4 |-
         generalize l++[V.ref t1,V.ref t2]=l' at g4
         clear g g1 g2 g3 b1 b2 z3 a3 s1 s2 s3 h1 h2 hpl hp' htw w1 w2 w3 hll
         refine⟨_,rfl,_,rfl,l2,λt1 h1=>?_⟩
         have s1:=ah (o:=.tup [V.str "ask",.int wt]) h1
         have b1:b=false->BD q S (upd H7 t1 (.tup [V.str "ask",.int wt])) (.ref t1):=λz=>⟨.ask wt,t1,rfl,a8,wo,if_neg (by rw[<-z];exact hup)⟩
         have g1:=g4.same s1
         have w1:=s1 _ _ w4
         generalize upd H7 t1 (.tup [V.str "ask",.int wt])=H8 at s1 b1 g1 w1 |-
         refine⟨Er,λt2 h2=>?_⟩
         have s2:=ah (o:=.tup [V.str "collect"]) h2
         have b2:b=false->BD q S (upd H8 t2 (.tup [V.str "collect"])) (.ref t2):=λz=>⟨.collect,t2,rfl,a8,trivial,if_neg (by rw[<-z];exact hup)⟩
         have b1:=λz=>(b1 z).tup λc vs=>s2 c (.tup vs)
         have g2:=g1.same s2
         have w2:=s2 _ _ w1
         generalize upd H8 t2 (.tup [V.str "collect"])=H9 at s2 b1 b2 g2 w2 |-
         refine⟨l2,λpl hpl=>?_⟩
         have s3:=ah (o:=.lst [V.ref t1,V.ref t2]) hpl
         have g3:=g2.same s3
         have w3:=s3 _ _ w2
         have z3:=λz=>tI (P:=BD q S (upd H9 pl (.lst [V.ref t1,V.ref t2]))) ((b1 z).tup λc vs=>s3 c (.tup vs)) ((b2 z).tup λc vs=>s3 c (.tup vs))
         have a3:upd H9 pl (.lst [V.ref t1,V.ref t2]) pl=some (.lst [V.ref t1,V.ref t2]):=a8
         generalize upd H9 pl (.lst [V.ref t1,V.ref t2])=H10 at s3 g3 w3 z3 a3 |-
         clear g4 g1 g2 b1 b2 s1 s2 s3 h1 h2 hpl w4 w1 w2
         refine⟨Er,λu1 h1=>?_⟩
         have s1:=ah (o:=.tup [V.str "take"]) h1
         have b1:b=true->BD q S (upd H10 u1 (.tup [V.str "take"])) (.ref u1):=λz=>⟨.take,u1,rfl,a8,trivial,if_neg (by rw[<-z];exact hup)⟩
         have g1:=g3.same s1
         have w1:=s1 _ _ w3
         have z1:=λz v hv=>(z3 z v hv).tup λc vs=>s1 c (.tup vs)
         have a1:=s1 _ _ a3
         generalize upd H10 u1 (.tup [V.str "take"])=H11 at s1 b1 g1 w1 z1 a1 |-
         refine⟨_,rfl,_,_,rfl,rfl,(show (0:Int) < 10 from by decide),_,rfl,l3,λu2 h2=>?_⟩
         have s2:=ah (o:=.tup [V.str "answer",.int (c % 10),.int wt]) h2
         have b2:b=true->BD q S (upd H11 u2 (.tup [V.str "answer",.int (c % 10),.int wt])) (.ref u2):=λz=>⟨.answer (c % 10) wt,u2,rfl,a8,wo,if_neg (by rw[<-z];exact hup)⟩
         have b1:=λz=>(b1 z).tup λc vs=>s2 c (.tup vs)
         have g2:=g1.same s2
         have w2:=s2 _ _ w1
         have z2:=λz v hv=>(z1 z v hv).tup λc vs=>s2 c (.tup vs)
         have a2:=s2 _ _ a1
         generalize upd H11 u2 (.tup [V.str "answer",.int (c % 10),.int wt])=H12 at s2 b1 b2 g2 w2 z2 a2 |-
         refine⟨l2,λql hql=>?_⟩
         have s4:=ah (o:=.lst [V.ref u1,V.ref u2]) hql
         have g4:=g2.same s4
         have w4:=s4 _ _ w2
         have y4:=λz=>tI (P:=BD q S (upd H12 ql (.lst [V.ref u1,V.ref u2]))) ((b1 z).tup λc vs=>s4 c (.tup vs)) ((b2 z).tup λc vs=>s4 c (.tup vs))
         have z4:=λz v hv=>(z2 z v hv).tup λc vs=>s4 c (.tup vs)
         have a4:=s4 _ _ a2
         have c4:upd H12 ql (.lst [V.ref u1,V.ref u2]) ql=some (.lst [V.ref u1,V.ref u2]):=a8
         generalize upd H12 ql (.lst [V.ref u1,V.ref u2])=H13 at s4 g4 w4 y4 z4 a4 c4 |-
         refine⟨l2,λrl hrl=>?_⟩
         have s5:=ah (o:=.lst [V.ref pl,V.ref ql]) hrl
         have g5:=g4.same s5
         have w5:=s5 _ _ w4
         have y5:=λz v hv=>(y4 z v hv).tup λc vs=>s5 c (.tup vs)
         have z5:=λz v hv=>(z4 z v hv).tup λc vs=>s5 c (.tup vs)
         have a5:=s5 _ _ a4
         have c5:=s5 _ _ c4
         have r5:upd H13 rl (.lst [V.ref pl,V.ref ql]) rl=some (.lst [V.ref pl,V.ref ql]):=a8
         generalize upd H13 rl (.lst [V.ref pl,V.ref ql])=H14 at s5 g5 w5 y5 z5 a5 c5 r5 |-
         clear g1 g2 g3 g4 b1 b2 s1 s2 s4 s5 h1 h2 hql hrl w3 w4 w1 w2 z1 z2 z3 z4 y4 a1 a2 a3 a4 c4
         have hl5:=g5.len
         cases b with
        |false =>
          refine⟨_,rfl,rl,_,_,_,rfl,rfl,SqL.of r5,rfl,p',pl,_,_,rfl,rfl,g5.at_,a5,Nat.le_trans (show l'.length+2 <= 100 by omega) (by decide),λp2 hp2=>?_⟩
          exact⟨p2,_,rfl,g5.cat hp2 (z5 rfl) (n:=2) (Nat.le_refl _),ah hp2 _ _ w5⟩
        |true =>
          refine⟨_,rfl,rl,_,_,_,rfl,rfl,SqL.of r5,rfl,p',ql,_,_,rfl,rfl,g5.at_,c5,Nat.le_trans (show l'.length+2 <= 100 by omega) (by decide),λp2 hp2=>?_⟩
          exact⟨p2,_,rfl,g5.cat hp2 (y5 rfl) (n:=2) (Nat.le_refl _),ah hp2 _ _ w5⟩
     . rintro σ' H4 ⟨p,l,rfl,g,htw⟩
       have hll:=g.len
       refine⟨_,rfl,_,rfl,bp,_,_,_,rfl,rfl,SqL.of (g.sm _ _ hb),tT b,rfl,_,rfl,?_⟩
       by_cases hli:S.bd b=.lies
       . refine cP (by rw[hli];decide +kernel) ?_
         exact⟨p,l,⟨_,rfl⟩,g.mono (by omega),htw⟩
       . refine jv (by rw[Bool.not_eq_true',decide_eq_false_iff_not];exact λz=>hli (sy (c:=.lies) |>.mp z)) ?_
         refine⟨_,rfl,.inl ⟨rfl,_,SqL.of g.at_⟩,_,rfl,l2,λt1 h1=>?_⟩
         have s1:=ah (o:=.tup [V.str "look",.int (sdI b)]) h1
         have b1:BD q S (upd H4 t1 (.tup [V.str "look",.int (sdI b)])) (.ref t1):=⟨.look b,t1,rfl,a8,trivial,if_neg hli⟩
         have g1:=g.same s1
         have w1:=s1 _ _ htw
         generalize upd H4 t1 (.tup [V.str "look",.int (sdI b)])=H5 at s1 b1 g1 w1 |-
         refine⟨p,_,_,rfl,rfl,g1.at_,Nat.lt_of_lt_of_le (show _ < 1000 by omega) (by decide),?_⟩
         exact⟨p,_,⟨_,rfl⟩,(g1.app b1).mono (by omega),by rw[ag (λz=>by rw[z,g1.at_]at w1;cases w1)];exact w1⟩
   . rintro σ H3 ⟨p,l,⟨v4,rfl⟩,g,htw⟩
     exact⟨_,rfl,k p l H3 g⟩
end
def vF (w:World) (ad:Ad):Sp:=λvs H Q _=>∃ (a:YA) (q:YP) (S:YS) (L:Nat) (x:Dd) (t:Addr) (rf:Rf),vs=[.ref a.y,.ref t]/\Rdy w ad H a q S L/\H t=some (.tup x.vs)/\x.Ok/\x.chk q S=some rf /\
 ∀ (r:Addr) (H':Hp),bU H H'->H' r=some (.tup [.str rf.key,.non])->Q (.ref r) H'
def uj (w:World) (ad:Ad):Sp:=λvs H Q _=>∃ (a:YA) (q:YP) (S:YS) (L:Nat) (c:Int),vs=[.ref a.y,.int c]/\Rdy w ad H a q S L/\∀ H',bU H H'->Q (.bl true) H'
def zD (w:World) (ad:Ad):Sp:=λvs H Q _=>∃ (a:YA) (q:YP) (S:YS) (L:Nat) (b:Bool) (c:Int) (u:V),vs=[.ref a.y,.int (sdI b),.int c,u]/\Rdy w ad H a q S L/\L+10 < 90000 /\
 ∀ (S':YS) (H':Hp),Yn w ad.bg ad.d4 ad.b7 ad.bX ad.aH H' a q S'->YI q S' (L+4)->S'.hs=S.hs->KO a.own H H'->Q .non H'
section
variable {P:Program}{w:World}{K:PySem.W.Frag}{mg:Str->Option Value}{base:Heap}{a:Ad}{d:Fd}
theorem wy (G:Gs K mg a d):FnOk P w K mg base CX0 11 a.eh d.eh ["yard","deed"] (vF w a):=by
 have cx_Yard_deed:FnOk P w K mg base (CXv P w) 10 _ _ _ _:=mV G
 refine G.gY.ok aO (λvs H Q E h=>?_) (λcdv A' outer s' H vs Q E hr h=>?_)
 . obtain⟨y,q,S,L,x,t,rf,rfl,_⟩:=h
   rfl
 . obtain⟨y,q,S,L,x,t,rf,rfl,Rd,ht,hx,hc,k⟩:=h
   have hu:=eC hr
   refine⟨_,(@ac _ _ _ _ _ (@aB _ _ 2 _ _ _ _ aO.nd rfl (Or.inl rfl) cC (by rfl) (by first|exact .inl rfl|exact .inr rfl|assumption))
    (@ac _ _ _ _ _ (@aB _ _ 3 _ _ _ _ aO.nd rfl (Or.inl rfl) ai (by rfl) (by first|exact .inl rfl|exact .inr rfl|assumption))
    (@ac _ _ _ _ _ (zh ⟨rfl,rfl,rfl⟩ (λpins R=>by exact(@af _ _ _ (@aB _ _ 2 _ _ _ _ aO.nd rfl (Or.inl rfl) (qT rfl (pv 0) G.al G.bI cx_Yard_deed (hr.mono (by decide)) G.c7 .nil (@a6 _ _ _ _ _ (pv 1) a9 (by rfl))) (by rfl) (by first|exact .inl rfl|exact .inr rfl|assumption)))) (jg ⟨rfl,rfl,rfl⟩ (by rfl) G.fG (λe=>by exact(@af _ _ _ (@aB _ _ 3 _ _ _ _ aO.nd rfl (Or.inl rfl) ai (by rfl) (by first|exact .inl rfl|exact .inr rfl|assumption)))) (jg ⟨rfl,rfl,rfl⟩ (by rfl) G.sQ (λe=>by exact(@af _ _ _ (@aB _ _ 3 _ _ _ _ aO.nd rfl (Or.inl rfl) ai (by rfl) (by first|exact .inl rfl|exact .inr rfl|assumption)))) (jg ⟨rfl,rfl,rfl⟩ (by rfl) G.mB (λe=>by exact(@af _ _ _ (@aB _ _ 3 _ _ _ _ aO.nd rfl (Or.inl rfl) ai (by rfl) (by first|exact .inl rfl|exact .inr rfl|assumption)))) (jg ⟨rfl,rfl,rfl⟩ (by rfl) G.mJ (λe=>by exact(@af _ _ _ (@aB _ _ 3 _ _ _ _ aO.nd rfl (Or.inl rfl) ai (by rfl) (by first|exact .inl rfl|exact .inr rfl|assumption)))) yR)))))
    (@af _ _ _ (@ar _ _ _ _ (@av _ _ _ _ _ (@a6 _ _ _ _ _ (pv 3) (@a6 _ _ _ _ _ (pv 2) a9 (by rfl)) (by rfl)))))))),?_⟩
   refine⟨λσ' cls H'=>σ'=[some (.ref y.y),some (.ref t),some .non,some (.str "none")]/\bU H H'/\cls=.ref (rfC a rf),?_,?_⟩
   . refine⟨_,rfl,f8 Rd.y.ob (dL (by decide +kernel)) ⟨_,rfl,y,q,S,L,x,t,rfl,Rd,ht,hx,?_⟩⟩
     rw[hc]
     exact λH1 e1=>⟨rfl,e1,rfl⟩
   . rintro σ' cls H1 ⟨rfl,e1,rfl⟩
     have fin:∀ (r':Addr),H1 r'=none->Q (.ref r') (upd H1 r' (.tup [V.str rf.key,.non])):=λr' hr'=>k r' _ (e1.trans (ah hr')) a8
     cases rf with
    |deed=>exact⟨true,G.Dl,⟨_,rfl,_,rfl,l2,fin⟩⟩
    |full=>exact⟨false,G.Dm,true,G.Ef,⟨_,rfl,_,rfl,l2,fin⟩⟩
    |name=>exact⟨false,G.DU,false,G.Ed,true,G.DG,⟨_,rfl,_,rfl,l2,fin⟩⟩
    |task=>exact⟨false,G.Dq,false,G.EB,false,G.Dp,true,G.En,⟨_,rfl,_,rfl,l2,fin⟩⟩
theorem zY (G:Gs K mg a d):FnOk P w K mg base CX0 11 a.c9 d.c9 ["yard","side","cell","left_out"] (zD w a):=by
 have cx_Yard_deed:FnOk P w K mg base (CXv P w) 10 _ _ _ _:=mV G
 have c_Yard_sleeper:FnOk P w K mg base CX0 1 _ _ _ _:=jo G
 refine G.gf.ok m4 (λvs H Q E h=>?_) (λcdv A' outer s' H vs Q E hr h=>?_)
 . obtain⟨y,q,S,L,b,c,u,rfl,_⟩:=h
   rfl
 . obtain⟨y,q,S,L,b,c,u,rfl,Rd,hL,k⟩:=h
   have hu:=eC hr
   refine⟨_,(@gh _ _ _ _ _ (aM ((mT (aq bN (au (pv 0) G.al G.bW c_Yard_sleeper (hr.mono (by decide)) G.cg .nil ax (@a6 _ _ _ _ _ (pv 1) a9 (by rfl))) ai (az _)) (mW (aq Co (@aA _ _ _ _ _ _ _ _ bh (pv 2) ae) ae (az _))))).pt (@af _ _ _ (@aI _ _ _ _ (au (pv 0) G.al G.bI cx_Yard_deed (hr.mono (by decide)) G.c7 .nil rE (@a6 _ _ _ _ _ (@av _ _ _ _ _ (@a6 _ _ _ _ _ ai (@a6 _ _ _ _ _ (pv 1) a9 (by rfl)) (by rfl))) a9 (by rfl))) (by rfl))) ao)
    (@af _ _ _ (aM ((mT (aq bN (au (pv 0) G.al G.bW c_Yard_sleeper (hr.mono (by decide)) G.cg .nil ax (@a6 _ _ _ _ _ (pv 1) a9 (by rfl))) ai (az _)) (mW (aq bN (@aA _ _ _ _ _ _ _ _ bh (pv 2) ae) ae (az _))))).pt (@af _ _ _ (@aI _ _ _ _ (au (pv 0) G.al G.bI cx_Yard_deed (hr.mono (by decide)) G.c7 .nil rE (@a6 _ _ _ _ _ (@av _ _ _ _ _ (@a6 _ _ _ _ _ ai (@a6 _ _ _ _ _ (pv 1) a9 (by rfl)) (by rfl))) a9 (by rfl))) (by rfl))) ao))),?_⟩
   refine⟨λσ' H'=>∃ S',σ'=[some (.ref y.y),some (.int (sdI b)),some (.int c),some u]/\Yn w a.bg a.d4 a.b7 a.bX a.aH H' y q S'/\YI q S' (L+2)/\S'.hs=S.hs/\KO y.own H H',?_,?_⟩
   . have Y:=Rd.y
     refine⟨_,rfl,f8 Y.ob (dL (by decide +kernel)) ⟨_,rfl,y,q,S,b,rfl,Y,rfl,_,rfl,?_⟩⟩
     have no:∃ S',([some (.ref y.y),some (.int (sdI b)),some (.int c),some u]:St)=[some (.ref y.y),some (.int (sdI b)),some (.int c),some u]/\Yn w a.bg a.d4 a.b7 a.bX a.aH H y q S'/\YI q S' (L+2)/\S'.hs=S.hs/\KO y.own H H:=⟨S,rfl,Y,Rd.i.mono (by omega),rfl,KO.refl _ _⟩
     by_cases hb:S.bd b=.up
     . refine jv (by rw[hb];decide +kernel) ?_
       refine⟨_,rfl,_,_,rfl,rfl,(show (0:Int) < 3 from by decide),_,_,rfl,rfl,_,rfl,u7 (λ_=>?_) (λ_=>no)⟩
       refine⟨_,rfl,f8 Y.ob (dL (by decide +kernel)) ⟨_,rfl,l2,λt ht=>?_⟩⟩
       have e1:=ah (o:=.tup [V.str "lie",.int (sdI b)]) ht
       refine⟨y,q,S,L,.lie b,t,rfl,⟨Y.same e1,Rd.ok,Rd.i,Rd.l⟩,a8,trivial,?_⟩
       have hc:(Dd.lie b).chk q S=none:=if_pos hb
       rw[hc]
       intro v H4 Y4 i4 _ ko4
       refine⟨_,rfl,Y4,i4,?_,ot (KO.of_same e1) ko4⟩
       have:=yp (q:=q) (S:=S) (.lie b)
       rw[Dd.out_none hc]at this
       exact this.trans (List.append_nil _)
     . exact cP (by rw[decide_eq_true_eq];exact λz=>hb (sy (c:=.up) |>.mp z)) no
   . rintro σ' H1 ⟨S1,rfl,Y,I,hh,ko⟩
     refine⟨_,rfl,f8 Y.ob (dL (by decide +kernel)) ⟨_,rfl,y,q,S1,b,rfl,Y,rfl,_,rfl,?_⟩⟩
     have no:=k S1 H1 Y (I.mono (by omega)) hh ko
     by_cases hb:S1.bd b=.lies
     . refine jv (by rw[hb];decide +kernel) ?_
       refine⟨_,rfl,_,_,rfl,rfl,(show (0:Int) < 3 from by decide),rfl,_,rfl,u7 (λ_=>?_) (λ_=>no)⟩
       refine⟨_,rfl,f8 Y.ob (dL (by decide +kernel)) ⟨_,rfl,l2,λt ht=>?_⟩⟩
       have e1:=ah (o:=.tup [V.str "look",.int (sdI b)]) ht
       refine⟨y,q,S1,L+2,.look b,t,rfl,⟨Y.same e1,Rd.ok,I,by omega⟩,a8,trivial,?_⟩
       have hc:(Dd.look b).chk q S1=none:=if_pos hb
       rw[hc]
       intro v H4 Y4 i4 _ ko4
       refine k _ H4 Y4 i4 ?_ (ot ko (ot (KO.of_same e1) ko4))
       have:=yp (q:=q) (S:=S1) (.look b)
       rw[Dd.out_none hc]at this
       exact(this.trans (List.append_nil _)).trans hh
     . exact cP (by rw[decide_eq_true_eq];exact λz=>hb (sy (c:=.lies) |>.mp z)) no
theorem tE (G:Gs K mg a d):FnOk P w K mg base CX0 12 a.cI d.cI ["yard","cell"] (uj w a):=by
 have c_law_tried:FnOk P w K mg base CX0 11 _ _ _ _:=wy G
 have c_Yard_sleeper:FnOk P w K mg base CX0 1 _ _ _ _:=jo G
 refine G.jz.ok ge (λvs H Q E h=>?_) (λcdv A' outer s' H vs Q E hr h=>?_)
 . obtain⟨y,q,S,L,c,rfl,_⟩:=h
   rfl
 . obtain⟨y,q,S,L,c,rfl,Rd,k⟩:=h
   have hu:=eC hr
   refine⟨_,(@ac _ _ _ _ _ (@aB _ _ 2 _ _ _ _ ge.nd rfl (Or.inl rfl) (@aK _ _ _ _ _ _ _ bz (@bc _ _ _ _ (@a6 _ _ _ _ _ ai (@a6 _ _ _ _ _ ai a9 (by rfl)) (by rfl))) (cx xO (by rfl) G.Dv Bv (@a6 _ _ _ _ _ (ii bN (au (pv 0) G.al G.bW c_Yard_sleeper (hr.mono (by decide)) G.cg .nil ax (@a6 _ _ _ _ _ ae a9 (by rfl))) ai (az _)) a9 (by rfl))) (λ_ _=>rfl)) (by rfl) (by first|exact .inl rfl|exact .inr rfl|assumption))
    (@ac _ _ _ _ _ (kN PassesOwn.never rfl (l9 (@bc _ _ _ _ (@a6 _ _ _ _ _ (oM jB ae) (@a6 _ _ _ _ _ (@aA _ _ _ _ _ _ _ _ lU (oM jB ae) (@aA _ _ _ _ _ _ _ _ bh (pv 1) ae)) (@a6 _ _ _ _ _ ae (@a6 _ _ _ _ _ (@aA _ _ _ _ _ _ _ _ gp (@aA _ _ _ _ _ _ _ _ f9 ae ae) ae) (@a6 _ _ _ _ _ (@aA _ _ _ _ _ _ _ _ gp (@aA _ _ _ _ _ _ _ _ gp (@aA _ _ _ _ _ _ _ _ f9 ae ae) ae) (@aA _ _ _ _ _ _ _ _ bh (pv 1) (@aA _ _ _ _ _ _ _ _ f9 ae ae))) a9 (by rfl)) (by rfl)) (by rfl)) (by rfl)) (by rfl)))) (cZ (i:=3) ge.nd rfl (Or.inl rfl)) (@af _ _ _ (aM (aq mO (@aK _ _ _ _ _ _ _ aC (aP c_law_tried (hr.mono (by decide)) (by rfl) G.nR G.gY.kp G.mZ .nil ax (@a6 _ _ _ _ _ (pv 0) (@a6 _ _ _ _ _ (@av _ _ _ _ _ (@a6 _ _ _ _ _ ai (@a6 _ _ _ _ _ (pv 3) (@a6 _ _ _ _ _ (@aA _ _ _ _ _ _ _ _ lU (@aA _ _ _ _ _ _ _ _ bh (pv 1) ae) ae) a9 (by rfl)) (by rfl)) (by rfl))) a9 (by rfl)) (by rfl))) ae (λ_ _=>rfl)) (pv 2) (az _)) (@af _ _ _ (@ar _ _ _ _ cn)) ao)))
    (@af _ _ _ (@ar _ _ _ _ cn)))),?_⟩
   have Y:=Rd.y
   obtain⟨rf,hrf⟩:∃ rf,rf=(if S.bd true=.up then Rf.task else Rf.deed):=⟨_,rfl⟩
   have hat:atI [V.str "deed",V.str "task"] (if decide (V.str (S.bd true).key=V.str "up")=true then 1 else 0)=some (.str rf.key):=by
    rw[hrf]
    cases S.bd true<;>decide +kernel
   refine⟨l2,λdl hdl=>?_⟩
   have s1:=ah (o:=.lst [V.str "deed",V.str "task"]) hdl
   have a1:upd H dl (.lst [V.str "deed",V.str "task"]) dl=some (.lst [V.str "deed",V.str "task"]):=a8
   generalize upd H dl (.lst [V.str "deed",V.str "task"])=H1 at s1 a1 |-
   have Y1:=Y.same s1
   refine⟨_,rfl,f8 Y1.ob (dL (by decide +kernel)) ⟨y,q,S,true,rfl,Y1,rfl,.inr ⟨_,rfl,dl,_,_,_,rfl,rfl,SqL.of a1,hat,?_⟩⟩⟩
   have e9:(10:Int) ^ (9:Int).toNat=1000000000:=by decide
   have m1:=Int.emod_nonneg c (show (1000:Int)≠0 by decide)
   have m2:=Int.emod_nonneg c (show (10 ^ (40:Int).toNat:Int)≠0 by decide)
   refine⟨_,rfl,_,rfl,_,rfl,_,_,rfl,rfl,(show (0:Int) < 1000 from by decide),_,_,rfl,rfl,_,_,rfl,rfl,⟨by decide,by decide,by decide⟩,_,_,rfl,rfl,_,_,rfl,rfl,⟨by decide,by decide,by decide⟩,_,_,rfl,rfl,_,rfl,_,_,rfl,rfl,⟨by decide,by decide,by decide⟩,_,_,rfl,rfl,(show (0:Int) < 10 ^ (40:Int).toNat from by decide),_,_,rfl,rfl,(by show 5 <= sizeLine;decide),λnl hnl=>?_⟩
   obtain⟨ns,hns,nok⟩:∃ ns:List Int,[V.int (-1),V.int (-2 - c % 1000),V.int 9,V.int (10 ^ (9:Int).toNat+1),V.int (10 ^ (9:Int).toNat+2+c % 10 ^ (40:Int).toNat)]=ns.map V.int/\∀ nm∈ns,nm < 0\/9 <= nm:=⟨[-1,-2 - c % 1000,9,10 ^ (9:Int).toNat+1,10 ^ (9:Int).toNat+2+c % 10 ^ (40:Int).toNat],rfl,λnm h=>by
    rw[e9]at h
    rcases List.mem_cons.mp h with h|h
    . omega
    rcases List.mem_cons.mp h with h|h
    . omega
    rcases List.mem_cons.mp h with h|h
    . omega
    rcases List.mem_cons.mp h with h|h
    . omega
    have:=List.mem_singleton.mp h
    omega⟩
   rw[hns]
   have s2:=ah (o:=.lst (ns.map V.int)) hnl
   have a2:upd H1 nl (.lst (ns.map V.int)) nl=some (.lst (ns.map V.int)):=a8
   generalize upd H1 nl (.lst (ns.map V.int))=H2 at s2 a2 |-
   have e2:=s1.trans s2
   clear hns m1 m2 s1 s2 a1 hdl hnl Y1 hat
   refine⟨nl,rfl,⟨_,SqL.of a2⟩,?_⟩
   refine kY (K:=K) (a:=nl) (xs:=ns.map V.int) (λi σ H'=>(∃ v3,σ=[some (.ref y.y),some (.int c),some (.str rf.key),v3])/\bU H2 H')
    ⟨⟨_,rfl⟩,λ_ _ e=>e⟩ (λ_ _ _ _ ⟨_,z⟩=>SqL.of (z _ _ a2)) ?_ ?_
   . rintro i x σ H3 hi ⟨⟨v3,rfl⟩,e3⟩
     obtain⟨nm,hn,rfl⟩:∃ nm,nm∈ns/\x=.int nm:=by
      rw[List.getElem?_map]at hi
      cases e:ns[i]? with
     |none=>rw[e]at hi;cases hi
     |some nm=>rw[e]at hi;cases hi;exact⟨nm,List.mem_of_getElem? e,rfl⟩
     have hno:S.tk.contains nm=false:=by
      cases hh:S.tk.contains nm with
     |false=>rfl
     |true =>
       rw[List.contains_iff_mem]at hh
       have:=Rd.i.tkd.2 nm hh
       have:=nok nm hn
       omega
     refine⟨_,rfl,_,rfl,_,rfl,_,_,rfl,rfl,(show (0:Int) < 9 from by decide),_,_,rfl,rfl,l3,λt ht=>?_⟩
     have e4:=e2.trans (e3.trans (ah (o:=.tup [V.str "answer",.int nm,.int (c % 9 - 4)]) ht))
     have hc:(Dd.answer nm (c % 9 - 4)).chk q S=some rf:=by rw[hrf];exact zQ hno
     refine⟨y,q,S,L,.answer nm (c % 9 - 4),t,rf,rfl,⟨Y.same e4,Rd.ok,Rd.i,Rd.l⟩,a8,(show -1000000000 <= c % 9 - 4/\c % 9 - 4 <= 1000000000 by omega),hc,λr H5 e5 hr5=>?_⟩
     refine⟨r,_,_,_,rfl,rfl,SqT.of hr5,aY,_,rfl,rfl,_,rfl,cP (by rw[decide_eq_true rfl];exact λz=>by cases z) ?_⟩
     exact⟨⟨_,rfl⟩,e3.trans ((ah ht).trans e5)⟩
   . rintro σ H3 ⟨⟨v3,rfl⟩,e3⟩
     exact k H3 (e2.trans e3)
end
def zx (w:World) (ad:Ad):Sp:=λvs H Q _=>∃ (a:YA) (q:YP) (S:YS) (L:Nat),vs=[.ref a.y]/\Rdy w ad H a q S L/\L+40 < 90000/\∀ H',Q (.bl true) H'
theorem wf {q:YP}{S:YS}{b:Bool}:((Dd.lie b).run q S).2.bd b=.lies:=by
 show bt _ b Bd.lies b=.lies
 exact aS
theorem Al {q:YP}{S:YS}{b:Bool}:∃ k:Bool,((Dd.look b).run q S).1=.bool k/\((Dd.look b).run q S).2.bd b≠.lies/\(k=true->((Dd.look b).run q S).2.rs b≠[]):=by
 by_cases h:q.fk=true/\swT q S b=true
 . rw[show (Dd.look b).run q S=_ from if_pos h]
   refine⟨true,rfl,?_,λ_=>?_⟩
   . show bt S.bd b .up b≠_
     rw[aS];exact λz=>by cases z
   . show bt S.rs b (S.rs b++[_]) b≠[]
     rw[aS]
     exact λz=>by cases (List.append_eq_nil_iff.mp z).2
 . rw[show (Dd.look b).run q S=_ from if_neg h]
   refine⟨false,rfl,?_,λz=>by cases z⟩
   show bt S.bd b .asleep b≠_
   rw[aS];exact λz=>by cases z
section
variable {P:Program}{w:World}{K:PySem.W.Frag}{mg:Str->Option Value}{base:Heap}{a:Ad}{d:Fd}
theorem zF (G:Gs K mg a d):FnOk P w K mg base CX0 13 a.bR d.bR ["yard"] (zx w a):=by
 have cx_Yard_deed:FnOk P w K mg base (CXv P w) 10 _ _ _ _:=mV G
 have c_law_refused:FnOk P w K mg base CX0 12 _ _ _ _:=o5 G
 have c_Yard_sleeper:FnOk P w K mg base CX0 1 _ _ _ _:=jo G
 have c_Yard_store:FnOk P w K mg base CX0 1 _ _ _ _:=xb G
 have c_Store_waits:FnOk P w K mg base CX0 1 _ _ _ _:=(mz G).imp λvs H Q E=>vc
 refine G.iN.ok eQ (λvs H Q E h=>?_) (λcdv A' outer s' H vs Q E hr h=>?_)
 . obtain⟨y,q,S,L,rfl,_⟩:=h
   rfl
 . obtain⟨y,q,S,L,rfl,Rd,hL,k⟩:=h
   have hu:=eC hr
   refine⟨_,(@ac _ _ _ _ _ (kN PassesOwn.never rfl (xw (@av _ _ _ _ _ (@a6 _ _ _ _ _ ae (@a6 _ _ _ _ _ ae a9 (by rfl)) (by rfl)))) (cZ (i:=1) eQ.nd rfl (Or.inl rfl)) (@ac _ _ _ _ _ (qe PassesOwn.never (aq (vm hr.units) (au (aX (pv 0) G.al G.qI c_Yard_store (hr.mono (by decide)) G.sZ .nil ax) G.aF G.de c_Store_waits (hr.mono (by decide)) G.dM .nil ax (@a6 _ _ _ _ _ (pv 1) a9 (by rfl))) (@bc _ _ _ _ a9) (az _)) (@af _ _ _ (@aI _ _ _ _ (au (pv 0) G.al G.bI cx_Yard_deed (hr.mono (by decide)) G.c7 .nil rE (@a6 _ _ _ _ _ (@av _ _ _ _ _ (@a6 _ _ _ _ _ ai (@a6 _ _ _ _ _ (pv 1) a9 (by rfl)) (by rfl))) a9 (by rfl))) (by rfl))))
    (@ac _ _ _ _ _ (aM (eE (cm (aP c_law_refused (hr.mono (by decide)) (by rfl) G.fN G.en.kp G.fM .nil ax (@a6 _ _ _ _ _ (pv 0) (@a6 _ _ _ _ _ (@av _ _ _ _ _ (@a6 _ _ _ _ _ ai (@a6 _ _ _ _ _ (pv 1) a9 (by rfl)) (by rfl))) a9 (by rfl)) (by rfl))))) (@af _ _ _ (@ar _ _ _ _ cn)) ao)
    (@af _ _ _ (aM (aq bN (au (pv 0) G.al G.bW c_Yard_sleeper (hr.mono (by decide)) G.cg .nil ax (@a6 _ _ _ _ _ (pv 1) a9 (by rfl))) ai (az _)) (@ac _ _ _ _ _ (aM (eE (cm (aP c_law_refused (hr.mono (by decide)) (by rfl) G.fN G.en.kp G.fM .nil ax (@a6 _ _ _ _ _ (pv 0) (@a6 _ _ _ _ _ (@av _ _ _ _ _ (@a6 _ _ _ _ _ ai (@a6 _ _ _ _ _ (pv 1) a9 (by rfl)) (by rfl))) a9 (by rfl)) (by rfl))))) (@af _ _ _ (@ar _ _ _ _ cn)) ao)
    (@ac _ _ _ _ _ (@aI _ _ _ _ (au (pv 0) G.al G.bI cx_Yard_deed (hr.mono (by decide)) G.c7 .nil rE (@a6 _ _ _ _ _ (@av _ _ _ _ _ (@a6 _ _ _ _ _ ai (@a6 _ _ _ _ _ (pv 1) a9 (by rfl)) (by rfl))) a9 (by rfl))) (by rfl))
    (@ac _ _ _ _ _ (@aB _ _ 2 _ _ _ _ eQ.nd rfl (Or.inl rfl) (au (pv 0) G.al G.bI cx_Yard_deed (hr.mono (by decide)) G.c7 .nil rE (@a6 _ _ _ _ _ (@av _ _ _ _ _ (@a6 _ _ _ _ _ ai (@a6 _ _ _ _ _ (pv 1) a9 (by rfl)) (by rfl))) a9 (by rfl))) (by rfl) (by first|exact .inl rfl|exact .inr rfl|assumption))
    (@ac _ _ _ _ _ (aM (eE (cm (aP c_law_refused (hr.mono (by decide)) (by rfl) G.fN G.en.kp G.fM .nil ax (@a6 _ _ _ _ _ (pv 0) (@a6 _ _ _ _ _ (@av _ _ _ _ _ (@a6 _ _ _ _ _ ai (@a6 _ _ _ _ _ (pv 1) a9 (by rfl)) (by rfl))) a9 (by rfl)) (by rfl))))) (@af _ _ _ (@ar _ _ _ _ cn)) ao)
    (@af _ _ _ (aM (cm (pv 2)) (@af _ _ _ (@aI _ _ _ _ (au (pv 0) G.al G.bI cx_Yard_deed (hr.mono (by decide)) G.c7 .nil rE (@a6 _ _ _ _ _ (@av _ _ _ _ _ (@a6 _ _ _ _ _ ai (@a6 _ _ _ _ _ (pv 1) a9 (by rfl)) (by rfl))) a9 (by rfl))) (by rfl))) ao)))))) ao)))))
    (@af _ _ _ (@ar _ _ _ _ cn))),?_⟩
   refine⟨l2,λtw htw=>?_⟩
   have s1:=ah (o:=.tup [V.int 0,V.int 1]) htw
   have a1:upd H tw (.tup [V.int 0,V.int 1]) tw=some (.tup [V.int 0,V.int 1]):=a8
   generalize upd H tw (.tup [V.int 0,V.int 1])=H1 at s1 a1 |-
   have Y1:=Rd.y.same s1
   refine⟨tw,rfl,⟨_,SqT.of a1⟩,?_⟩
   refine yK (K:=K) (a:=tw) (xs:=[V.int 0,V.int 1]) (λi σ H'=>∃ T:YS,(∃ v1 v2,σ=[some (.ref y.y),v1,v2])/\Yn w a.bg a.d4 a.b7 a.bX a.aH H' y q T/\YI q T (L+10 * i)/\H' tw=some (.tup [V.int 0,V.int 1]))
    ⟨S,⟨_,_,rfl⟩,Y1,Rd.i,a1⟩ (λ_ _ _ _ ⟨_,_,_,_,z⟩=>SqT.of z) ?_ ?_
   . clear Y1 a1 s1 H1 htw
     rintro i x σ H1 hi ⟨T0,⟨v1,v2,rfl⟩,Y1,I1,htw⟩
     have hi2:i < 2:=(List.getElem?_eq_some_iff.mp hi).1
     obtain⟨b,rfl⟩:∃ b,x=.int (sdI b):=by
      match i,hi with
     |0,hi=>cases hi;exact⟨false,rfl⟩
     |1,hi=>cases hi;exact⟨true,rfl⟩
     |_+2,hi=>cases hi
     clear hi
     obtain⟨M,hM⟩:∃ M,M=L+10 * i:=⟨_,rfl⟩
     rw[<-hM]at I1
     have tup:∀ {H2 H3:Hp} {T:YS},Yn w a.bg a.d4 a.b7 a.bX a.aH H2 y q T->KO y.own H2 H3->H2 tw=some (.tup [V.int 0,V.int 1])->H3 tw=some (.tup [V.int 0,V.int 1]):=λY ko e=>o8 ko Y.noT _ _ e
     refine⟨λm σ H'=>σ=[some (.ref y.y),some (.int (sdI b)),v2]/\∃ T:YS,m=(T.rs b).length/\Yn w a.bg a.d4 a.b7 a.bX a.aH H' y q T/\YI q T M/\H' tw=some (.tup [V.int 0,V.int 1]),⟨_,rfl,T0,rfl,Y1,I1,htw⟩,?_⟩
     clear Y1 I1 htw T0 H1
     rintro m σ H1 ⟨rfl,T,rfl,Y,I,htw⟩
     refine⟨_,rfl,f8 Y.ob (dL (by decide +kernel)) ⟨y,q,T,rfl,Y,f8 Y.x.st.ob (cw (by decide +kernel) (by decide +kernel)) ⟨_,rfl,y.sa,T.m,T.rs,b,rfl,Y.x.st,λq2 r2 hq2 f2=>⟨uc,λq3 hq3=>?_⟩⟩⟩⟩
     have e2:=(ah (o:=.lst r2) hq2).trans (ah (o:=.lst []) hq3)
     refine⟨q2,q3,r2,rfl,rfl,SqL.of ((ah hq3) _ _ a8),SqL.of a8,_,rfl,?_⟩
     have hl:r2.length=(T.rs b).length:=by have:=lj f2;rw[this];exact List.length_map ..
     have Y2:=Y.same e2
     have w2:=e2 _ _ htw
     generalize upd (upd H1 q2 (.lst r2)) q3 (.lst [])=H2 at Y2 w2 |-
     clear f2 e2 Y htw
     cases hb:T.rs b with
    |cons x bS =>
      rw[hb]at hl
      have hne:(!r2.isEmpty)=true:=by cases r2 with
      |nil=>cases hl
      |cons _ _=>rfl
      refine jv (by rw[if_pos rfl];exact hne) ?_
      refine⟨λσ' H'=>σ'=[some (.ref y.y),some (.int (sdI b)),v2]/\∃ T':YS,(T'.rs b).length < (x :: bS).length/\Yn w a.bg a.d4 a.b7 a.bX a.aH H' y q T'/\YI q T' M/\H' tw=some (.tup [V.int 0,V.int 1]),λσ' H' ⟨e,T',h1,h2⟩=>⟨_,h1,e,T',rfl,h2⟩,?_⟩
      refine⟨_,rfl,f8 Y2.ob (dL (by decide +kernel)) ⟨_,rfl,l2,λt ht=>?_⟩⟩
      have e3:=ah (o:=.tup [V.str "drain",.int (sdI b)]) ht
      refine⟨y,q,T,M,.drain b,t,rfl,⟨Y2.same e3,Rd.ok,I,by omega⟩,a8,trivial,?_⟩
      obtain⟨hc,hrun⟩:=xK (q:=q) hb
      rw[hc,hrun]
      intro v H4 Y4 i4 _ ko4
      refine⟨rfl,_,?_,Y4,⟨I.und,I.tkd,λc=>?_,I.hl⟩,tup (Y2.same e3) ko4 (e3 _ _ w2)⟩
      . show (bt T.rs b bS b).length < _
        rw[aS];exact Nat.lt_succ_self _
      . show (bt T.rs b bS c).length <= _
        by_cases e:c=b
        . subst e
          rw[aS]
          have:=I.len c
          rw[hb]at this
          exact Nat.le_of_succ_le this
        . rw[ff e];exact I.len c
    |nil =>
      rw[hb]at hl
      rw[List.eq_nil_of_length_eq_zero hl]
      refine cP (by decide) ?_
      clear hl hq2 hq3
      refine⟨_,rfl,_,rfl,l2,λt ht=>?_⟩
      have e3:=ah (o:=.tup [V.str "drain",.int (sdI b)]) ht
      refine⟨y,q,T,M,_,rfl,⟨Y2.same e3,Rd.ok,I,by omega⟩,.inr ⟨.drain b,t,rfl,a8,trivial,if_pos hb⟩,λH4 e4=>⟨_,rfl,fw ?_⟩⟩
      have Y4:=Y2.same (e3.trans e4)
      have w4:=(e3.trans e4) _ _ w2
      clear Y2 w2 e3 e4 ht
      refine⟨_,rfl,f8 Y4.ob (dL (by decide +kernel)) ⟨_,rfl,y,q,T,b,rfl,Y4,rfl,_,rfl,?_⟩⟩
      by_cases hup:T.bd b=.up
      . refine jv (by rw[hup];decide +kernel) ?_
        refine⟨_,rfl,_,rfl,l2,λt ht=>?_⟩
        have e3:=ah (o:=.tup [V.str "look",.int (sdI b)]) ht
        refine⟨y,q,T,M,_,rfl,⟨Y4.same e3,Rd.ok,I,by omega⟩,.inr ⟨.look b,t,rfl,a8,trivial,if_neg (by rw[hup];exact λz=>by cases z)⟩,λH5 e5=>⟨_,rfl,fw ?_⟩⟩
        have Y5:=Y4.same (e3.trans e5)
        have w5:=(e3.trans e5) _ _ w4
        clear Y4 w4 e3 e5 ht
        refine⟨_,rfl,f8 Y5.ob (dL (by decide +kernel)) ⟨_,rfl,l2,λt ht=>?_⟩⟩
        have e3:=ah (o:=.tup [V.str "lie",.int (sdI b)]) ht
        refine⟨y,q,T,M,.lie b,t,rfl,⟨Y5.same e3,Rd.ok,I,by omega⟩,a8,trivial,?_⟩
        rw[show (Dd.lie b).chk q T=none from if_pos hup]
        intro v H6 Y6 I6 _ ko6
        have w6:=tup (Y5.same e3) ko6 (e3 _ _ w5)
        have hli:=wf (q:=q) (S:=T) (b:=b)
        generalize ((Dd.lie b).run q T).2=T2 at Y6 I6 hli
        clear Y5 w5 e3 ko6 ht
        refine⟨_,rfl,f8 Y6.ob (dL (by decide +kernel)) ⟨_,rfl,l2,λt ht=>?_⟩⟩
        have e3:=ah (o:=.tup [V.str "look",.int (sdI b)]) ht
        refine⟨y,q,T2,M+2,.look b,t,rfl,⟨Y6.same e3,Rd.ok,I6,by omega⟩,a8,trivial,?_⟩
        rw[show (Dd.look b).chk q T2=none from if_pos hli]
        intro v7 H7 Y7 I7 dv7 ko7
        have w7:=tup (Y6.same e3) ko7 (e3 _ _ w6)
        obtain⟨kk,hk,nl,hk2⟩:=Al (q:=q) (S:=T2) (b:=b)
        rw[hk]at dv7
        cases (show v7=.bl kk from dv7)
        generalize ((Dd.look b).run q T2).2=T3 at Y7 I7 nl hk2
        clear Y6 w6 e3 ko7 ht hk
        refine⟨_,rfl,_,rfl,l2,λt ht=>?_⟩
        have e3:=ah (o:=.tup [V.str "look",.int (sdI b)]) ht
        refine⟨y,q,T3,M+4,_,rfl,⟨Y7.same e3,Rd.ok,I7,by omega⟩,.inr ⟨.look b,t,rfl,a8,trivial,if_neg nl⟩,λH8 e8=>⟨_,rfl,fw ?_⟩⟩
        have Y8:=Y7.same (e3.trans e8)
        have w8:=(e3.trans e8) _ _ w7
        clear Y7 w7 e3 e8 ht
        refine⟨_,rfl,_,rfl,?_⟩
        cases kk with
       |false=>exact fw ⟨T3,⟨_,_,rfl⟩,Y8,I7.mono (by omega),w8⟩
       |true =>
         refine iT ?_
         refine⟨_,rfl,f8 Y8.ob (dL (by decide +kernel)) ⟨_,rfl,l2,λt ht=>?_⟩⟩
         have e3:=ah (o:=.tup [V.str "drain",.int (sdI b)]) ht
         refine⟨y,q,T3,M+4,.drain b,t,rfl,⟨Y8.same e3,Rd.ok,I7,by omega⟩,a8,trivial,?_⟩
         rw[show (Dd.drain b).chk q T3=none from if_neg (hk2 rfl)]
         intro v9 H9 Y9 I9 _ ko9
         exact⟨_,⟨_,_,rfl⟩,Y9,I9.mono (by omega),tup (Y8.same e3) ko9 (e3 _ _ w8)⟩
      . refine cP (by rw[decide_eq_true_eq];exact λz=>hup (sy (c:=.up) |>.mp z)) ?_
        exact⟨T,⟨_,_,rfl⟩,Y4,I.mono (by omega),w4⟩
   . rintro σ H3 ⟨T,⟨v1,v2,rfl⟩,_⟩
     exact k H3
end
def va (K:PySem.W.Frag):Sp:=λvs H Q _=>∃ (b:Addr) (ns:List Int),vs=[.ref b]/\SqL K H b (ns.map V.int)/\ns.length <= 63/\∀ H',Q (.bl true) H'
theorem FG {s R:Int}{n:Nat}{fs:List Str}(m:MkOk s R n fs):(ED s R n fs).Ok:=by
 refine⟨⟨by have:=m.s1;show 0 < s;omega,m.s8,?_⟩,by have:=m.n9;show n <= 9;omega⟩
 show 0 < s * (if fs.contains "round" then 1 else R)
 have:=m.s1;have:=m.R2
 split<;>exact Int.mul_pos (by omega) (by omega)
def EM (a:YA) (tk c:Addr):Prop:=a.own c\/c=tk
def Scr (K:PySem.W.Frag) (H:Hp) (own:Addr->Prop) (l:Addr) (xs:List V):Prop:=SqL K H l xs/\(own l->∀ H',SqL K H' l xs)
theorem Scr.same {K:PySem.W.Frag}{H H':Hp}{own:Addr->Prop}{l:Addr}{xs:List V}(h:Scr K H own l xs) (e:bU H H'):Scr K H' own l xs:=⟨e.seq h.1,h.2⟩
theorem Scr.ko {K:PySem.W.Frag}{H H':Hp}{own:Addr->Prop}{l:Addr}{xs:List V}(h:Scr K H own l xs) (e:KO own H H'):Scr K H' own l xs:=by
 refine⟨?_,h.2⟩
 by_cases z:own l
 . exact h.2 z H'
 . rcases h.1 with y|y
   . rcases y with y|⟨o,y⟩
     . exact .inl (.inl (e _ _ z y))
     . exact .inl (.inr ⟨o,e _ _ z y⟩)
   . exact .inr y
theorem Scr.make {K:PySem.W.Frag}{H H0:Hp}{own:Addr->Prop}{l:Addr}{xs:List V}(h0:SqL K H0 l xs) (h:SqL K H l xs) (f:∀ c,own c->H0 c=none):Scr K H own l xs:=by
 refine⟨h,λz H'=>?_⟩
 have:=f l z
 rcases h0 with y|y
 . rcases y with y|⟨o,y⟩
   . rw[this]at y;cases y
   . rw[this]at y;cases y
 . exact .inr y
structure W22 (w:World) (ad:Ad) (K:PySem.W.Frag) (l:Addr) (ns:List Int) (ft:Addr) (fs:List Str) (H:Hp) (a:YA) (q:YP) (S:YS) (L:Nat) (tk:Addr) (ts:List Int):Prop where
 y:Yn w ad.bg ad.d4 ad.b7 ad.bX ad.aH H a q S
 iy:YI q S L
 fy:FlL S.hs
 ht:H tk=some (.lst (ts.map V.int))
 tl:ts.length <= L
 n1:¬ a.own tk
 sc:Scr K H (EM a tk) l (ns.map V.int)
 ft:H ft=some (.tup (fs.map V.str))
section
variable {w:World}{ad:Ad}{K:PySem.W.Frag}{l:Addr}{ns:List Int}{ft:Addr}{fs:List Str}{H H':Hp}{a:YA}{q:YP}{S S':YS}{L L':Nat}{tk:Addr}{ts ts':List Int}
theorem W22.same (W:W22 w ad K l ns ft fs H a q S L tk ts) (e:bU H H'):W22 w ad K l ns ft fs H' a q S L tk ts:=⟨W.y.same e,W.iy,W.fy,e _ _ W.ht,W.tl,W.n1,W.sc.same e,e _ _ W.ft⟩
theorem W22.stepA (W:W22 w ad K l ns ft fs H a q S L tk ts) (ko:KO a.own H H') (Y':Yn w ad.bg ad.d4 ad.b7 ad.bX ad.aH H' a q S') (i':YI q S' L') (f':FlL S'.hs) (h:L <= L'):W22 w ad K l ns ft fs H' a q S' L' tk ts :=
 ⟨Y',i',f',ko _ _ W.n1 W.ht,Nat.le_trans W.tl h,W.n1,W.sc.ko (ko.mono λ_=>.inl),o8 ko W.y.noT _ _ W.ft⟩
theorem W22.stepT (W:W22 w ad K l ns ft fs H a q S L tk ts) (k:Kp [tk] H H') (h:H' tk=some (.lst (ts'.map V.int))) (tl':ts'.length <= L):W22 w ad K l ns ft fs H' a q S L tk ts':=by
 have nt:∀ c,c∈[tk]->∀ vs,H c≠some (.tup vs):=λc hc vs e=>by rw[List.mem_singleton.mp hc,W.ht]at e;cases e
 have ko:KO (·∈[tk]) H H':=λc o n e=>k c o n e
 exact⟨W.y.ko ko (λc h1=>by rw[List.mem_singleton.mp h1];exact W.n1) nt,W.iy,W.fy,h,tl',W.n1,W.sc.ko (ko.mono λ_ z=>.inr (List.mem_singleton.mp z)),o8 ko nt _ _ W.ft⟩
theorem W22.fresh (W:W22 w ad K l ns ft fs H a q S L tk ts) {c:Addr}(h:H c=none):¬ EM a tk c:=λz=>by
 rcases z with z|z
 . exact W.y.fresh h z
 . rw[z,W.ht]at h;cases h
end
theorem zG (ns:List Int) (lo hi:Option Int):∃ zs:List Int,lS (ns.map V.int) lo hi=zs.map V.int:=⟨_,by unfold lS;rw[<-List.map_drop,<-List.map_take]⟩
theorem CC {l:List V}{c:Int}(h:l≠[]):∃ v,v∈l/\atI l (c % (l.length:Int))=some v:=by
 have h0:0 < l.length:=List.length_pos_iff.mpr h
 obtain⟨j,hj⟩:=Int.eq_ofNat_of_zero_le (Int.emod_nonneg c (show (l.length:Int)≠0 by omega))
 have h1:=Int.emod_lt_of_pos c (show (0:Int) < l.length by omega)
 have h2:j < l.length:=by omega
 exact⟨l[j],List.getElem_mem h2,by rw[hj];exact z9 (List.getElem?_eq_getElem h2)⟩
section
variable {P:Program}{w:World}{K:PySem.W.Frag}{mg:Str->Option Value}{base:Heap}{a:Ad}{d:Fd}
theorem Ex (G:Gs K mg a d):FnOk P w K mg base CX0 17 a.law d.law ["script"] (va K):=by
 have c_law_cell_at:FnOk P w K mg base CX0 1 _ _ _ _:=yn G
 have c_law_make:FnOk P w K mg base CX0 1 _ _ _ _:=D4 G
 have c_law_codes:FnOk P w K mg base CX0 1 _ _ _ _:=AT G
 have c_law_deed:FnOk P w K mg base CX0 2 _ _ _ _:=zI G
 have c_law_tried:FnOk P w K mg base CX0 11 _ _ _ _:=yS G
 have c_law_after:FnOk P w K mg base CX0 1 _ _ _ _:=xf G
 have c_law_laid_down:FnOk P w K mg base CX0 11 _ _ _ _:=zY G
 have c_law_seen:FnOk P w K mg base CX0 5 _ _ _ _:=AM G
 have c_law_no_tasks:FnOk P w K mg base CX0 12 _ _ _ _:=tE G
 have c_law_words:FnOk P w K mg base CX0 1 _ _ _ _:=zm G
 have c_law_not_now:FnOk P w K mg base CX0 1 _ _ _ _:=vH G
 have c_law_refused:FnOk P w K mg base CX0 12 _ _ _ _:=o5 G
 have c_law_then_taken:FnOk P w K mg base CX0 13 _ _ _ _:=zF G
 have c_Yard__init:FnOk P w K mg base CX0 6 _ _ _ _:=Ag G
 refine G.EY.ok gO (λvs H Q E h=>?_) (λcdv A' outer s' H vs Q E hr h=>?_)
 . obtain⟨l,ns,rfl,_⟩:=h
   rfl
 . obtain⟨l,ns,rfl,hS,hlen,k⟩:=h
   have hu:=eC hr
   refine⟨_,(@ac _ _ _ _ _ (@lP _ _ _ _ _ _ (aP c_law_make (hr.mono (by decide)) (by rfl) G.vZ G.pK.kp G.wE .nil ax (@a6 _ _ _ _ _ (aP c_law_cell_at (hr.mono (by decide)) (by rfl) G.fJ G.ez.kp G.fH .nil ax (@a6 _ _ _ _ _ (pv 0) (@a6 _ _ _ _ _ ae a9 (by rfl)) (by rfl))) a9 (by rfl))) (BJ rfl (jn (cZ (i:=1) gO.nd rfl (Or.inl rfl)) (jn (cZ (i:=2) gO.nd rfl (Or.inl rfl)) (jn (cZ (i:=3) gO.nd rfl (Or.inl rfl)) (jn (cZ (i:=4) gO.nd rfl (Or.inl rfl)) xQ))))) (by rfl) (by rfl) (by rfl))
    (@ac _ _ _ _ _ (@aB _ _ 5 _ _ _ _ gO.nd rfl (Or.inl rfl) (jO G.Eg c_Yard__init (hr.mono (by decide)) (by rfl) G.Ev G.sL .nil ax (@a6 _ _ _ _ _ (pv 1) (@a6 _ _ _ _ _ (pv 2) (@a6 _ _ _ _ _ (pv 3) (@a6 _ _ _ _ _ (pv 4) a9 (by rfl)) (by rfl)) (by rfl)) (by rfl))) (by rfl) (by first|exact .inl rfl|exact .inr rfl|assumption))
    (@ac _ _ _ _ _ (@aB _ _ 6 _ _ _ _ gO.nd rfl (Or.inl rfl) (@bc _ _ _ _ a9) (by rfl) (by first|exact .inl rfl|exact .inr rfl|assumption))
    (@ac _ _ _ _ _ (kN PassesOwn.never rfl (l9 (aP c_law_codes (hr.mono (by decide)) (by rfl) G.uk G.nM.kp G.tV .nil ax (@a6 _ _ _ _ _ (iw mL (pv 0) (iA ae) nG) (@a6 _ _ _ _ _ ae a9 (by rfl)) (by rfl)))) (cZ (i:=7) gO.nd rfl (Or.inl rfl)) (@ac _ _ _ _ _ (@aB _ _ 8 _ _ _ _ gO.nd rfl (Or.inl rfl) (aP c_law_deed (hr.mono (by decide)) (by rfl) G.wG G.pL.kp G.vP .nil ax (@a6 _ _ _ _ _ (pv 7) (@a6 _ _ _ _ _ (pv 6) a9 (by rfl)) (by rfl))) (by rfl) (by first|exact .inl rfl|exact .inr rfl|assumption))
    (@af _ _ _ (@aI _ _ _ _ (aP c_law_after (hr.mono (by decide)) (by rfl) G.tL G.mM.kp G.tW .nil ax (@a6 _ _ _ _ _ (pv 6) (@a6 _ _ _ _ _ (pv 8) (@a6 _ _ _ _ _ (aP c_law_tried (hr.mono (by decide)) (by rfl) G.nR G.gY.kp G.mZ .nil ax (@a6 _ _ _ _ _ (pv 5) (@a6 _ _ _ _ _ (pv 8) a9 (by rfl)) (by rfl))) a9 (by rfl)) (by rfl)) (by rfl))) (by rfl)))))
    (@ac _ _ _ _ _ (@aI _ _ _ _ (aP c_law_laid_down (hr.mono (by decide)) (by rfl) G.jb G.gf.kp G.j0 .nil ax (@a6 _ _ _ _ _ (pv 5) (@a6 _ _ _ _ _ ae (@a6 _ _ _ _ _ (aP c_law_cell_at (hr.mono (by decide)) (by rfl) G.fJ G.ez.kp G.fH .nil ax (@a6 _ _ _ _ _ (pv 0) (@a6 _ _ _ _ _ ae a9 (by rfl)) (by rfl))) (@a6 _ _ _ _ _ (pv 4) a9 (by rfl)) (by rfl)) (by rfl)) (by rfl))) (by rfl))
    (@ac _ _ _ _ _ (@aI _ _ _ _ (aP c_law_laid_down (hr.mono (by decide)) (by rfl) G.jb G.gf.kp G.j0 .nil ax (@a6 _ _ _ _ _ (pv 5) (@a6 _ _ _ _ _ ae (@a6 _ _ _ _ _ (@aA _ _ _ _ _ _ _ _ bB (aP c_law_cell_at (hr.mono (by decide)) (by rfl) G.fJ G.ez.kp G.fH .nil ax (@a6 _ _ _ _ _ (pv 0) (@a6 _ _ _ _ _ ae a9 (by rfl)) (by rfl))) ae) (@a6 _ _ _ _ _ (pv 4) a9 (by rfl)) (by rfl)) (by rfl)) (by rfl))) (by rfl))
    (@ac _ _ _ _ _ (@aB _ _ 9 _ _ _ _ gO.nd rfl (Or.inl rfl) (aP c_law_seen (hr.mono (by decide)) (by rfl) G.lL G.jp.kp G.li .nil ax (@a6 _ _ _ _ _ (pv 5) a9 (by rfl))) (by rfl) (by first|exact .inl rfl|exact .inr rfl|assumption))
    (@ac _ _ _ _ _ (aM ((qr (eE (cm (aP c_law_no_tasks (hr.mono (by decide)) (by rfl) G.oJ G.jz.kp G.oU .nil ax (@a6 _ _ _ _ _ (pv 5) (@a6 _ _ _ _ _ (aP c_law_cell_at (hr.mono (by decide)) (by rfl) G.fJ G.ez.kp G.fH .nil ax (@a6 _ _ _ _ _ (pv 0) (@a6 _ _ _ _ _ ae a9 (by rfl)) (by rfl))) a9 (by rfl)) (by rfl))))) (mR (aq (vp hr.units) (aP c_law_seen (hr.mono (by decide)) (by rfl) G.lL G.jp.kp G.li .nil ax (@a6 _ _ _ _ _ (pv 5) a9 (by rfl))) (pv 9) (az _))))).pt (@af _ _ _ (@ar _ _ _ _ cn)) ao)
    (@ac _ _ _ _ _ (kN PassesOwn.never rfl (l9 (iw mL (pv 0) (iA ae) (iA ae))) (cZ (i:=10) gO.nd rfl (Or.inl rfl)) (@ac _ _ _ _ _ (@aB _ _ 11 _ _ _ _ gO.nd rfl (Or.inl rfl) (aP c_law_words (hr.mono (by decide)) (by rfl) G.ua G.mX.kp G.um .nil ax (@a6 _ _ _ _ _ (@aA _ _ _ _ _ _ _ _ bB (pv 10) ae) a9 (by rfl))) (by rfl) (by first|exact .inl rfl|exact .inr rfl|assumption))
    (@gh _ _ _ _ _ (aM (aq bN (@aA _ _ _ _ _ _ _ _ bh (pv 10) ae) ae (az _)) (@af _ _ _ (@aB _ _ 11 _ _ _ _ gO.nd rfl (Or.inl rfl) (@aA _ _ _ _ _ _ _ _ jx (iw mL (pv 11) nG (iA ae)) (aP c_law_not_now (hr.mono (by decide)) (by rfl) G.qN G.kO.kp G.qB .nil ax (@a6 _ _ _ _ _ (iw mL (pv 9) (iA ae) (iA ae)) (@a6 _ _ _ _ _ (@aA _ _ _ _ _ _ _ _ bB (pv 10) ae) a9 (by rfl)) (by rfl)))) (by rfl) (by first|exact .inl rfl|exact .inr rfl|assumption))) ao)
    (@af _ _ _ (aM ((qr (eE (cm (aP c_law_refused (hr.mono (by decide)) (by rfl) G.fN G.en.kp G.fM .nil ax (@a6 _ _ _ _ _ (pv 5) (@a6 _ _ _ _ _ (@aK _ _ _ _ _ _ _ bz (pv 11) (@aA _ _ _ _ _ _ _ _ bh (@aA _ _ _ _ _ _ _ _ bB (pv 10) ae) (aZ bH (by rfl) G.qk kK (@a6 _ _ _ _ _ (pv 11) a9 (by rfl)))) (λ_ _=>rfl)) a9 (by rfl)) (by rfl))))) (mR (aq (vp hr.units) (aP c_law_seen (hr.mono (by decide)) (by rfl) G.lL G.jp.kp G.li .nil ax (@a6 _ _ _ _ _ (pv 5) a9 (by rfl))) (pv 9) (az _))))).pt (@af _ _ _ (@ar _ _ _ _ cn)) ao)))))
    (@af _ _ _ (@ar _ _ _ _ (aP c_law_then_taken (hr.mono (by decide)) (by rfl) G.mh G.iN.kp G.mn .nil ax (@a6 _ _ _ _ _ (pv 5) a9 (by rfl)))))))))))))),?_⟩
   refine⟨_,rfl,l,ns,0,rfl,hS,_,rfl,λt0 ft s R n0 fs H1 mk e1 _ ht0 hft=>?_⟩
   obtain⟨n,rfl⟩:=Int.eq_ofNat_of_zero_le (show 0 <= n0 by have:=mk.n1;omega)
   have qok:=FG mk
   refine⟨t0,_,rfl,SqT.of ht0,rfl,_,_,rfl,_,_,rfl,_,_,rfl,_,_,rfl,rfl,?_⟩
   refine⟨_,rfl,_,rfl,_,rfl,_,rfl,λy dy ny ndy nedy=>?_⟩
   refine⟨y,dy,ft,s,R,n,fs,rfl,a8,by rw[ag (aj hft ny),ag (aj hft ndy)];exact hft,λa1 H2 ha fa Y2 kp2=>⟨rfl,?_⟩⟩
   have e2:=mD ny ndy kp2
   have fr:∀ c,a1.own c->H1 c=none:=λc hc=>by
    by_cases zz:c=y
    . rw[zz];exact ny
    . exact(up1 (up1 (fa c hc zz)).2).2
   refine⟨uc,λtk htk=>?_⟩
   have f1:=ah (o:=.lst []) htk
   have fr2:∀ c,EM a1 tk c->H1 c=none:=λc hc=>by
    rcases hc with z|z
    . exact fr c z
    . rw[z]
      cases hh:H1 tk with
     |none=>rfl
     |some o=>rw[e2 _ _ hh]at htk;cases htk
   have W:W22 w a K l ns ft fs (upd H2 tk (.lst [])) a1 (ED s R n fs) YS.zero 0 tk []:=⟨Y2.same f1,YI.zero _,FlL.nil,a8,Nat.le_refl _,Y2.fresh htk,Scr.make (e1.seq hS) ((e1.trans (e2.trans f1)).seq hS) fr2,f1 _ _ (e2 _ _ hft)⟩
   subst ha
   generalize upd H2 tk (.lst [])=H4 at W |-
   clear e1 e2 hft kp2 fa ht0 ny ndy nedy fr fr2 f1 htk Y2 hS
   generalize ED s R n fs=q at *
   refine⟨_,rfl,_,rfl,l,_,rfl,W.sc.1,λp1 hp1=>?_⟩
   have e5:=ah (o:=.lst (lS (ns.map V.int) (some 2) none)) hp1
   have v5:upd H4 p1 (.lst (lS (ns.map V.int) (some 2) none)) p1=some (.lst ((ns.drop 2).map V.int)):=by rw[a8,show (some (2:Int))=some ((2:Nat):Int) from rfl,lJ,List.map_drop]
   generalize upd H4 p1 (.lst (lS (ns.map V.int) (some 2) none))=H5 at e5 v5 |-
   refine⟨p1,ns.drop 2,30,rfl,v5,by rw[List.length_drop];omega,λp cs H6 e6 np hcs cl cok=>⟨p,rfl,⟨_,SqL.of hcs⟩,?_⟩⟩
   have nbp:=(W.same e5).fresh np
   have W6:=(W.same e5).same e6
   clear W e5 e6 v5 hp1 np
   refine kY (K:=K) (a:=p) (xs:=cs.map V.int) (λi σ H'=>∃ (S:YS) (ts:List Int),(∃ v7 v8,σ=[some (.ref l),some (.int s),some (.int R),some (.int n),some (.ref ft),some (.ref a1.y),some (.ref tk),v7,v8,none,none,none])/\W22 w a K l ns ft fs H' a1 q S (2 * i) tk ts/\H' p=some (.lst (cs.map V.int)))
    ⟨_,_,⟨_,_,rfl⟩,W6,hcs⟩ (λ_ _ _ _ ⟨_,_,_,_,z⟩=>SqL.of z) ?_ ?_
   . clear W6 hcs
     rintro i x σ H7 hi ⟨S,ts,⟨v7,v8,rfl⟩,W,hcs⟩
     obtain⟨c,hc,rfl⟩:∃ c,c∈cs/\x=.int c:=by
      rw[List.getElem?_map]at hi
      cases e:cs[i]? with
     |none=>rw[e]at hi;cases hi
     |some c=>rw[e]at hi;cases hi;exact⟨c,List.mem_of_getElem? e,rfl⟩
     have hi90:i < 30:=by have:=(List.getElem?_eq_some_iff.mp hi).1;rw[List.length_map]at this;omega
     obtain⟨c0,c1⟩:=cok c hc
     clear hi hc
     have tl0:=W.tl
     refine⟨_,rfl,_,rfl,c,tk,ts,rfl,c0,c1,W.ht,λx t H8 xo nt ht8 e8=>?_⟩
     have W8:=W.same e8
     have hcs8:=e8 _ _ hcs
     clear W hcs e8 nt
     refine⟨_,rfl,_,rfl,_,rfl,_,rfl,a1,q,S,2 * i,x,t,rfl,⟨W8.y,qok,W8.iy,by omega⟩,ht8,xo,λv r H10 Y10 i10 dv10 _ hr10 ko10=>?_⟩
     have fl10:FlL (x.out q S).2.2.hs:=by
      rw[yp]
      exact W8.fy.app (Cr x)
     have W10:=W8.stepA ko10 Y10 i10 fl10 (by omega)
     have ht10:=o8 ko10 W8.y.noT _ _ ht8
     have hcs10:=ko10 _ _ (λz=>nbp (.inl z)) hcs8
     clear W8 hcs8 ht8 ko10 Y10
     have fc:x.ftc->Fch (x.out q S).2.1:=λh=>BX h
     refine⟨tk,t,r,ts,x,_,_,v,rfl,W10.ht,ht10,hr10,dv10,fc,by omega,λH11 h11 kp11=>?_⟩
     have al11:(x.aft ts (x.out q S).1 (x.out q S).2.1).length <= 2 * i+2:=by
      have:=CV (ts:=ts) (x:=x) (key:=(x.out q S).1) (d:=(x.out q S).2.1)
      omega
     exact⟨_,_,⟨_,_,rfl⟩,W10.stepT kp11 h11 al11,kp11 _ _ (λz=>nbp (.inr (List.mem_singleton.mp z))) hcs10⟩
   . rintro σ H7 ⟨S0,ts,⟨v7,v8,rfl⟩,W,_⟩
     clear W6 hcs nbp cok
     rw[List.length_map]at W
     have L60:2 * cs.length <= 60:=by omega
     generalize 2 * cs.length=L0 at W L60
     clear cl
     refine⟨_,rfl,_,rfl,l,ns,1,rfl,W.sc.1,_,rfl,a1,q,S0,L0,false,_,_,rfl,⟨W.y,qok,W.iy,by omega⟩,by omega,λS1 H8 Y8 I8 hh8 ko8=>?_⟩
     have W8:=W.stepA ko8 Y8 I8 (by rw[hh8];exact W.fy) (by omega)
     clear W ko8 Y8 I8 hh8
     refine⟨_,rfl,_,rfl,l,ns,1,rfl,W8.sc.1,_,_,rfl,rfl,⟨by decide,by decide⟩,_,rfl,a1,q,S1,L0+4,true,_,_,rfl,⟨W8.y,qok,W8.iy,by omega⟩,by omega,λS H9 Y9 I9 hh9 ko9=>?_⟩
     have W9:=W8.stepA ko9 Y9 I9 (by rw[hh9];exact W8.fy) (by omega)
     clear W8 ko9 Y9 I9 hh9
     have ul:=W9.iy.und.len (by have:=qok.n9;omega)
     have tl:=W9.iy.tkd.len (by omega)
     have fl:=W9.fy
     refine⟨_,rfl,a1,q,S,rfl,W9.y,by omega,by omega,λsp us ks H10 pu su pk sk e10 _ sn=>?_⟩
     have W10:=W9.same e10
     clear W9 e10
     have lay:=zP (us:=us) (ks:=ks) fl
     refine⟨_,rfl,_,rfl,l,ns,1,rfl,W10.sc.1,a1,q,S,L0+8,_,rfl,⟨W10.y,qok,W10.iy,by omega⟩,λH11 e11=>⟨_,rfl,fw ?_⟩⟩
     refine⟨_,rfl,a1,q,S,rfl,W10.y.same e11,by omega,by omega,λp2 us2 ks2 H12 pu2 su2 pk2 sk2 e12 _ sn2=>?_⟩
     have eu:=mt pu2 su2 pu su
     have ek:=mt pk2 sk2 pk sk
     rw[eu,ek]at sn2
     have d2:=(sn.same (e11.trans e12)).dv
     refine⟨_,rfl,wn S us ks,wn S us ks,sn2.dv,d2,lay,lay,_,rfl,?_⟩
     rw[if_pos rfl,yZ lay]
     refine cP (by decide) ?_
     have e112:=e11.trans e12
     have W12:=W10.same e112
     clear d2 sn2 eu ek pu2 su2 pk2 sk2 e11 e12
     refine⟨_,rfl,_,rfl,_,rfl,l,_,rfl,W12.sc.1,λp3 hp3=>?_⟩
     obtain⟨zs,hzs⟩:=zG ns (some 1) (some 63)
     have e13:=ah (o:=.lst (lS (ns.map V.int) (some 1) (some 63))) hp3
     have v13:upd H12 p3 (.lst (lS (ns.map V.int) (some 1) (some 63))) p3=some (.lst (zs.map V.int)):=by rw[a8,hzs]
     generalize upd H12 p3 (.lst (lS (ns.map V.int) (some 1) (some 63)))=H13 at e13 v13 |-
     have W13:=W12.same e13
     have e1013:=e112.trans e13
     clear W12 e112 e13 hp3 hzs
     refine⟨p3,rfl,⟨_,SqL.of v13⟩,?_⟩
     refine kY (K:=K) (a:=p3) (xs:=zs.map V.int) (λi σ H'=>(∃ v10 v11,σ=[some (.ref l),some (.int s),some (.int R),some (.int n),some (.ref ft),some (.ref a1.y),some (.ref tk),v7,v8,some (.ref sp),v10,v11])/\bU H13 H')
      ⟨⟨_,_,rfl⟩,λ_ _ e=>e⟩ (λ_ _ _ _ ⟨_,z⟩=>SqL.of (z _ _ v13)) ?_ ?_
     . rintro i x σ H14 hi ⟨⟨v10,v11,rfl⟩,e14⟩
       obtain⟨c,rfl⟩:∃ c,x=.int c:=by
        rw[List.getElem?_map]at hi
        cases e:zs[i]? with
       |none=>rw[e]at hi;cases hi
       |some c=>rw[e]at hi;cases hi;exact⟨c,rfl⟩
       clear hi
       refine⟨_,rfl,_,_,rfl,rfl,⟨by decide,by decide⟩,_,rfl,λpw lw H15 e15 g15=>?_⟩
       have e1315:=e14.trans e15
       refine⟨λσ' H'=>∃ (ps:Addr) (ls:List V),σ'=[some (.ref l),some (.int s),some (.int R),some (.int n),some (.ref ft),some (.ref a1.y),some (.ref tk),v7,v8,some (.ref sp),some (.int c),some (.ref ps)]/\bU H13 H'/\H' ps=some (.lst ls)/\ls≠[]/\(∀ v∈ls,Bad q S H' v),?_,?_⟩
       . refine⟨_,rfl,_,_,rfl,rfl,(show (0:Int) < 3 from by decide),rfl,_,rfl,u7 (λ_=>?_) (λ_=>⟨pw,lw,rfl,e1315,g15.at_,g15.ne,λv hv=>.inl (g15.nd v hv)⟩)⟩
         refine⟨_,rfl,_,rfl,pw,_,rfl,SqL.of g15.at_,λp4 hp4=>?_⟩
         have e16:=ah (o:=.lst (lS lw none (some 1))) hp4
         have g16:=g15.same e16
         have v16:upd H15 p4 (.lst (lS lw none (some 1))) p4=some (.lst (lw.take 1)):=by rw[a8,show (some (1:Int))=some ((1:Nat):Int) from rfl,uK]
         generalize upd H15 p4 (.lst (lS lw none (some 1)))=H16 at e16 g16 v16 |-
         have sn16:=sn.same (e1013.trans (e1315.trans e16))
         obtain⟨u1,u2,u3,hsp,_⟩:=sn16.ex
         refine⟨_,rfl,_,rfl,_,rfl,sp,_,rfl,SqL.of hsp,λp5 hp5=>?_⟩
         have e17:=ah (o:=.lst (lS [u1,.ref u2,.str (S.bd false).key,.str (S.bd true).key,.bl (S.qt false),.bl (S.qt true)] (some 2) (some 4))) hp5
         have v17:upd H16 p5 (.lst (lS [u1,.ref u2,.str (S.bd false).key,.str (S.bd true).key,.bl (S.qt false),.bl (S.qt true)] (some 2) (some 4))) p5=some (.lst [.str (S.bd false).key,.str (S.bd true).key]):=by rw[a8];rfl
         generalize upd H16 p5 (.lst (lS [u1,.ref u2,.str (S.bd false).key,.str (S.bd true).key,.bl (S.qt false),.bl (S.qt true)] (some 2) (some 4)))=H17 at e17 v17 |-
         refine⟨_,rfl,_,_,rfl,rfl,⟨by decide,by decide⟩,q,S,p5,_,rfl,v17,λp6 l6 H18 g18=>?_⟩
         have e1618:=e17.trans g18.sm
         have g18':=g16.same e1618
         have hl18:=g18.len
         refine⟨p4,p6,_,_,rfl,rfl,e1618 _ _ v16,g18.at_,Nat.le_trans (show _ <= 100 by rw[List.length_take];omega) (by decide),λp7 hp7=>?_⟩
         have e19:=ah (o:=.lst (lw.take 1++l6)) hp7
         refine⟨p7,_,rfl,e1315.trans (e16.trans (e1618.trans e19)),a8,?_,λv hv=>?_⟩
         . intro z
           have:=(List.append_eq_nil_iff.mp z).1
           rw[List.take_eq_nil_iff]at this
           rcases this with z|z
           . cases z
           . exact g15.ne z
         . refine Bad.same e19 ?_
           rcases List.mem_append.mp hv with z|z
           . exact .inl (g18'.nd v (List.mem_of_mem_take z))
           . exact .inr (g18.bd v z)
       . rintro σ' H16 ⟨ps,ls,rfl,e16,hps,lne,bad⟩
         have l0:(0:Int) < ls.length:=by have:=List.length_pos_iff.mpr lne;omega
         obtain⟨v,hv,hat⟩:=CC (c:=c / 3) lne
         have e1016:=e1013.trans e16
         refine⟨_,rfl,_,rfl,_,rfl,_,_,rfl,rfl,⟨by decide,by decide⟩,_,rfl,ps,_,rfl,.inl (SqL.of hps),_,_,rfl,rfl,l0,ps,_,_,v,rfl,rfl,SqL.of hps,hat,a1,q,S,L0+8,v,rfl,⟨(W13.same e16).y,qok,W13.iy,by omega⟩,bad v hv,λH17 e17=>⟨_,rfl,fw ?_⟩⟩
         refine⟨_,rfl,a1,q,S,rfl,W10.y.same (e1016.trans e17),by omega,by omega,λp2 us2 ks2 H18 pu2 su2 pk2 sk2 e18 _ sn2=>?_⟩
         have eu:=mt pu2 su2 pu su
         have ek:=mt pk2 sk2 pk sk
         rw[eu,ek]at sn2
         have d2:=(sn.same ((e1016.trans e17).trans e18)).dv
         refine⟨_,rfl,wn S us ks,wn S us ks,sn2.dv,d2,lay,lay,_,rfl,?_⟩
         rw[if_pos rfl,yZ lay]
         refine cP (by decide) ?_
         exact⟨⟨_,_,rfl⟩,e16.trans (e17.trans e18)⟩
     . rintro σ H14 ⟨⟨v10,v11,rfl⟩,e14⟩
       exact⟨_,rfl,a1,q,S,L0+8,rfl,⟨(W13.same e14).y,qok,W13.iy,by omega⟩,by omega,k⟩
end
def FnA (K:PySem.W.Frag) (f:Addr) (x q:Str) (st:Stmt):Prop:=∃ fd,Fun K x q st f fd
def NsA (K:PySem.W.Frag) (f:Addr) (x:Str) (st:Stmt):Prop:=nsIn K mainGlobals x=some (some (.ref f))/\FnA K f x x st
def MtA (K:PySem.W.Frag) (C f:Addr) (x q:Str) (st:Stmt):Prop:=PySem.W.findIn K (.ref C) x=some (some (.ref f))/\isFn K (.ref f)=true/\FnA K f x q st
def ClA (K:PySem.W.Frag) (C:Addr) (x:Str):Prop:=nsIn K mainGlobals x=some (some (.ref C))/\Cls K C/\makesIn K C=true/\keepIn K (.ref C)=true
def Db (K:PySem.W.Frag) (C:Addr):List Str->Prop
|[]=>True
|f :: r=>b6 K C f/\Db K C r
def FO (K:PySem.W.Frag):List Str->Prop
|[]=>True
|f :: r=>nsIn K mainGlobals f=some none/\FO K r
section
variable {K:PySem.W.Frag}{h:Heap}{mg:Str->Option Value}{f C:Addr}{x q:Str}{st:Stmt}
theorem ck (X:K.In h) (G:h.Ns mainGlobals mg) (l:NsA K f x st):mg x=some (.ref f)/\∃ fd,Fun K x x st f fd:=⟨mg_of X G l.1,l.2⟩
theorem aW (l:MtA K C f x q st):Meth K C x f/\∃ fd,Fun K x q st f fd:=by
 obtain⟨a,i,fd,F⟩:=l
 exact⟨⟨a,i,F.kp⟩,fd,F⟩
theorem rV (X:K.In h) (G:h.Ns mainGlobals mg) (l:ClA K C x) (m:MtA K C f "__init__" q st):mg x=some (.ref C)/\Cls K C/\Mk K C f:=⟨mg_of X G l.1,l.2.1,l.2.2.1,m.1,m.2.1,l.2.2.2⟩
end
theorem bn1 {K:PySem.W.Frag}{f:Addr}{x q:Str}{st:Stmt}{fd:FuncData}(F:Fun K x q st f fd) (p0:Str) (h:∀ (kV doc pm:Value) (an:Option Addr) (cdv ct:Value) (u0:Value),bindArgs (fnOf x q (fR st) (eJ st) (ak st) .none kV doc pm an cdv ct) ⟨[u0],[]⟩=pure ([p0].zip [u0])):aG K fd [p0] []:=F.binds λa b c d e g us hl=>match us,hl with|[u0],_=>h a b c d e g u0
theorem bn2 {K:PySem.W.Frag}{f:Addr}{x q:Str}{st:Stmt}{fd:FuncData}(F:Fun K x q st f fd) (p0 p1:Str) (h:∀ (kV doc pm:Value) (an:Option Addr) (cdv ct:Value) (u0 u1:Value),bindArgs (fnOf x q (fR st) (eJ st) (ak st) .none kV doc pm an cdv ct) ⟨[u0,u1],[]⟩=pure ([p0,p1].zip [u0,u1])):aG K fd [p0,p1] []:=F.binds λa b c d e g us hl=>match us,hl with|[u0,u1],_=>h a b c d e g u0 u1
theorem bn3 {K:PySem.W.Frag}{f:Addr}{x q:Str}{st:Stmt}{fd:FuncData}(F:Fun K x q st f fd) (p0 p1 p2:Str) (h:∀ (kV doc pm:Value) (an:Option Addr) (cdv ct:Value) (u0 u1 u2:Value),bindArgs (fnOf x q (fR st) (eJ st) (ak st) .none kV doc pm an cdv ct) ⟨[u0,u1,u2],[]⟩=pure ([p0,p1,p2].zip [u0,u1,u2])):aG K fd [p0,p1,p2] []:=F.binds λa b c d e g us hl=>match us,hl with|[u0,u1,u2],_=>h a b c d e g u0 u1 u2
theorem bn4 {K:PySem.W.Frag}{f:Addr}{x q:Str}{st:Stmt}{fd:FuncData}(F:Fun K x q st f fd) (p0 p1 p2 p3:Str) (h:∀ (kV doc pm:Value) (an:Option Addr) (cdv ct:Value) (u0 u1 u2 u3:Value),bindArgs (fnOf x q (fR st) (eJ st) (ak st) .none kV doc pm an cdv ct) ⟨[u0,u1,u2,u3],[]⟩=pure ([p0,p1,p2,p3].zip [u0,u1,u2,u3])):aG K fd [p0,p1,p2,p3] []:=F.binds λa b c d e g us hl=>match us,hl with|[u0,u1,u2,u3],_=>h a b c d e g u0 u1 u2 u3
theorem bn5 {K:PySem.W.Frag}{f:Addr}{x q:Str}{st:Stmt}{fd:FuncData}(F:Fun K x q st f fd) (p0 p1 p2 p3 p4:Str) (h:∀ (kV doc pm:Value) (an:Option Addr) (cdv ct:Value) (u0 u1 u2 u3 u4:Value),bindArgs (fnOf x q (fR st) (eJ st) (ak st) .none kV doc pm an cdv ct) ⟨[u0,u1,u2,u3,u4],[]⟩=pure ([p0,p1,p2,p3,p4].zip [u0,u1,u2,u3,u4])):aG K fd [p0,p1,p2,p3,p4] []:=F.binds λa b c d e g us hl=>match us,hl with|[u0,u1,u2,u3,u4],_=>h a b c d e g u0 u1 u2 u3 u4
theorem bn6 {K:PySem.W.Frag}{f:Addr}{x q:Str}{st:Stmt}{fd:FuncData}(F:Fun K x q st f fd) (p0 p1 p2 p3 p4 p5:Str) (h:∀ (kV doc pm:Value) (an:Option Addr) (cdv ct:Value) (u0 u1 u2 u3 u4 u5:Value),bindArgs (fnOf x q (fR st) (eJ st) (ak st) .none kV doc pm an cdv ct) ⟨[u0,u1,u2,u3,u4,u5],[]⟩=pure ([p0,p1,p2,p3,p4,p5].zip [u0,u1,u2,u3,u4,u5])):aG K fd [p0,p1,p2,p3,p4,p5] []:=F.binds λa b c d e g us hl=>match us,hl with|[u0,u1,u2,u3,u4,u5],_=>h a b c d e g u0 u1 u2 u3 u4 u5
theorem bn7 {K:PySem.W.Frag}{f:Addr}{x q:Str}{st:Stmt}{fd:FuncData}(F:Fun K x q st f fd) (p0 p1 p2 p3 p4 p5 p6:Str) (h:∀ (kV doc pm:Value) (an:Option Addr) (cdv ct:Value) (u0 u1 u2 u3 u4 u5 u6:Value),bindArgs (fnOf x q (fR st) (eJ st) (ak st) .none kV doc pm an cdv ct) ⟨[u0,u1,u2,u3,u4,u5,u6],[]⟩=pure ([p0,p1,p2,p3,p4,p5,p6].zip [u0,u1,u2,u3,u4,u5,u6])):aG K fd [p0,p1,p2,p3,p4,p5,p6] []:=F.binds λa b c d e g us hl=>match us,hl with|[u0,u1,u2,u3,u4,u5,u6],_=>h a b c d e g u0 u1 u2 u3 u4 u5 u6
theorem all_mk {l:PySem.W.OpenLaw}{w:World}{K:PySem.W.Frag}{h:Heap}{mg:Str->Option Value}{fa:Addr}(X:K.In h) (G:h.Ns mainGlobals mg) (hfa:mg "law"=some (.ref fa))
 {f_z0 f_z1 f_z2 f_z3 f_z4 f_z5 f_z6 f_z7 f_z8 f_z9 f_z10 f_z11 f_z12 f_z13 f_z14 f_z15 f_z16 f_z17 f_z18 f_z19 f_z20 f_z21 f_z22 f_z23 f_z24 f_z25 f_z26 f_z27 f_z28 f_z29 f_z30 f_z31 f_z32 f_z33 f_z34 f_z35 f_z36 f_z37 f_z38 f_z39 f_z40 f_z41 f_z42 f_z43 f_z44 f_z45 f_z46 f_z47 f_z48 f_z49 f_z50 f_z51 f_z52 f_z53 f_z54 f_z55 f_z56 f_z57 f_z58 f_z59 f_z60 f_z61 f_z62 f_z63 f_z64 f_z65 f_z66 C_Ring C_Hand C_Heart C_Store C_Yard C_RingError C_Full C_NoName C_NoTask C_NoDeed C_NoRow jJ d8 aQ jQ dN dQ dY dW dP dR el eo:Addr}
 {tod_ASKS:Option Addr} {tsl_ASKS:Array (Option Value)} {tn_ASKS:Nat} {tt0_ASKS tt1_ASKS tt2_ASKS:Tok}
 {tod_ANSWERS:Option Addr} {tsl_ANSWERS:Array (Option Value)} {tn_ANSWERS:Nat} {tt0_ANSWERS tt1_ANSWERS tt2_ANSWERS:Tok}
 {tod_SLEEP_CELLS:Option Addr} {tsl_SLEEP_CELLS:Array (Option Value)} {tn_SLEEP_CELLS:Nat} {tt0_SLEEP_CELLS tt1_SLEEP_CELLS:Tok}
 {ti_MOST_WORTH:Tok}
 {tep_FORMS:Nat} {th0_FORMS th1_FORMS th2_FORMS th3_FORMS th4_FORMS th5_FORMS th6_FORMS th7_FORMS:Int} {tk0_FORMS tk1_FORMS tk2_FORMS tk3_FORMS tk4_FORMS tk5_FORMS tk6_FORMS tk7_FORMS:Tok}
 {vod0_FORMS:Option Addr} {vsl0_FORMS:Array (Option Value)} {vn0_FORMS:Nat} {vt0_0_FORMS:Tok}
 {vod1_FORMS:Option Addr} {vsl1_FORMS:Array (Option Value)} {vn1_FORMS:Nat}
 {vod2_FORMS:Option Addr} {vsl2_FORMS:Array (Option Value)} {vn2_FORMS:Nat}
 {vod3_FORMS:Option Addr} {vsl3_FORMS:Array (Option Value)} {vn3_FORMS:Nat} {vt3_0_FORMS vt3_1_FORMS:Tok}
 {vod4_FORMS:Option Addr} {vsl4_FORMS:Array (Option Value)} {vn4_FORMS:Nat} {vt4_0_FORMS:Tok}
 {vod5_FORMS:Option Addr} {vsl5_FORMS:Array (Option Value)} {vn5_FORMS:Nat} {vt5_0_FORMS:Tok}
 {vod6_FORMS:Option Addr} {vsl6_FORMS:Array (Option Value)} {vn6_FORMS:Nat} {vt6_0_FORMS:Tok}
 {vod7_FORMS:Option Addr} {vsl7_FORMS:Array (Option Value)} {vn7_FORMS:Nat} {vt7_0_FORMS:Tok}
 (aC_Ring:ClA K C_Ring "Ring")
 (aC_Hand:ClA K C_Hand "Hand")
 (aC_Heart:ClA K C_Heart "Heart")
 (aC_Store:ClA K C_Store "Store")
 (aC_Yard:ClA K C_Yard "Yard")
 (l_z0:NsA K f_z0 "next_counter" gH)
 (l_z1:NsA K f_z1 "place_of" lB)
 (l_z2:NsA K f_z2 "ahead_by" lG)
 (l_z3:NsA K f_z3 "rounds_with" ir)
 (l_z4:MtA K C_Ring f_z4 "__init__" "Ring.__init__" iX)
 (l_z5:MtA K C_Ring f_z5 "filled" "Ring.filled" io)
 (l_z6:MtA K C_Ring f_z6 "is_full" "Ring.is_full" gD)
 (l_z7:MtA K C_Ring f_z7 "place_at" "Ring.place_at" gb)
 (l_z8:MtA K C_Ring f_z8 "write_further" "Ring.write_further" cU)
 (l_z9:MtA K C_Ring f_z9 "lay" "Ring.lay" lr)
 (l_z10:MtA K C_Ring f_z10 "fetch" "Ring.fetch" j6)
 (l_z11:MtA K C_Hand f_z11 "__init__" "Hand.__init__" je)
 (l_z12:MtA K C_Hand f_z12 "least_free" "Hand.least_free" eG)
 (l_z13:MtA K C_Hand f_z13 "check_ask" "Hand.check_ask" fh)
 (l_z14:MtA K C_Hand f_z14 "ask" "Hand.ask" lC)
 (l_z15:MtA K C_Hand f_z15 "collect" "Hand.collect" gx)
 (l_z16:MtA K C_Hand f_z16 "under_way" "Hand.under_way" fj)
 (l_z17:MtA K C_Hand f_z17 "something_waits" "Hand.something_waits" cj)
 (l_z18:MtA K C_Heart f_z18 "__init__" "Heart.__init__" i8)
 (l_z19:MtA K C_Heart f_z19 "take" "Heart.take" jk)
 (l_z20:MtA K C_Heart f_z20 "check_answer" "Heart.check_answer" cW)
 (l_z21:MtA K C_Heart f_z21 "answer" "Heart.answer" gv)
 (l_z22:MtA K C_Heart f_z22 "tasks" "Heart.tasks" ix)
 (l_z23:MtA K C_Heart f_z23 "something_waits" "Heart.something_waits" cb)
 (l_z24:MtA K C_Store f_z24 "__init__" "Store.__init__" hU)
 (l_z25:MtA K C_Store f_z25 "write" "Store.write" iF)
 (l_z26:MtA K C_Store f_z26 "drain" "Store.drain" iB)
 (l_z27:MtA K C_Store f_z27 "fence" "Store.fence" ig)
 (l_z28:MtA K C_Store f_z28 "read" "Store.read" jf)
 (l_z29:MtA K C_Store f_z29 "memory" "Store.memory" gA)
 (l_z30:MtA K C_Store f_z30 "waits" "Store.waits" iz)
 (l_z31:MtA K C_Store f_z31 "cells" "Store.cells" ij)
 (l_z32:NsA K f_z32 "is_whole" lf)
 (l_z33:NsA K f_z33 "is_part" nV)
 (l_z34:NsA K f_z34 "is_deed" nY)
 (l_z35:NsA K f_z35 "side_of" n6)
 (l_z36:NsA K f_z36 "text_of" nQ)
 (l_z37:MtA K C_Yard f_z37 "__init__" "Yard.__init__" jd)
 (l_z38:MtA K C_Yard f_z38 "deed" "Yard.deed" k9)
 (l_z39:MtA K C_Yard f_z39 "story" "Yard.story" jc)
 (l_z40:MtA K C_Yard f_z40 "state" "Yard.state" j1)
 (l_z41:MtA K C_Yard f_z41 "sleeper" "Yard.sleeper" gG)
 (l_z42:MtA K C_Yard f_z42 "is_quiet" "Yard.is_quiet" gi)
 (l_z43:MtA K C_Yard f_z43 "store" "Yard.store" jh)
 (l_z44:MtA K C_Yard f_z44 "check" "Yard.check" iU)
 (l_z45:MtA K C_Yard f_z45 "do_ask" "Yard.do_ask" gW)
 (l_z46:MtA K C_Yard f_z46 "do_answer" "Yard.do_answer" fg)
 (l_z47:MtA K C_Yard f_z47 "tell_fetched" "Yard.tell_fetched" dq)
 (l_z48:MtA K C_Yard f_z48 "do_bell" "Yard.do_bell" gw)
 (l_z49:MtA K C_Yard f_z49 "do_lie" "Yard.do_lie" ic)
 (l_z50:MtA K C_Yard f_z50 "do_look" "Yard.do_look" gF)
 (l_z51:MtA K C_Yard f_z51 "something_waits" "Yard.something_waits" ci)
 (l_z52:NsA K f_z52 "_law_cell_at" ie)
 (l_z53:NsA K f_z53 "_law_codes" k8)
 (l_z54:NsA K f_z54 "_law_make" lm)
 (l_z55:NsA K f_z55 "_law_worth" jY)
 (l_z56:NsA K f_z56 "_law_deed" lI)
 (l_z57:NsA K f_z57 "_law_tried" jU)
 (l_z58:NsA K f_z58 "_law_after" jR)
 (l_z59:NsA K f_z59 "_law_refused" i7)
 (l_z60:NsA K f_z60 "_law_seen" lp)
 (l_z61:NsA K f_z61 "_law_words" jT)
 (l_z62:NsA K f_z62 "_law_not_now" iu)
 (l_z63:NsA K f_z63 "_law_no_tasks" gC)
 (l_z64:NsA K f_z64 "_law_laid_down" fZ)
 (l_z65:NsA K f_z65 "_law_then_taken" fq)
 (l_z66:NsA K f_z66 "law" BS)
 (na_Ring:Db K C_Ring ["shelf","side","word","laid","fetched","size","rounds","counter_first"])
 (na_Hand:Db K C_Hand ["asks","answers","names","going"])
 (na_Heart:Db K C_Heart ["asks","answers","doing"])
 (na_Store:Db K C_Store ["held","rows"])
 (na_Yard:Db K C_Yard ["size","rounds","faults","shelf","hand","heart","bell_fences","lie_fences","look_sees","sleepers","quiet","happened"])
 (nn:FO K ["ValueError","all","bool","int","isinstance","len","list","range","reversed","sorted","str","tuple","zip"])
 (aX_RingError:nsIn K mainGlobals "RingError"=some (some (.ref C_RingError)))
 (aX_Full:nsIn K mainGlobals "Full"=some (some (.ref C_Full)))
 (aX_NoName:nsIn K mainGlobals "NoName"=some (some (.ref C_NoName)))
 (aX_NoTask:nsIn K mainGlobals "NoTask"=some (some (.ref C_NoTask)))
 (aX_NoDeed:nsIn K mainGlobals "NoDeed"=some (some (.ref C_NoDeed)))
 (aX_NoRow:nsIn K mainGlobals "NoRow"=some (some (.ref C_NoRow)))
 (aT_ASKS:nsIn K mainGlobals "ASKS"=some (some (.ref jJ)))
 (kT_ASKS:K.lookup jJ=some ⟨.type "tuple",tod_ASKS,.seq #[.str "ask" tt0_ASKS,.str "asked" tt1_ASKS,.str "taken" tt2_ASKS] tn_ASKS,tsl_ASKS⟩)
 (aT_ANSWERS:nsIn K mainGlobals "ANSWERS"=some (some (.ref d8)))
 (kT_ANSWERS:K.lookup d8=some ⟨.type "tuple",tod_ANSWERS,.seq #[.str "answer" tt0_ANSWERS,.str "answered" tt1_ANSWERS,.str "handed" tt2_ANSWERS] tn_ANSWERS,tsl_ANSWERS⟩)
 (aT_SLEEP_CELLS:nsIn K mainGlobals "SLEEP_CELLS"=some (some (.ref aQ)))
 (kT_SLEEP_CELLS:K.lookup aQ=some ⟨.type "tuple",tod_SLEEP_CELLS,.seq #[.str "hand sleeps" tt0_SLEEP_CELLS,.str "heart sleeps" tt1_SLEEP_CELLS] tn_SLEEP_CELLS,tsl_SLEEP_CELLS⟩)
 (aI_MOST_WORTH:nsIn K mainGlobals "MOST_WORTH"=some (some (.int 1000000000 ti_MOST_WORTH)))
 (aT_FORMS:nsIn K mainGlobals "FORMS"=some (some (.ref jQ)))
 (kT_FORMS:K.lookup jQ=some ⟨.type "dict",none,.dict #[⟨th0_FORMS,.str "ask" tk0_FORMS,.ref dN⟩,⟨th1_FORMS,.str "collect" tk1_FORMS,.ref dQ⟩,⟨th2_FORMS,.str "take" tk2_FORMS,.ref dY⟩,⟨th3_FORMS,.str "answer" tk3_FORMS,.ref dW⟩,⟨th4_FORMS,.str "bell" tk4_FORMS,.ref dP⟩,⟨th5_FORMS,.str "lie" tk5_FORMS,.ref dR⟩,⟨th6_FORMS,.str "look" tk6_FORMS,.ref el⟩,⟨th7_FORMS,.str "drain" tk7_FORMS,.ref eo⟩] tep_FORMS,#[]⟩)
 (kN_FORMS:(jQ == sysModules)=false)
 (kV0_FORMS:K.lookup dN=some ⟨.type "tuple",vod0_FORMS,.seq #[.str "worth" vt0_0_FORMS] vn0_FORMS,vsl0_FORMS⟩)
 (kV1_FORMS:K.lookup dQ=some ⟨.type "tuple",vod1_FORMS,.seq #[] vn1_FORMS,vsl1_FORMS⟩)
 (kV2_FORMS:K.lookup dY=some ⟨.type "tuple",vod2_FORMS,.seq #[] vn2_FORMS,vsl2_FORMS⟩)
 (kV3_FORMS:K.lookup dW=some ⟨.type "tuple",vod3_FORMS,.seq #[.str "name" vt3_0_FORMS,.str "worth" vt3_1_FORMS] vn3_FORMS,vsl3_FORMS⟩)
 (kV4_FORMS:K.lookup dP=some ⟨.type "tuple",vod4_FORMS,.seq #[.str "side" vt4_0_FORMS] vn4_FORMS,vsl4_FORMS⟩)
 (kV5_FORMS:K.lookup dR=some ⟨.type "tuple",vod5_FORMS,.seq #[.str "side" vt5_0_FORMS] vn5_FORMS,vsl5_FORMS⟩)
 (kV6_FORMS:K.lookup el=some ⟨.type "tuple",vod6_FORMS,.seq #[.str "side" vt6_0_FORMS] vn6_FORMS,vsl6_FORMS⟩)
 (kV7_FORMS:K.lookup eo=some ⟨.type "tuple",vod7_FORMS,.seq #[.str "side" vt7_0_FORMS] vn7_FORMS,vsl7_FORMS⟩)
 (xc_Full:excIn K C_Full veB "ValueError.__new__"=true)
 (xc_NoName:excIn K C_NoName veB "ValueError.__new__"=true)
 (xc_NoTask:excIn K C_NoTask veB "ValueError.__new__"=true)
 (xc_NoDeed:excIn K C_NoDeed veB "ValueError.__new__"=true)
 (xk_ga_NoDeed:PySem.W.findIn K (.ref C_NoDeed) "__getattribute__"=some (some (.builtin "BaseException.__getattribute__")))
 (xk_gt_NoDeed:PySem.W.findIn K (.ref C_NoDeed) "__getattr__"=some none)
 (xk_cl_NoDeed:PySem.W.findIn K (.ref C_NoDeed) "__class__"=some (some (.builtin "object.__class__")))
 (xk_ob_NoDeed:PySem.W.mroIn K C_NoDeed (.type "object")=some true)
 (xk_be_NoDeed:PySem.W.subIn K (.ref C_NoDeed) (.type "BaseException")=some true)
 (xk_is_NoDeed:PySem.W.isClsIn K C_NoDeed=true)
 (mo_em_1:exmOne K (.ref C_NoDeed) (.ref C_RingError)=some true)
 (mo_ki_1:kitAny K (.ref C_NoDeed) [.ref C_Full,.ref C_NoName,.ref C_NoTask,.ref C_NoRow]=some false)
 (mo_ki_2:kitOne K (.ref C_NoDeed) (.ref C_NoDeed)=some true)
 (mo_ki_3:kitOne K (.ref C_NoDeed) (.type "ValueError")=some true)
 (mo_em_dd:exmOne K (.ref C_NoDeed) (.ref C_NoDeed)=some true)
 (mo_em_df:exmOne K (.ref C_NoDeed) (.ref C_Full)=some false)
 (mo_em_dn:exmOne K (.ref C_NoDeed) (.ref C_NoName)=some false)
 (mo_em_dt:exmOne K (.ref C_NoDeed) (.ref C_NoTask)=some false)
 (mo_em_fd:exmOne K (.ref C_Full) (.ref C_NoDeed)=some false)
 (mo_em_ff:exmOne K (.ref C_Full) (.ref C_Full)=some true)
 (mo_em_fn:exmOne K (.ref C_Full) (.ref C_NoName)=some false)
 (mo_em_ft:exmOne K (.ref C_Full) (.ref C_NoTask)=some false)
 (mo_em_nd:exmOne K (.ref C_NoName) (.ref C_NoDeed)=some false)
 (mo_em_nf:exmOne K (.ref C_NoName) (.ref C_Full)=some false)
 (mo_em_nn:exmOne K (.ref C_NoName) (.ref C_NoName)=some true)
 (mo_em_nt:exmOne K (.ref C_NoName) (.ref C_NoTask)=some false)
 (mo_em_td:exmOne K (.ref C_NoTask) (.ref C_NoDeed)=some false)
 (mo_em_tf:exmOne K (.ref C_NoTask) (.ref C_Full)=some false)
 (mo_em_tn:exmOne K (.ref C_NoTask) (.ref C_NoName)=some false)
 (mo_em_tt:exmOne K (.ref C_NoTask) (.ref C_NoTask)=some true) :
 ∃ fd:FuncData,(∀ (s:Shared) (v:Value),BindsTo s fd ⟨[v],[]⟩ [("script",v)])/\∀ base:Heap,K.In base->base.Ns mainGlobals mg->FnOk l.prog w K mg base CX0 17 fa fd ["script"] (va K):=by
 have e:=hfa.symm.trans (mg_of X G l_z66.1)
 cases e
 obtain⟨p_Ring,q_Ring,r_Ring⟩:=rV X G aC_Ring l_z4
 obtain⟨p_Hand,q_Hand,r_Hand⟩:=rV X G aC_Hand l_z11
 obtain⟨p_Heart,q_Heart,r_Heart⟩:=rV X G aC_Heart l_z18
 obtain⟨p_Store,q_Store,r_Store⟩:=rV X G aC_Store l_z24
 obtain⟨p_Yard,q_Yard,r_Yard⟩:=rV X G aC_Yard l_z37
 obtain⟨m_z0,d_z0,F_z0⟩:=ck X G l_z0
 have B_z0:=bn3 F_z0 "counter" "size" "rounds" λ_ _ _ _ _ _ _ _ _=>rfl
 obtain⟨m_z1,d_z1,F_z1⟩:=ck X G l_z1
 have B_z1:=bn2 F_z1 "counter" "size" λ_ _ _ _ _ _ _ _=>rfl
 obtain⟨m_z2,d_z2,F_z2⟩:=ck X G l_z2
 have B_z2:=bn4 F_z2 "one" "other" "size" "rounds" λ_ _ _ _ _ _ _ _ _ _=>rfl
 obtain⟨m_z3,d_z3,F_z3⟩:=ck X G l_z3
 have B_z3:=bn2 F_z3 "rounds" "faults" λ_ _ _ _ _ _ _ _=>rfl
 obtain⟨m_z4,d_z4,F_z4⟩:=aW l_z4
 have B_z4:=bn7 F_z4 "self" "store" "side" "words" "size" "rounds" "faults" λ_ _ _ _ _ _ _ _ _ _ _ _ _=>rfl
 obtain⟨m_z5,d_z5,F_z5⟩:=aW l_z5
 have B_z5:=bn1 F_z5 "self" λ_ _ _ _ _ _ _=>rfl
 obtain⟨m_z6,d_z6,F_z6⟩:=aW l_z6
 have B_z6:=bn1 F_z6 "self" λ_ _ _ _ _ _ _=>rfl
 obtain⟨m_z7,d_z7,F_z7⟩:=aW l_z7
 have B_z7:=bn2 F_z7 "self" "counter" λ_ _ _ _ _ _ _ _=>rfl
 obtain⟨m_z8,d_z8,F_z8⟩:=aW l_z8
 have B_z8:=bn3 F_z8 "self" "cell" "counter" λ_ _ _ _ _ _ _ _ _=>rfl
 obtain⟨m_z9,d_z9,F_z9⟩:=aW l_z9
 have B_z9:=bn3 F_z9 "self" "name" "worth" λ_ _ _ _ _ _ _ _ _=>rfl
 obtain⟨m_z10,d_z10,F_z10⟩:=aW l_z10
 have B_z10:=bn1 F_z10 "self" λ_ _ _ _ _ _ _=>rfl
 obtain⟨m_z11,d_z11,F_z11⟩:=aW l_z11
 have B_z11:=bn6 F_z11 "self" "store" "size" "rounds" "names" "faults" λ_ _ _ _ _ _ _ _ _ _ _ _=>rfl
 obtain⟨m_z12,d_z12,F_z12⟩:=aW l_z12
 have B_z12:=bn1 F_z12 "self" λ_ _ _ _ _ _ _=>rfl
 obtain⟨m_z13,d_z13,F_z13⟩:=aW l_z13
 have B_z13:=bn1 F_z13 "self" λ_ _ _ _ _ _ _=>rfl
 obtain⟨m_z14,d_z14,F_z14⟩:=aW l_z14
 have B_z14:=bn2 F_z14 "self" "worth" λ_ _ _ _ _ _ _ _=>rfl
 obtain⟨m_z15,d_z15,F_z15⟩:=aW l_z15
 have B_z15:=bn1 F_z15 "self" λ_ _ _ _ _ _ _=>rfl
 obtain⟨m_z16,d_z16,F_z16⟩:=aW l_z16
 have B_z16:=bn1 F_z16 "self" λ_ _ _ _ _ _ _=>rfl
 obtain⟨m_z17,d_z17,F_z17⟩:=aW l_z17
 have B_z17:=bn1 F_z17 "self" λ_ _ _ _ _ _ _=>rfl
 obtain⟨m_z18,d_z18,F_z18⟩:=aW l_z18
 have B_z18:=bn5 F_z18 "self" "store" "size" "rounds" "faults" λ_ _ _ _ _ _ _ _ _ _ _=>rfl
 obtain⟨m_z19,d_z19,F_z19⟩:=aW l_z19
 have B_z19:=bn1 F_z19 "self" λ_ _ _ _ _ _ _=>rfl
 obtain⟨m_z20,d_z20,F_z20⟩:=aW l_z20
 have B_z20:=bn2 F_z20 "self" "name" λ_ _ _ _ _ _ _ _=>rfl
 obtain⟨m_z21,d_z21,F_z21⟩:=aW l_z21
 have B_z21:=bn3 F_z21 "self" "name" "worth" λ_ _ _ _ _ _ _ _ _=>rfl
 obtain⟨m_z22,d_z22,F_z22⟩:=aW l_z22
 have B_z22:=bn1 F_z22 "self" λ_ _ _ _ _ _ _=>rfl
 obtain⟨m_z23,d_z23,F_z23⟩:=aW l_z23
 have B_z23:=bn1 F_z23 "self" λ_ _ _ _ _ _ _=>rfl
 obtain⟨m_z24,d_z24,F_z24⟩:=aW l_z24
 have B_z24:=bn1 F_z24 "self" λ_ _ _ _ _ _ _=>rfl
 obtain⟨m_z25,d_z25,F_z25⟩:=aW l_z25
 have B_z25:=bn4 F_z25 "self" "side" "cell" "worth" λ_ _ _ _ _ _ _ _ _ _=>rfl
 obtain⟨m_z26,d_z26,F_z26⟩:=aW l_z26
 have B_z26:=bn2 F_z26 "self" "side" λ_ _ _ _ _ _ _ _=>rfl
 obtain⟨m_z27,d_z27,F_z27⟩:=aW l_z27
 have B_z27:=bn2 F_z27 "self" "side" λ_ _ _ _ _ _ _ _=>rfl
 obtain⟨m_z28,d_z28,F_z28⟩:=aW l_z28
 have B_z28:=bn3 F_z28 "self" "side" "cell" λ_ _ _ _ _ _ _ _ _=>rfl
 obtain⟨m_z29,d_z29,F_z29⟩:=aW l_z29
 have B_z29:=bn2 F_z29 "self" "cell" λ_ _ _ _ _ _ _ _=>rfl
 obtain⟨m_z30,d_z30,F_z30⟩:=aW l_z30
 have B_z30:=bn2 F_z30 "self" "side" λ_ _ _ _ _ _ _ _=>rfl
 obtain⟨m_z31,d_z31,F_z31⟩:=aW l_z31
 have B_z31:=bn1 F_z31 "self" λ_ _ _ _ _ _ _=>rfl
 obtain⟨m_z32,d_z32,F_z32⟩:=ck X G l_z32
 have B_z32:=bn1 F_z32 "value" λ_ _ _ _ _ _ _=>rfl
 obtain⟨m_z33,d_z33,F_z33⟩:=ck X G l_z33
 have B_z33:=bn2 F_z33 "value" "kind" λ_ _ _ _ _ _ _ _=>rfl
 obtain⟨m_z34,d_z34,F_z34⟩:=ck X G l_z34
 have B_z34:=bn1 F_z34 "some" λ_ _ _ _ _ _ _=>rfl
 obtain⟨m_z35,d_z35,F_z35⟩:=ck X G l_z35
 have B_z35:=bn1 F_z35 "some" λ_ _ _ _ _ _ _=>rfl
 obtain⟨m_z36,d_z36,F_z36⟩:=ck X G l_z36
 have B_z36:=bn1 F_z36 "cell" λ_ _ _ _ _ _ _=>rfl
 obtain⟨m_z37,d_z37,F_z37⟩:=aW l_z37
 have B_z37:=bn5 F_z37 "self" "size" "rounds" "names" "faults" λ_ _ _ _ _ _ _ _ _ _ _=>rfl
 obtain⟨m_z38,d_z38,F_z38⟩:=aW l_z38
 have B_z38:=bn2 F_z38 "self" "some" λ_ _ _ _ _ _ _ _=>rfl
 obtain⟨m_z39,d_z39,F_z39⟩:=aW l_z39
 have B_z39:=bn1 F_z39 "self" λ_ _ _ _ _ _ _=>rfl
 obtain⟨m_z40,d_z40,F_z40⟩:=aW l_z40
 have B_z40:=bn1 F_z40 "self" λ_ _ _ _ _ _ _=>rfl
 obtain⟨m_z41,d_z41,F_z41⟩:=aW l_z41
 have B_z41:=bn2 F_z41 "self" "side" λ_ _ _ _ _ _ _ _=>rfl
 obtain⟨m_z42,d_z42,F_z42⟩:=aW l_z42
 have B_z42:=bn2 F_z42 "self" "side" λ_ _ _ _ _ _ _ _=>rfl
 obtain⟨m_z43,d_z43,F_z43⟩:=aW l_z43
 have B_z43:=bn1 F_z43 "self" λ_ _ _ _ _ _ _=>rfl
 obtain⟨m_z44,d_z44,F_z44⟩:=aW l_z44
 have B_z44:=bn2 F_z44 "self" "some" λ_ _ _ _ _ _ _ _=>rfl
 obtain⟨m_z45,d_z45,F_z45⟩:=aW l_z45
 have B_z45:=bn2 F_z45 "self" "worth" λ_ _ _ _ _ _ _ _=>rfl
 obtain⟨m_z46,d_z46,F_z46⟩:=aW l_z46
 have B_z46:=bn3 F_z46 "self" "name" "worth" λ_ _ _ _ _ _ _ _ _=>rfl
 obtain⟨m_z47,d_z47,F_z47⟩:=aW l_z47
 have B_z47:=bn3 F_z47 "self" "word" "told" λ_ _ _ _ _ _ _ _ _=>rfl
 obtain⟨m_z48,d_z48,F_z48⟩:=aW l_z48
 have B_z48:=bn2 F_z48 "self" "side" λ_ _ _ _ _ _ _ _=>rfl
 obtain⟨m_z49,d_z49,F_z49⟩:=aW l_z49
 have B_z49:=bn2 F_z49 "self" "side" λ_ _ _ _ _ _ _ _=>rfl
 obtain⟨m_z50,d_z50,F_z50⟩:=aW l_z50
 have B_z50:=bn2 F_z50 "self" "side" λ_ _ _ _ _ _ _ _=>rfl
 obtain⟨m_z51,d_z51,F_z51⟩:=aW l_z51
 have B_z51:=bn2 F_z51 "self" "side" λ_ _ _ _ _ _ _ _=>rfl
 obtain⟨m_z52,d_z52,F_z52⟩:=ck X G l_z52
 have B_z52:=bn2 F_z52 "script" "k" λ_ _ _ _ _ _ _ _=>rfl
 obtain⟨m_z53,d_z53,F_z53⟩:=ck X G l_z53
 have B_z53:=bn2 F_z53 "cells" "most" λ_ _ _ _ _ _ _ _=>rfl
 obtain⟨m_z54,d_z54,F_z54⟩:=ck X G l_z54
 have B_z54:=bn1 F_z54 "cell" λ_ _ _ _ _ _ _=>rfl
 obtain⟨m_z55,d_z55,F_z55⟩:=ck X G l_z55
 have B_z55:=bn1 F_z55 "code" λ_ _ _ _ _ _ _=>rfl
 obtain⟨m_z56,d_z56,F_z56⟩:=ck X G l_z56
 have B_z56:=bn2 F_z56 "code" "tasks" λ_ _ _ _ _ _ _ _=>rfl
 obtain⟨m_z57,d_z57,F_z57⟩:=ck X G l_z57
 have B_z57:=bn2 F_z57 "yard" "deed" λ_ _ _ _ _ _ _ _=>rfl
 obtain⟨m_z58,d_z58,F_z58⟩:=ck X G l_z58
 have B_z58:=bn3 F_z58 "tasks" "deed" "told" λ_ _ _ _ _ _ _ _ _=>rfl
 obtain⟨m_z59,d_z59,F_z59⟩:=ck X G l_z59
 have B_z59:=bn2 F_z59 "yard" "thing" λ_ _ _ _ _ _ _ _=>rfl
 obtain⟨m_z60,d_z60,F_z60⟩:=ck X G l_z60
 have B_z60:=bn1 F_z60 "yard" λ_ _ _ _ _ _ _=>rfl
 obtain⟨m_z61,d_z61,F_z61⟩:=ck X G l_z61
 have B_z61:=bn1 F_z61 "cell" λ_ _ _ _ _ _ _=>rfl
 obtain⟨m_z62,d_z62,F_z62⟩:=ck X G l_z62
 have B_z62:=bn2 F_z62 "beds" "cell" λ_ _ _ _ _ _ _ _=>rfl
 obtain⟨m_z63,d_z63,F_z63⟩:=ck X G l_z63
 have B_z63:=bn2 F_z63 "yard" "cell" λ_ _ _ _ _ _ _ _=>rfl
 obtain⟨m_z64,d_z64,F_z64⟩:=ck X G l_z64
 have B_z64:=bn4 F_z64 "yard" "side" "cell" "left_out" λ_ _ _ _ _ _ _ _ _ _=>rfl
 obtain⟨m_z65,d_z65,F_z65⟩:=ck X G l_z65
 have B_z65:=bn1 F_z65 "yard" λ_ _ _ _ _ _ _=>rfl
 obtain⟨m_z66,d_z66,F_z66⟩:=ck X G l_z66
 have B_z66:=bn1 F_z66 "script" λ_ _ _ _ _ _ _=>rfl
 let ad:Ad:=⟨f_z0,f_z1,f_z2,f_z3,f_z4,f_z5,f_z6,f_z7,f_z8,f_z9,f_z10,f_z11,f_z12,f_z13,f_z14,f_z15,f_z16,f_z17,f_z18,f_z19,f_z20,f_z21,f_z22,f_z23,f_z24,f_z25,f_z26,f_z27,f_z28,f_z29,f_z30,f_z31,f_z32,f_z33,f_z34,f_z35,f_z36,f_z37,f_z38,f_z39,f_z40,f_z41,f_z42,f_z43,f_z44,f_z45,f_z46,f_z47,f_z48,f_z49,f_z50,f_z51,f_z52,f_z53,f_z54,f_z55,f_z56,f_z57,f_z58,f_z59,f_z60,f_z61,f_z62,f_z63,f_z64,f_z65,fa,C_Ring,C_Hand,C_Heart,C_Store,C_Yard,C_RingError,C_Full,C_NoName,C_NoTask,C_NoDeed,C_NoRow,jJ,d8,aQ,jQ,dN,dQ,dY,dW,dP,dR,el,eo⟩
 let dd:Fd:=⟨d_z0,d_z1,d_z2,d_z3,d_z4,d_z5,d_z6,d_z7,d_z8,d_z9,d_z10,d_z11,d_z12,d_z13,d_z14,d_z15,d_z16,d_z17,d_z18,d_z19,d_z20,d_z21,d_z22,d_z23,d_z24,d_z25,d_z26,d_z27,d_z28,d_z29,d_z30,d_z31,d_z32,d_z33,d_z34,d_z35,d_z36,d_z37,d_z38,d_z39,d_z40,d_z41,d_z42,d_z43,d_z44,d_z45,d_z46,d_z47,d_z48,d_z49,d_z50,d_z51,d_z52,d_z53,d_z54,d_z55,d_z56,d_z57,d_z58,d_z59,d_z60,d_z61,d_z62,d_z63,d_z64,d_z65,d_z66⟩
 have GG:Gs K mg ad dd:=⟨F_z0,B_z0,m_z0,F_z1,B_z1,m_z1,F_z2,B_z2,m_z2,F_z3,B_z3,m_z3,F_z4,B_z4,F_z5,B_z5,m_z5,F_z6,B_z6,m_z6,F_z7,B_z7,m_z7,F_z8,B_z8,m_z8,F_z9,B_z9,m_z9,F_z10,B_z10,m_z10,F_z11,B_z11,F_z12,B_z12,m_z12,F_z13,B_z13,m_z13,F_z14,B_z14,m_z14,F_z15,B_z15,m_z15,F_z16,B_z16,m_z16,F_z17,B_z17,m_z17,F_z18,B_z18,F_z19,B_z19,m_z19,F_z20,B_z20,m_z20,F_z21,B_z21,m_z21,F_z22,B_z22,m_z22,F_z23,B_z23,m_z23,F_z24,B_z24,F_z25,B_z25,m_z25,F_z26,B_z26,m_z26,F_z27,B_z27,m_z27,F_z28,B_z28,m_z28,F_z29,B_z29,m_z29,F_z30,B_z30,m_z30,F_z31,B_z31,m_z31,F_z32,B_z32,m_z32,F_z33,B_z33,m_z33,F_z34,B_z34,m_z34,F_z35,B_z35,m_z35,F_z36,B_z36,m_z36,F_z37,B_z37,F_z38,B_z38,m_z38,F_z39,B_z39,m_z39,F_z40,B_z40,m_z40,F_z41,B_z41,m_z41,F_z42,B_z42,m_z42,F_z43,B_z43,m_z43,F_z44,B_z44,m_z44,F_z45,B_z45,m_z45,F_z46,B_z46,m_z46,F_z47,B_z47,m_z47,F_z48,B_z48,m_z48,F_z49,B_z49,m_z49,F_z50,B_z50,m_z50,F_z51,B_z51,m_z51,F_z52,B_z52,m_z52,F_z53,B_z53,m_z53,F_z54,B_z54,m_z54,F_z55,B_z55,m_z55,F_z56,B_z56,m_z56,F_z57,B_z57,m_z57,F_z58,B_z58,m_z58,F_z59,B_z59,m_z59,F_z60,B_z60,m_z60,F_z61,B_z61,m_z61,F_z62,B_z62,m_z62,F_z63,B_z63,m_z63,F_z64,B_z64,m_z64,F_z65,B_z65,m_z65,F_z66,B_z66,m_z66,q_Ring,p_Ring,r_Ring,na_Ring.1,na_Ring.2.1,na_Ring.2.2.1,na_Ring.2.2.2.1,na_Ring.2.2.2.2.1,na_Ring.2.2.2.2.2.1,na_Ring.2.2.2.2.2.2.1,na_Ring.2.2.2.2.2.2.2.1,q_Hand,p_Hand,r_Hand,na_Hand.1,na_Hand.2.1,na_Hand.2.2.1,na_Hand.2.2.2.1,q_Heart,p_Heart,r_Heart,na_Heart.1,na_Heart.2.1,na_Heart.2.2.1,q_Store,p_Store,r_Store,na_Store.1,na_Store.2.1,q_Yard,p_Yard,r_Yard,na_Yard.1,na_Yard.2.1,na_Yard.2.2.1,na_Yard.2.2.2.1,na_Yard.2.2.2.2.1,na_Yard.2.2.2.2.2.1,na_Yard.2.2.2.2.2.2.1,na_Yard.2.2.2.2.2.2.2.1,na_Yard.2.2.2.2.2.2.2.2.1,na_Yard.2.2.2.2.2.2.2.2.2.1,na_Yard.2.2.2.2.2.2.2.2.2.2.1,na_Yard.2.2.2.2.2.2.2.2.2.2.2.1,mg_none_of X G nn.1,mg_none_of X G nn.2.1,mg_none_of X G nn.2.2.1,mg_none_of X G nn.2.2.2.1,mg_none_of X G nn.2.2.2.2.1,mg_none_of X G nn.2.2.2.2.2.1,mg_none_of X G nn.2.2.2.2.2.2.1,mg_none_of X G nn.2.2.2.2.2.2.2.1,mg_none_of X G nn.2.2.2.2.2.2.2.2.1,mg_none_of X G nn.2.2.2.2.2.2.2.2.2.1,mg_none_of X G nn.2.2.2.2.2.2.2.2.2.2.1,mg_none_of X G nn.2.2.2.2.2.2.2.2.2.2.2.1,mg_none_of X G nn.2.2.2.2.2.2.2.2.2.2.2.2.1,mg_of X G aX_RingError,mg_of X G aX_Full,mg_of X G aX_NoName,mg_of X G aX_NoTask,mg_of X G aX_NoDeed,mg_of X G aX_NoRow,mg_of X G aT_ASKS,λ_=>.inr ⟨_,_,_,kT_ASKS,rfl,rfl,by show 3 <= sizeLine;decide,(.cons ⟨_,rfl⟩ (.cons ⟨_,rfl⟩ (.cons ⟨_,rfl⟩ .nil)))⟩,mg_of X G aT_ANSWERS,λ_=>.inr ⟨_,_,_,kT_ANSWERS,rfl,rfl,by show 3 <= sizeLine;decide,(.cons ⟨_,rfl⟩ (.cons ⟨_,rfl⟩ (.cons ⟨_,rfl⟩ .nil)))⟩,mg_of X G aT_SLEEP_CELLS,λ_=>.inr ⟨_,_,_,kT_SLEEP_CELLS,rfl,rfl,by show 2 <= sizeLine;decide,(.cons ⟨_,rfl⟩ (.cons ⟨_,rfl⟩ .nil))⟩,⟨_,mg_of X G aI_MOST_WORTH⟩,mg_of X G aT_FORMS,⟨kN_FORMS,_,_,_,kT_FORMS,⟨rfl,rfl,rfl⟩,rfl,(.cons rfl rfl (.cons rfl rfl (.cons rfl rfl (.cons rfl rfl (.cons rfl rfl (.cons rfl rfl (.cons rfl rfl (.cons rfl rfl .nil))))))))⟩,λ_=>.inr ⟨_,_,_,kV0_FORMS,rfl,rfl,by show 1 <= sizeLine;decide,(.cons ⟨_,rfl⟩ .nil)⟩,λ_=>.inr ⟨_,_,_,kV1_FORMS,rfl,rfl,by show 0 <= sizeLine;decide,.nil⟩,λ_=>.inr ⟨_,_,_,kV2_FORMS,rfl,rfl,by show 0 <= sizeLine;decide,.nil⟩,λ_=>.inr ⟨_,_,_,kV3_FORMS,rfl,rfl,by show 2 <= sizeLine;decide,(.cons ⟨_,rfl⟩ (.cons ⟨_,rfl⟩ .nil))⟩,λ_=>.inr ⟨_,_,_,kV4_FORMS,rfl,rfl,by show 1 <= sizeLine;decide,(.cons ⟨_,rfl⟩ .nil)⟩,λ_=>.inr ⟨_,_,_,kV5_FORMS,rfl,rfl,by show 1 <= sizeLine;decide,(.cons ⟨_,rfl⟩ .nil)⟩,λ_=>.inr ⟨_,_,_,kV6_FORMS,rfl,rfl,by show 1 <= sizeLine;decide,(.cons ⟨_,rfl⟩ .nil)⟩,λ_=>.inr ⟨_,_,_,kV7_FORMS,rfl,rfl,by show 1 <= sizeLine;decide,(.cons ⟨_,rfl⟩ .nil)⟩,xc_Full,xc_NoName,xc_NoTask,xc_NoDeed,⟨xk_ga_NoDeed,xk_gt_NoDeed,xk_cl_NoDeed,xk_ob_NoDeed,xk_be_NoDeed,xk_is_NoDeed⟩,mo_em_1,mo_ki_1,mo_ki_2,mo_ki_3,mo_em_dd,mo_em_df,mo_em_dn,mo_em_dt,mo_em_fd,mo_em_ff,mo_em_fn,mo_em_ft,mo_em_nd,mo_em_nf,mo_em_nn,mo_em_nt,mo_em_td,mo_em_tf,mo_em_tn,mo_em_tt⟩
 refine⟨dd.law,?_,λbase _ _=>Ex GG⟩
 obtain⟨_,_,_,_,_,_,_,_,_,e,_⟩:=F_z66.ex
 intro s v
 show BindsTo s d_z66 _ _
 rw[e]
 exact .of_eq rfl
theorem walk {l:PySem.W.OpenLaw}{q:Program}{loose:List Str}{XP:(Str->Option Value)->Heap->Prop}{YP:World->Heap->Prop}{d:DefRec}{K:Params->PySem.W.Frag}(hn:l.most=some 63) (hdf:d.params.defaults=[])
 (hY:∀ (w:World) (h:Heap),YP w h->(K w.params).In h)
 (F:∀ (w:World) (mg:Str->Option Value) (fa:Addr) (h:Heap),(K w.params).In h->h.Ns mainGlobals mg->mg d.name=some (.ref fa) ->
  ∃ fd:FuncData,(∀ (s:Shared) (u:Value),BindsTo s fd ⟨[u],[]⟩ [("script",u)])/\∀ base:Heap,(K w.params).In base->base.Ns mainGlobals mg->FnOk l.prog w (K w.params) mg base CX0 17 fa fd ["script"] (va (K w.params))) :
 PySem.W.WalkO q loose XP YP l.row.toRowW d [] (λf vs=>PySem.call f vs) :=
 L2.walk_of (n:=63) (k:=17) (x:="script") (CX:=λ_=>CX0) (sp:=λw=>va (K w.params)) hn (by decide) hdf ⟨rfl,by decide,by decide⟩ hY F (λ_ _ a ns hl _ hS=>⟨a,ns,rfl,hS,hl,λ_=>rfl⟩) λ_ _ _ _ _ z=>z
end My
open PySem PySem.W PyProof.Rows
set_option maxRecDepth 100000 in
set_option maxHeartbeats 0 in
theorem PySem.Challenge.cw_askring_k22_no_deeds_holds : PySem.Challenge.rw_askring_k22_no_deeds.Holds := by
  w_on; o_law; k_head; (case hw => w_witness2)
  k_fill
  refine My.walk (l := PySem.Challenge.rw_askring_k22_no_deeds) rfl rfl (fun w h Y => PySem.W.kIn_of Y) ?F
  case F =>
    intro w mg fa h KX G hmg
    refine' My.all_mk KX G hmg ?aC_Ring ?aC_Hand ?aC_Heart ?aC_Store ?aC_Yard ?l_z0 ?l_z1 ?l_z2 ?l_z3 ?l_z4 ?l_z5 ?l_z6 ?l_z7 ?l_z8 ?l_z9 ?l_z10 ?l_z11 ?l_z12 ?l_z13 ?l_z14 ?l_z15 ?l_z16 ?l_z17 ?l_z18 ?l_z19 ?l_z20 ?l_z21 ?l_z22 ?l_z23 ?l_z24 ?l_z25 ?l_z26 ?l_z27 ?l_z28 ?l_z29 ?l_z30 ?l_z31 ?l_z32 ?l_z33 ?l_z34 ?l_z35 ?l_z36 ?l_z37 ?l_z38 ?l_z39 ?l_z40 ?l_z41 ?l_z42 ?l_z43 ?l_z44 ?l_z45 ?l_z46 ?l_z47 ?l_z48 ?l_z49 ?l_z50 ?l_z51 ?l_z52 ?l_z53 ?l_z54 ?l_z55 ?l_z56 ?l_z57 ?l_z58 ?l_z59 ?l_z60 ?l_z61 ?l_z62 ?l_z63 ?l_z64 ?l_z65 ?l_z66 ?na_Ring ?na_Hand ?na_Heart ?na_Store ?na_Yard ?nn ?aX_RingError ?aX_Full ?aX_NoName ?aX_NoTask ?aX_NoDeed ?aX_NoRow ?aT_ASKS ?kT_ASKS ?aT_ANSWERS ?kT_ANSWERS ?aT_SLEEP_CELLS ?kT_SLEEP_CELLS ?aI_MOST_WORTH ?aT_FORMS ?kT_FORMS ?kN_FORMS ?kV0_FORMS ?kV1_FORMS ?kV2_FORMS ?kV3_FORMS ?kV4_FORMS ?kV5_FORMS ?kV6_FORMS ?kV7_FORMS ?xc_Full ?xc_NoName ?xc_NoTask ?xc_NoDeed ?xk_ga_NoDeed ?xk_gt_NoDeed ?xk_cl_NoDeed ?xk_ob_NoDeed ?xk_be_NoDeed ?xk_is_NoDeed ?mo_em_1 ?mo_ki_1 ?mo_ki_2 ?mo_ki_3 ?mo_em_dd ?mo_em_df ?mo_em_dn ?mo_em_dt ?mo_em_fd ?mo_em_ff ?mo_em_fn ?mo_em_ft ?mo_em_nd ?mo_em_nf ?mo_em_nn ?mo_em_nt ?mo_em_td ?mo_em_tf ?mo_em_tn ?mo_em_tt
    (case aC_Ring | aC_Hand | aC_Heart | aC_Store | aC_Yard => refine' ⟨?ka, ⟨?kb, ?kc, ?kd, ?ke⟩, ?kg, ?kh⟩; (case ka => k_is); (case kb => k_is); (case kc => k_is); (case kd => k_is); (case ke => k_is); (case kg => k_is); (case kh => k_is))
    (case l_z0 | l_z1 | l_z2 | l_z3 => refine' ⟨?ka, _, L2.fun_mk ?kb ?kc ?kd⟩; (case ka => k_is); (case kb => k_is); (case kc => k_is); (case kd => k_is))
    (case l_z4 | l_z5 | l_z6 | l_z7 | l_z8 | l_z9 | l_z10 | l_z11 | l_z12 | l_z13 | l_z14 | l_z15 | l_z16 | l_z17 | l_z18 | l_z19 | l_z20 | l_z21 | l_z22 | l_z23 | l_z24 | l_z25 | l_z26 | l_z27 | l_z28 | l_z29 | l_z30 | l_z31 => refine' ⟨?ka, ?ke, _, L2.fun_mk ?kb ?kc ?kd⟩; (case ka => k_is); (case ke => k_is); (case kb => k_is); (case kc => k_is); (case kd => k_is))
    (case l_z32 | l_z33 | l_z34 | l_z35 | l_z36 => refine' ⟨?ka, _, L2.fun_mk ?kb ?kc ?kd⟩; (case ka => k_is); (case kb => k_is); (case kc => k_is); (case kd => k_is))
    (case l_z37 | l_z38 | l_z39 | l_z40 | l_z41 | l_z42 | l_z43 | l_z44 | l_z45 | l_z46 | l_z47 | l_z48 | l_z49 | l_z50 | l_z51 => refine' ⟨?ka, ?ke, _, L2.fun_mk ?kb ?kc ?kd⟩; (case ka => k_is); (case ke => k_is); (case kb => k_is); (case kc => k_is); (case kd => k_is))
    (case l_z52 | l_z53 | l_z54 | l_z55 | l_z56 | l_z57 | l_z58 | l_z59 | l_z60 | l_z61 | l_z62 | l_z63 | l_z64 | l_z65 | l_z66 => refine' ⟨?ka, _, L2.fun_mk ?kb ?kc ?kd⟩; (case ka => k_is); (case kb => k_is); (case kc => k_is); (case kd => k_is))
    (case na_Ring | na_Hand | na_Heart | na_Store | na_Yard => repeat (first | exact trivial | (refine' And.intro ?ka ?_; (case ka => (show PySem.W.findIn _ _ _ = _); k_is))))
    (case nn => repeat (first | exact trivial | (refine' And.intro ?ka ?_; (case ka => k_is))))
    (case aX_RingError | aX_Full | aX_NoName | aX_NoTask | aX_NoDeed | aX_NoRow | aT_ASKS | kT_ASKS | aT_ANSWERS | kT_ANSWERS | aT_SLEEP_CELLS | kT_SLEEP_CELLS | aI_MOST_WORTH | aT_FORMS | kT_FORMS => k_is)
    (case kN_FORMS => first | rfl | decide)
    (case kV0_FORMS | kV1_FORMS | kV2_FORMS | kV3_FORMS | kV4_FORMS | kV5_FORMS | kV6_FORMS | kV7_FORMS => k_is)
    (case xc_Full | xc_NoName | xc_NoTask | xc_NoDeed => k_exc)
    (case xk_ga_NoDeed | xk_gt_NoDeed | xk_cl_NoDeed | xk_ob_NoDeed | xk_be_NoDeed | xk_is_NoDeed => k_is)
    (case mo_em_1 => kts_exm)
    (case mo_ki_1 | mo_ki_2 | mo_ki_3 => kit_is)
    (case mo_em_dd | mo_em_df | mo_em_dn | mo_em_dt | mo_em_fd | mo_em_ff | mo_em_fn | mo_em_ft | mo_em_nd | mo_em_nf | mo_em_nn | mo_em_nt | mo_em_td | mo_em_tf | mo_em_tn | mo_em_tt => kts_exm)
#print axioms PySem.Challenge.cw_askring_k22_no_deeds_holds

