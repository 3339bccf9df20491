import PyProof.Rows.All
import Wide.All
import OpenK.AllK
import Wide.FinOn
import Lean
import PyProof.EqAt
import PyProof.EqKinds
import PyProof.TupleCall
import PyProof.NeKinds
import PyProof.ListRange
import OpenK.KOwn
import KE.KTryMore
import KE.KSorted
import KE.KSort
import PyProof.Rows.SortWalk
import PyProof.SeqI3
import PyProof.Rows.SumAny
import PyProof.Rows.SeqMore2
import KE.KListMore
import PyProof.Rows.Range3
import PyProof.Cells
import KE.KTabLook
import PyProof.SliceStr2
import PyProof.StrBlockI
import PyProof.Rows.FStr
import PyProof.Rows.StrNews2
import PyProof.ListStr
import PyProof.Rows.StrStep
import PyProof.Rows.StrJoinStr
import PyProof.AutoSeq1
import PyProof.ListRange
import KE.KRevIter
import PyProof.CollectIter
import PyProof.FactsAll.range_iterator_1
import PyProof.Draws
import PyProof.EnumMake
import PyProof.Rows.RuleM_int
import PyProof.FactsAll.int_6
import OpenK.AllK
import PySem.Challenge.RW_braidcomb_k41_unfolded_walked
open PySem.W (instObj methodObj lookIn plainGet findIn mroIn kitOne kia_one kitx_list kitx_tuple kitx_dict keepIn cellsFrom_some codeIn nsIn mg_of mg_none_of kIn_of)
open Nat (lt_of_lt_of_le lt_irrefl ne_of_lt le_trans ne_of_gt le_of_eq zero_le zero_add le_total min_eq_left min_eq_right reduceAdd reduceSub reduceEqDiff succ_mul mul_le_mul ble lt_or_ge mul_add)
open List (range mem_filter mem_range mem_cons_self mem_cons_of_mem mem_cons mem_append getElem?_set_self getElem?_set_ne mem_append_right size_toArray append_nil nodup_cons of_mem_zip replicate length_take getElem?_append_right getElem?_replicate getElem?_append_left getElem?_map length_append length_map length_drop map_nil map_cons length_singleton Pairwise getElem?_eq_getElem drop_zero lookup_cons length_cons not_mem_nil all_cons all_eq_true map_append take_of_length_le take_nil length_nil cons_append nil_append replicate_zero replicate_succ range_succ flatten_cons mem_map mem_of_mem_take sum_cons map_map Nodup filter_cons Perm mem_of_getLast? mem_reverse mem_singleton length_reverse map reverse_cons mem_replicate singleton_append mem_of_mem_drop)
open Array (length_toList toList)
open Int (toNat_natCast emod_nonneg natCast_add toNat)
open Bool (and_eq_true false_eq_true not_eq_true')
open Option (getD_none getD_some map_some getD)
open Classical (propDecidable byContradiction)
set_option bootstrap.genMatcherCode false
set_option hygiene false
local macro_rules
|`(tactic|simp_all [$l,*])=>`(tactic|simp -implicitDefEqProofs only [mS,mD,mF,aM,ae,reduceAdd,reduceSub,reduceEqDiff,reduceIte,aj,ak,aP,aQ,aR,aS,$l,*])
|`(tactic|simp_all)=>`(tactic|simp -implicitDefEqProofs only [mS,mD,mF,aM,ae,reduceAdd,reduceSub,reduceEqDiff,reduceIte,aj,ak,aP,aQ,aR,aS])
local macro_rules|`(tactic|simp_all only [$l,*])=>`(tactic|simp -implicitDefEqProofs only [$l,*])
local macro_rules|`($a>=>$b)=>`(R.bind $a $b)
set_option hygiene true
noncomputable section
set_option Elab.async false
set_option linter.all false
set_option maxRecDepth 100000
namespace L2
open PySem PySem.Spec PyProof.Rows
abbrev Key:=Sum Int Str
def Dh:Key->Value->Bool
 |.inl k,v=>Value.isInt k v
 |.inr x,v=>Value.isStrOf x v
def KH(w:World):Key->Int
 |.inl k=>hashInt k
 |.inr x=>hashStr w x
theorem bV:∀{k:Key}{v:Value},Dh k v=true->(∃i t,k=Sum.inl i/\v=Value.int i t)\/(∃x t,k=Sum.inr x/\v=Value.str x t)
 |.inl i,v,h=>by
  obtain⟨t,e⟩:=Value.isInt_shape (k:=i) (v:=v) h
  exact .inl ⟨i,t,rfl,e⟩
 |.inr x,v,h=>by
  obtain⟨t,e⟩:=Value.isStrOf_shape (x:=x) (v:=v) h
  exact .inr ⟨x,t,rfl,e⟩
theorem EL(a b:Int):decide ((Sum.inl a:Key)=Sum.inl b)=(a==b):=by
 by_cases e:a=b
 ·subst e;simp
 ·have h:¬(Sum.inl a:Key)=Sum.inl b:=λq=>e (Sum.inl.inj q)
  rw[decide_eq_false h]
  exact(beq_eq_false_iff_ne.mpr e).symm
theorem EO(a b:Str):decide ((Sum.inr a:Key)=Sum.inr b)=decide (a=b):=by
 by_cases e:a=b
 ·subst e;simp
 ·have h:¬(Sum.inr a:Key)=Sum.inr b:=λq=>e (Sum.inr.inj q)
  rw[decide_eq_false h,decide_eq_false e]
theorem ER(a:Int)(b:Str):decide ((Sum.inl a:Key)=Sum.inr b)=false:=decide_eq_false (λq=>nomatch q)
theorem ES(a:Str)(b:Int):decide ((Sum.inr a:Key)=Sum.inl b)=false:=decide_eq_false (λq=>nomatch q)
noncomputable def wY(prog:Program)(w:World):PySem.KeyKind prog w Key where
 is:=Dh
 hash:=KH w
 inj:=λv a b ha hb=>by
  rcases bV ha with⟨i,t,rfl,rfl⟩|⟨x,t,rfl,rfl⟩
  ·rcases bV hb with⟨j,u,rfl,e⟩|⟨y,u,rfl,e⟩
   ·injection e with e1 _;rw[e1]
   ·exact nomatch e
  ·rcases bV hb with⟨j,u,rfl,e⟩|⟨y,u,rfl,e⟩
   ·exact nomatch e
   ·injection e with e1 _;rw[e1]
 byValue:=λk v h=>by
  rcases bV h with⟨i,t,rfl,rfl⟩|⟨x,t,rfl,rfl⟩<;>rfl
 pyHash:=λhv h=>by
  rcases bV hv with⟨i,t,rfl,rfl⟩|⟨x,t,rfl,rfl⟩
  ·exact wpAny_pyHash_int h
  ·exact wpAny_pyHash_str h
 eqBool:=λhu hv h=>by
  rcases bV hu with⟨i,t,rfl,rfl⟩|⟨x,t,rfl,rfl⟩
  ·rcases bV hv with⟨j,u,rfl,rfl⟩|⟨y,u,rfl,rfl⟩
   ·rw[EL]at h;exact wpAny_eqBool_int h
   ·rw[ER]at h;exact SeqAt.EqAt.int_str i t y u _ _ _ _ h
  ·rcases bV hv with⟨j,u,rfl,rfl⟩|⟨y,u,rfl,rfl⟩
   ·rw[ES]at h;exact SeqAt.EqAt.str_int x t j u _ _ _ _ h
   ·rw[EO]at h;exact wpAny_eqBool_str h
 «strs»:=λk x t v h=>by
  rcases bV h with⟨i,u,rfl,e⟩|⟨y,u,rfl,e⟩
  ·exact nomatch e
  ·injection e with e1 _
   subst e1
   cases v<;>rfl
end L2
namespace L2
open PySem PySem.Spec PyProof.Rows
inductive V where
 |non|bl (b:Bool)|int (i:Int)|str (x:Str)|HL (b:Array UInt8)|Hu (b:UInt64)|ref (a:Addr)|ty (n:String)
 deriving DecidableEq
def RelV:V->Value->Prop
 |.non,u=>u=Value.none
 |.bl b,u=>u=Value.bool b
 |.int i,u=>∃t,u=Value.int i t
 |.str x,u=>∃t,u=Value.str x t
 |.HL b,u=>∃t,u=Value.bytes b t
 |.Hu b,u=>∃t,u=Value.float b t
 |.ref a,u=>u=Value.ref a
 |.ty n,u=>u=Value.type n
abbrev Vals:List V->List Value->Prop:=Paired RelV
theorem Vals.length {xs:List V}{us:List Value}(r:Vals xs us):xs.length=us.length:=Paired.length r
theorem Vals.get:∀{xs:List V}{us:List Value}{i:Nat}{x:V},Vals xs us->xs[i]?=some x->∃u,us[i]?=some u/\RelV x u
 |_,_,_,_,.nil,e=>by simp at e
 |_,_,0,_,.cons r _,e=>by simp at e;subst e;exact⟨_,rfl,r⟩
 |_,_,i+1,x,.cons _ t,e=>by
  obtain⟨u,h1,h2⟩:=Vals.get (i:=i) (x:=x) t (by simpa using e)
  exact⟨u,by simpa using h1,h2⟩
theorem Vals.append:∀{xs ys:List V}{us ws:List Value},Vals xs us->Vals ys ws->Vals (xs++ys) (us++ws)
 |_,_,_,_,.nil,s=>s
 |_,_,_,_,.cons r t,s=>.cons r (Vals.append t s)
theorem Vals.take:∀{xs:List V}{us:List Value}(n:Nat),Vals xs us->Vals (xs.take n) (us.take n)
 |_,_,0,_=>.nil
 |_,_,_+1,.nil=>.nil
 |_,_,n+1,.cons r t=>.cons r (Vals.take n t)
theorem Vals.drop:∀{xs:List V}{us:List Value}(n:Nat),Vals xs us->Vals (xs.drop n) (us.drop n)
 |_,_,0,r=>r
 |_,_,_+1,.nil=>.nil
 |_,_,n+1,.cons _ t=>Vals.drop n t
def ET:Option V->Option Value->Prop
 |some v,some u=>RelV v u
 |none,none=>True
 |_,_=>False
def KV{κ:Type}:List (κ×V)->List (κ×Value)->Prop:=Paired λ(p:κ×V)(q:κ×Value)=>p.1=q.1/\RelV p.2 q.2
def kV:Key->V
 |.inl i=>.int i
 |.inr x=>.str x
inductive HO where
 |lst (xs:List V)
 |tup (xs:List V)
 |dK (kvs:List (Key×V))|dT (kvs:List (List Key×V))
 |set (S:Int->Bool) (n:Nat)
 |ins (C dx:Addr) (fs:List (Str×V))
 |own (x:Addr)
 |xd (fs:List (Str×V))
 |met (f x:Addr)
 |KI (lo hi:Int)
 |qH (o:Obj) (u:HO)
 |EU (ps:Array Value)
 |ext (φ:Heap->Prop)
abbrev Hp:=Addr->Option HO
def upd(H:Hp)(a:Addr)(o:HO):Hp:=λb=>if b=a then some o else H b
theorem bO{H:Hp}{a:Addr}{o:HO}:upd H a o a=some o:=by unfold upd;rw[if_pos rfl]
theorem aN{H:Hp}{a b:Addr}{o:HO}(h:b≠a):upd H a o b=H b:=by unfold upd;rw[if_neg h]
theorem nW{H:Hp}{a b:Addr}{o u:HO}(h:H a=some o)(h':H b=some u)(d:o≠u):a≠b:=by
 intro e;subst e;rw[h]at h';exact d (Option.some.inj h')
theorem bK{H:Hp}{a b:Addr}{o:HO}(h:H a=some o)(h':H b=none):a≠b:=by
 intro e;subst e;rw[h]at h';cases h'
section
variable(P:Program)(w:World)
noncomputable def dN(H:Hp)(h:Heap)(a:Addr):HO->Prop
 |.lst xs=>xs.length<=sizeLine/\∃(its:List Value)(n:Nat),Vals xs its/\h.get? a=some {cls:=.type "list",data:=.seq its.toArray n}
 |.tup xs=>xs.length<=sizeLine/\∃its:List Value,Vals xs its/\IsTup h a its.toArray
 |.dK kvs=>kvs.length<=sizeLine/\(a==sysModules)=false/\∃vs,KV kvs vs/\h.DictOf (wY P w) a vs
 |.dT kvs=>kvs.length<=sizeLine/\(a==sysModules)=false/\∃xs:List (List Key×Addr×Value),
   Paired (λ(p:List Key×V)(q:List Key×Addr×Value)=>p.1=q.1/\H q.2.1=some (.tup (p.1.map kV))/\RelV p.2 q.2.2) kvs xs/\
   ∃o es ep,h.get? a=some o/\o.ExactDict/\o.data=.dict es ep/\es.toList=xs.map (entryOfKey (tupleKind (wY P w)))/\(xs.map (·.1)).Nodup
 |.set S n=>h.SetOf (intKind P w) a S n
 |.ins C dx fs=>H dx=some (.own a)/\fs.length<=1000/\dx≠a/\h.get? a=some (instObj C dx)/\
   ∃mA,h.Ns1 dx mA/\(∀f,ET (fs.lookup f) (mA f))/\PySem.Within mA (fs.map (·.1))
 |.own _=>∃o,h.get? a=some o
 |.xd fs=>∃mA,h.Ns1 a mA/\∀f,ET (fs.lookup f) (mA f)
 |.KI lo hi=>∃t u v,h.get? a=some {cls:=.type "range",data:=.fields #[.int lo t,.int hi u,.int 1 v]}
 |.qH o u=>h.get? a=some o/\dN H h a u
 |.EU ps=>h.get? a=some {cls:=.none,data:=.fields ps}
 |.met f x=>h.get? a=some (methodObj (.ref f) (.ref x))
 |.ext φ=>φ h/\(∃o,h.get? a=some o)/\∀h1 h2:Heap,φ h1->(∀o,h1.get? a=some o->h2.get? a=some o)->φ h2
def nX(H:Hp)(h:Heap):Prop:=∀a o,H a=some o->dN P w H h a o
end
section
variable{P:Program}{w:World}{H H':Hp}{h h':Heap}{a:Addr}{o:HO}
theorem dN.lt (x:dN P w H h a o):a<h.objs.size:=by
 cases o with
 |lst xs=>obtain⟨_,_,_,_,e⟩:=x;exact Heap.lt_size e
 |tup xs=>obtain⟨_,_,_,p⟩:=x;exact p.lt
 |dK kvs=>obtain⟨_,_,_,_,o,_,_,e,_⟩:=x;exact Heap.lt_size e
 |dT kvs=>obtain⟨_,_,_,_,o,_,_,e,_⟩:=x;exact Heap.lt_size e
 |set S n=>obtain⟨o,_,_,_,e,_⟩:=x;exact Heap.lt_size e
 |ins C dx fs=>obtain⟨_,_,_,e,_⟩:=x;exact Heap.lt_size e
 |own y=>obtain⟨_,e⟩:=x;exact Heap.lt_size e
 |xd fs=>obtain⟨_,⟨_,_,_,e,_⟩,_⟩:=x;exact Heap.lt_size e
 |KI lo hi=>obtain⟨_,_,_,e⟩:=x;exact Heap.lt_size e
 |qH ob u=>obtain⟨e,_⟩:=x;exact Heap.lt_size e
 |EU ps=>exact Heap.lt_size (show h.get? a=some _ from x)
 |met f y=>exact Heap.lt_size (show h.get? a=some _ from x)
 |ext φ=>obtain⟨_,⟨_,e⟩,_⟩:=x;exact Heap.lt_size e
theorem Paired.HM {α β:Type}{F G:α->β->Prop}:∀{l₁:List α}{l₂:List β},Paired F l₁ l₂->(∀a b,F a b->G a b)->Paired G l₁ l₂
 |_,_,.nil,_=>.nil
 |_,_,.cons r t,f=>.cons (f _ _ r) (Paired.HM t f)
theorem dN.vk (x:dN P w H h a o)(k:∀b u,(b=a\/H b=some (.own a))->h.get? b=some u->h'.get? b=some u)
  (ho:∀b,H b=some (.own a)->H' b=some (.own a))(ht:∀b xs,H b=some (.tup xs)->H' b=some (.tup xs)):dN P w H' h' a o:=by
 induction o with
 |lst xs=>obtain⟨z,its,n,r,e⟩:=x;exact⟨z,its,n,r,k _ _ (.inl rfl) e⟩
 |tup xs=>obtain⟨z,its,r,ob,e,c⟩:=x;exact⟨z,its,r,ob,k _ _ (.inl rfl) e,c⟩
 |dK kvs=>obtain⟨z,y,vs,r,ob,es,ep,e,c⟩:=x;exact⟨z,y,vs,r,ob,es,ep,k _ _ (.inl rfl) e,c⟩
 |dT kvs=>
  obtain⟨z,y,xs,r,ob,es,ep,e,c⟩:=x
  exact⟨z,y,xs,Paired.HM r λp q z=>⟨z.1,ht _ _ z.2.1,z.2.2⟩,ob,es,ep,k _ _ (.inl rfl) e,c⟩
 |set S n=>obtain⟨ob,es,ep,t,e,c⟩:=x;exact⟨ob,es,ep,t,k _ _ (.inl rfl) e,c⟩
 |ins C dx fs=>
  obtain⟨d,z,ne,e,mA,⟨od,es,ep,e2,c⟩,r⟩:=x
  exact⟨ho _ d,z,ne,k _ _ (.inl rfl) e,mA,⟨od,es,ep,k _ _ (.inr d) e2,c⟩,r⟩
 |own y=>obtain⟨ob,e⟩:=x;exact⟨ob,k _ _ (.inl rfl) e⟩
 |xd fs=>obtain⟨mA,⟨od,es,ep,e,c⟩,r⟩:=x;exact⟨mA,⟨od,es,ep,k _ _ (.inl rfl) e,c⟩,r⟩
 |KI lo hi=>obtain⟨t,u,v,e⟩:=x;exact⟨t,u,v,k _ _ (.inl rfl) e⟩
 |qH ob u ih=>obtain⟨e,q⟩:=x;exact⟨k _ _ (.inl rfl) e,ih q⟩
 |EU ps=>
  have e:h.get? a=some {cls:=.none,data:=.fields ps}:=x
  show h'.get? a=some {cls:=.none,data:=.fields ps}
  exact k a _ (.inl rfl) e
 |met f y=>
  have e:h.get? a=some (methodObj (.ref f) (.ref y)):=x
  show h'.get? a=some (methodObj (.ref f) (.ref y))
  exact k a _ (.inl rfl) e
 |ext φ=>obtain⟨p,⟨o,e⟩,st⟩:=x;exact⟨st _ _ p λo q=>k _ _ (.inl rfl) q,⟨o,k _ _ (.inl rfl) e⟩,st⟩
theorem nX.lt (x:nX P w H h)(e:H a=some o):a<h.objs.size:=(x a o e).lt
theorem nX.fresh (x:nX P w H h)(e:h.objs.size<=a):H a=none:=by
 cases q:H a with
 |none=>rfl
 |some u=>exact absurd (lt_of_lt_of_le (x.lt q) e) (lt_irrefl _)
theorem nX.kept (x:nX P w H h)(k:∀b u,h.get? b=some u->h'.get? b=some u):nX P w H h':=λa o e=>
 (x a o e).vk (λb u _ q=>k b u q) (λ_ q=>q) λ_ _ q=>q
theorem nX.laid (x:nX P w H h)(k:∀b u,h.get? b=some u->h'.get? b=some u)(hp:h.objs.size<=a)(new:dN P w (upd H a o) h' a o):nX P w (upd H a o) h':=λb u e=>by
 have hn:=x.fresh hp
 by_cases hb:b=a
 ·subst hb;rw[bO]at e;cases e;exact new
 ·rw[aN hb]at e
  exact(x b u e).vk (λc v _ q=>k c v q) (λc q=>by rw[aN (bK q hn)];exact q) λc xs q=>by rw[aN (bK q hn)];exact q
end
def Rd(H:Hp)(a:Addr)(u:HO):Prop:=H a=some u\/∃o,H a=some (.qH o u)
theorem Rd.ok {P:Program}{w:World}{H:Hp}{h:Heap}{a:Addr}{u:HO}(r:Rd H a u)(x:nX P w H h):dN P w H h a u:=by
 rcases r with r|⟨o,r⟩
 ·exact x a u r
 ·obtain⟨_,q⟩:=x a _ r
  exact q
def J3:Option HO->Prop
 |some (.lst _)=>True
 |some (.dK _)=>True
 |some (.dT _)=>True
 |some (.set _ _)=>True
 |some (.ins _ _ _)=>True
 |some (.ext _)=>True
 |_=>False
section
variable{P:Program}{w:World}{H:Hp}{h h':Heap}{x e:Addr}{o':HO}
theorem nX.write (ok:nX P w H h)(mu:J3 (H x))(he:e=x\/H e=some (.own x))(k:∀b u,b≠e->h.get? b=some u->h'.get? b=some u)(Hv:∃u,h'.get? e=some u)
  (new:dN P w (upd H x o') h' x o'):nX P w (upd H x o') h':=λb u q=>by
 have HN:∀c y,H c=some (.own y)->c≠x:=λc y r z=>by subst z;rw[r]at mu;exact mu
 have KJ:∀c xs,H c=some (.tup xs)->c≠x:=λc xs r z=>by subst z;rw[r]at mu;exact mu
 by_cases hb:b=x
 ·subst hb;rw[bO]at q;cases q;exact new
 ·rw[aN hb]at q
  by_cases EV:b=e
  ·have q':H b=some (.own x):=by
    rcases he with z|z
    ·exact absurd (EV.trans z) hb
    ·rw[EV];exact z
   rw[q]at q';cases q'
   obtain⟨v,hv⟩:=Hv
   exact⟨v,by rw[EV];exact hv⟩
  ·refine(ok b u q).vk (λc v hc r=>k c v ?_ r) (λc r=>by rw[aN (HN c b r)];exact r) λc xs r=>by rw[aN (KJ c xs r)];exact r
   rcases hc with rfl|hc
   ·exact EV
   ·rintro rfl
    rcases he with z|z
    ·exact HN c b hc z
    ·rw[hc]at z;cases z;exact hb rfl
end
structure Un(fs ex:List Addr)(H H':Hp)(h h':Heap):Prop where
 keep:∀b o,h.get? b=some o->H b=none->b∉fs->b∉ex->h'.get? b=some o
 slot:∀b o,h.get? b=some o->H b=none->b∈fs->b∉ex->∃sl,h'.get? b=some {o with slots:=sl}
 free:∀b o,h.get? b=some o->H b=none->b∉ex->H' b=none
 there:∀b o,h.get? b=some o->b∉ex->∃o',h'.get? b=some o'
 tups:∀b xs,H b=some (.tup xs)->H' b=some (.tup xs)
 rJ:∀b o u,H b=some (.qH o u)->H' b=some (.qH o u)
 tM:∀b ps,H b=some (.EU ps)->∃more,H' b=some (.EU (ps++more))
section
variable{fs Nv ex Rf:List Addr}{H H1 H2:Hp}{h h1 h2 h':Heap}{a x e:Addr}{o:HO}
theorem Un.any (u:Un fs ex H H1 h h1){b:Addr}{ob:Obj}(q:h.get? b=some ob)(n:H b=none)(hx:b∉ex):∃sl,h1.get? b=some {ob with slots:=sl}:=by
 by_cases hb:b∈fs
 ·exact u.slot b ob q n hb hx
 ·exact⟨ob.slots,u.keep b ob q n hb hx⟩
theorem Un.kept (k:∀b u,h.get? b=some u->h'.get? b=some u):Un fs ex H H h h':=
 ⟨λb ob q _ _ _=>k b ob q,λb ob q _ _ _=>⟨ob.slots,k b ob q⟩,λ_ _ _ n _=>n,λb ob q _=>⟨ob,k b ob q⟩,λ_ _ q=>q,λ_ _ _ q=>q,λ_ ps q=>⟨#[],by rw[q];simp⟩⟩
theorem Un.refl:Un fs ex H H h h:=Un.kept λ_ _ q=>q
theorem Un.laid (k:∀b u,h.get? b=some u->h'.get? b=some u)(hp:h.objs.size<=a)(hn:H a=none):Un fs ex H (upd H a o) h h' where
 keep:=λb u q _ _ _=>k b u q
 slot:=λb u q _ _ _=>⟨u.slots,k b u q⟩
 free:=λb u q n _=>by rw[aN (ne_of_lt (lt_of_lt_of_le (Heap.lt_size q) hp))];exact n
 there:=λb u q _=>⟨u,k b u q⟩
 tups:=λb xs q=>by rw[aN (bK q hn)];exact q
 rJ:=λb u xs q=>by rw[aN (bK q hn)];exact q
 tM:=λb ps q=>⟨#[],by rw[aN (bK q hn),q];simp⟩
theorem Un.write (mu:J3 (H x))(he:e=x\/H e=some (.own x))(k:∀b u,b≠e->h.get? b=some u->h'.get? b=some u)(Hv:∃u,h'.get? e=some u):Un fs ex H (upd H x o) h h':=by
 have hx:∀b,H b=none->b≠x:=λb n z=>by subst z;rw[n]at mu;exact mu
 have hb:∀b,H b=none->b≠e:=λb n z=>by
  subst z
  rcases he with r|r
  ·exact hx b n r
  ·rw[n]at r;cases r
 have hm:∀b u,H b=some u->¬J3 (some u)->b≠x:=λb u q nm z=>by subst z;rw[q]at mu;exact nm mu
 refine⟨λb u q n _ _=>k b u (hb b n) q,λb u q n _ _=>⟨u.slots,k b u (hb b n) q⟩,λb u q n _=>by rw[aN (hx b n)];exact n,λb u q _=>?_,
  λb xs q=>by rw[aN (hm b _ q λz=>z)];exact q,λb u xs q=>by rw[aN (hm b _ q λz=>z)];exact q,λb ps q=>⟨#[],by rw[aN (hm b _ q λz=>z),q];simp⟩⟩
 by_cases EV:b=e
 ·subst EV;exact Hv
 ·exact⟨u,k b u EV q⟩
end
def Ka(h:Heap)(H:Hp):List Addr:=(range h.objs.size).filter λa=>(H a).isSome
def rK(h:Heap)(H:Hp):Heap:=PySem.W.hideAll h (Ka h H)
theorem yc(h:Heap)(H:Hp):(rK h H).objs.size=h.objs.size:=PySem.W.hideAll_size _ _
theorem y8{h:Heap}{H:Hp}{b:Addr}{o:Obj}(e:h.get? b=some o)(n:H b=none):(rK h H).get? b=some o:=
 PySem.W.hideAll_get _ e λhm=>by
  have q:(H b).isSome=true:=(mem_filter.mp hm).2
  rw[n]at q;simp at q
theorem Bu{h:Heap}{H:Hp}{b:Addr}{o:Obj}(e:(rK h H).get? b=some o):h.get? b=some o/\H b=none:=by
 have e':h.get? b=some o:=PySem.W.of_hideAll (Ka h H) e
 refine⟨e',?_⟩
 cases q:H b with
 |none=>rfl
 |some x=>
  have hm:b∈Ka h H:=mem_filter.mpr ⟨mem_range.mpr (Heap.lt_size e'),by simp[q]⟩
  have z:(rK h H).get? b=none:=PySem.W.hideAll_none (Ka h H) hm
  rw[z]at e;cases e
def Bv(g h:Heap)(L:Addr):List (Addr×Obj):=(range h.objs.size).filterMap λa=>if a=L\/(g.get? a).isSome=true then none else(h.get? a).map λo=>(a,o)
def rest(g h:Heap)(L d:Addr):List (Addr×Obj):=(Bv g h L).filter λp=>decide (p.1≠d)
end L2
namespace L2
open PySem PySem.Spec PyProof.Rows
structure Mod(K:PySem.W.Frag)(mg:Str->Option Value)(base:Heap):Prop where
 KN:K.In base
 glob:base.Ns mainGlobals mg
 blt:∃mb,base.Ns builtinsNs mb/\∀x:Str,x≠"__name__"->mb x=bootBuiltins x
 nolimit:base.NoLimit
structure Cx where
 prog:Program
 w:World
 K:PySem.W.Frag
 mg:Str->Option Value
 base:Heap
 A:Around
 N:List Str
 s₀:Shared
 H₀:Hp
 env:Env
 outer:List Env
 stack:List Env
 ex:List Addr
 fn:Str->Bool
 calm:Bool
 pn:List (Addr×Obj)
 xe:Value->Shared->Prop
def wZ(l:List Env):List Addr:=l.filterMap (·.frame)
abbrev Cx.fs (X:Cx):List Addr:=wZ X.outer
def yd(sc:Scope)(x:Str):Prop:=sc.names.lookup x=some .local\/sc.names.lookup x=some .cell\/sc.names.lookup x=some .free
def Loc(sc:Scope)(x:Str):Prop:=sc.names.lookup x=some .local\/sc.names.lookup x=some .cell
def Look(env:Env)(h:Heap)(m:Str->Option Value)(x:Str)(u:Value):Prop:=
 (env.kindOf x=some .local/\m x=some u)\/((env.kindOf x=some .cell\/env.kindOf x=some .free)/\∃c,env.cells.lookup x=some c/\h.IsCell c (some u))
structure Cx.Ok (X:Cx):Prop where
 mod:Mod X.K X.mg X.base
 kind:X.env.scope.kind=.function
 glob:X.env.globals=mainGlobals
 blt:X.env.builtins=builtinsNs
 above:X.s₀.heap.objs.size<=X.env.locals
 inj:∀x y c,X.env.cells.lookup x=some c->X.env.cells.lookup y=some c->x=y
 has:∀x,(X.env.kindOf x=some .cell\/X.env.kindOf x=some .free)->∃c,X.env.cells.lookup x=some c
 Hw:∀x c,X.fn x=true->X.env.cells.lookup x=some c->X.s₀.heap.objs.size<=c
 hd:X.calm=true->X.A.handled=none
 frames:X.A.frames=some X.stack
 HP:X.stack=X.outer\/(X.stack=X.env::X.outer/\X.env.frame=some X.env.locals)
 Kb:∀b∈X.ex,b≠X.env.locals/\∀x c,X.env.cells.lookup x=some c->c≠b
 bs:∀b o,X.base.get? b=some o->X.s₀.heap.get? b=some o/\X.H₀ b=none
 Bw:X.base.objs.size<=X.s₀.heap.objs.size
 ye:∀b o,X.base.get? b=some o->b∉X.ex
 yf:∀b∈X.ex,b∉X.fs
 oE:X.s₀.heap.FunFrames X.base X.outer
 EY:∀b∈X.fs,X.H₀ b=none
structure Inv(X:Cx)(pins:List (Addr×Obj))(σ:List (Option V))(H:Hp)(s:Shared):Prop where
 ok:X.Ok
 os:s.os=X.s₀.os
 bare:AllBare s.gens
 base:Un X.fs X.ex X.H₀ H X.s₀.heap s.heap
 loc:∃m,s.heap.Ns X.env.locals m/\∀(i:Nat)(x:Str)(v:V),X.N[i]?=some x->σ[i]?=some (some v)->yd X.env.scope x->∃u,RelV v u/\Look X.env s.heap m x u
 cell:∀x c,X.env.cells.lookup x=some c->∃v,s.heap.IsCell c v
 free:H X.env.locals=none
 kY:∀x c,X.env.cells.lookup x=some c->H c=none
 pin:∀p∈X.pn++pins,s.heap.get? p.1=some p.2/\H p.1=none/\p.1≠X.env.locals/\p.1∉X.fs/\∀v,p.2.data≠.cell v
 hok:nX X.prog X.w H s.heap
 len:σ.length=X.N.length
section
variable{X:Cx}{pins:List (Addr×Obj)}{σ:List (Option V)}{H H':Hp}{s:Shared}{h':Heap}
theorem Cx.Ok.KO (ok:X.Ok){b:Addr}{o:Obj}(e:X.base.get? b=some o):b∉X.fs:=λhb=>by
 have:=(ok.oE.mem hb).1
 rw[e]at this;cases this
theorem Inv.bs (I:Inv X pins σ H s):∀b o,X.base.get? b=some o->s.heap.get? b=some o/\H b=none:=λb o e=>
 ⟨I.base.keep b o (I.ok.bs b o e).1 (I.ok.bs b o e).2 (I.ok.KO e) (I.ok.ye b o e),I.base.free b o (I.ok.bs b o e).1 (I.ok.bs b o e).2 (I.ok.ye b o e)⟩
theorem Inv.bk (I:Inv X pins σ H s):∀b o,X.base.get? b=some o->s.heap.get? b=some o:=λb o e=>(I.bs b o e).1
theorem Inv.mod (I:Inv X pins σ H s):Mod X.K X.mg X.base:=I.ok.mod
theorem Inv.rL (I:Inv X pins σ H s):X.K.In s.heap:=I.ok.mod.KN.keeps I.bk
theorem Inv.lt (I:Inv X pins σ H s):X.env.locals<s.heap.objs.size:=let⟨_,hn,_⟩:=I.loc;hn.lt
theorem Inv.sz (I:Inv X pins σ H s):X.s₀.heap.objs.size<=s.heap.objs.size:=le_trans I.ok.above (Nat.le_of_lt I.lt)
theorem Inv.KP (I:Inv X pins σ H s){a:Addr}(h:s.heap.objs.size<=a):a∉X.fs:=λhb=>by
 obtain⟨_,o,ho,_⟩:=I.ok.oE.mem hb
 exact absurd (lt_of_lt_of_le (Heap.lt_size ho) (le_trans I.sz h)) (lt_irrefl _)
theorem Inv.EZ (I:Inv X pins σ H s):∀x c,X.env.cells.lookup x=some c->c≠X.env.locals:=λx c e z=>by
 obtain⟨v,o,ho,hd⟩:=I.cell x c e
 obtain⟨m,⟨o',es,ep,y9,HQ,_⟩,_⟩:=I.loc
 rw[z,y9]at ho;cases ho;rw[HQ]at hd;cases hd
theorem Inv.oE (I:Inv X pins σ H s):s.heap.FunFrames X.base X.outer:=by
 have all:∀(l:List Env),(∀b∈wZ l,b∈X.fs)->X.s₀.heap.FunFrames X.base l->s.heap.FunFrames X.base l:=by
  intro l
  induction l with
  |nil=>intro _ _;trivial
  |cons env r ih=>
   intro hs hl
   obtain⟨hk,⟨L,o,hf,hn,ho,hd⟩,hr⟩:=hl
   have hL:L∈X.fs:=hs L (by unfold wZ;rw[List.filterMap_cons,hf];exact mem_cons_self)
   obtain⟨sl,e⟩:=I.base.slot L o ho (I.ok.EY L hL) hL λz=>I.ok.yf L z hL
   exact⟨hk,⟨L,_,hf,hn,e,hd⟩,ih (λb hb=>hs b (by unfold wZ;rw[List.filterMap_cons,hf];exact mem_cons_of_mem _ hb)) hr⟩
 exact all X.outer (λ_ hb=>hb) I.ok.oE
theorem Inv.stack (I:Inv X pins σ H s):s.heap.FunFrames X.base X.stack:=by
 rcases I.ok.HP with e|⟨e,hf⟩
 ·rw[e];exact I.oE
 ·rw[e]
  obtain⟨m,hn,_⟩:=I.loc
  refine .cons (by rw[I.ok.kind];decide) hf hn ?_ I.oE
  exact Heap.get?_none_of_le (le_trans I.ok.Bw I.ok.above)
theorem Inv.rM (I:Inv X pins σ H s):∀b∈wZ X.stack,b∈X.env.locals::X.fs:=λb hb=>by
 rcases I.ok.HP with e|⟨e,hf⟩
 ·rw[e]at hb;exact mem_cons_of_mem _ hb
 ·rw[e]at hb
  unfold wZ at hb
  rw[List.filterMap_cons,hf]at hb
  exact hb
theorem Inv.w5 (I:Inv X pins σ H s):∀b∈wZ X.stack,H b=none:=λb hb=>by
 rcases mem_cons.mp (I.rM b hb)with e|hb
 ·rw[e];exact I.free
 ·obtain⟨_,o,ho,_⟩:=I.ok.oE.mem hb
  exact I.base.free b o ho (I.ok.EY b hb) λz=>I.ok.yf b z hb
theorem Inv.step {g':Array GenState}{t':Nat}{d':Drawn}{ch:List Addr}(I:Inv X pins σ H s)
  (hch:∀b∈ch,(b∈X.ex\/X.s₀.heap.objs.size<=b)/\b≠X.env.locals/\(∀x c,X.env.cells.lookup x=some c->c≠b)/\∀p∈X.pn++pins,p.1≠b)
  (keep:∀b o,b≠X.env.locals->b∉X.fs->b∉ch->s.heap.get? b=some o->H b=none->h'.get? b=some o)
  (slot:∀b o,b≠X.env.locals->b∈X.fs->b∉ch->s.heap.get? b=some o->H b=none->∃sl,h'.get? b=some {o with slots:=sl})(free:∀b o,b∉ch->s.heap.get? b=some o->H b=none->H' b=none)
  (there:∀b o,b∉ch->s.heap.get? b=some o->∃o',h'.get? b=some o')
  (tups:∀b xs,H b=some (.tup xs)->H' b=some (.tup xs))(rJ:∀b o u,H b=some (.qH o u)->H' b=some (.qH o u))(tM:∀b ps,H b=some (.EU ps)->∃more,H' b=some (.EU (ps++more)))
  (ns:∀m,s.heap.Ns X.env.locals m->h'.Ns X.env.locals m)(hok:nX X.prog X.w H' h')(hg:AllBare g'):
  Inv X pins σ H' {s with heap:=h',gens:=g',drawn:=d',toks:=t'}:=by
 have Nx:∀b o,X.s₀.heap.get? b=some o->b≠X.env.locals:=λb o e=>ne_of_lt (lt_of_lt_of_le (Heap.lt_size e) I.ok.above)
 have Kc:∀b o,X.s₀.heap.get? b=some o->b∉X.ex->b∉ch:=λb o e hx hb=>by
  rcases(hch b hb).1 with z|z
  ·exact hx z
  ·exact absurd (lt_of_lt_of_le (Heap.lt_size e) z) (lt_irrefl _)
 have cellK:∀x c,X.env.cells.lookup x=some c->∀v,s.heap.IsCell c v->h'.IsCell c v:=λx c e v ⟨o,ho,hd⟩=>by
  have HR:c∉ch:=λz=>(hch c z).2.2.1 x c e rfl
  by_cases hc:c∈X.fs
  ·obtain⟨sl,q⟩:=slot c o (I.EZ x c e) hc HR ho (I.kY x c e)
   exact⟨_,q,hd⟩
  ·exact⟨o,keep c o (I.EZ x c e) hc HR ho (I.kY x c e),hd⟩
 refine⟨I.ok,I.os,hg,⟨λb o e n hb hx=>?_,λb o e n hb hx=>?_,λb o e n hx=>?_,λb o e hx=>?_,λb xs e=>tups b xs (I.base.tups b xs e),λb o xs e=>rJ b o xs (I.base.rJ b o xs e),λb ps e=>?_⟩,?_,λx c e=>?_,?_,λx c e=>?_,λp hp=>?_,hok,I.len⟩
 ·exact keep b o (Nx b o e) hb (Kc b o e hx) (I.base.keep b o e n hb hx) (I.base.free b o e n hx)
 ·obtain⟨sl,e1⟩:=I.base.slot b o e n hb hx
  obtain⟨OQ,e2⟩:=slot b _ (Nx b o e) hb (Kc b o e hx) e1 (I.base.free b o e n hx)
  exact⟨OQ,e2⟩
 ·obtain⟨o',e1⟩:=I.base.there b o e hx
  exact free b o' (Kc b o e hx) e1 (I.base.free b o e n hx)
 ·obtain⟨o',e1⟩:=I.base.there b o e hx
  exact there b o' (Kc b o e hx) e1
 ·obtain⟨m1,e1⟩:=I.base.tM b ps e
  obtain⟨m2,e2⟩:=tM b _ e1
  exact⟨m1++m2,by rw[e2,Array.append_assoc]⟩
 ·obtain⟨m,hn,hl⟩:=I.loc
  refine⟨m,ns m hn,λi x v e1 e2 e3=>?_⟩
  obtain⟨u,r,l⟩:=hl i x v e1 e2 e3
  refine⟨u,r,?_⟩
  rcases l with l|⟨k,c,e,z⟩
  ·exact .inl l
  ·exact .inr ⟨k,c,e,cellK x c e _ z⟩
 ·obtain⟨v,z⟩:=I.cell x c e
  exact⟨v,cellK x c e v z⟩
 ·obtain⟨m,⟨o,_,_,ho,_⟩,_⟩:=I.loc
  exact free _ o (λz=>(hch _ z).2.1 rfl) ho I.free
 ·obtain⟨v,o,ho,hd⟩:=I.cell x c e
  exact free c o (λz=>(hch c z).2.2.1 x c e rfl) ho (I.kY x c e)
 ·obtain⟨e,n,ne,nf,d⟩:=I.pin p hp
  have HR:p.1∉ch:=λz=>(hch p.1 z).2.2.2 p hp rfl
  exact⟨keep p.1 p.2 ne nf HR e n,free p.1 p.2 HR e n,ne,nf,d⟩
theorem Inv.un {t':Nat}(I:Inv X pins σ H s)(u:Un X.fs [] H H' s.heap h')(hok:nX X.prog X.w H' h'):Inv X pins σ H' {s with heap:=h',toks:=t'}:=by
 obtain⟨m,⟨o,es,ep,ho,r⟩,_⟩:=id I.loc
 obtain⟨sl,hL⟩:=u.any ho I.free (by simp)
 exact I.step (g':=s.gens) (d':=s.drawn) (ch:=[]) (λ_ z=>nomatch z) (λb o _ hb _ e n=>u.keep b o e n hb (by simp)) (λb o _ hb _ e n=>u.slot b o e n hb (by simp)) (λb o _ e n=>u.free b o e n (by simp)) (λb o _ e=>u.there b o e (by simp)) u.tups u.rJ u.tM (λm' hm=>by
  obtain⟨o',KQ,KR,y9,r'⟩:=hm
  rw[ho]at y9;cases y9
  exact⟨_,KQ,KR,hL,r'⟩) hok I.bare
theorem Inv.call {g':Array GenState}{t':Nat}{d':Drawn}{ch:List Addr}(I:Inv X pins σ H s)(u:Un (wZ X.stack) ch H H' s.heap h')(hok:nX X.prog X.w H' h')(hg:AllBare g')
  (hch:∀b∈ch,(b∈X.ex\/X.s₀.heap.objs.size<=b)/\b≠X.env.locals/\(∀x c,X.env.cells.lookup x=some c->c≠b)/\∀p∈X.pn++pins,p.1≠b):
  Inv X pins σ H' {s with heap:=h',gens:=g',drawn:=d',toks:=t'}:=by
 obtain⟨m,⟨o,es,ep,ho,r⟩,_⟩:=id I.loc
 obtain⟨sl,hL⟩:=u.any ho I.free λz=>(hch _ z).2.1 rfl
 exact I.step (ch:=ch) hch (λb o hL hb hc e n=>u.keep b o e n (λz=>(mem_cons.mp (I.rM b z)).elim hL hb) hc) (λb o _ _ hc e n=>u.any e n hc) (λb o hc e n=>u.free b o e n hc) (λb o hc e=>u.there b o e hc) u.tups u.rJ u.tM (λm' hm=>by
  obtain⟨o',KQ,KR,y9,r'⟩:=hm
  rw[ho]at y9;cases y9
  exact⟨_,KQ,KR,hL,r'⟩) hok hg
theorem Inv.turned {t':Nat}{it:Addr}(I:Inv X pins σ H s)(k:∀b o,b≠it->s.heap.get? b=some o->h'.get? b=some o)(hn:H it=none)(hL:it≠X.env.locals)
  (h1:it∈X.ex\/X.s₀.heap.objs.size<=it)(h2:∀x c,X.env.cells.lookup x=some c->c≠it)(h3:∀p∈X.pn++pins,p.1≠it):Inv X pins σ H {s with heap:=h',toks:=t'}:=by
 have Ny:∀b u,H b=some u->b≠it:=λb u e z=>by rw[z,hn]at e;cases e
 refine I.step (g':=s.gens) (d':=s.drawn) (ch:=[it]) (λb hb=>?_) (λb o _ _ hc e _=>k b o (λz=>hc (by simp[z])) e) (λb o _ _ hc e _=>⟨o.slots,k b o (λz=>hc (by simp[z])) e⟩) (λ_ _ _ _ n=>n)
  (λb o hc e=>⟨o,k b o (λz=>hc (by simp[z])) e⟩) (λ_ _ e=>e) (λ_ _ _ e=>e) (λb ps e=>⟨#[],by rw[e];simp⟩) (λm hm=>?_) (λb u e=>?_) I.bare
 ·have e:b=it:=by simpa using hb
  subst e
  exact⟨h1,hL,h2,h3⟩
 ·obtain⟨o,es,ep,ho,r⟩:=hm
  exact⟨o,es,ep,k _ o (Ne.symm hL) ho,r⟩
 ·refine(I.hok b u e).vk (λc v hc q=>k c v ?_ q) (λ_ q=>q) λ_ _ q=>q
  rcases hc with z|z
  ·rw[z];exact Ny b u e
  ·exact Ny c _ z
theorem Inv.tok (I:Inv X pins σ H s)(t:Nat):Inv X pins σ H {s with toks:=t}:=I.un (h':=s.heap) (t':=t) Un.refl I.hok
theorem Inv.kept {t':Nat}(I:Inv X pins σ H s)(k:∀b u,s.heap.get? b=some u->h'.get? b=some u):Inv X pins σ H {s with heap:=h',toks:=t'}:=I.un (Un.kept k) (I.hok.kept k)
theorem Inv.laid {a:Addr}{o:HO}{t':Nat}(I:Inv X pins σ H s)(k:∀b u,s.heap.get? b=some u->h'.get? b=some u)(hp:s.heap.objs.size<=a)(new:dN X.prog X.w (upd H a o) h' a o):
  Inv X pins σ (upd H a o) {s with heap:=h',toks:=t'}:=I.un (Un.laid k hp (I.hok.fresh hp)) (I.hok.laid k hp new)
theorem Inv.write {x e:Addr}{o:HO}{t':Nat}(I:Inv X pins σ H s)(mu:J3 (H x))(he:e=x\/H e=some (.own x))(k:∀b u,b≠e->s.heap.get? b=some u->h'.get? b=some u)(Hv:∃u,h'.get? e=some u)
  (new:dN X.prog X.w (upd H x o) h' x o):Inv X pins σ (upd H x o) {s with heap:=h',toks:=t'}:=I.un (Un.write mu he k Hv) (I.hok.write mu he k Hv new)
theorem Inv.w6 {Di:List (Addr×Obj)}(I:Inv X pins σ H s)(h:∀p∈Di,s.heap.get? p.1=some p.2/\H p.1=none/\p.1≠X.env.locals/\p.1∉X.fs/\∀v,p.2.data≠.cell v):Inv X Di σ H s:=
 ⟨I.ok,I.os,I.bare,I.base,I.loc,I.cell,I.free,I.kY,λp hp=>(mem_append.mp hp).elim (λz=>I.pin p (List.mem_append_left _ z)) (h p),I.hok,I.len⟩
theorem tN{N:List Str}(hN:N.Nodup){i j:Nat}{x:Str}(a:N[i]?=some x)(b:N[j]?=some x):i=j:=by
 obtain⟨h1,e1⟩:=List.getElem?_eq_some_iff.mp a
 obtain⟨h2,e2⟩:=List.getElem?_eq_some_iff.mp b
 exact(List.getElem_inj hN).mp (e1.trans e2.symm)
theorem yg{M:Model}{A:Around}{E:Value->Shared->Prop}{i:Nat}{x:Str}{v:V}{u:Value}{Q:Unit->Shared->Prop}(I:Inv X pins σ H s)(hN:X.N.Nodup)(hi:X.N[i]?=some x)(hx:Loc X.env.scope x)(r:RelV v u)
  (h:∀s',Inv X pins (σ.set i (some v)) H s'->(∃a,Heap.SameBut a s.heap s'.heap/\(a=X.env.locals\/X.env.cells.lookup x=some a))->Q () s')(hf:X.fn x=true\/X.env.scope.names.lookup x=some .local:=by first|exact .inl rfl|exact .inr rfl|assumption):wpAny M A (storeName X.env x u) Q E s:=by
 obtain⟨m,hn,hl⟩:=id I.loc
 have hcls:(X.env.scope.kind==.class||(X.env.scope.kind==.module&&X.env.locals !=X.env.globals))=false:=by rw[I.ok.kind];rfl
 have Nz:i<σ.length:=by rw[I.len];exact(List.getElem?_eq_some_iff.mp hi).1
 have EZ:=I.EZ
 have tracked:∀{a:Addr}{h':Heap},(∃o,s.heap.get? a=some o/\H a=none)->Heap.SameBut a s.heap h'->nX X.prog X.w H h':=λ{a h'} ha hs b ob e=>by
  obtain⟨_,_,hfree⟩:=ha
  refine(I.hok b ob e).vk (λc w' hc q=>(hs.2 c ?_).trans q) (λ_ q=>q) λ_ _ q=>q
  rintro rfl
  rcases hc with rfl|hc
  ·rw[hfree]at e;cases e
  ·rw[hfree]at hc;cases hc
 rcases hx with hk|hk
 ·refine wpAny_storeName_local hk hn (λh' OS hs=>?_) hcls
  obtain⟨oL,_,_,OT,_⟩:=id hn
  refine h _ ⟨I.ok,I.os,I.bare,⟨λb o e n hb hx=>?_,λb o e n hb hx=>?_,I.base.free,λb o e hx=>?_,I.base.tups,I.base.rJ,I.base.tM⟩,⟨_,OS,λj y v' e1 e2 e3=>?_⟩,λy c e=>?_,I.free,I.kY,λp hp=>?_,tracked ⟨oL,OT,I.free⟩ hs,by simpa using I.len⟩ ⟨_,hs,.inl rfl⟩
  ·exact(hs.2 b (ne_of_lt (lt_of_lt_of_le (Heap.lt_size e) I.ok.above))).trans (I.base.keep b o e n hb hx)
  ·obtain⟨sl,e1⟩:=I.base.slot b o e n hb hx
   exact⟨sl,(hs.2 b (ne_of_lt (lt_of_lt_of_le (Heap.lt_size e) I.ok.above))).trans e1⟩
  ·obtain⟨o',e1⟩:=I.base.there b o e hx
   exact⟨o',(hs.2 b (ne_of_lt (lt_of_lt_of_le (Heap.lt_size e) I.ok.above))).trans e1⟩
  ·by_cases hj:j=i
   ·subst hj
    rw[hi]at e1;cases e1
    rw[getElem?_set_self Nz]at e2
    cases e2
    exact⟨u,r,.inl ⟨hk,by simp⟩⟩
   ·rw[getElem?_set_ne (Ne.symm hj)]at e2
    obtain⟨u',r',q⟩:=hl j y v' e1 e2 e3
    refine⟨u',r',?_⟩
    rcases q with⟨k,e⟩|⟨k,c,e,z⟩
    ·refine .inl ⟨k,?_⟩
     have:y≠x:=λe=>hj (tN hN e1 (e▸hi))
     simp[this,e]
    ·exact .inr ⟨k,c,e,z.sameBut hs (EZ y c e)⟩
  ·obtain⟨w',z⟩:=I.cell y c e
   exact⟨w',z.sameBut hs (EZ y c e)⟩
  ·obtain⟨e,n,ne,nf,d⟩:=I.pin p hp
   exact⟨(hs.2 p.1 ne).trans e,n,ne,nf,d⟩
 ·have hfn:X.fn x=true:=by
   rcases hf with z|z
   ·exact z
   ·rw[z]at hk;cases hk
  obtain⟨c,hc⟩:=I.ok.has x (.inl hk)
  obtain⟨w',z⟩:=I.cell x c hc
  refine wpAny_storeName_cell I.ok.kind hk hc z (λh' Bx hs=>?_)
  obtain⟨oc,hoc,KS⟩:=id z
  refine h {s with heap:=h'} ⟨I.ok,I.os,I.bare,⟨λb o e n hb hx=>?_,λb o e n hb hx=>?_,I.base.free,λb o e hx=>?_,I.base.tups,I.base.rJ,I.base.tM⟩,⟨m,hn.sameBut hs (Ne.symm (EZ x c hc)),λj y v' e1 e2 e3=>?_⟩,λy c' e=>?_,I.free,I.kY,λp hp=>?_,tracked ⟨oc,hoc,I.kY x c hc⟩ hs,by simpa using I.len⟩ ⟨c,hs,.inr hc⟩
  ·exact(hs.2 b (ne_of_lt (lt_of_lt_of_le (Heap.lt_size e) (I.ok.Hw x c hfn hc)))).trans (I.base.keep b o e n hb hx)
  ·obtain⟨sl,e1⟩:=I.base.slot b o e n hb hx
   exact⟨sl,(hs.2 b (ne_of_lt (lt_of_lt_of_le (Heap.lt_size e) (I.ok.Hw x c hfn hc)))).trans e1⟩
  ·obtain⟨o',e1⟩:=I.base.there b o e hx
   exact⟨o',(hs.2 b (ne_of_lt (lt_of_lt_of_le (Heap.lt_size e) (I.ok.Hw x c hfn hc)))).trans e1⟩
  ·by_cases hj:j=i
   ·subst hj
    rw[hi]at e1;cases e1
    rw[getElem?_set_self Nz]at e2
    cases e2
    exact⟨u,r,.inr ⟨.inl hk,c,hc,Bx⟩⟩
   ·rw[getElem?_set_ne (Ne.symm hj)]at e2
    obtain⟨u',r',q⟩:=hl j y v' e1 e2 e3
    refine⟨u',r',?_⟩
    rcases q with q|⟨k,c',e,z'⟩
    ·exact .inl q
    ·refine .inr ⟨k,c',e,z'.sameBut hs ?_⟩
     rintro rfl
     exact hj (tN hN e1 (I.ok.inj _ _ _ e hc▸hi))
  ·by_cases hcc:c'=c
   ·subst hcc;exact⟨_,Bx⟩
   ·obtain⟨w2,z2⟩:=I.cell y c' e
    exact⟨w2,z2.sameBut hs hcc⟩
  ·obtain⟨e,n,ne,nf,d⟩:=I.pin p hp
   refine⟨(hs.2 p.1 ?_).trans e,n,ne,nf,d⟩
   intro q
   rw[q,hoc]at e
   have q':oc=p.2:=Option.some.inj e
   exact d w' (by rw[<-q'];exact KS)
theorem pH{M:Model}{A:Around}{E:Value->Shared->Prop}{i:Nat}{x:Str}{v:V}{u:Value}{Q:Unit->Shared->Prop}(I:Inv X pins σ H s)(hN:X.N.Nodup)(hi:X.N[i]?=some x)(hx:Loc X.env.scope x)(r:RelV v u)
  (h:∀s',Inv X pins (σ.set i (some v)) H s'->Q () s')(hf:X.fn x=true\/X.env.scope.names.lookup x=some .local:=by first|exact .inl rfl|exact .inr rfl|assumption):wpAny M A (storeName X.env x u) Q E s:=
 yg I hN hi hx r (λs' I' _=>h s' I') hf
theorem Inv.HS {s':Shared}{ch:List Addr}(I:Inv X pins σ H s)(ho:s'.os=s.os)(u:Un (wZ X.stack) ch H H' s.heap s'.heap)(hok:nX X.prog X.w H' s'.heap)(hg:AllBare s'.gens)
  (hch:∀b∈ch,(b∈X.ex\/X.s₀.heap.objs.size<=b)/\b≠X.env.locals/\(∀x c,X.env.cells.lookup x=some c->c≠b)/\∀p∈X.pn++pins,p.1≠b):Inv X pins σ H' s':=by
 obtain⟨h',g',d',t',o'⟩:=s'
 have e:o'=s.os:=ho
 subst e
 exact I.call (g':=g') (t':=t') (d':=d') u hok hg hch
end
abbrev XK:=Value->Option Addr->Hp->Prop
abbrev St:=List (Option V)
abbrev VK:=V->Hp->Prop
abbrev TE:=St->Hp->VK->Prop
abbrev TT:=St->Hp->(Bool->Hp->Prop)->Prop
abbrev TA:=St->Hp->(List V->Hp->Prop)->Prop
structure Ends where
 nx:St->Hp->Prop
 rt:VK
 bk:St->Hp->Prop:=λ_ _=>False
 ct:St->Hp->Prop:=λ_ _=>False
abbrev TS:=Ends->St->Hp->Prop
def EP(X:Cx)(pins:List (Addr×Obj))(σ:St)(Q:VK)(u:Value)(s':Shared):Prop:=∃v H',Inv X pins σ H' s'/\RelV v u/\Q v H'
def TP(X:Cx)(pins:List (Addr×Obj))(σ:St)(Q:Bool->Hp->Prop)(b:Bool)(s':Shared):Prop:=∃H',Inv X pins σ H' s'/\Q b H'
def AP(X:Cx)(pins:List (Addr×Obj))(σ:St)(Q:List V->Hp->Prop)(us:List Value)(s':Shared):Prop:=∃vs H',Inv X pins σ H' s'/\Vals vs us/\Q vs H'
noncomputable def SP(X:Cx)(pins:List (Addr×Obj))(D:Ends)(f:Flow)(s':Shared):Prop:=
 match f with
 |.next=>∃σ' H',Inv X pins σ' H' s'/\D.nx σ' H'
 |.brk=>∃σ' H',Inv X pins σ' H' s'/\D.bk σ' H'
 |.cont=>∃σ' H',Inv X pins σ' H' s'/\D.ct σ' H'
 |.ret u=>∃v σ' H',Inv X pins σ' H' s'/\RelV v u/\D.rt v H'
def PE(X:Cx)(e:Expr)(t:TE):Prop:=
 ∀(pins:List (Addr×Obj))(s:Shared)(σ:St)(H:Hp)(Q:VK),Inv X pins σ H s->t σ H Q->wpAny (model X.prog X.w) X.A (eval e X.env) (EP X pins σ Q) X.xe s
def PT(X:Cx)(e:Expr)(t:TT):Prop:=
 ∀(pins:List (Addr×Obj))(s:Shared)(σ:St)(H:Hp)(Q:Bool->Hp->Prop),Inv X pins σ H s->t σ H Q->wpAny (model X.prog X.w) X.A (isTrue e X.env (eval e X.env)) (TP X pins σ Q) X.xe s
def PW(X:Cx)(e:Expr)(t:TT):Prop:=
 ∀(whole:Sem Value)(pins:List (Addr×Obj))(s:Shared)(σ:St)(H:Hp)(Q:Bool->Hp->Prop),Inv X pins σ H s->t σ H Q->wpAny (model X.prog X.w) X.A (isTrue e X.env whole) (TP X pins σ Q) X.xe s
theorem PW.pt {X:Cx}{e:Expr}{t:TT}(h:PW X e t):PT X e t:=h _
def PA(X:Cx)(es:List Expr)(t:TA):Prop:=
 ∀(pos:Pos)(pins:List (Addr×Obj))(s:Shared)(σ:St)(H:Hp)(Q:List V->Hp->Prop),Inv X pins σ H s->t σ H Q->wpAny (model X.prog X.w) X.A (spliced (backTo pos (starEach es X.env))) (AP X pins σ Q) X.xe s
def PS(X:Cx)(st:Stmt)(t:TS):Prop:=
 ∀(pins:List (Addr×Obj))(s:Shared)(σ:St)(H:Hp)(D:Ends),Inv X pins σ H s->t D σ H->wpAny (model X.prog X.w) X.A (exec st X.env) (SP X pins D) X.xe s
def kT(X:Cx)(st:List Stmt)(t:TS):Prop:=
 ∀(pins:List (Addr×Obj))(s:Shared)(σ:St)(H:Hp)(D:Ends),Inv X pins σ H s->t D σ H->wpAny (model X.prog X.w) X.A (execs st X.env) (SP X pins D) X.xe s
theorem dO{α:Type}{t:Sem α}{Q Q':α->Shared->Prop}{M:Model}{A:Around}{E:Value->Shared->Prop}{s:Shared}(h:wpAny M A t Q E s)(hQ:∀a s,Q a s->Q' a s):wpAny M A t Q' E s:=wpAny_mono h hQ λ_ _ x=>x
end L2
namespace L2
open PySem PySem.Spec PyProof.Rows
section
variable{X:Cx}
def KU(i:Nat):TE:=λσ H Q=>∃v,σ[i]?=some (some v)/\Q v H
def tC(v:V):TE:=λ_ H Q=>Q v H
theorem lA{i:Nat}{x:Str}{pos:Pos}(hN:X.N[i]?=some x)(hv:yd X.env.scope x)(hd:(x==("__debug__":Str))=false:=by decide)(hcd:(x==("__classdict__":Str))=false:=by decide):PE X (.Name x pos) (KU i):=by
 intro pins s σ H Q I h
 obtain⟨v,e,h⟩:=h
 obtain⟨m,hn,hl⟩:=I.loc
 obtain⟨u,r,l⟩:=hl i x v hN e hv
 have fin:EP X pins σ Q u s:=⟨v,H,I,r,h⟩
 rcases l with⟨hk,hm⟩|⟨hk,c,hc,hcell⟩
 ·exact wpAny_Name (wpAny_loadName_local I.ok.kind hk hn hm fin) hd
 ·rcases hk with hk|hk
  ·exact wpAny_Name (wpAny_loadName_cell I.ok.kind hk hc hcell fin) hd
  ·exact wpAny_Name (wpAny_loadName_free I.ok.kind hk hc hcell fin hcd) hd
theorem E0{i j pos}:PE X (.Constant (.int i) j pos) (tC (.int i)):=λ_ _ _ H _ I h=>wpAny_Constant_int ⟨.int i,H,I.tok _,⟨_,rfl⟩,h⟩
theorem HU{b j pos}:PE X (.Constant (.bool b) j pos) (tC (.bl b)):=λ_ _ _ H _ I h=>Constant_bool ⟨.bl b,H,I,rfl,h⟩
theorem E3{j pos}:PE X (.Constant .none j pos) (tC .non):=λ_ _ _ H _ I h=>Constant_none ⟨.non,H,I,rfl,h⟩
theorem E4{x j pos}:PE X (.Constant (.str x) j pos) (tC (.str x)):=λ_ _ _ H _ I h=>Calls.Constant_str ⟨.str x,H,I.tok _,⟨_,rfl⟩,h⟩
def Gl(X:Cx)(x:Str):Prop:=X.env.kindOf x=some .globalImplicit
theorem By{E:Value->Shared->Prop}{pins:List (Addr×Obj)}{s:Shared}{σ:St}{H:Hp}{x:Str}{u:Value}{pos:Pos}{Q:Value->Shared->Prop}(I:Inv X pins σ H s)(hg:Gl X x)(hm:X.mg x=some u)(h:Q u s)
  (hd:(x==("__debug__":Str))=false:=by decide):wpAny (model X.prog X.w) X.A (eval (.Name x pos) X.env) Q E s:=
 Calls.Name_function_global I.ok.kind hg (Calls.loadGlobal_global (by rw[I.ok.glob];exact I.mod.glob.keeps I.bk) hm h) hd
theorem pI{E:Value->Shared->Prop}{pins:List (Addr×Obj)}{s:Shared}{σ:St}{H:Hp}{x:Str}{u:Value}{pos:Pos}{Q:Value->Shared->Prop}(I:Inv X pins σ H s)(hg:Gl X x)(hm:X.mg x=none)(hv:bootBuiltins x=some u)(h:Q u s)
  (hn:x≠"__name__":=by decide)(hd:(x==("__debug__":Str))=false:=by decide):wpAny (model X.prog X.w) X.A (eval (.Name x pos) X.env) Q E s:=by
 obtain⟨mb,h1,h2⟩:=I.mod.blt
 exact Calls.Name_function_global I.ok.kind hg (Calls.loadGlobal_builtin (by rw[I.ok.glob];exact I.mod.glob.keeps I.bk) hm (by rw[I.ok.blt];exact h1.keeps I.bk) ((h2 x hn).trans hv) h) hd
theorem BA{x:Str}{v:V}{u:Value}{pos:Pos}(hg:Gl X x)(hm:X.mg x=none)(hv:bootBuiltins x=some u)(r:RelV v u)(hn:x≠"__name__":=by decide)(hd:(x==("__debug__":Str))=false:=by decide):PE X (.Name x pos) (tC v):=
 λ_ _ _ H _ I h=>pI I hg hm hv ⟨v,H,I,r,h⟩ hn hd
variable{a b:Expr}{ta tb:TE}{pos:Pos}
def tB(t:TE):TT:=λσ H Q=>t σ H λx H1=>∃c,x=.bl c/\Q c H1
theorem E5{e:Expr}{t:TE}(h:PE X e t)(he:∀whole,isTrue e X.env whole=(do let v<-whole;standAt e.pos;holding [v] (truthy v)):=by intro _;rfl):PT X e (tB t):=by
 intro pins s σ H Q I hw
 refine isTrue_plain (dO (h pins s σ H _ I hw) λv s1 ⟨x,H1,I1,r1,q1⟩=>?_) (he _)
 obtain⟨d,rfl,q⟩:=q1
 cases r1
 exact wpAny_truthy_bool ⟨H1,I1,q⟩
variable{tA Kd:TT}{rest:List Expr}
def KW(t u:TT):TT:=λσ H Q=>t σ H λc H1=>if c=true then u σ H1 Q else Q false H1
def OU(t u:TT):TT:=λσ H Q=>t σ H λc H1=>if c=true then Q true H1 else u σ H1 Q
def KY(t:TT):TT:=λσ H Q=>t σ H λc H1=>Q (!c) H1
theorem pw_and1(ha:PT X a tA):PW X (.BoolOp .And [a] pos) tA:=by
 intro wh pins s σ H Q I h
 refine isTrue_and (dO (ha pins s σ H Q I h) λc s1 e=>?_)
 cases c with
 |true=>exact isTrue_and_nil e
 |false=>exact e
theorem pw_or1(ha:PT X a tA):PW X (.BoolOp .Or [a] pos) tA:=by
 intro wh pins s σ H Q I h
 refine isTrue_or (dO (ha pins s σ H Q I h) λc s1 e=>?_)
 cases c with
 |false=>exact isTrue_or_nil e
 |true=>exact e
theorem pw_and(ha:PT X a tA)(hb:PW X (.BoolOp .And (b::rest) pos) Kd):PW X (.BoolOp .And (a::b::rest) pos) (KW tA Kd):=by
 intro wh pins s σ H Q I h
 refine isTrue_and (dO (ha pins s σ H _ I h) λc s1 ⟨H1,I1,q1⟩=>?_)
 cases c with
 |true=>exact hb wh pins s1 σ H1 Q I1 q1
 |false=>exact⟨H1,I1,q1⟩
theorem pw_or(ha:PT X a tA)(hb:PW X (.BoolOp .Or (b::rest) pos) Kd):PW X (.BoolOp .Or (a::b::rest) pos) (OU tA Kd):=by
 intro wh pins s σ H Q I h
 refine isTrue_or (dO (ha pins s σ H _ I h) λc s1 ⟨H1,I1,q1⟩=>?_)
 cases c with
 |true=>exact⟨H1,I1,q1⟩
 |false=>exact hb wh pins s1 σ H1 Q I1 q1
theorem E6(ha:PT X a tA):PT X (.UnaryOp .Not a pos) (KY tA):=by
 intro pins s σ H Q I h
 exact isTrue_not (ha pins s σ H (λc H1=>Q (!c) H1) I h)
def HV(ta tb:TE):TE:=λσ H Q=>ta σ H λx H1=>∃c,x=.bl c/\if c=true then tb σ H1 Q else Q (.bl false) H1
def KZ(ta tb:TE):TE:=λσ H Q=>ta σ H λx H1=>∃c,x=.bl c/\if c=true then Q (.bl true) H1 else tb σ H1 Q
theorem E7{op}{t:TE}(h:PE X a t):PE X (.BoolOp op [a] pos) t:=λpins s σ H Q I hw=>BoolOp_one (h pins s σ H Q I hw)
theorem E8(ha:PE X a ta)(hb:PE X (.BoolOp .And (b::rest) pos) tb):PE X (.BoolOp .And (a::b::rest) pos) (HV ta tb):=by
 intro pins s σ H Q I h
 refine BoolOp_and (dO (ha pins s σ H _ I h) λv s1 ⟨x,H1,I1,r1,q1⟩=>?_)
 obtain⟨c,rfl,q1⟩:=q1
 cases r1
 refine wpAny_truthy_bool ?_
 cases c with
 |true=>exact hb pins s1 σ H1 Q I1 q1
 |false=>exact⟨.bl false,H1,I1,rfl,q1⟩
theorem HW(ha:PE X a ta)(hb:PE X (.BoolOp .Or (b::rest) pos) tb):PE X (.BoolOp .Or (a::b::rest) pos) (KZ ta tb):=by
 intro pins s σ H Q I h
 refine BoolOp_or (dO (ha pins s σ H _ I h) λv s1 ⟨x,H1,I1,r1,q1⟩=>?_)
 obtain⟨c,rfl,q1⟩:=q1
 cases r1
 refine wpAny_truthy_bool ?_
 cases c with
 |false=>exact hb pins s1 σ H1 Q I1 q1
 |true=>exact⟨.bl true,H1,I1,rfl,q1⟩
def OV(t:TT)(ta tb:TE):TE:=λσ H Q=>t σ H λc H1=>if c=true then ta σ H1 Q else tb σ H1 Q
theorem za{c:Expr}(hc:PT X c tA)(ha:PE X a ta)(hb:PE X b tb):PE X (.IfExp c a b pos) (OV tA ta tb):=by
 intro pins s σ H Q I h
 refine wpAny_IfExp (dO (hc pins s σ H _ I h) λd s1 ⟨H1,I1,q1⟩=>?_)
 cases d with
 |true=>exact ha pins s1 σ H1 Q I1 q1
 |false=>exact hb pins s1 σ H1 Q I1 q1
end
end L2
namespace L2
open PySem PySem.Spec PyProof.Rows
def jV(K:PySem.W.Frag)(H:Hp)(a:Addr)(xs:List V):Prop:=
 Rd H a (.lst xs)\/
  ∃(o:Obj)(its:Array Value)(n:Nat),K.lookup a=some o/\o.cls=.type "list"/\o.dict=none/\o.data=.seq its n/\its.size<=sizeLine/\Vals xs its.toList
def tP(K:PySem.W.Frag)(H:Hp)(a:Addr)(xs:List V):Prop:=
 Rd H a (.tup xs)\/
  ∃(o:Obj)(its:Array Value)(n:Nat),K.lookup a=some o/\o.cls=.type "tuple"/\o.data=.seq its n/\its.size<=sizeLine/\Vals xs its.toList
def K0:Value->Option V
 |.none=>some .non
 |.bool b=>some (.bl b)
 |.int i _=>some (.int i)
 |.str x _=>some (.str x)
 |.bytes b _=>some (.HL b)
 |.float b _=>some (.Hu b)
 |.ref a=>some (.ref a)
 |.type n=>some (.ty n)
 |_=>none
theorem RelV.abs {x:V}{u:Value}(r:RelV x u):K0 u=some x:=by
 cases x with
 |non=>cases r;rfl
 |bl _=>cases r;rfl
 |int _=>obtain⟨t,rfl⟩:=r;rfl
 |str _=>obtain⟨t,rfl⟩:=r;rfl
 |HL _=>obtain⟨t,rfl⟩:=r;rfl
 |Hu _=>obtain⟨t,rfl⟩:=r;rfl
 |ref _=>cases r;rfl
 |ty _=>cases r;rfl
theorem RelV.inj {x y:V}{u:Value}(r:RelV x u)(q:RelV y u):x=y:=Option.some.inj (r.abs.symm.trans q.abs)
theorem Vals.inj:∀{xs ys:List V}{us:List Value},Vals xs us->Vals ys us->xs=ys
 |_,_,_,.nil,.nil=>rfl
 |_,_,_,.cons r t,.cons r' t'=>by rw[r.inj r',Vals.inj t t']
section
variable{X:Cx}{pins:List (Addr×Obj)}{σ:St}{H:Hp}{s:Shared}{a:Addr}{xs ys:List V}
theorem jV.of {K:PySem.W.Frag}(h:H a=some (.lst xs)):jV K H a xs:=.inl (.inl h)
theorem tP.of {K:PySem.W.Frag}(h:H a=some (.tup xs)):tP K H a xs:=.inl (.inl h)
theorem Inv.list (I:Inv X pins σ H s)(h:jV X.K H a xs):∃its:List Value,Vals xs its/\PlainL s.heap a its.toArray/\xs.length<=sizeLine:=by
 rcases h with h|⟨o,its,n,hk,hc,hd,hs,hz,r⟩
 ·obtain⟨z,its,n,r,e⟩:=h.ok I.hok
  exact⟨its,r,⟨_,n,e,rfl,rfl,rfl⟩,z⟩
 ·refine⟨its.toList,r,⟨o,n,I.rL a o hk,hc,hd,by simpa using hs⟩,?_⟩
  have e:=r.length
  simp only [length_toList]at e
  omega
theorem Inv.tuple (I:Inv X pins σ H s)(h:tP X.K H a xs):∃its:List Value,Vals xs its/\IsTup s.heap a its.toArray/\xs.length<=sizeLine:=by
 rcases h with h|⟨o,its,n,hk,hc,hs,hz,r⟩
 ·obtain⟨z,its,r,p⟩:=h.ok I.hok
  exact⟨its,r,p,z⟩
 ·refine⟨its.toList,r,⟨o,I.rL a o hk,hc,n,by simpa using hs⟩,?_⟩
  have e:=r.length
  simp only [length_toList]at e
  omega
theorem Inv.pJ (I:Inv X pins σ H s)(h:jV X.K H a xs)(h':jV X.K H a ys):xs=ys:=by
 obtain⟨its,r,⟨o,n,e,_,_,d⟩,_⟩:=I.list h
 obtain⟨its',r',⟨o',n',e',_,_,d'⟩,_⟩:=I.list h'
 rw[e]at e';cases e'
 rw[d]at d'
 injection d' with d1 _
 have:its=its':=by simpa using congrArg toList d1
 subst this
 exact r.inj r'
theorem Inv.qU (I:Inv X pins σ H s)(h:tP X.K H a xs)(h':tP X.K H a ys):xs=ys:=by
 obtain⟨its,r,⟨o,e,_,n,d⟩,_⟩:=I.tuple h
 obtain⟨its',r',⟨o',e',_,n',d'⟩,_⟩:=I.tuple h'
 rw[e]at e';cases e'
 rw[d]at d'
 injection d' with d1 _
 have:its=its':=by simpa using congrArg toList d1
 subst this
 exact r.inj r'
end
abbrev Cx.qI (X:Cx)(E:Value->Shared->Prop):Cx:={X with xe:=E}
abbrev Cx.yh (X:Cx):Cx:=X.qI λ_ _=>False
theorem Cx.Ok.qI {X:Cx}(ok:X.Ok)(E:Value->Shared->Prop):(X.qI E).Ok:=
 ⟨ok.mod,ok.kind,ok.glob,ok.blt,ok.above,ok.inj,ok.has,ok.Hw,ok.hd,ok.frames,ok.HP,ok.Kb,ok.bs,ok.Bw,ok.ye,ok.yf,ok.oE,ok.EY⟩
theorem Cx.Ok.jW {X:Cx}{E:Value->Shared->Prop}(ok:(X.qI E).Ok):X.Ok:=
 ⟨ok.mod,ok.kind,ok.glob,ok.blt,ok.above,ok.inj,ok.has,ok.Hw,ok.hd,ok.frames,ok.HP,ok.Kb,ok.bs,ok.Bw,ok.ye,ok.yf,ok.oE,ok.EY⟩
section
variable{X:Cx}{pins:List (Addr×Obj)}{σ:St}{H:Hp}{s:Shared}{E:Value->Shared->Prop}
theorem Inv.qI (I:Inv X pins σ H s)(E:Value->Shared->Prop):Inv (X.qI E) pins σ H s:=⟨I.ok.qI E,I.os,I.bare,I.base,I.loc,I.cell,I.free,I.kY,I.pin,I.hok,I.len⟩
theorem Inv.jW (I:Inv (X.qI E) pins σ H s):Inv X pins σ H s:=⟨I.ok.jW,I.os,I.bare,I.base,I.loc,I.cell,I.free,I.kY,I.pin,I.hok,I.len⟩
theorem SP.jW {D:Ends}{f:Flow}{s':Shared}(h:SP (X.qI E) pins D f s'):SP X pins D f s':=by
 cases f with
 |next=>obtain⟨σ',H',I,q⟩:=h;exact⟨σ',H',I.jW,q⟩
 |brk=>obtain⟨σ',H',I,q⟩:=h;exact⟨σ',H',I.jW,q⟩
 |cont=>obtain⟨σ',H',I,q⟩:=h;exact⟨σ',H',I.jW,q⟩
 |ret u=>obtain⟨v,σ',H',I,r,q⟩:=h;exact⟨v,σ',H',I.jW,r,q⟩
theorem kT.yh {st:List Stmt}{t:TS}(h:kT X.yh st t):kT X st t:=λpins s σ H D I hw=>
 wpAny_mono (h pins s σ H D (I.qI _) hw) (λ_ _ q=>q.jW) λ_ _ z=>False.elim z
end
section
variable{X:Cx}{st:Stmt}{rest:List Stmt}{t u:TS}{e:Expr}{te:TE}{pos:Pos}
def HX:TS:=λD σ H=>D.nx σ H
def K1(t u:TS):TS:=λD σ H=>t {D with nx:=u D} σ H
theorem BB:kT X [] HX:=λ_ _ σ H _ I h=>wpAny_execs_nil ⟨σ,H,I,h⟩
theorem zb(h1:PS X st t)(h2:kT X rest u):kT X (st::rest) (K1 t u):=by
 intro pins s σ H D I h
 refine wpAny_execs_cons (dO (h1 pins s σ H {D with nx:=u D} I h) λf s1 q=>?_)
 cases f with
 |next=>
  obtain⟨σ',H',I',q⟩:=q
  exact h2 pins s1 σ' H' D I' q
 |ret v=>exact q
 |brk=>exact q
 |cont=>exact q
theorem BC(h1:PS X st t):kT X [st] t:=by
 intro pins s σ H D I h
 refine wpAny_execs_cons (dO (h1 pins s σ H D I h) λf s1 q=>?_)
 cases f with
 |next=>exact wpAny_execs_nil q
 |ret v=>exact q
 |brk=>exact q
 |cont=>exact q
theorem Inv.quiet {pins:List (Addr×Obj)}{σ:St}{H:Hp}{s:Shared}(I:Inv X pins σ H s):interactive X.env=false:=by simp[interactive,I.ok.kind]
def HY(te:TE):TS:=λD σ H=>te σ H λ_ H1=>D.nx σ H1
theorem rN(he:PE X e te)(hs:swapsWith e none pos.line X.env=pure false:=by rfl):PS X (.Expr e pos) (HY te):=by
 intro pins s σ H D I h
 exact wpAny_Expr_any (dO (he pins s σ H _ I h) λv s1 ⟨x,H1,I1,r1,q1⟩=>⟨σ,H1,I1,q1⟩) I.quiet hs
def K2(te:TE):TS:=λD σ H=>te σ H D.rt
theorem vm(he:PE X e te):PS X (.Return (some e) pos) (K2 te):=by
 intro pins s σ H D I h
 exact wpAny_Return_some (dO (he pins s σ H _ I h) λv s1 ⟨x,H1,I1,r1,q1⟩=>⟨x,σ,H1,I1,r1,q1⟩)
def K3(c:TT)(t u:TS):TS:=λD σ H=>c σ H λb H1=>if b=true then t D σ H1 else u D σ H1
theorem HZ{c:Expr}{a b:List Stmt}{tc:TT}(hc:PT X c tc)(ha:kT X a t)(hb:kT X b u):PS X (.If c a b pos) (K3 tc t u):=by
 intro pins s σ H D I h
 refine wpAny_If (dO (hc pins s σ H _ I h) λd s1 ⟨H1,I1,q1⟩=>?_)
 cases d with
 |true=>exact ha pins s1 σ H1 D I1 q1
 |false=>exact hb pins s1 σ H1 D I1 q1
end
abbrev TG:=V->St->Hp->(St->Hp->Prop)->Prop
abbrev BD:=List V->St->Hp->(St->Hp->Prop)->Prop
noncomputable def PG(X:Cx)(target:Expr)(t:TG):Prop:=
 ∀(pins:List (Addr×Obj))(s:Shared)(σ:St)(H:Hp)(v:V)(u:Value)(Q:St->Hp->Prop),Inv X pins σ H s->RelV v u->t v σ H Q->
  wpAny (model X.prog X.w) X.A (assign target X.env u) (λ_ s'=>∃σ' H',Inv X pins σ' H' s'/\Q σ' H') X.xe s
noncomputable def w9(X:Cx)(ts:List Expr)(t:BD):Prop:=
 ∀(pins:List (Addr×Obj))(s:Shared)(σ:St)(H:Hp)(vs:List V)(us:List Value)(Q:St->Hp->Prop),Inv X pins σ H s->Vals vs us->t vs σ H Q->
  wpAny (model X.prog X.w) X.A (assignInOrder ((assignEach ts X.env).map (·.2)) us) (λ_ s'=>∃σ' H',Inv X pins σ' H' s'/\Q σ' H') X.xe s
abbrev Ke:=V->V->Hp->VK->Prop
def Kf(X:Cx)(op:Operator)(t:Ke):Prop:=
 ∀(pins:List (Addr×Obj))(s:Shared)(σ:St)(H:Hp)(x y:V)(v u:Value)(Q:VK),Inv X pins σ H s->RelV x v->RelV y u->t x y H Q->
  wpAny (model X.prog X.w) X.A (inplaceOp op v u) (EP X pins σ Q) X.xe s
section
variable{X:Cx}{pos:Pos}
def Dj(i:Nat):TG:=λv σ H Q=>Q (σ.set i (some v)) H
theorem BE{i:Nat}{x:Str}(hN:X.N.Nodup)(hi:X.N[i]?=some x)(hx:Loc X.env.scope x)(hf:X.fn x=true\/X.env.scope.names.lookup x=some .local:=by first|exact .inl rfl|exact .inr rfl|assumption):PG X (.Name x pos) (Dj i):=by
 intro pins s σ H v u Q I r h
 exact wpAny_assign_Name (pH I hN hi hx r (λs' I'=>⟨_,H,I',h⟩) hf)
def K4:BD:=λvs σ H Q=>vs=[]/\Q σ H
def H0(t:TG)(u:BD):BD:=λvs σ H Q=>∃v r,vs=v::r/\t v σ H λσ' H'=>u r σ' H' Q
theorem BF:w9 X [] K4:=by
 intro pins s σ H vs us Q I r h
 obtain⟨e,h⟩:=h
 subst e
 cases r
 exact assignInOrder_nil ⟨σ,H,I,h⟩
theorem zc{e:Expr}{es:List Expr}{t:TG}{u:BD}(h1:PG X e t)(h2:w9 X es u)
  (hs:(assignEach (e::es) X.env).map (·.2)=assign e X.env::(assignEach es X.env).map (·.2):=by rfl):w9 X (e::es) (H0 t u):=by
 intro pins s σ H vs us Q I r h
 obtain⟨v,vr,e1,h⟩:=h
 subst e1
 cases r with
 |cons r rr=>
  rw[hs]
  refine assignInOrder_cons (dO (h1 pins s σ H _ _ _ I r h) λ_ s1 ⟨σ1,H1,I1,q1⟩=>?_)
  exact h2 pins s1 σ1 H1 _ _ Q I1 rr q1
def K5(K:PySem.W.Frag)(n:Nat)(t:BD):TG:=λv σ H Q=>∃a xs,v=.ref a/\tP K H a xs/\xs.length=n/\t xs σ H Q
theorem E9{es:List Expr}{k:Nat}{t:BD}{n:Nat}(hc:X.calm=true)(h:w9 X es t)
  (hn:(assignEach es X.env).length=n:=by rfl)(hst:(assignEach es X.env).findIdx? (·.1)=none:=by rfl):PG X (.Tuple es k pos) (K5 X.K n t):=by
 intro pins s σ H v u Q I r hw
 obtain⟨a,xs,e1,hq,hl,hw⟩:=hw
 subst e1
 cases r
 obtain⟨its,rv,ht,hz⟩:=I.tuple hq
 refine assign_Tuple_tuple (I.ok.hd hc) ht (by simp[hn,<-hl,rv.length]) hst λh' hx=>?_
 have I1:Inv X pins σ H {s with heap:=h'}:=I.kept (t':=s.toks) λb o e=>hx b o (ne_of_lt (Heap.lt_size e)) e
 exact h pins _ σ H xs _ Q I1 (by simpa using rv) hw
def K6(te:TE)(g:TG):TS:=λD σ H=>te σ H λx H1=>g x σ H1 D.nx
theorem vo{i:Nat}{x:Str}{e:Expr}{te:TE}{pos':Pos}(hN:X.N.Nodup)(hi:X.N[i]?=some x)(hx:Loc X.env.scope x)(he:PE X e te)(hs:swapsWith e (some (.Name x pos')) pos.line X.env=pure false:=by rfl)(hf:X.fn x=true\/X.env.scope.names.lookup x=some .local:=by first|exact .inl rfl|exact .inr rfl|assumption):
  PS X (.Assign [.Name x pos'] e pos) (K6 te (Dj i)):=by
 intro pins s σ H D I h
 refine wpAny_Assign_Name (dO (he pins s σ H _ I h) λv s1 ⟨y,H1,I1,r1,q1⟩=>?_) hs
 exact pH I1 hN hi hx r1 (λs2 I2=>⟨_,H1,I2,q1⟩) hf
def K7(i:Nat)(te:TE)(ti:Ke):TS:=λD σ H=>∃x,σ[i]?=some (some x)/\te σ H λy H1=>ti x y H1 λz H2=>D.nx (σ.set i (some z)) H2
theorem Fb{i:Nat}{x:Str}{e:Expr}{te:TE}{op:Operator}{ti:Ke}{pos':Pos}(hN:X.N.Nodup)(hi:X.N[i]?=some x)(hx:Loc X.env.scope x)(he:PE X e te)(ho:Kf X op ti)(hf:X.fn x=true\/X.env.scope.names.lookup x=some .local:=by first|exact .inl rfl|exact .inr rfl|assumption):
  PS X (.AugAssign (.Name x pos') op e pos) (K7 i te ti):=by
 intro pins s σ H D I h
 obtain⟨v,e1,h⟩:=h
 obtain⟨m,hn,hl⟩:=I.loc
 have OW:yd X.env.scope x:=by rcases hx with k|k;exact .inl k;exact .inr (.inl k)
 obtain⟨u,r,l⟩:=hl i x v hi e1 OW
 refine wpAny_AugAssign_Name ?_
 have go:wpAny (model X.prog X.w) X.A (eval e X.env) (λw s₂=>wpAny (model X.prog X.w) X.A (inplaceOp op u w) (λr s₃=>wpAny (model X.prog X.w) X.A (storeName X.env x r) (λ_=>SP X pins D .next) X.xe s₃) X.xe s₂) X.xe s:=by
  refine dO (he pins s σ H _ I h) λw s1 ⟨y,H1,I1,r1,q1⟩=>?_
  refine dO (ho pins s1 σ H1 v y u w _ I1 r r1 q1) λz s2 ⟨zv,H2,I2,r2,q2⟩=>?_
  exact pH I2 hN hi hx r2 (λs3 I3=>⟨_,H2,I3,q2⟩) hf
 rcases l with⟨hk,hm⟩|⟨hk,c,hc,hcell⟩
 ·exact wpAny_loadName_local I.ok.kind hk hn hm go
 ·rcases hk with hk|hk
  ·exact wpAny_loadName_cell I.ok.kind hk hc hcell go
  ·rcases hx with k|k
   ·have:X.env.scope.names.lookup x=some .free:=hk
    rw[k]at this;cases this
   ·have:X.env.scope.names.lookup x=some .free:=hk
    rw[k]at this;cases this
def K8(f:Int->Int->Int):Ke:=λx y H Q=>∃i j,x=.int i/\y=.int j/\Q (.int (f i j)) H
theorem Fc:Kf X .Add (K8 λi j=>i+j):=by
 intro pins s σ H x y v u Q I r1 r2 h
 obtain⟨i,j,e1,e2,q⟩:=h
 subst e1;subst e2
 obtain⟨t,rfl⟩:=r1
 obtain⟨t',rfl⟩:=r2
 exact iadd_int ⟨.int _,H,I.tok _,⟨_,rfl⟩,q⟩
end
section
variable{X:Cx}{pos:Pos}
def Fd(c:TT)(tb:TS):TS:=λD σ H=>∃W:Nat->St->Hp->Prop,(∃m,W m σ H)/\∀m σ H,W m σ H->
 c σ H λb H1=>if b=true then∃N:St->Hp->Prop,(∀σ' H',N σ' H'->∃m',m'<m/\W m' σ' H')/\tb {D with nx:=N,ct:=N,bk:=D.nx} σ H1 else D.nx σ H1
theorem zd{c:Expr}{body:List Stmt}{tc:TT}{tb:TS}(hp:PassesOwn (model X.prog X.w) X.A X.env X.xe)(hc:PT X c tc)(hb:kT X body tb):PS X (.While c body [] pos) (Fd tc tb):=by
 intro pins s σ H D I h
 obtain⟨W,⟨m0,w0⟩,turn⟩:=h
 refine wpAny_While (codeAny_whileLoop (λn s'=>∃σ' H',Inv X pins σ' H' s'/\W n σ' H') ?_ m0 ⟨σ,H,I,w0⟩)
 rintro n s1 ⟨σ1,H1,I1,w1⟩
 refine wpAny_passesOwn hp (dO (hc pins s1 σ1 H1 _ I1 (turn n σ1 H1 w1)) λb s2 ⟨H2,I2,q2⟩=>?_)
 cases b with
 |true=>
  obtain⟨N,hN,q2⟩:=q2
  rw[if_pos rfl]
  refine wpAny_passesOwn hp (dO (hb pins s2 σ1 H2 _ I2 q2) λf s3 q3=>?_)
  cases f with
  |next=>
   obtain⟨σ3,H3,I3,n3⟩:=q3
   obtain⟨m',hm,w3⟩:=hN σ3 H3 n3
   exact⟨m',hm,σ3,H3,I3,w3⟩
  |cont=>
   obtain⟨σ3,H3,I3,n3⟩:=q3
   obtain⟨m',hm,w3⟩:=hN σ3 H3 n3
   exact⟨m',hm,σ3,H3,I3,w3⟩
  |brk=>exact q3
  |ret v=>exact q3
 |false=>
  rw[if_neg Bool.false_ne_true]
  exact wpAny_execs_nil ⟨σ1,H2,I2,q2⟩
end
structure It where
 go:Nat->Hp->Prop
 Kg:Nat->Hp->V->Hp->Prop
 stop:Nat->Hp->Prop
def lR(X:Cx)(pins:List (Addr×Obj))(H:Hp)(b:Addr):Prop:=
 H b=none/\b≠X.env.locals/\b∉X.fs/\(b∈X.ex\/X.s₀.heap.objs.size<=b)/\(∀x c,X.env.cells.lookup x=some c->c≠b)/\∀p∈X.pn++pins,p.1≠b
theorem Inv.ze {X:Cx}{pins:List (Addr×Obj)}{σ:St}{H H':Hp}{s:Shared}{b:Addr}(I:Inv X pins σ H s)(hb:s.heap.objs.size<=b)(hn:H' b=none):lR X pins H' b:=by
 refine⟨hn,ne_of_gt (lt_of_lt_of_le I.lt hb),I.KP hb,.inr (le_trans I.sz hb),λx c e z=>?_,λp hp z=>?_⟩
 ·obtain⟨v,q⟩:=I.cell x c e
  exact absurd (lt_of_lt_of_le q.lt (by rw[z];exact hb)) (lt_irrefl _)
 ·exact absurd (lt_of_lt_of_le (Heap.lt_size (I.pin p hp).1) (by rw[z];exact hb)) (lt_irrefl _)
structure Turn(P:Program)(w:World)(K:PySem.W.Frag)(tg:Expr)(J:It)(fp:List Addr)(it:Addr)(tn:Nat->Heap->Prop):Prop where
 mem:it∈fp
 obj:∀i h,tn i h->∀b∈fp,∃o,h.get? b=some o/\∀v,o.data≠.cell v
 keep:∀i h h',tn i h->(∀b∈fp,∀o,h.get? b=some o->h'.get? b=some o)->tn i h'
 item:∀(X:Cx),X.prog=P->X.w=w->X.K=K->X.calm=true->∀(i:Nat)(pins:List (Addr×Obj))(s:Shared)(σ:St)(H:Hp)(E:Value->Shared->Prop),Inv X pins σ H s->(∀b∈fp,lR X pins H b)->tn i s.heap->J.go i H->
  wpAny (model P w) X.A (pyNext (.ref it)) (λr s1=>∃u,r=some u/\
   wpAny (model P w) X.A (letOwnedTupleGo tg (.ref it) u) (λ_ s2=>∃x H',Inv X pins σ H' s2/\RelV x u/\J.Kg i H x H'/\tn (i+1) s2.heap/\∀b∈fp,H' b=none) E s1) E s
 done:∀(X:Cx),X.prog=P->X.w=w->X.K=K->X.calm=true->∀(i:Nat)(pins:List (Addr×Obj))(s:Shared)(σ:St)(H:Hp)(E:Value->Shared->Prop),Inv X pins σ H s->(∀b∈fp,lR X pins H b)->tn i s.heap->J.stop i H->
  wpAny (model P w) X.A (pyNext (.ref it)) (λr s1=>r=none/\Inv X pins σ H s1) E s
 self:∀(A:Around)(i:Nat)(s:Shared)(Q:Value->Shared->Prop)(E:Value->Shared->Prop),tn i s.heap->Q (.ref it) s->wpAny (model P w) A (pyIter (.ref it)) Q E s
abbrev TI:=St->Hp->(It->Hp->Prop)->Prop
noncomputable def NB(X:Cx)(pins:List (Addr×Obj))(σ:St)(tg:Expr)(R:It->Hp->Prop)(itv:Value)(s2:Shared):Prop:=
 ∃(it:Addr)(fp:List Addr)(tn:Nat->Heap->Prop)(J:It)(H':Hp),itv=.ref it/\Inv X pins σ H' s2/\Turn X.prog X.w X.K tg J fp it tn/\tn 0 s2.heap/\(∀b∈fp,lR X pins H' b)/\R J H'
noncomputable def PI(X:Cx)(tg iter:Expr)(wi:TI):Prop:=
 ∀(pins:List (Addr×Obj))(s:Shared)(σ:St)(H:Hp)(R:It->Hp->Prop),Inv X pins σ H s->wi σ H R->
  wpAny (model X.prog X.w) X.A (eval iter X.env) (λv s1=>wpAny (model X.prog X.w) X.A (pyIter v) (NB X pins σ tg R) X.xe s1) X.xe s
theorem zf{M:Model}{A:Around}{E:Value->Shared->Prop}{s:Shared}{tg:Expr}{it:Addr}{u:Value}{o:Obj}{n:String}{vs:Array Value}{Q:Unit->Shared->Prop}(ho:s.heap.get? it=some o)(hc:o.cls=.type n)(hd:o.data=.fields vs)
  (hn:["enumerate","zip","dict_itemiterator","dict_reverseitemiterator","odict_iterator","itertools.zip_longest","itertools.pairwise"].contains n=false)(hQ:Q () s):wpAny M A (letOwnedTupleGo tg (.ref it) u) Q E s:=by
 unfold letOwnedTupleGo
 cases tg<;>first
  |exact wpAny_pure hQ
  |(cases u<;>first
    |exact wpAny_pure hQ
    |(refine wpAny_bind (wpAny_load ho ?_)
      rw[hc,hd]
      show wpAny M A (if(["enumerate","zip","dict_itemiterator","dict_reverseitemiterator","odict_iterator","itertools.zip_longest","itertools.pairwise"].contains n&&vs[0]?==some (rawInt _))=true then _ else _) Q E s
      rw[if_neg (by intro h;rw[hn,Bool.false_and]at h;cases h)]
      exact wpAny_pure hQ))
def ND(K:PySem.W.Frag)(a:Addr):It:=
 ⟨λi H=>∃xs x,jV K H a xs/\xs[i]?=some x,λi H x H'=>H'=H/\∀xs,jV K H a xs->xs[i]?=some x,λi H=>∃xs,jV K H a xs/\xs.length<=i⟩
def NF(K:PySem.W.Frag)(a:Addr):It:=
 ⟨λi H=>∃xs x,tP K H a xs/\xs[i]?=some x,λi H x H'=>H'=H/\∀xs,tP K H a xs->xs[i]?=some x,λi H=>∃xs,tP K H a xs/\xs.length<=i⟩
def Kh(lo:Int)(n:Nat):It:=⟨λi _=>i<n,λi H x H'=>H'=H/\x=.int (lo+i),λi _=>n<=i⟩
theorem yi{P:Program}{w:World}{K:PySem.W.Frag}{tg:Expr}(a it:Addr):Turn P w K tg (ND K a) [it] it (λi h=>h.IsListIter it a i) where
 mem:=by simp
 obj:=λi h st b hb=>by
  have e:b=it:=by simpa using hb
  subst e
  obtain⟨o,e,c,d⟩:=st
  exact⟨o,e,λv z=>by rw[d]at z;cases z⟩
 keep:=λi h h' st k=>st.at λo e=>k it (by simp) o e
 item:=by
  intro X hP hw hK hc i pins s σ H E I hf st hg
  subst hP hw hK
  obtain⟨xs,x,hq,hx⟩:=hg
  obtain⟨its,rv,p,hz⟩:=I.list hq
  obtain⟨u,hu,ru⟩:=rv.get hx
  obtain⟨f0,f1,f2,f3,f4,f5⟩:=hf it (by simp)
  refine wpAny_pyNext_list_item st p.isList (x:=u) (by simpa using hu) λh' Dk sb=>?_
  have I1:Inv X pins σ H {s with heap:=h'}:=I.turned (t':=s.toks) (λb o hb e=>(sb.2 b hb).trans e) f0 f1 f3 f4 f5
  obtain⟨o,e,c,d⟩:=id Dk
  exact⟨u,rfl,zf (s:={s with heap:=h'}) e c d (by decide) ⟨x,H,I1,ru,⟨rfl,λys hy=>by rw[I.pJ hy hq];exact hx⟩,Dk,λb hb=>(hf b hb).1⟩⟩
 done:=by
  intro X hP hw hK hc i pins s σ H E I hf st hg
  subst hP hw hK
  obtain⟨xs,hq,hx⟩:=hg
  obtain⟨its,rv,p,hz⟩:=I.list hq
  obtain⟨f0,f1,f2,f3,f4,f5⟩:=hf it (by simp)
  have hl:=rv.length
  exact wpAny_pyNext_list_end (I.ok.hd hc) st p.isList (by simp;omega) λh' eb=>⟨rfl,I.turned (t':=s.toks) (λb o hb e=>eb b o hb e) f0 f1 f3 f4 f5⟩
 self:=λ_ _ _ _ _ st h=>wpAny_pyIter_listiter st h
theorem vp{P:Program}{w:World}{K:PySem.W.Frag}{tg:Expr}(a it:Addr):Turn P w K tg (NF K a) [it] it (λi h=>h.IsTupleIter it a i) where
 mem:=by simp
 obj:=λi h st b hb=>by
  have e:b=it:=by simpa using hb
  subst e
  obtain⟨o,e,c,d⟩:=st
  exact⟨o,e,λv z=>by rw[d]at z;cases z⟩
 keep:=λi h h' st k=>st.at λo e=>k it (by simp) o e
 item:=by
  intro X hP hw hK hc i pins s σ H E I hf st hg
  subst hP hw hK
  obtain⟨xs,x,hq,hx⟩:=hg
  obtain⟨its,rv,p,hz⟩:=I.tuple hq
  obtain⟨u,hu,ru⟩:=rv.get hx
  obtain⟨f0,f1,f2,f3,f4,f5⟩:=hf it (by simp)
  refine wpAny_pyNext_tuple_item st (show s.heap.IsTuple a its.toArray from p) (x:=u) (by simpa using hu) λh' Dk sb=>?_
  have I1:Inv X pins σ H {s with heap:=h'}:=I.turned (t':=s.toks) (λb o hb e=>(sb.2 b hb).trans e) f0 f1 f3 f4 f5
  obtain⟨o,e,c,d⟩:=id Dk
  exact⟨u,rfl,zf (s:={s with heap:=h'}) e c d (by decide) ⟨x,H,I1,ru,⟨rfl,λys hy=>by rw[I.qU hy hq];exact hx⟩,Dk,λb hb=>(hf b hb).1⟩⟩
 done:=by
  intro X hP hw hK hc i pins s σ H E I hf st hg
  subst hP hw hK
  obtain⟨xs,hq,hx⟩:=hg
  obtain⟨its,rv,p,hz⟩:=I.tuple hq
  obtain⟨f0,f1,f2,f3,f4,f5⟩:=hf it (by simp)
  have hl:=rv.length
  exact wpAny_pyNext_tuple_end (I.ok.hd hc) st (show s.heap.IsTuple a its.toArray from p) (by simp;omega) λh' eb=>⟨rfl,I.turned (t':=s.toks) (λb o hb e=>eb b o hb e) f0 f1 f3 f4 f5⟩
 self:=λ_ _ _ _ _ st h=>wpAny_pyIter_tupleiter st h
theorem vq{P:Program}{w:World}{K:PySem.W.Frag}{tg:Expr}(it:Addr)(lo:Int)(n:Nat):Turn P w K tg (Kh lo n) [it] it (λi h=>IsRangeIter h it (lo+(i:Nat)*1) ((n:Int)-(i:Nat)) 1) where
 mem:=by simp
 obj:=λi h st b hb=>by
  have e:b=it:=by simpa using hb
  subst e
  exact⟨_,st,λv z=>by
   have z':Data.fields _=Data.cell v:=z
   cases z'⟩
 keep:=λi h h' st k=>k it (by simp) _ st
 item:=by
  intro X hP hw hK hc i pins s σ H E I hf st hg
  subst hP hw hK
  obtain⟨f0,f1,f2,f3,f4,f5⟩:=hf it (by simp)
  have W:=Walks.range (prog:=X.prog) (w:=X.w) (I.ok.hd hc) it lo 1 n
  refine W.item i s _ _ hg st λv h' tk hv Dk kk=>?_
  obtain⟨t,rfl⟩:=hv
  have I1:Inv X pins σ H {s with heap:=h',toks:=tk}:=I.turned (λb o hb e=>kk b o (by simpa using hb) e) f0 f1 f3 f4 f5
  refine⟨_,rfl,zf (s:={s with heap:=h',toks:=tk}) (n:="range_iterator") Dk rfl rfl (by decide) ⟨.int (lo+i),H,I1,⟨t,?_⟩,⟨rfl,rfl⟩,Dk,λb hb=>(hf b hb).1⟩⟩
  rw[Int.mul_one]
 done:=by
  intro X hP hw hK hc i pins s σ H E I hf st hg
  subst hP hw hK
  obtain⟨f0,f1,f2,f3,f4,f5⟩:=hf it (by simp)
  exact wpAny_pyNext_range_end (I.ok.hd hc) st (by have:n<=i:=hg;omega) λh' eb=>⟨rfl,I.turned (t':=s.toks) (λb o hb e=>eb b o hb e) f0 f1 f3 f4 f5⟩
 self:=λ_ _ _ _ _ st h=>wpAny_pyIter_rangeiter st h
end L2
namespace L2
open PySem PySem.Spec PyProof.Rows
section
variable{X:Cx}{tg:Expr}
def Ia(K:PySem.W.Frag)(tl:TE):TI:=λσ H R=>tl σ H λx H1=>∃a,x=.ref a/\(∃xs,jV K H1 a xs)/\R (ND K a) H1
def K9(K:PySem.W.Frag)(tl:TE):TI:=λσ H R=>tl σ H λx H1=>∃a,x=.ref a/\(∃xs,tP K H1 a xs)/\R (NF K a) H1
theorem BG{l:Expr}{tl:TE}(hl:PE X l tl):PI X tg l (Ia X.K tl):=by
 intro pins s σ H R I h
 refine dO (hl pins s σ H _ I h) λv s1 ⟨x,H1,I1,r1,q1⟩=>?_
 obtain⟨a,e,⟨xs,hq⟩,q⟩:=q1
 subst e
 cases r1
 obtain⟨its,rv,p,hz⟩:=I1.list hq
 refine wpAny_pyIter_list p.isList ?_
 refine⟨s1.heap.objs.size,[s1.heap.objs.size],_,_,H1,rfl,I1.kept (t':=s1.toks) λb o e=>Heap.get?_push_of_some _ e,yi a _,⟨_,Heap.get?_push_size _ rfl,rfl,rfl⟩,λb hb=>?_,q⟩
 have e:b=s1.heap.objs.size:=by simpa using hb
 subst e
 exact I1.ze (Nat.le_refl _) (I1.hok.fresh (Nat.le_refl _))
theorem Fe{l:Expr}{tl:TE}(hl:PE X l tl):PI X tg l (K9 X.K tl):=by
 intro pins s σ H R I h
 refine dO (hl pins s σ H _ I h) λv s1 ⟨x,H1,I1,r1,q1⟩=>?_
 obtain⟨a,e,⟨xs,hq⟩,q⟩:=q1
 subst e
 cases r1
 obtain⟨its,rv,p,hz⟩:=I1.tuple hq
 refine wpAny_pyIter_tuple (show s1.heap.IsTuple a its.toArray from p) ?_
 refine⟨s1.heap.objs.size,[s1.heap.objs.size],_,_,H1,rfl,I1.kept (t':=s1.toks) λb o e=>Heap.get?_push_of_some _ e,vp a _,⟨_,Heap.get?_push_size _ rfl,rfl,rfl⟩,λb hb=>?_,q⟩
 have e:b=s1.heap.objs.size:=by simpa using hb
 subst e
 exact I1.ze (Nat.le_refl _) (I1.hok.fresh (Nat.le_refl _))
theorem zg{pins:List (Addr×Obj)}{σ:St}{H:Hp}{s:Shared}{R:It->Hp->Prop}{E:Value->Shared->Prop}{lo hi:Int}{t u v:Tok}{tk:Nat}(I:Inv X pins σ H s)(h1: -(2^62)<=lo)(h2:lo<2^62)(h3: -(2^62)<=hi)(h4:hi<2^62)
  (q:R (Kh lo (hi-lo).toNat) H):wpAny (model X.prog X.w) X.A (pyIter (.ref s.heap.objs.size)) (NB X pins σ tg R) E {s with heap:=s.heap.push {cls:=.type "range",data:=.fields #[.int lo t,.int hi u,.int 1 v]},toks:=tk}:=by
 refine wpAny_pyIter_range (IsRange.new ..) (small_one h1 h2 h3 h4) ?_
 have I1:Inv X pins σ H {s with heap:=s.heap.push {cls:=.type "range",data:=.fields #[.int lo t,.int hi u,.int 1 v]},toks:=tk}:=I.kept λb o e=>Heap.get?_push_of_some _ e
 refine⟨(s.heap.push {cls:=.type "range",data:=.fields #[.int lo t,.int hi u,.int 1 v]}).objs.size,[(s.heap.push {cls:=.type "range",data:=.fields #[.int lo t,.int hi u,.int 1 v]}).objs.size],_,_,H,rfl,
  I1.kept (t':=tk) λb o e=>Heap.get?_push_of_some _ e,vq _ lo (hi-lo).toNat,?_,λb hb=>?_,q⟩
 ·have e1:lo+((0:Nat):Int)*1=lo:=by simp
  have e2:(((hi-lo).toNat:Nat):Int)-((0:Nat):Int)=Builtin.Range.rangeSize lo hi 1:=by rw[rangeSize_one];split<;>omega
  show IsRangeIter _ _ (lo+((0:Nat):Int)*1) ((((hi-lo).toNat:Nat):Int)-((0:Nat):Int)) 1
  rw[e1,e2]
  exact Heap.get?_push_size _ rfl
 ·have e:b=(s.heap.push {cls:=.type "range",data:=.fields #[.int lo t,.int hi u,.int 1 v]}).objs.size:=by simpa using hb
  subst e
  exact I1.ze (Nat.le_refl _) (I1.hok.fresh (Nat.le_refl _))
def Ib(ta:TA):TI:=λσ H R=>ta σ H λvs H1=>∃i j:Int,vs=[.int i,.int j]/\(-(2^62)<=i/\i<2^62/\ -(2^62)<=j/\j<2^62)/\R (Kh i (j-i).toNat) H1
theorem yj{a b:Expr}{ta:TA}{p pos:Pos}(hg:Gl X "range")(hm:X.mg "range"=none)(ha:PA X [a,b] ta)(hs:starEach [a,b] X.env=[(false,eval a X.env),(false,eval b X.env)]:=by rfl)(hs2:starEach [b] X.env=[(false,eval b X.env)]:=by rfl):
  PI X tg (.Call (.Name "range" p) [a,b] [] pos) (Ib ta):=by
 intro pins s σ H R I h
 refine Call_ (pI I hg hm boot_range (PyProof.Rows.callWith_type1 (dO (ha pos pins s σ H _ I h) λus s1 ⟨vs,H1,I1,r1,q1⟩=>?_) (by rw[hs,hs2]) (by rw[hs2];rfl)))
 obtain⟨i,j,e,⟨q1,q2,q3,q4⟩,q⟩:=q1
 subst e
 cases r1 with
 |cons r rr=>
  cases rr with
  |cons r' rr=>
   cases rr
   obtain⟨t,rfl⟩:=r
   obtain⟨t',rfl⟩:=r'
   exact call_range_2 (zg I1 q1 q2 q3 q4 q)
noncomputable def La(wi:TI)(g:TG)(tb:TS):TS:=λD σ H=>wi σ H λJ H1=>∃W:Nat->Nat->St->Hp->Prop,(∃m,W 0 m σ H1)/\∀i m σ H,W i m σ H->
 (J.stop i H/\D.nx σ H)\/(J.go i H/\∃N:St->Hp->Prop,(∀σ' H',N σ' H'->∃m',m'<m/\W (i+1) m' σ' H')/\∀x H',J.Kg i H x H'->g x σ H' λσ2 H2=>tb {D with nx:=N,ct:=N,bk:=D.nx} σ2 H2)
def pK(fp:List Addr)(h:Heap):List (Addr×Obj):=fp.filterMap λb=>(h.get? b).map λo=>(b,o)
theorem jh{fp:List Addr}{h:Heap}{b:Addr}{o:Obj}(hb:b∈fp)(e:h.get? b=some o):(b,o)∈pK fp h:=List.mem_filterMap.mpr ⟨b,hb,by rw[e];rfl⟩
theorem yk{fp:List Addr}{h:Heap}{p:Addr×Obj}(hp:p∈pK fp h):p.1∈fp/\h.get? p.1=some p.2:=by
 obtain⟨b,hb,e⟩:=List.mem_filterMap.mp hp
 cases q:h.get? b with
 |none=>rw[q]at e;cases e
 |some o=>
  rw[q]at e
  have e':(b,o)=p:=Option.some.inj e
  subst e'
  exact⟨hb,q⟩
theorem Inv.pinned {pins:List (Addr×Obj)}{σ:St}{H:Hp}{s:Shared}{fp:List Addr}(I:Inv X pins σ H s)(hf:∀b∈fp,lR X pins H b)(ho:∀b∈fp,∃o,s.heap.get? b=some o/\∀v,o.data≠.cell v):Inv X (pins++pK fp s.heap) σ H s:=
 I.w6 λp hp=>(mem_append.mp hp).elim (λz=>I.pin p (mem_append_right _ z)) λz=>by
  obtain⟨hb,e⟩:=yk z
  obtain⟨f0,f1,f2,_⟩:=hf p.1 hb
  obtain⟨o,e',d⟩:=ho p.1 hb
  rw[e]at e';cases e'
  exact⟨e,f0,f1,f2,d⟩
theorem Inv.jX {pins pl:List (Addr×Obj)}{σ:St}{H:Hp}{s:Shared}(I:Inv X (pins++pl) σ H s):Inv X pins σ H s:=I.w6 λp hp=>I.pin p (mem_append_right _ (List.mem_append_left _ hp))
theorem Ff{iter:Expr}{body:List Stmt}{wi:TI}{g:TG}{tb:TS}{pos:Pos}(hp:PassesOwn (model X.prog X.w) X.A X.env X.xe)(hc:X.calm=true)(hi:PI X tg iter wi)(hg:PG X tg g)(hb:kT X body tb)
  (hs:∀x,foldedSetIterable iter X.env x=pure x:=by intro _;rfl):PS X (.For tg iter body [] pos) (La wi g tb):=by
 intro pins s σ H D I h
 refine wpAny_For (dO (hi pins s σ H _ I h) λv s1 h1=>dO h1 λitv s2 h2=>?_) hs
 obtain⟨it,fp,tn,J,H2,e,I2,T,Fg,f2,W,⟨m0,w0⟩,turn⟩:=h2
 subst e
 have Fi:∀{H':Hp},(∀b∈fp,H' b=none)->∀b∈fp,lR X pins H' b:=λhn b hb=>⟨hn b hb,(f2 b hb).2⟩
 refine codeAny_forLoop_any (λn s'=>∃i σ' H',Inv X pins σ' H' s'/\tn i s'.heap/\(∀b∈fp,H' b=none)/\W i n σ' H') ?_ m0 ⟨0,σ,H2,I2,Fg,λb hb=>(f2 b hb).1,w0⟩
 rintro n s3 ⟨i,σ3,H3,I3,NG,NH,w3⟩
 rcases turn i n σ3 H3 w3 with⟨stop,qn⟩|⟨go,N,hN,step⟩
 ·refine wpAny_passesOwn hp (dO (T.done X rfl rfl rfl hc i pins s3 σ3 H3 X.xe I3 (Fi NH) NG stop) λr s4 ⟨hr,I4⟩=>?_)
  subst hr
  exact wpAny_execs_nil ⟨σ3,H3,I4,qn⟩
 ·refine wpAny_passesOwn hp (dO (T.item X rfl rfl rfl hc i pins s3 σ3 H3 X.xe I3 (Fi NH) NG go) λr s4 ⟨u,hr,h4⟩=>?_)
  subst hr
  refine wpAny_passesOwn hp (dO h4 λ_ s5 ⟨x,H5,I5,r5,y5,Hz,Kj⟩=>?_)
  have OY:=I5.pinned (Fi Kj) (T.obj _ _ Hz)
  refine wpAny_passesOwn hp (dO (hg _ s5 σ3 H5 x u _ OY r5 (step x H5 y5)) λ_ s6 ⟨σ6,H6,I6,q6⟩=>?_)
  refine wpAny_passesOwn hp (dO (hb _ s6 σ6 H6 _ I6 q6) λf s7 q7=>?_)
  have again:∀{σ7:St}{H7:Hp},Inv X (pins++pK fp s5.heap) σ7 H7 s7->N σ7 H7->∃m,m<n/\∃i σ' H',Inv X pins σ' H' s7/\tn i s7.heap/\(∀b∈fp,H' b=none)/\W i m σ' H':=λ{σ7 H7} I7 n7=>by
   obtain⟨m',hm,w7⟩:=hN σ7 H7 n7
   refine⟨m',hm,i+1,σ7,H7,I7.jX,T.keep _ _ _ Hz λb hb o e=>(I7.pin (b,o) (mem_append_right _ (mem_append_right _ (jh hb e)))).1,λb hb=>?_,w7⟩
   obtain⟨o,e,d⟩:=T.obj _ _ Hz b hb
   exact(I7.pin (b,o) (mem_append_right _ (mem_append_right _ (jh hb e)))).2.1
  cases f with
  |next=>obtain⟨σ7,H7,I7,n7⟩:=q7;exact again I7 n7
  |cont=>obtain⟨σ7,H7,I7,n7⟩:=q7;exact again I7 n7
  |brk=>obtain⟨σ7,H7,I7,q7⟩:=q7;exact⟨σ7,H7,I7.jX,q7⟩
  |ret v=>obtain⟨x7,σ7,H7,I7,r7,q7⟩:=q7;exact⟨x7,σ7,H7,I7.jX,r7,q7⟩
end
end L2
namespace L2
open PySem PySem.Spec PyProof.Rows
abbrev R2:=V->V->Hp->VK->Prop
def nY(X:Cx)(f:Value->Value->Sem Value)(r:R2):Prop:=
 ∀(pins:List (Addr×Obj))(s:Shared)(σ:St)(H:Hp)(x y:V)(v u:Value)(Q:VK),Inv X pins σ H s->RelV x v->RelV y u->r x y H Q->
  wpAny (model X.prog X.w) X.A (f v u) (EP X pins σ Q) X.xe s
def Kl(X:Cx)(f:Value->Sem Value)(r:V->Hp->VK->Prop):Prop:=
 ∀(pins:List (Addr×Obj))(s:Shared)(σ:St)(H:Hp)(x:V)(v:Value)(Q:VK),Inv X pins σ H s->RelV x v->r x H Q->
  wpAny (model X.prog X.w) X.A (f v) (EP X pins σ Q) X.xe s
def pL(X:Cx)(f:Value)(r:List V->Hp->VK->Prop):Prop:=
 ∀(pins:List (Addr×Obj))(s:Shared)(σ:St)(H:Hp)(xs:List V)(us:List Value)(Q:VK),Inv X pins σ H s->Vals xs us->r xs H Q->
  wpAny (model X.prog X.w) X.A (call f us) (EP X pins σ Q) X.xe s
def Km(r:R2)(ta tb:TE):TE:=λσ H Q=>ta σ H λx H1=>tb σ H1 λy H2=>r x y H2 Q
def OZ(r:V->Hp->VK->Prop)(ta:TE):TE:=λσ H Q=>ta σ H λx H1=>r x H1 Q
def rI(C:Int->Int->Prop)(g:Int->Int->V):R2:=λx y H Q=>∃i j,x=.int i/\y=.int j/\C i j/\Q (g i j) H
def vv(g:Int->Int->V):R2:=λx y H Q=>∃i j,x=.int i/\y=.int j/\Q (g i j) H
def rU(g:Int->V):V->Hp->VK->Prop:=λx H Q=>∃i,x=.int i/\Q (g i) H
section
variable{X:Cx}{a b c:Expr}{ta tb tc:TE}{pos:Pos}
theorem Fj(ha:PE X a ta)(hb:PE X b tb){pins:List (Addr×Obj)}{s:Shared}{σ:St}{H:Hp}{R:V->V->Hp->Prop}(I:Inv X pins σ H s)
  (h:ta σ H λx H1=>tb σ H1 λy H2=>R x y H2){Q:Value->Shared->Prop}{f:Value->Value->Sem Value}
  (hf:∀v u s2 x y H2,Inv X pins σ H2 s2->RelV x v->RelV y u->R x y H2->wpAny (model X.prog X.w) X.A (f v u) Q X.xe s2):
  wpAny (model X.prog X.w) X.A (eval a X.env) (λv s₁=>wpAny (model X.prog X.w) X.A (eval b X.env) (λu s₂=>wpAny (model X.prog X.w) X.A (f v u) Q X.xe s₂) X.xe s₁) X.xe s:=by
 refine dO (ha pins s σ H _ I h) λv s1 ⟨x,H1,I1,r1,q1⟩=>?_
 refine dO (hb pins s1 σ H1 _ I1 q1) λu s2 ⟨y,H2,I2,r2,q2⟩=>?_
 exact hf v u s2 x y H2 I2 r1 r2 q2
theorem Dl{op:Operator}{r:R2}(ho:nY X (binaryOp op) r)(ha:PE X a ta)(hb:PE X b tb):PE X (.BinOp a op b pos) (Km r ta tb):=by
 intro pins s σ H Q I h
 exact wpAny_BinOp (Fj ha hb I h λv u s2 x y H2 I2 rx ry q=>ho pins s2 σ H2 x y v u Q I2 rx ry q)
theorem Ic{op:UnaryOp}{r:V->Hp->VK->Prop}(ho:Kl X (unaryOp op) r)(ha:PE X a ta):PE X (.UnaryOp op a pos) (OZ r ta):=by
 intro pins s σ H Q I h
 exact UnaryOp_ (dO (ha pins s σ H _ I h) λv s1 ⟨x,H1,I1,r1,q1⟩=>ho pins s1 σ H1 x v Q I1 r1 q1)
theorem Kn{f:Value->Value->Sem Value}{C:Int->Int->Prop}{g:Int->Int->Int}
  (rule:∀(i j:Int)(t u:Tok)(s:Shared)(Q:Value->Shared->Prop)(E:Value->Shared->Prop),C i j->Q (.int (g i j) s.toks) {s with toks:=s.toks+1}->wpAny (model X.prog X.w) X.A (f (.int i t) (.int j u)) Q E s):
  nY X f (rI C λi j=>.int (g i j)):=by
 intro pins s σ H x y v u Q I rx ry h
 obtain⟨i,j,rfl,rfl,hc,q⟩:=h
 obtain⟨t,rfl⟩:=rx
 obtain⟨t',rfl⟩:=ry
 exact rule i j t t' s _ _ hc ⟨.int (g i j),H,I.tok _,⟨_,rfl⟩,q⟩
theorem Ie{f:Value->Value->Sem Value}{g:Int->Int->Int}
  (rule:∀(i j:Int)(t u:Tok)(s:Shared)(Q:Value->Shared->Prop)(E:Value->Shared->Prop),Q (.int (g i j) s.toks) {s with toks:=s.toks+1}->wpAny (model X.prog X.w) X.A (f (.int i t) (.int j u)) Q E s):
  nY X f (vv λi j=>.int (g i j)):=by
 intro pins s σ H x y v u Q I rx ry h
 obtain⟨i,j,rfl,rfl,q⟩:=h
 obtain⟨t,rfl⟩:=rx
 obtain⟨t',rfl⟩:=ry
 exact rule i j t t' s _ _ ⟨.int (g i j),H,I.tok _,⟨_,rfl⟩,q⟩
theorem BH{f:Value->Value->Sem Value}{g:Int->Int->Bool}
  (rule:∀(i j:Int)(t u:Tok)(s:Shared)(Q:Value->Shared->Prop)(E:Value->Shared->Prop),Q (.bool (g i j)) s->wpAny (model X.prog X.w) X.A (f (.int i t) (.int j u)) Q E s):
  nY X f (vv λi j=>.bl (g i j)):=by
 intro pins s σ H x y v u Q I rx ry h
 obtain⟨i,j,rfl,rfl,q⟩:=h
 obtain⟨t,rfl⟩:=rx
 obtain⟨t',rfl⟩:=ry
 exact rule i j t t' s _ _ ⟨.bl (g i j),H,I,rfl,q⟩
def Ig(i j:Int):Prop:=0<j/\j<1073741824
def Ih(i j:Int):Prop:=0<=j/\j<=1000000/\i.natAbs<2^64
def BI(i j:Int):Prop:=(-(2^64)<i/\i<2^64)\/(-(2^64)<j/\j<2^64)
theorem BI.ok {i j:Int}(h:BI i j):IntMulOk i j:=by
 rcases h with⟨h1,h2⟩|⟨h1,h2⟩
 ·exact .of_left (intBits_le_64 h1 h2)
 ·exact .of_right (intBits_le_64 h1 h2)
theorem aU:nY X (binaryOp .Add) (vv λi j=>.int (i+j)):=Ie λ_ _ _ _ _ _ _ q=>add_int q
theorem iM:nY X (binaryOp .Sub) (vv λi j=>.int (i-j)):=Ie λ_ _ _ _ _ _ _ q=>sub_int q
theorem rO:nY X (binaryOp .Mult) (rI BI λi j=>.int (i*j)):=Kn λ_ _ _ _ _ _ _ hc q=>mul_int q hc.ok
theorem lS:nY X (binaryOp .FloorDiv) (rI Ig λi j=>.int (i/j)):=Kn λi j _ _ _ _ _ hc q=>by
 have h1:(0:Int)<j:=hc.1
 have h2:j<1073741824:=hc.2
 exact floordiv_int (by omega) (by rw[Int.fdiv_eq_ediv_of_nonneg i (by omega)];exact q) (.inl (PyProof.noPylong_small (by omega)))
theorem iN:nY X (binaryOp .Mod) (rI (λ_ j=>0<j) λi j=>.int (i%j)):=Kn λi j _ _ _ _ _ hc q=>by
 have h1:(0:Int)<j:=hc
 exact mod_int' (by omega) (by rw[Int.fmod_eq_emod_of_nonneg i (by omega)];exact q)
theorem Fl:nY X (binaryOp .Pow) (rI Ih λi j=>.int (i^j.toNat)):=Kn λ_ _ _ _ _ _ _ hc q=>pow_int_small hc.1 hc.2.1 hc.2.2 q
theorem O0{f:Value->Sem Value}{g:Int->Int}
  (rule:∀(i:Int)(t:Tok)(s:Shared)(Q:Value->Shared->Prop)(E:Value->Shared->Prop),Q (.int (g i) s.toks) {s with toks:=s.toks+1}->wpAny (model X.prog X.w) X.A (f (.int i t)) Q E s):
  Kl X f (rU λi=>.int (g i)):=by
 intro pins s σ H x v Q I rx h
 obtain⟨i,rfl,q⟩:=h
 obtain⟨t,rfl⟩:=rx
 exact rule i t s _ _ ⟨.int (g i),H,I.tok _,⟨_,rfl⟩,q⟩
theorem ji:Kl X (unaryOp .USub) (rU λi=>.int (-i)):=O0 λ_ _ _ _ _ q=>neg_int q
end
section
variable{X:Cx}{a b c:Expr}{ta tb tc:TE}{pos:Pos}
theorem i7:nY X (compareOp .Lt) (vv λi j=>.bl (decide (i<j))):=BH λ_ _ _ _ _ _ _ q=>lt_int q
theorem Dm:nY X (compareOp .LtE) (vv λi j=>.bl (decide (i<=j))):=BH λ_ _ _ _ _ _ _ q=>le_int q
theorem nZ:nY X (compareOp .Gt) (vv λi j=>.bl (decide (j<i))):=BH λ_ _ _ _ _ _ _ q=>gt_int q
theorem zh:nY X (compareOp .GtE) (vv λi j=>.bl (decide (j<=i))):=BH λ_ _ _ _ _ _ _ q=>ge_int q
theorem au(b:Expr){op:CmpOp}(h:op≠.In:=by decide)(h2:op≠.NotIn:=by decide):behindInMarks op b=false:=by
 have e1:(op==CmpOp.In)=false:=by cases op<;>first|rfl|exact absurd rfl h
 have e2:(op==CmpOp.NotIn)=false:=by cases op<;>first|rfl|exact absurd rfl h2
 cases b<;>simp[behindInMarks,e1,e2]
theorem BJ{op:CmpOp}{r:R2}(ho:nY X (compareOp op) r)(ha:PE X a ta)(hb:PE X b tb)(hm:behindInMarks op b=false):PE X (.Compare a [op] [b] pos) (Km r ta tb):=by
 intro pins s σ H Q I h
 exact wpAny_Compare1 (Fj ha hb I h λv u s2 x y H2 I2 rx ry q=>ho pins s2 σ H2 x y v u Q I2 rx ry q) hm
def Ii(t:TE):TT:=λσ H Q=>t σ H λx H'=>∃k,x=.bl k/\Q k H'
theorem BK{op:CmpOp}{r:R2}(ho:nY X (compareOp op) r)(ha:PE X a ta)(hb:PE X b tb)(hm:behindInMarks op b=false):PT X (.Compare a [op] [b] pos) (Ii (Km r ta tb)):=by
 intro pins s σ H Q I h
 refine wpAny_isTrue_Compare1 (dO (ha pins s σ H _ I h) λv s1 ⟨x,H1,I1,r1,q1⟩=>dO (hb pins s1 σ H1 _ I1 q1) λu s2 ⟨y,H2,I2,r2,q2⟩=>
  dO (ho pins s2 σ H2 x y v u _ I2 r1 r2 q2) λc s3 ⟨z,H3,I3,r3,k,e,q3⟩=>?_) hm
 subst e
 cases r3
 exact wpAny_truthy_bool ⟨H3,I3,q3⟩
def Fo(r r':R2)(ta tb tc:TE):TE:=λσ H Q=>ta σ H λx H1=>tb σ H1 λy H2=>r x y H2 λz H3=>∃k,z=.bl k/\
 (if k=true then tc σ H3 λw' H4=>r' y w' H4 Q else Q (.bl false) H3)
theorem zj{op Fp:CmpOp}{r r':R2}(ho:nY X (compareOp op) r)(y9:nY X (compareOp Fp) r')(ha:PE X a ta)(hb:PE X b tb)(hc:PE X c tc)
  (hm:lastMarks [op,Fp] [b,c]=false:=by with_unfolding_all rfl):PE X (.Compare a [op,Fp] [b,c] pos) (Fo r r' ta tb tc):=by
 intro pins s σ H Q I h
 refine Compare_chain (dO (ha pins s σ H _ I h) λv s1 ⟨x,H1,I1,r1,q1⟩=>chain_link (dO (hb pins s1 σ H1 _ I1 q1) λu s2 ⟨y,H2,I2,r2,q2⟩=>
  dO (ho pins s2 σ H2 x y v u _ I2 r1 r2 q2) λd s3 ⟨z,H3,I3,r3,k,e,q3⟩=>?_)) hm
 subst e
 cases r3
 refine wpAny_truthy_bool ?_
 cases k with
 |false=>exact ite_ff ⟨.bl false,H3,I3,rfl,q3⟩
 |true=>exact ite_tt (chain_last (dO (hc pins s3 σ H3 _ I3 q3) λw' s4 ⟨z',H4,I4,r4,q4⟩=>y9 pins s4 σ H4 y z' u w' Q I4 r2 r4 q4))
theorem rP:(sizeLine:Nat)<2^63:=by rw[sizeLine_eq];decide
theorem vals1{x:V}{us:List Value}(r:Vals [x] us):∃u,us=[u]/\RelV x u:=by
 cases r with
 |cons r1 r2=>cases r2;exact⟨_,rfl,r1⟩
theorem vals2{x y:V}{us:List Value}(r:Vals [x,y] us):∃u w',us=[u,w']/\RelV x u/\RelV y w':=by
 cases r with
 |cons r1 r2=>
  cases r2 with
  |cons r3 r4=>cases r4;exact⟨_,_,rfl,r1,r3⟩
theorem cC:pL X (.builtin "abs") (λxs H Q=>∃i,xs=[.int i]/\Q (.int (if i<0 then-i else i)) H):=by
 intro pins s σ H xs us Q I r h
 obtain⟨i,rfl,q⟩:=h
 obtain⟨u,rfl,t,rfl⟩:=vals1 r
 exact call_abs_int λu tk=>⟨.int (if i<0 then-i else i),H,I.tok _,⟨_,rfl⟩,q⟩
theorem qV(hc:X.calm=true):pL X (.builtin "max") (λxs H Q=>∃i j,xs=[.int i,.int j]/\Q (.int (if j>i then j else i)) H):=by
 intro pins s σ H xs us Q I r h
 obtain⟨i,j,rfl,q⟩:=h
 obtain⟨u,w',rfl,⟨t,rfl⟩,⟨t',rfl⟩⟩:=vals2 r
 refine max_two_ints (I.ok.hd hc) λh' tk k=>⟨_,H,I.kept k,?_,q⟩
 by_cases hj:j>i
 ·rw[if_pos hj,if_pos hj];exact⟨_,rfl⟩
 ·rw[if_neg hj,if_neg hj];exact⟨_,rfl⟩
def Ij(K:PySem.W.Frag)(x:V)(H:Hp)(n:Nat):Prop:=
 match x with
 |.str y=>y.length<=sizeLine/\n=y.length
 |.HL y=>y.size<=sizeLine/\n=y.size
 |.ref p=>(∃xs,jV K H p xs/\n=xs.length)\/∃xs,tP K H p xs/\n=xs.length
 |_=>False
theorem b6:pL X (.builtin "len") (λxs H Q=>∃x n,xs=[x]/\Ij X.K x H n/\Q (.int n) H):=by
 intro pins s σ H xs us Q I r h
 obtain⟨x,n,rfl,e,q⟩:=h
 obtain⟨u,rfl,rx⟩:=vals1 r
 have hl:=rP
 have hs:sizeLine=16777216:=sizeLine_eq
 cases x with
 |str y=>
  obtain⟨t,rfl⟩:=rx
  obtain⟨hy,e'⟩:y.length<=sizeLine/\n=y.length:=e
  subst e'
  exact len_str (by omega) ⟨.int _,H,I.tok _,⟨_,rfl⟩,q⟩
 |HL y=>
  obtain⟨t,rfl⟩:=rx
  obtain⟨hy,e'⟩:y.size<=sizeLine/\n=y.size:=e
  subst e'
  exact PySem.W.len_bytes (by omega) ⟨.int _,H,I.tok _,⟨_,rfl⟩,q⟩
 |ref p=>
  cases rx
  have e':(∃xs,jV X.K H p xs/\n=xs.length)\/∃xs,tP X.K H p xs/\n=xs.length:=e
  rcases e' with⟨xs,hx,e'⟩|⟨xs,hx,e'⟩
  ·subst e'
   obtain⟨its,r',pl,hz⟩:=I.list hx
   have hlen:=r'.length
   exact Calls.call_len_list pl.isList (by simp only [size_toArray];omega) ⟨.int xs.length,H,I.tok _,⟨_,by simp only [size_toArray];rw[hlen]⟩,q⟩
  ·subst e'
   obtain⟨its,r',pl,hz⟩:=I.tuple hx
   have hlen:=r'.length
   exact len_tuple pl (by simp only [size_toArray];omega) ⟨.int xs.length,H,I.tok _,⟨_,by simp only [size_toArray];rw[hlen]⟩,q⟩
 |_=>exact(show False from e).elim
end
end L2
namespace L2
open PySem PySem.Spec PyProof.Rows
structure Fq(h:Heap)(x dx C:Addr)(mA:Str->Option Value):Prop where
 obj:h.get? x=some (instObj C dx)
 ns:h.Ns1 dx mA
 ne:dx≠x
theorem ym{h:Heap}{dx:Addr}{mA:Str->Option Value}(n:h.Ns1 dx mA):∃od,h.get? dx=some od/\∀name,lookIn name od=some (mA name):=by
 obtain⟨o,es,ep,ho,hd,hk,_,hm⟩:=n
 refine⟨o,ho,λname=>?_⟩
 have e:=hm name
 unfold nsFind findBy at e
 rw[<-Array.find?_toList]at e
 unfold lookIn
 rw[hd]
 dsimp only
 split
 ·rename_i y q
  rw[q]at e
  exact congrArg some e
 ·rename_i q
  rw[q]at e
  have a:es.toList.any (·.refKey)=false:=by
   rw[List.any_eq_false]
   intro y hy
   obtain⟨z,t,hkey⟩:=hk y (Array.mem_toList_iff.mp hy)
   simp[DictEntry.refKey,hkey]
  have a':¬es.toList.any (·.refKey)=true:=by rw[a];exact Bool.false_ne_true
  rw[if_neg a']
  exact congrArg some e
theorem Fq.look {h:Heap}{x dx C:Addr}{mA:Str->Option Value}(I:Fq h x dx C mA):∃od,PySem.W.InstAt h x (instObj C dx) C (some od)/\∀name,lookIn name od=some (mA name):=
 let⟨od,ho,hl⟩:=ym I.ns
 ⟨od,⟨I.obj,rfl,rfl,ho⟩,hl⟩
section
variable{P:Program}{w:World}{H H':Hp}{h h':Heap}{a C dx:Addr}{fs Nv:List (Str×V)}
theorem BL(hok:nX P w H h)(e:H a=some (.ins C dx fs)):∃mA,Fq h a dx C mA/\(∀f,ET (fs.lookup f) (mA f))/\PySem.Within mA (fs.map (·.1))/\fs.length<=1000/\H dx=some (.own a):=by
 obtain⟨d,z,ne,ob,mA,n,r,q⟩:=(show dN P w H h a (.ins C dx fs)from hok a _ e)
 exact⟨mA,⟨ob,n,ne⟩,r,q,z,d⟩
end
structure Lb(K:PySem.W.Frag)(C:Addr):Prop where
 pg:plainGet K C Str.empty=true
 hd:PySem.W.hasDictIn K C=true
 po:PySem.W.plainOver K C=true
 sa:findIn K (.ref C) "__setattr__"=some (some (.builtin "object.__setattr__"))
theorem Lb.get {K:PySem.W.Frag}{C:Addr}(c:Lb K C)(f:Str):plainGet K C f=true:=c.pg
section
variable{X:Cx}{pins:List (Addr×Obj)}{σ:St}{H:Hp}{s:Shared}{A:Around}{E:Value->Shared->Prop}{Q:Value->Shared->Prop}{c:Value}{b:Bool}
inductive oF (K:PySem.W.Frag) (H:Hp):V->Value->Prop where
 |non:oF K H .non (.type "NoneType")
 |bl (x:Bool):oF K H (.bl x) (.type "bool")
 |int (i:Int):oF K H (.int i) (.type "int")
 |str (x:Str):oF K H (.str x) (.type "str")
 |Hu (x:UInt64):oF K H (.Hu x) (.type "float")
 |lst {a:Addr} {xs:List V} (e:H a=some (.lst xs)):oF K H (.ref a) (.type "list")
 |qH {a:Addr} {o:Obj} {xs:List V} (e:H a=some (.qH o (.lst xs))):oF K H (.ref a) (.type "list")
 |tup {a:Addr} {xs:List V} (e:H a=some (.tup xs)):oF K H (.ref a) (.type "tuple")
 |dK {a:Addr} {kvs:List (Key×V)} (e:H a=some (.dK kvs)):oF K H (.ref a) (.type "dict")
 |dT {a:Addr} {kvs:List (List Key×V)} (e:H a=some (.dT kvs)):oF K H (.ref a) (.type "dict")
 |ins {a C dx:Addr} {fs:List (Str×V)} (e:H a=some (.ins C dx fs)) (cl:Lb K C) (ha:findIn K (.ref C) "__class__"=some (some (.builtin "object.__class__")))
   (hn:PySem.W.specialIn K (.builtin "object.__class__") "__get__"=some (some (.builtin "getset_descriptor.__get__"))) (htk:PySem.W.takesIn K (.builtin "object.__class__")=some true)
   (hm:mroIn K C (.type "object")=some true):oF K H (.ref a) (.ref C)
theorem kJ{x:V}{u t:Value}(I:Inv X pins σ H s)(rx:RelV x u)(ty:oF X.K H x t)(e:kitOne X.K t c=some b)(h:∀tk,Q (.bool b) {s with toks:=tk}):
  wpAny (model X.prog X.w) A (call (.builtin "isinstance") [u,c]) Q E s:=by
 cases ty with
 |non=>cases (show u=Value.none from rx);exact kia_one PySem.W.kitx_none I.rL True.intro e (λz=>nomatch z) h
 |bl y=>cases (show u=Value.bool y from rx);exact kia_one PySem.W.kitx_bool I.rL True.intro e (λz=>nomatch z) h
 |int i=>obtain⟨t,q⟩:=(show∃t,u=Value.int i t from rx);cases q;exact kia_one PySem.W.kitx_int I.rL True.intro e (λz=>nomatch z) h
 |str y=>obtain⟨t,q⟩:=(show∃t,u=Value.str y t from rx);cases q;exact kia_one PySem.W.kitx_str I.rL True.intro e (λz=>nomatch z) h
 |Hu y=>obtain⟨t,q⟩:=(show∃t,u=Value.float y t from rx);cases q;exact kia_one PySem.W.kitx_float I.rL True.intro e (λz=>nomatch z) h
 | @lst a xs ea=>
  cases (show u=Value.ref a from rx)
  obtain⟨_,_,n,_,h1⟩:=(show dN X.prog X.w H s.heap a (.lst xs)from I.hok a _ ea)
  exact kia_one kitx_list I.rL ⟨_,h1,rfl⟩ e (λz=>nomatch z) h
 | @qH a ob xs ea=>
  cases (show u=Value.ref a from rx)
  obtain⟨_,_,_,n,_,h1⟩:=(show dN X.prog X.w H s.heap a (.qH ob (.lst xs))from I.hok a _ ea)
  exact kia_one kitx_list I.rL ⟨_,h1,rfl⟩ e (λz=>nomatch z) h
 | @tup a xs ea=>
  cases (show u=Value.ref a from rx)
  obtain⟨_,_,_,p⟩:=(show dN X.prog X.w H s.heap a (.tup xs)from I.hok a _ ea)
  obtain⟨o,h1,h2,_⟩:=p
  exact kia_one kitx_tuple I.rL ⟨o,h1,h2⟩ e (λz=>nomatch z) h
 | @dK a kvs ea=>
  cases (show u=Value.ref a from rx)
  obtain⟨_,_,vs,_,p⟩:=(show dN X.prog X.w H s.heap a (.dK kvs)from I.hok a _ ea)
  obtain⟨o,es,ep,h1,h2,_⟩:=p
  exact kia_one kitx_dict I.rL ⟨o,h1,h2.1⟩ e (λz=>nomatch z) h
 | @dT a kvs ea=>
  cases (show u=Value.ref a from rx)
  obtain⟨_,_,xs,_,o,es,ep,h1,h2,_⟩:=(show dN X.prog X.w H s.heap a (.dT kvs)from I.hok a _ ea)
  exact kia_one kitx_dict I.rL ⟨o,h1,h2.1⟩ e (λz=>nomatch z) h
 | @ins a C dx fs ea cl ha hn htk hm=>
  cases (show u=Value.ref a from rx)
  obtain⟨mA,O,_⟩:=BL I.hok ea
  obtain⟨od,J,_⟩:=O.look
  exact kia_one (PySem.W.kitx_own (cl.get _) cl.hd ha hn htk hm) I.rL J e (λz=>nomatch z) h
end
end L2
namespace L2
open PySem PySem.Spec PyProof.Rows
structure aV(k:Nat)(A:Around):Prop where
 hd:A.handled=none
 dp:A.depth+3*k+5<recursionLimit
 un:A.units+16*k+200<cLine
theorem aV.mono {j k:Nat}{A:Around}(r:aV k A)(h:j<=k):aV j A:=⟨r.hd,by have:=r.dp;omega,by have:=r.un;omega⟩
theorem aV.deeper {k:Nat}{A:Around}(r:aV (k+1) A)(env:Env):aV k (A.deeper env):=
 ⟨r.hd,by have:=r.dp;show A.depth+1+3*k+5<_;omega,by have:=r.un;show A.units+3+16*k+200<_;omega⟩
theorem aV.depth {k:Nat}{A:Around}(r:aV k A):A.depth<recursionLimit:=by have:=r.dp;omega
def Lc:TA:=λ_ H Q=>Q [] H
def Ik(ta:TE)(tr:TA):TA:=λσ H Q=>ta σ H λx H1=>tr σ H1 λxs H2=>Q (x::xs) H2
section
variable{X:Cx}{e:Expr}{es:List Expr}{te:TE}{t:TA}{pos:Pos}
theorem jY:PA X [] Lc:=λ_ _ _ _ H Q I h=>Calls.spliced_nil ⟨[],H,I,.nil,h⟩
theorem fH(ha:PE X e te)(hr:PA X es t)(hs:starEach (e::es) X.env=(false,eval e X.env)::starEach es X.env:=by rfl):PA X (e::es) (Ik te t):=by
 intro pos pins s σ H Q I h
 rw[hs]
 show wpAny _ _ (spliced ((false,eval e X.env)::backTo pos (starEach es X.env))) _ _ s
 refine Calls.spliced_cons (dO (ha pins s σ H _ I h) λu s1 ⟨x,H1,I1,r1,q1⟩=>?_)
 exact dO (hr pos pins s1 σ H1 _ I1 q1) λus s2 ⟨xs,H2,I2,r2,q2⟩=>⟨x::xs,H2,I2,.cons r1 r2,q2⟩
def Ld(t:TA):TE:=λσ H Q=>t σ H λxs H1=>xs.length<=sizeLine/\∀p,H1 p=none->Q (.ref p) (upd H1 p (.tup xs))
def Le(t:TA):TE:=λσ H Q=>t σ H λxs H1=>xs.length<=sizeLine/\∀p,H1 p=none->Q (.ref p) (upd H1 p (.lst xs))
theorem zk{x1}(h:PA X es t):PE X (.Tuple es x1 pos) (Ld t):=by
 intro pins s σ H Q I hq
 refine wpAny_Tuple_spliced (dO (h pos pins s σ H _ I hq) λus s1 ⟨xs,H1,I1,r,z,q⟩=>⟨by rw[<-r.length];exact z,?_⟩)
 have hf:H1 s1.heap.objs.size=none:=I1.hok.fresh (Nat.le_refl _)
 refine⟨.ref s1.heap.objs.size,upd H1 s1.heap.objs.size (.tup xs),I1.laid (t':=s1.toks) (λb u e=>Heap.get?_push_of_some _ e) (Nat.le_refl _) ?_,rfl,q _ hf⟩
 exact⟨z,us,r,⟨_,Heap.get?_push_size _ rfl,rfl,_,rfl⟩⟩
theorem Ft(h:PA X es t):PE X (.List es pos) (Le t):=by
 intro pins s σ H Q I hq
 refine wpAny_List_spliced (dO (h pos pins s σ H _ I hq) λus s1 ⟨xs,H1,I1,r,z,q⟩=>⟨by rw[<-r.length];exact z,?_⟩)
 have hf:H1 s1.heap.objs.size=none:=I1.hok.fresh (Nat.le_refl _)
 refine⟨.ref s1.heap.objs.size,upd H1 s1.heap.objs.size (.lst xs),I1.laid (t':=s1.toks) (λb u e=>Heap.get?_push_of_some _ e) (Nat.le_refl _) ?_,rfl,q _ hf⟩
 exact⟨z,us,0,r,Heap.get?_push_size _ rfl⟩
end
abbrev Sp:=List V->Hp->VK->XK->Prop
abbrev yV:=List Env->Hp->Shared->XK->Value->Shared->Prop
structure BN(P:Program)(w:World)(K:PySem.W.Frag)(mg:Str->Option Value)(base:Heap)(A:Around)(outer:List Env)(s:Shared)(H:Hp):Prop where
 frames:A.frames=some outer
 mod:Mod K mg base
 bs:∀b o,base.get? b=some o->s.heap.get? b=some o/\H b=none
 Bw:base.objs.size<=s.heap.objs.size
 oE:s.heap.FunFrames base outer
 EY:∀b∈wZ outer,H b=none
 hok:nX P w H s.heap
 bare:AllBare s.gens
def CE(outer:List Env)(P:Program)(w:World)(H:Hp)(s:Shared)(Q:VK)(u:Value)(s':Shared):Prop:=
 ∃v H',s'.os=s.os/\AllBare s'.gens/\Un (wZ outer) [] H H' s.heap s'.heap/\nX P w H' s'.heap/\RelV v u/\Q v H'
def CR(CX:yV)(outer:List Env)(P:Program)(w:World)(H:Hp)(s:Shared)(Q:VK)(E:XK)(r:Result)(s':Shared):Prop:=
 match r with
 |.ok (.ret u)=>CE outer P w H s Q u s'
 |.ok _=>False
 |.error e=>CX outer H s E e s'
structure gb(P:Program)(w:World)(K:PySem.W.Frag)(mg:Str->Option Value)(base:Heap)(CX:yV)(k:Nat)(f:Addr)(fd:FuncData)(ps:List Str)(sp:Sp):Prop where
 len:∀vs H Q E,sp vs H Q E->vs.length=ps.length
 run:∀(A:Around)(outer:List Env)(s:Shared)(H:Hp)(args:Args)(us:List Value)(vs:List V)(Q:VK)(E:XK),aV k A->BN P w K mg base A outer s H->BindsTo s fd args (ps.zip us)->Vals vs us->sp vs H Q E->
  codeAny (model P w) A (.call (.ref f) args) (CR CX outer P w H s Q E) s
section
variable{X:Cx}{pins:List (Addr×Obj)}{σ:St}{H:Hp}{s s':Shared}
theorem Inv.Lf (I:Inv X pins σ H s):BN X.prog X.w X.K X.mg X.base X.A X.stack s H:=
 ⟨I.ok.frames,I.ok.mod,I.bs,le_trans I.ok.Bw I.sz,I.stack,I.w5,I.hok,I.bare⟩
theorem Inv.after {Q:VK}{u:Value}(I:Inv X pins σ H s)(h:CE X.stack X.prog X.w H s Q u s'):EP X pins σ Q u s':=by
 obtain⟨v,H',os,bare,un,hok,r,q⟩:=h
 obtain⟨hh,g,d,t,dm⟩:=s'
 obtain rfl:dm=s.os:=os
 exact⟨v,H',I.call (h':=hh) (g':=g) (d':=d) (t':=t) (ch:=[]) un hok bare (λb z=>absurd z (by simp)),r,q⟩
end
def Il(sp:Sp)(Dn:List V)(E:XK)(t:TA):TE:=λσ H Q=>t σ H λvs H1=>sp (vs++Dn) H1 Q E
def Binds(K:PySem.W.Frag)(fd:FuncData)(ps:List Str)(ds:List Value):Prop:=
 ∀(s:Shared)(us:List Value),K.In s.heap->(us++ds).length=ps.length->BindsTo s fd ⟨us,[]⟩ (ps.zip (us++ds))
theorem Binds.all {K:PySem.W.Frag}{fd:FuncData}{ps:List Str}(h:∀us:List Value,us.length=ps.length->bindArgs fd ⟨us,[]⟩=pure (ps.zip us)):Binds K fd ps []:=λs us _ hl=>by
 rw[append_nil]at hl⊢
 exact .of_eq (h us hl)
def Passes(CX:yV)(X:Cx)(E:XK):Prop:=∀(pins:List (Addr×Obj))(σ:St)(H:Hp)(s:Shared)(e:Value)(s':Shared),Inv X pins σ H s->CX X.stack H s E e s'->X.xe e s'
section
variable{X:Cx}{CX:yV}{k:Nat}{f C:Addr}{fd:FuncData}{ps:List Str}{sp:Sp}{Dn:List V}{ds:List Value}{E:XK}{x m:Str}{p pos apos:Pos}{e o:Expr}{es:List Expr}{ta:TE}{t:TA}
theorem Fv{pins:List (Addr×Obj)}{σ:St}{H:Hp}{s:Shared}{Q:VK}{us:List Value}{vs:List V}(F:gb X.prog X.w X.K X.mg X.base CX k f fd ps sp)(hr:aV k X.A)(hb:Binds X.K fd ps ds)(hd:Vals Dn ds)(hx:Passes CX X E)
  (I:Inv X pins σ H s)(r:Vals vs us)(h:sp (vs++Dn) H Q E):wpAny (model X.prog X.w) X.A (call (.ref f) us) (EP X pins σ Q) X.xe s:=by
 have r2:Vals (vs++Dn) (us++ds):=r.append hd
 have hl:(us++ds).length=ps.length:=by rw[<-r2.length];exact F.len _ _ _ _ h
 refine wpAny_call (codeAny_mono (F.run X.A X.stack s H ⟨us,[]⟩ (us++ds) (vs++Dn) Q E hr I.Lf (hb s us I.rL hl) r2 h) λr s' hq=>?_)
 cases r with
 |error e=>exact hx pins σ H s e s' I hq
 |ok fl=>
  cases fl with
  |ret u=>exact I.after hq
  |next=>exact False.elim hq
  |brk=>exact False.elim hq
  |cont=>exact False.elim hq
theorem kK(F:gb X.prog X.w X.K X.mg X.base CX k f fd ps sp)(hr:aV k X.A)(hg:Gl X x)(hm:X.mg x=some (.ref f))(hk:keepIn X.K (.ref f)=true)(hb:Binds X.K fd ps ds)(hd:Vals Dn ds)(hx:Passes CX X E)
  (ha:PA X (e::es) t)(hdb:(x==("__debug__":Str))=false:=by decide)(he:starEach (e::es) X.env=(false,eval e X.env)::starEach es X.env:=by rfl)(hpl:(backTo pos (starEach es X.env)).any (·.1)=false:=by rfl):
  PE X (.Call (.Name x p) (e::es) [] pos) (Il sp Dn E t):=by
 intro pins s σ H Q I h
 refine wpAny_Call_Name_kw (By I hg hm ?_ hdb)
 refine PySem.W.callWith_K (h₀:=X.base) I.ok.mod.KN hk (dO (ha pos pins s σ H _ I h) λus s1 ⟨vs,H1,I1,r,q⟩=>⟨I1.rL,?_⟩) he hpl
 exact Fv F hr hb hd hx I1 r q
end
structure az(N P:List Str)(sc:Scope):Prop where
 kind:sc.kind=.function
 co:sc.isCoroutine=false
 gen:sc.isGenerator=false
 nd:N.Nodup
 pre:N.take P.length=P
 par:∀x∈P,sc.names.lookup x=some .local\/sc.names.lookup x=some .cell
 Fw:∀y∈sc.names,y.2≠.free
theorem qW{kindOf:Str->Option NameKind}{x:Str}:∀{binds:List (Str×Value)}{m:Str->Option Value},(∀v,(x,v)∉binds)->bindL kindOf binds m x=m x
 |[],_,_=>rfl
 |(n,v)::r,m,h=>by
  unfold bindL
  rw[qW λw hw=>h w (mem_cons_of_mem _ hw)]
  split
  ·have:x≠n:=by rintro rfl;exact h v mem_cons_self
   simp[this]
  ·rfl
theorem qX{kindOf:Str->Option NameKind}{x:Str}:∀{binds:List (Str×Value)}{m:Str->Option Value},(∀v,(x,v)∉binds)->bindC kindOf binds m x=m x
 |[],_,_=>rfl
 |(n,v)::r,m,h=>by
  unfold bindC
  rw[qX λw hw=>h w (mem_cons_of_mem _ hw)]
  split
  ·rfl
  ·have:x≠n:=by rintro rfl;exact h v mem_cons_self
   simp[this]
theorem qY{kindOf:Str->Option NameKind}{x:Str}{v:Value}:∀{P:List Str}{vs:List Value}{i:Nat}{m:Str->Option Value},P.Nodup->P[i]?=some x->vs[i]?=some v->kindOf x=some .local->
  bindL kindOf (P.zip vs) m x=some v
 |[],_,_,_,_,h,_,_=>by simp at h
 |_::_,[],_,_,_,_,h,_=>by simp at h
 |p::P,w::vs,0,m,nd,h1,h2,hk=>by
  simp at h1 h2;subst h1;subst h2
  show bindL kindOf ((p,w)::P.zip vs) m p=_
  unfold bindL
  rw[qW λv hv=>(nodup_cons.mp nd).1 (of_mem_zip hv).1,if_pos hk]
  simp
 |p::P,w::vs,i+1,m,nd,h1,h2,hk=>by
  show bindL kindOf ((p,w)::P.zip vs) m x=_
  unfold bindL
  exact qY (i:=i) (nodup_cons.mp nd).2 (by simpa using h1) (by simpa using h2) hk
theorem qZ{kindOf:Str->Option NameKind}{x:Str}{v:Value}:∀{P:List Str}{vs:List Value}{i:Nat}{m:Str->Option Value},P.Nodup->P[i]?=some x->vs[i]?=some v->kindOf x≠some .local->
  bindC kindOf (P.zip vs) m x=some v
 |[],_,_,_,_,h,_,_=>by simp at h
 |_::_,[],_,_,_,_,h,_=>by simp at h
 |p::P,w::vs,0,m,nd,h1,h2,hk=>by
  simp at h1 h2;subst h1;subst h2
  show bindC kindOf ((p,w)::P.zip vs) m p=_
  unfold bindC
  rw[qX λv hv=>(nodup_cons.mp nd).1 (of_mem_zip hv).1,if_neg hk]
  simp
 |p::P,w::vs,i+1,m,nd,h1,h2,hk=>by
  show bindC kindOf ((p,w)::P.zip vs) m x=_
  unfold bindC
  exact qZ (i:=i) (nodup_cons.mp nd).2 (by simpa using h1) (by simpa using h2) hk
def start(N:List Str)(vs:List V):St:=vs.map some++replicate (N.length-vs.length) none
noncomputable def kU(CX:yV)(P:Program)(w:World)(K:PySem.W.Frag)(mg:Str->Option Value)(base:Heap)(N:List Str)(qual:Str)(scope:Scope)(f:Addr)(cd:Value)(A:Around)(outer:List Env)(s:Shared)(H:Hp)(E:XK):Cx where
 prog:=P
 w:=w
 K:=K
 mg:=mg
 base:=base
 A:=A.deeper (envOfC qual scope s.heap.objs.size f cd)
 N:=N
 s₀:=s
 H₀:=H
 env:=envOfC qual scope s.heap.objs.size f cd
 outer:=outer
 stack:=envOfC qual scope s.heap.objs.size f cd::outer
 ex:=[]
 calm:=true
 fn:=λ_=>true
 pn:=[]
 xe:=λe s'=>wpAny (model P w) (A.deeper (envOfC qual scope s.heap.objs.size f cd)) (leaving (envOfC qual scope s.heap.objs.size f cd) e) (λ_ Lg=>CX outer H s E e Lg) (λe' Lg=>CX outer H s E e' Lg) s'
theorem tQ{sc:Scope}{n:Nat}{x:Str}(h:sc.names.lookup x=some .cell):∃c,(cellsFrom n sc.names []).lookup x=some c:=by
 have q:=cellsFrom_some sc.names n [] (.inl h)
 exact Option.isSome_iff_exists.mp q
theorem yn{CX:yV}{P:Program}{w:World}{K:PySem.W.Frag}{mg:Str->Option Value}{base:Heap}{N ps:List Str}{qual:Str}{scope:Scope}{f:Addr}{cd:Value}{A:Around}{outer:List Env}{s s1:Shared}{H:Hp}{E:XK}{us:List Value}{vs:List V}
  (S:az N ps scope)(hd:A.handled=none)(e0:BN P w K mg base A outer s H)(hl:vs.length=ps.length)(r:Vals vs us)
  (x:InCallC s s.heap.objs.size (bindL (envOfC qual scope s.heap.objs.size f cd).kindOf (ps.zip us) λ_=>none) (cellsFrom (s.heap.objs.size+1) scope.names []) (bindC (envOfC qual scope s.heap.objs.size f cd).kindOf (ps.zip us) λ_=>none) s1):
  Inv (kU CX P w K mg base N qual scope f cd A outer s H E) [] (start N vs) H s1:=by
 have hpl:ps.length<=N.length:=by have:=congrArg List.length S.pre;rw[length_take]at this;omega
 obtain⟨h1,tk,rfl,hk⟩:=x.done
 have Im:∀b:Addr,b∉(kU CX P w K mg base N qual scope f cd A outer s H E).ex:=λb z=>absurd (show b∈([]:List Addr)from z) (by simp)
 refine⟨⟨e0.mod,S.kind,rfl,rfl,Nat.le_refl _,λy z c h1 h2=>?_,λy hy=>?_,λy c _ h=>?_,λ_=>hd,Around.frames_deeper e0.frames,.inr ⟨rfl,rfl⟩,λb z=>absurd z (Im b),e0.bs,e0.Bw,λb _ _=>Im b,λb z=>absurd z (Im b),e0.oE,e0.EY⟩,
  rfl,e0.bare,Un.kept hk,⟨_,x.toInCall.ns,λi y v h1 h2 h3=>?_⟩,λy c h=>⟨_,x.cell y c h⟩,e0.hok.fresh (Nat.le_refl _),λy c h=>?_,λp hp=>absurd (show p∈([]:List (Addr×Obj))from hp) (by simp),e0.hok.kept hk,?_⟩
 ·exact name_of_addr x.apart (PySem.mem_of_lookup h1) (PySem.mem_of_lookup h2)
 ·have hy:scope.names.lookup y=some .cell\/scope.names.lookup y=some .free:=hy
  rcases hy with hy|hy
  ·exact tQ hy
  ·exact absurd rfl (S.Fw _ (PySem.mem_of_lookup hy))
 ·exact Nat.le_of_lt (x.above y c (PySem.mem_of_lookup h))
 ·have hi:i<vs.length:=by
   unfold start at h2
   by_cases hi:i<vs.length
   ·exact hi
   ·rw[getElem?_append_right (by simpa using hi)]at h2
    rw[getElem?_replicate]at h2
    split at h2<;>cases h2
  have ha:vs[i]?=some v:=by
   unfold start at h2
   rw[getElem?_append_left (by simpa using hi),getElem?_map]at h2
   cases e:vs[i]? with
   |none=>rw[e]at h2;cases h2
   |some a=>rw[e]at h2;cases h2;rfl
  obtain⟨u,hu,rv⟩:=r.get ha
  have hp:ps[i]?=some y:=by
   rw[<-S.pre,List.getElem?_take_of_lt (by omega)];exact h1
  have NI:ps.Nodup:=by rw[<-S.pre];exact S.nd.sublist (List.take_sublist _ _)
  refine⟨u,rv,?_⟩
  rcases S.par y (List.mem_of_getElem? hp)with k|k
  ·exact .inl ⟨k,qY NI hp hu k⟩
  ·obtain⟨c,e⟩:=tQ (n:=s.heap.objs.size+1) k
   refine .inr ⟨.inl k,c,e,?_⟩
   have q:=x.cell y c e
   rw[qZ NI hp hu (by show scope.names.lookup y≠_;rw[k];decide)]at q
   exact q
 ·exact e0.hok.fresh (Nat.le_of_lt (x.above y c (PySem.mem_of_lookup h)))
 ·unfold start
  show _=N.length
  rw[length_append,length_map,List.length_replicate]
  omega
theorem Io{CX:yV}{P:Program}{w:World}{K:PySem.W.Frag}{mg:Str->Option Value}{base:Heap}{k:Nat}{f:Addr}{name qual:Str}{params:Arguments}{body:List Stmt}{scope:Scope}{dV kV doc pm cdv ct oc:Value}{an od:Option Addr}
  {yW:Array (Option Value)}{N ps:List Str}{sp:Sp}(lk:K.lookup f=some ⟨oc,od,.func (PySem.W.fnOf name qual params body scope dV kV doc pm an cdv ct),yW⟩)(hcd:codeIn K cdv qual=true)(S:az N ps scope)
  (len:∀vs H Q E,sp vs H Q E->vs.length=ps.length)
  (hbody:∀(A:Around)(outer:List Env)(s:Shared)(H:Hp)(vs:List V)(Q:VK)(E:XK),aV k (A.deeper (envOfC qual scope s.heap.objs.size f cdv))->sp vs H Q E->
   ∃t,kT (kU CX P w K mg base N qual scope f cdv A outer s H E) body t/\t {nx:=λ_ H'=>Q .non H',rt:=Q} (start N vs) H):
  gb P w K mg base CX (k+1) f (PySem.W.fnOf name qual params body scope dV kV doc pm an cdv ct) ps sp:=by
 refine⟨len,λA outer s H args us vs Q E hr e0 hb r Dq=>?_⟩
 have hl:=len _ _ _ _ Dq
 have KX:K.In s.heap:=e0.mod.KN.keeps λb o e=>(e0.bs b o e).1
 have lim:s.heap.NoLimit:=e0.mod.nolimit.keeps λb o e=>(e0.bs b o e).1
 have hkind:∀y∈ps.zip us,scope.names.lookup y.1=some .local\/(scope.names.lookup y.1=some .cell/\((cellsFrom (s.heap.objs.size+1) scope.names []).lookup y.1).isSome=true):=λ⟨n,v⟩ hy=>by
  rcases S.par n (of_mem_zip hy).1 with q|q
  ·exact .inl q
  ·exact .inr ⟨q,cellsFrom_some _ _ _ (.inl q)⟩
 refine codeAny_call_function hr.depth (KX _ _ lk) rfl S.co S.gen rfl (PySem.W.codeRec_of KX hcd) (hb _ _ _ _ ?_)
 refine wpAny_newFunctionEnv_cells S.kind hkind λenv he s1 x=>?_
 subst he
 refine⟨lim.keeps x.toInCall.keep,codeAny_func ?_⟩
 obtain⟨t,ht,hq⟩:=hbody A outer s H vs Q E (hr.deeper _) Dq
 have I:Inv (kU CX P w K mg base N qual scope f cdv A outer s H E) [] (start N vs) H s1:=yn S hr.hd e0 hl r x
 refine wpAny_mono (ht [] s1 (start N vs) H _ I hq) (λfl s' hs=>?_) λe s' hs=>hs
 have fin:∀{σ':St}{H':Hp}{v:V}{u:Value},Inv (kU CX P w K mg base N qual scope f cdv A outer s H E) [] σ' H' s'->RelV v u->Q v H'->CE outer P w H s Q u s':=
  λ{σ' H' v u} J rv q=>⟨v,H',J.os,J.bare,J.base,J.hok,rv,q⟩
 cases fl with
 |ret u=>
  obtain⟨v,σ',H',J,rv,q⟩:=hs
  exact fin J rv q
 |next=>
  obtain⟨σ',H',J,q⟩:=hs
  exact fin (v:=V.non) (u:=Value.none) J rfl q
 |brk=>
  obtain⟨_,_,_,q⟩:=hs
  exact False.elim q
 |cont=>
  obtain⟨_,_,_,q⟩:=hs
  exact False.elim q
end L2
namespace L2
open PySem PySem.Spec PyProof.Rows
section
variable{X:Cx}{x:Str}{p pos:Pos}{e:Expr}{es:List Expr}{t:TA}{id T:String}{r:List V->Hp->VK->Prop}
def NJ(r:List V->Hp->VK->Prop)(t:TA):TE:=λσ H Q=>t σ H λvs H1=>r vs H1 Q
theorem pM(hc:pL X (.builtin id) r)(hg:Gl X x)(hm:X.mg x=none)(hv:bootBuiltins x=some (.builtin id))(ha:PA X (e::es) t)(hn:x≠"__name__":=by decide)(hdb:(x==("__debug__":Str))=false:=by decide)
  (he:starEach (e::es) X.env=(false,eval e X.env)::starEach es X.env:=by rfl)(hpl:(backTo pos (starEach es X.env)).any (·.1)=false:=by rfl):PE X (.Call (.Name x p) (e::es) [] pos) (NJ r t):=by
 intro pins s σ H Q I h
 refine wpAny_Call_Name_kw (pI I hg hm hv ?_ hn hdb)
 exact PyProof.Rows.callWith_builtin1 (dO (ha pos pins s σ H _ I h) λus s1 ⟨vs,H1,I1,r1,q1⟩=>hc pins s1 σ H1 vs us Q I1 r1 q1) he hpl
theorem yo(hc:pL X (.type T) r)(hg:Gl X x)(hm:X.mg x=none)(hv:bootBuiltins x=some (.type T))(ha:PA X (e::es) t)(hn:x≠"__name__":=by decide)(hdb:(x==("__debug__":Str))=false:=by decide)
  (he:starEach (e::es) X.env=(false,eval e X.env)::starEach es X.env:=by rfl)(hpl:(backTo pos (starEach es X.env)).any (·.1)=false:=by rfl):PE X (.Call (.Name x p) (e::es) [] pos) (NJ r t):=by
 intro pins s σ H Q I h
 refine wpAny_Call_Name_kw (pI I hg hm hv ?_ hn hdb)
 exact PyProof.Rows.callWith_type1 (dO (ha pos pins s σ H _ I h) λus s1 ⟨vs,H1,I1,r1,q1⟩=>hc pins s1 σ H1 vs us Q I1 r1 q1) he hpl
end
end L2
namespace HT
open PySem PyProof.Rows
section
open PySem.SeqAt
open PySem.AutoSeq1 (wpAny_loadPart')
open PySem.MeetsSeq PySem.MeetsSeq2 PySem.MeetsSeq3
end
section
variable{prog:Program}{w:World}{A:Around}{E:Value->Shared->Prop}{s:Shared}
def dX(n d:Nat):Option Int->Nat
 |none=>d
 |some v=>if v<0 then(v+(n:Int)).toNat else min v.toNat n
theorem pN(n d:Nat):dX n d none=d:=rfl
theorem lT(n d k:Nat):dX n d (some (k:Int))=min k n:=by
 show(if(k:Int)<0 then((k:Int)+(n:Int)).toNat else min (k:Int).toNat n)=min k n
 rw[if_neg (by omega),toNat_natCast]
theorem Fx(n d:Nat)(hd:d<=n)(o:Option Int):dX n d o<=n:=by
 cases o with
 |none=>exact hd
 |some v=>
  show(if v<0 then(v+(n:Int)).toNat else min v.toNat n)<=n
  by_cases hv:v<0
  ·rw[if_pos hv];omega
  ·rw[if_neg hv];exact Nat.min_le_right _ _
theorem xf(v:Int)(n d:Nat):(if v<0 then max (v+(n:Int)) 0 else min v (n:Int))=((dX n d (some v):Nat):Int):=by
 show(if v<0 then max (v+(n:Int)) 0 else min v (n:Int))=(((if v<0 then(v+(n:Int)).toNat else min v.toNat n):Nat):Int)
 by_cases hv:v<0
 ·simp only [if_pos hv];omega
 ·simp only [if_neg hv];omega
theorem vx(lo hi:Option Int)(n:Nat):Builtin.Slice.sliceAdjust lo hi 1 (n:Int)=(((dX n 0 lo:Nat):Int),((dX n n hi:Nat):Int)):=by
 have h1:¬((1:Int)<0):=by omega
 unfold Builtin.Slice.sliceAdjust
 simp only [h1,if_false]
 refine Prod.ext ?_ ?_
 ·cases lo with
  |none=>rfl
  |some v=>exact xf v n 0
 ·cases hi with
  |none=>rfl
  |some v=>exact xf v n n
theorem vz(i j:Nat):Builtin.Slice.slicePlaces (i:Int) (j:Int) 1=j-i:=by
 unfold Builtin.Slice.slicePlaces
 have h1:(1:Int)>0:=by omega
 simp only [h1,if_true,Int.ediv_one]
 split<;>omega
theorem pO{v:Value}{o:Option Int}{Q:Option Int->Shared->Prop}(p:IsPart v o)(h:Q o s):wpAny (model prog w) A (Builtin.Slice.slicePartIndex v) Q E s:=by
 cases p with
 |none=>exact slicePart_none h
 |int i t=>exact slicePart_int h
theorem mX{sl:Addr}{vl vu:Value}{lo hi:Option Int}{n:Nat}{Q:Int×Int×Nat->Shared->Prop}(hs:s.heap.IsSliceOf sl vl vu .none)(pl:IsPart vl lo)(pu:IsPart vu hi)
  (h:Q (((dX n 0 lo:Nat):Int),1,dX n n hi-dX n 0 lo) s):wpAny (model prog w) A (Builtin.Slice.sliceApplied (.ref sl) (pure (n:Int))) Q E s:=by
 obtain⟨os,hos,hcs,hds⟩:=id hs
 unfold Builtin.Slice.sliceApplied Builtin.Slice.sliceFields
 refine wpAny_bind (wpAny_bind (wpAny_field hos hds (x:=vl) rfl (wpAny_bind (wpAny_field hos hds (x:=vu) rfl (wpAny_bind (wpAny_field hos hds (x:=.none) rfl (wpAny_pure ?_)))))))
 refine wpAny_bind (slicePart_none ?_)
 show wpAny _ _ (if((1:Int)==0)=true then _ else _) _ _ s
 rw[if_neg (by decide)]
 refine wpAny_bind (pO pl (wpAny_bind (pO pu (wpAny_bind (wpAny_pure ?_)))))
 show wpAny _ _ (match Builtin.Slice.sliceAdjust lo hi 1 (n:Int)with|(lo,hi)=>pure (lo,(1:Int),Builtin.Slice.slicePlaces lo hi 1)) _ _ s
 rw[vx lo hi n]
 show wpAny _ _ (pure (((dX n 0 lo:Nat):Int),(1:Int),Builtin.Slice.slicePlaces ((dX n 0 lo:Nat):Int) ((dX n n hi:Nat):Int) 1)) _ _ s
 rw[vz]
 exact wpAny_pure h
theorem zm(xs:Array Value)(i k:Nat):((range k).filterMap λ(m:Nat)=>xs[((i:Int)+(m:Int)*1).toNat]?).toArray=((xs.toList.drop i).take k).toArray:=by
 have e:(λ(m:Nat)=>xs[((i:Int)+(m:Int)*1).toNat]?)=λm=>xs[i+m]?:=by
  funext m
  have:((i:Int)+(m:Int)*1).toNat=i+m:=by omega
  rw[this]
 rw[e]
 have:=pick_run xs i k
 rw[List.filterMap_map]at this
 have e2:((λx=>xs[x]?)∘λx=>i+x)=λm=>xs[i+m]?:=rfl
 rw[e2]at this
 rw[this]
theorem lU{t sl:Addr}{items:Array Value}{vl vu:Value}{lo hi:Option Int}{Q:Value->Shared->Prop}(ht:IsTup s.heap t items)(hs:s.heap.IsSliceOf sl vl vu .none)(pl:IsPart vl lo)(pu:IsPart vu hi)
  (hw:¬(dX items.size 0 lo=0/\dX items.size items.size hi=items.size))
  (h:Q (.ref s.heap.objs.size) {s with heap:=s.heap.push {cls:=.type "tuple",data:=.seq ((items.toList.drop (dX items.size 0 lo)).take (dX items.size items.size hi-dX items.size 0 lo)).toArray}})
  (hsz:items.size<=sizeLine):wpAny (model prog w) A (getItem (.ref t) (.ref sl)) Q E s:=by
 have xg:sizeOk (.seq ((items.toList.drop (dX items.size 0 lo)).take (dX items.size items.size hi-dX items.size 0 lo)).toArray):=by
  show((items.toList.drop (dX items.size 0 lo)).take (dX items.size items.size hi-dX items.size 0 lo)).toArray.size<=sizeLine
  rw[size_toArray,length_take,length_drop,length_toList]
  omega
 have hj:dX items.size items.size hi<=items.size:=Fx _ _ (Nat.le_refl _) hi
 obtain⟨os,hos,hcs,hds⟩:=id hs
 have hTs:s.TypeIs (.ref sl) "slice":=⟨os,hos,hcs⟩
 unfold getItem
 try with_reducible refine wpAny_holding ?_
 first|refine wpAny_bind (wpAny_pure ?_)|skip
 refine wpAny_bind (wpAny_sequenceKey ht.typeIs (by decide) ?_)
 refine wpAny_bind (wpAny_callSpecial?_slot (name:=Str.ofString "__getitem__") ht.typeIs PyProof.Rows.slot_tuple_getitem
  (wpAny_call_entry PyProof.Rows.slot_tuple_getitem ht.typeIs entry_tuple_getitem ?_ (args_tuple_getitem _ _)))
 show wpAny _ _ (Builtin.Tuple.tupleItemsOf (.ref t)>>=_) _ _ s
 refine wpAny_bind (tupleItemsOf_ ht ?_)
 refine wpAny_bind (wpAny_typeOf hTs ?_)
 rw[if_pos (by decide)]
 refine wpAny_bind (mX hs pl pu ?_)
 have hno:¬((((dX items.size 0 lo:Nat):Int)==0&&(1:Int)==1&&(dX items.size items.size hi-dX items.size 0 lo)==items.size)=true):=by
  intro q
  rw[and_eq_true,and_eq_true]at q
  have q1:((dX items.size 0 lo:Nat):Int)=0:=eq_of_beq q.1.1
  have q2:dX items.size items.size hi-dX items.size 0 lo=items.size:=eq_of_beq q.2
  exact hw ⟨by omega,by omega⟩
 show wpAny _ _ (if(((dX items.size 0 lo:Nat):Int)==0&&(1:Int)==1&&(dX items.size items.size hi-dX items.size 0 lo)==items.size)=true then _ else _) _ _ s
 rw[if_neg hno,zm]
 first
  |exact wpAny_bind (m:=Builtin.Tuple.tupleExact _) (wpAny_newObj_type (wpAny_pure ⟨_,rfl,wpAny_pure h⟩) xg)
  |exact wpAny_bind (m:=Builtin.Tuple.tupleExact _) (wpAny_newObj_type (wpAny_bind (wpAny_pure (wpAny_pure ⟨_,rfl,wpAny_pure h⟩))) xg)
  |exact wpAny_bind (wpAny_bind (m:=Builtin.Tuple.tupleExact _) (wpAny_newObj_type (wpAny_pure (wpAny_pure ⟨_,rfl,wpAny_pure h⟩)) xg))
  |exact wpAny_bind (wpAny_bind (m:=Builtin.Tuple.tupleExact _) (wpAny_newObj_type (wpAny_pure ⟨_,rfl,wpAny_pure h⟩) xg))
end
end HT
namespace L2
open PySem PySem.Spec PyProof.Rows
abbrev TO:=St->Hp->(Option Int->Hp->Prop)->Prop
def PO(X:Cx)(e:Option Expr)(t:TO):Prop:=
 ∀(pins:List (Addr×Obj))(s:Shared)(σ:St)(H:Hp)(Q:Option Int->Hp->Prop),Inv X pins σ H s->t σ H Q->
  wpAny (model X.prog X.w) X.A (evalPart e X.env) (λu s'=>∃o H',Inv X pins σ H' s'/\IsPart u o/\Q o H') X.xe s
def BO:TO:=λ_ H Q=>Q none H
def Ip(t:TE):TO:=λσ H Q=>t σ H λx H1=>∃i,x=.int i/\Q (some i) H1
theorem intsAre_of{ns:List Int}:∀{us:List Value},Vals (ns.map V.int) us->IntsAre us ns:=by
 induction ns with
 |nil=>intro us r;rw[map_nil]at r;cases r;exact .nil
 |cons n ns ih=>
  intro us r
  rw[map_cons]at r
  cases r with
  |cons r1 r2=>
   obtain⟨t,e⟩:=r1
   subst e
   exact .cons n t (ih r2)
section
variable{X:Cx}{e:Expr}{te:TE}{lo hi:Option Expr}{tl th:TO}{pos p2:Pos}
theorem BP:PO X none BO:=by
 intro pins s σ H Q I h
 rw[evalPart_none]
 exact wpAny_pure ⟨none,H,I,.none,h⟩
theorem BQ(h:PE X e te):PO X (some e) (Ip te):=by
 intro pins s σ H Q I hw
 rw[evalPart_some]
 refine dO (h pins s σ H _ I hw) λu s1 ⟨x,H1,I1,r1,q1⟩=>?_
 obtain⟨i,rfl,q⟩:=q1
 obtain⟨t,rfl⟩:=r1
 exact⟨some i,H1,I1,.int i t,q⟩
noncomputable def Lh(X:Cx)(r:V->Option Int->Option Int->Hp->VK->Prop):Prop:=
 ∀(pins:List (Addr×Obj))(s:Shared)(σ:St)(H:Hp)(x:V)(v vl vu:Value)(lo hi:Option Int)(sl:Addr)(Q:VK),Inv X pins σ H s->RelV x v->s.heap.IsSliceOf sl vl vu .none->IsPart vl lo->IsPart vu hi->r x lo hi H Q->
  ∃T id,typeLookup (.type T) "__getitem__"=pure (some (.builtin id))/\s.TypeIs v T/\wpAny (model X.prog X.w) X.A (getItem v (.ref sl)) (EP X pins σ Q) X.xe s
def O1(r:V->Option Int->Option Int->Hp->VK->Prop)(te:TE)(tl th:TO):TE:=λσ H Q=>te σ H λx H1=>tl σ H1 λl H2=>th σ H2 λu H3=>r x l u H3 Q
theorem tR{r:V->Option Int->Option Int->Hp->VK->Prop}(hr:Lh X r)(he:PE X e te)(hl:PO X lo tl)(hu:PO X hi th):PE X (.Subscript e (.Slice lo hi none p2) pos) (O1 r te tl th):=by
 intro pins s σ H Q I h
 refine Subscript_ (dO (he pins s σ H _ I h) λv s1 ⟨x,H1,I1,r1,q1⟩=>?_)
 refine wpAny_Slice (dO (hl pins s1 σ H1 _ I1 q1) λvl s2 ⟨l,H2,I2,pl,q2⟩=>dO (hu pins s2 σ H2 _ I2 q2) λvu s3 ⟨u,H3,I3,pu,q3⟩=>?_)
 rw[evalPart_none]
 refine wpAny_pure ?_
 have I4:Inv X pins σ H3 {s3 with heap:=s3.heap.push {cls:=.type "slice",data:=.fields #[vl,vu,.none]}}:=I3.kept (t':=s3.toks) λb ob q=>Heap.get?_push_of_some _ q
 obtain⟨T,id,hT,ht,hg⟩:=hr pins {s3 with heap:=s3.heap.push {cls:=.type "slice",data:=.fields #[vl,vu,.none]}} σ H3 x v vl vu l u s3.heap.objs.size Q I4 r1 (Heap.IsSliceOf.new ..) pl pu q3
 show wpAny (model X.prog X.w) X.A (subscriptTail e (.Slice lo hi none p2) v (.ref s3.heap.objs.size)) (EP X pins σ Q) X.xe {s3 with heap:=s3.heap.push {cls:=.type "slice",data:=.fields #[vl,vu,.none]}}
 exact tail_any (ops:=[.ref s3.heap.objs.size,v]) ht hT hg (by with_unfolding_all rfl)
def tU(xs:List V)(lo hi:Option Int):List V:=(xs.drop (HT.dX xs.length 0 lo)).take (HT.dX xs.length xs.length hi-HT.dX xs.length 0 lo)
theorem n6(xs:List V)(lo hi:Option Int):(tU xs lo hi).length<=xs.length:=by
 unfold tU
 rw[length_take,length_drop]
 omega
def Li(K:PySem.W.Frag):V->Option Int->Option Int->Hp->VK->Prop:=λx lo hi H Q=>∃a xs,x=.ref a/\tP K H a xs/\
 ¬(HT.dX xs.length 0 lo=0/\HT.dX xs.length xs.length hi=xs.length)/\∀p,H p=none->Q (.ref p) (upd H p (.tup (tU xs lo hi)))
theorem Fy:Lh X (Li X.K):=by
 intro pins s σ H x v vl vu lo hi sl Q I rx hs pl pu h
 obtain⟨a,xs,rfl,hx,hw,q⟩:=h
 cases rx
 obtain⟨its,r,ht,hz⟩:=I.tuple hx
 have hlen:its.toArray.size=xs.length:=by rw[size_toArray];exact r.length.symm
 refine⟨"tuple",_,PyProof.Rows.slot_tuple_getitem.lookup,ht.typeIs,?_⟩
 refine HT.lU ht hs pl pu (by rw[hlen];exact hw) ?_ (by rw[hlen];exact hz)
 rw[hlen]
 refine⟨.ref s.heap.objs.size,_,I.laid (t':=s.toks) (o:=.tup (tU xs lo hi)) (λb ob q=>Heap.get?_push_of_some _ q) (Nat.le_refl _) ?_,rfl,q _ (I.hok.fresh (Nat.le_refl _))⟩
 exact⟨le_trans (n6 xs lo hi) hz,_,(r.drop (HT.dX xs.length 0 lo)).take (HT.dX xs.length xs.length hi-HT.dX xs.length 0 lo),IsTup.new _ _⟩
end
end L2
namespace L2
open PySem PySem.Spec PyProof.Rows
def Dr(n:Nat)(i:Int):Option Nat:=if 0<=i then(if i<n then some i.toNat else none)else if-(n:Int)<=i then some (i+n).toNat else none
def jH{α:Type}(xs:List α)(i:Int):Option α:=(Dr xs.length i).bind λj=>xs[j]?
theorem BR{n:Nat}{i:Int}{j:Nat}(h:Dr n i=some j):seqIndex? i n=some j/\j<n/\ -(n:Int)<=i/\i<n:=by
 unfold Dr at h
 by_cases h0:0<=i
 ·rw[if_pos h0]at h
  by_cases h1:i<n
  ·rw[if_pos h1]at h
   have e:i.toNat=j:=Option.some.inj h
   exact⟨by rw[seqIndex_of h0 h1,e],by omega,by omega,h1⟩
  ·rw[if_neg h1]at h;cases h
 ·rw[if_neg h0]at h
  by_cases h1: -(n:Int)<=i
  ·rw[if_pos h1]at h
   have e:(i+n).toNat=j:=Option.some.inj h
   exact⟨by rw[seqIndex_neg (by omega) h1,e],by omega,h1,by omega⟩
  ·rw[if_neg h1]at h;cases h
theorem rQ{α:Type}{xs:List α}{i:Int}{v:α}(h:jH xs i=some v):∃j,seqIndex? i xs.length=some j/\xs[j]?=some v/\j<xs.length/\ -(xs.length:Int)<=i/\i<xs.length:=by
 unfold jH at h
 cases e:Dr xs.length i with
 |none=>rw[e]at h;cases h
 |some j=>
  rw[e]at h
  obtain⟨h1,h2,h3,h4⟩:=BR e
  exact⟨j,h1,h,h2,h3,h4⟩
def lV(b:Expr):Prop:=∀o i,subscripted b false o i=operate [o,i] (getItem o i)
noncomputable def BU(X:Cx)(r:R2):Prop:=
 ∀(value slice:Expr)(pins:List (Addr×Obj))(s:Shared)(σ:St)(H:Hp)(x y:V)(v u:Value)(Q:VK),Inv X pins σ H s->RelV x v->RelV y u->r x y H Q->
  subscripted slice false v u=operate [v,u] (getItem v u)->wpAny (model X.prog X.w) X.A (subscriptTail value slice v u) (EP X pins σ Q) X.xe s
noncomputable def O2(X:Cx)(id:String)(r:V->List V->Hp->VK->Prop):Prop:=
 ∀(pins:List (Addr×Obj))(s:Shared)(σ:St)(H:Hp)(x:V)(xs:List V)(v:Value)(us:List Value)(Q:VK),Inv X pins σ H s->RelV x v->Vals xs us->r x xs H Q->
  wpAny (model X.prog X.w) X.A (call (.builtin id) (v::us)) (EP X pins σ Q) X.xe s
section
variable{X:Cx}{a b:Expr}{ta tb:TE}{pos:Pos}
theorem BU.or {r r':R2}(h:BU X r)(h':BU X r'):BU X (λx y H Q=>r x y H Q\/r' x y H Q):=by
 intro value slice pins s σ H x y v u Q I rx ry q hs
 rcases q with q|q
 ·exact h value slice pins s σ H x y v u Q I rx ry q hs
 ·exact h' value slice pins s σ H x y v u Q I rx ry q hs
theorem xh{r:R2}(hr:BU X r)(ha:PE X a ta)(hb:PE X b tb)(hs:lV b):PE X (.Subscript a b pos) (Km r ta tb):=by
 intro pins s σ H Q I h
 exact Subscript_ (Fj ha hb I h λv u s2 x y H2 I2 rx ry q=>hr a b pins s2 σ H2 x y v u Q I2 rx ry q (hs _ _))
def Ir(K:PySem.W.Frag):R2:=λx y H Q=>∃p xs i v,x=.ref p/\y=.int i/\jV K H p xs/\jH xs i=some v/\Q v H
def Iu(K:PySem.W.Frag):R2:=λx y H Q=>∃p xs i v,x=.ref p/\y=.int i/\tP K H p xs/\jH xs i=some v/\Q v H
def Iw:R2:=λx y H Q=>∃z i c,x=.str z/\y=.int i/\z.length<=sizeLine/\jH z.cps.toList i=some c/\Q (.str ⟨#[c]⟩) H
theorem xj:BU X (Ir X.K):=by
 intro value slice pins s σ H x y v u Q I rx ry h hs
 obtain⟨p,xs,i,z,rfl,rfl,hq,he,q⟩:=h
 cases rx
 obtain⟨t,rfl⟩:=ry
 obtain⟨its,r,pl,hz⟩:=I.list hq
 obtain⟨j,h1,h2,h3,h4,h5⟩:=rQ he
 obtain⟨w,ew,mQ⟩:=r.get h2
 have hl:=r.length
 have hn:=rP
 have fin:EP X pins σ Q w s:=⟨z,H,I,mQ,q⟩
 by_cases h0:0<=i
 ·have hj:i.toNat=j:=by
   rw[seqIndex_of h0 h5]at h1
   exact Option.some.inj h1
  exact item_listR pl.isList h0 (by omega) (by rw[hj];simpa using ew) fin hs
 ·have hj:(i+(its.toArray.size:Int)).toNat=j:=by
   rw[seqIndex_neg (by omega) h4]at h1
   rw[size_toArray,<-hl]
   exact Option.some.inj h1
  exact subscriptTail_builtinR (x:=w) pl.isList.typeIs slot_list_getitem.lookup
   (wpAny_getItem_list_neg (Q:=λr s'=>r=w/\EP X pins σ Q r s') pl.isList (by omega) (by rw[size_toArray]<;>omega) (by omega) (by rw[hj];simpa using ew) ⟨rfl,fin⟩) hs
theorem zo:BU X (Iu X.K):=by
 intro value slice pins s σ H x y v u Q I rx ry h hs
 obtain⟨p,xs,i,z,rfl,rfl,hq,he,q⟩:=h
 cases rx
 obtain⟨t,rfl⟩:=ry
 obtain⟨its,r,pl,hz⟩:=I.tuple hq
 obtain⟨j,h1,h2,h3,h4,h5⟩:=rQ he
 obtain⟨w,ew,mQ⟩:=r.get h2
 have hl:=r.length
 have hn:=rP
 have fin:EP X pins σ Q w s:=⟨z,H,I,mQ,q⟩
 exact subscriptTail_builtinR (x:=w) pl.typeIs slot_tuple_getitem.lookup
  (getItem_tuple (j:=j) (Q:=λr s'=>r=w/\EP X pins σ Q r s') pl (by omega) (by omega) (by rw[size_toArray,<-hl];exact h1) (by simpa using ew) ⟨rfl,fin⟩) hs
theorem Fz:BU X Iw:=by
 intro value slice pins s σ H x y v u Q I rx ry h hs
 obtain⟨z,i,c,rfl,rfl,hz,he,q⟩:=h
 obtain⟨t,rfl⟩:=rx
 obtain⟨t',rfl⟩:=ry
 obtain⟨j,h1,h2,h3,h4,h5⟩:=rQ he
 have hl:z.cps.toList.length=z.length:=by simp[Str.length]
 rw[hl]at h1 h4 h5
 have hn:=rP
 exact tail_any (typeIs_str s z t) slot_str_getitem.lookup (getItem_str (c:=c) (by
  have e1:decide (i< -(2^63:Int))=false:=decide_eq_false (by omega)
  have e2:decide (i>=2^63)=false:=decide_eq_false (by omega)
  rw[e1,e2,Bool.or_false]) (by rw[h1];simpa using h2) ⟨.str ⟨#[c]⟩,H,I.tok _,⟨_,rfl⟩,q⟩) hs
def O3(K:PySem.W.Frag):R2:=λx y H Q=>Ir K x y H Q\/Iu K x y H Q\/Iw x y H Q
theorem zp:BU X (O3 X.K):=xj.or (zo.or Fz)
theorem rR(lo hi:Option Int)(n:Nat):(sliceBounds lo hi none n).1=((HT.dX n 0 lo:Nat):Int)/\(sliceBounds lo hi none n).2.1=((HT.dX n n hi:Nat):Int)/\(sliceBounds lo hi none n).2.2=1:=by
 refine⟨?_,?_,rfl⟩
 ·cases lo with
  |none=>simp[sliceBounds,HT.dX]
  |some i=>
   simp only [sliceBounds,HT.dX,getD_none,show(1:Int)>0 by decide,if_true]
   by_cases h:i<0
   ·simp only [h,if_true]<;>omega
   ·simp only [h,if_false]<;>omega
 ·cases hi with
  |none=>simp[sliceBounds,HT.dX]
  |some i=>
   simp only [sliceBounds,HT.dX,getD_none,show(1:Int)>0 by decide,if_true]
   by_cases h:i<0
   ·simp only [h,if_true]<;>omega
   ·simp only [h,if_false]<;>omega
theorem qJ(its:List Value)(lo hi:Option Int):slicePick its.toArray lo hi none=((its.drop (HT.dX its.length 0 lo)).take (HT.dX its.length its.length hi-HT.dX its.length 0 lo)).toArray:=by
 obtain⟨h1,h2,h3⟩:=rR lo hi its.toArray.size
 unfold slicePick
 rw[h1,h2,h3]
 simp only [sliceRange_one,pick_run,size_toArray]<;>rfl
def Lj(K:PySem.W.Frag):V->Option Int->Option Int->Hp->VK->Prop:=λx lo hi H Q=>∃a xs,x=.ref a/\jV K H a xs/\∀p,H p=none->Q (.ref p) (upd H p (.lst (tU xs lo hi)))
theorem BV:Lh X (Lj X.K):=by
 intro pins s σ H x v vl vu lo hi sl Q I rx hs pl pu h
 obtain⟨a,xs,rfl,hx,q⟩:=h
 cases rx
 obtain⟨its,r,ht,hz⟩:=I.list hx
 have hlen:=r.length
 refine⟨"list",_,slot_list_getitem.lookup,ht.isList.typeIs,?_⟩
 refine wpAny_getItem_list_slice ht.isList hs pl pu .none (by simp) ?_ (by rw[size_toArray]<;>omega)
 rw[qJ,<-hlen]
 refine⟨.ref s.heap.objs.size,_,I.laid (t':=s.toks) (o:=.lst (tU xs lo hi)) (λb ob q=>Heap.get?_push_of_some _ q) (Nat.le_refl _) ?_,rfl,q _ (I.hok.fresh (Nat.le_refl _))⟩
 exact⟨le_trans (n6 xs lo hi) hz,_,0,(r.drop (HT.dX xs.length 0 lo)).take (HT.dX xs.length xs.length hi-HT.dX xs.length 0 lo),Heap.get?_push_size _ rfl⟩
theorem rS:pL X (.type "list") (λxs H Q=>∃p ys,xs=[.ref p]/\(jV X.K H p ys\/tP X.K H p ys)/\∀l,H l=none->Q (.ref l) (upd H l (.lst ys))):=by
 intro pins s σ H xs us Q I r h
 obtain⟨p,ys,rfl,hq,q⟩:=h
 obtain⟨u,rfl,rx⟩:=vals1 r
 cases rx
 have fin:∀(its:List Value),Vals ys its->ys.length<=sizeLine->∀(h':Heap)(c':Nat),(∀b o',s.heap.get? b=some o'->h'.get? b=some o')->
   h'.get? s.heap.objs.size=some {cls:=.type "list",dict:=none,data:=.seq its.toArray c',slots:=#[]}->EP X pins σ Q (.ref s.heap.objs.size) {s with heap:=h'}:=λits r' hz h' c' kp e=>
  ⟨.ref s.heap.objs.size,_,I.laid (t':=s.toks) kp (Nat.le_refl _) (show dN X.prog X.w _ h' _ (.lst ys)from⟨hz,its,c',r',e⟩),rfl,q _ (I.hok.fresh (Nat.le_refl _))⟩
 rcases hq with hq|hq
 ·obtain⟨its,r',pl,hz⟩:=I.list hq
  have hlen:=r'.length
  obtain⟨o,ho,hc,n,hd⟩:=pl.isList
  exact call_list_seq p (.inl rfl) ho hc hd (λh' c' kp e=>fin its r' hz h' c' kp e) (by simp only [size_toArray]<;>omega)
 ·obtain⟨its,r',pl,hz⟩:=I.tuple hq
  have hlen:=r'.length
  obtain⟨o,ho,hc,n,hd⟩:=pl
  exact call_list_seq p (.inr rfl) ho hc hd (λh' c' kp e=>fin its r' hz h' c' kp e) (by simp only [size_toArray]<;>omega)
noncomputable def NK(K:PySem.W.Frag)(T:String)(x:V)(H:Hp):Prop:=match x with
 |.str _=>T="str"
 |.int _=>T="int"
 |.ref p=>(T="list"/\∃xs,jV K H p xs)\/(T="tuple"/\∃o,K.lookup p=some o/\o.cls=.type "tuple"/\o.dict=none)\/
   (T="dict"/\((∃kvs,H p=some (.dK kvs))\/∃kvs,H p=some (.dT kvs)))\/(T="set"/\∃S n,H p=some (.set S n))
 |_=>False
theorem FA{pins:List (Addr×Obj)}{σ:St}{H:Hp}{s:Shared}{T:String}{x:V}{v:Value}(I:Inv X pins σ H s)(r:RelV x v)(ty:NK X.K T x H):
  s.TypeIs v T/\∀a,v=.ref a->∃ob,s.heap.get? a=some ob/\ob.dict=none:=by
 cases x with
 |str z=>
  obtain⟨t,rfl⟩:=r
  cases (show T="str" from ty)
  exact⟨typeIs_str s z t,λ_ e=>nomatch e⟩
 |int i=>
  obtain⟨t,rfl⟩:=r
  cases (show T="int" from ty)
  exact⟨typeIs_int s i t,λ_ e=>nomatch e⟩
 |ref p=>
  cases r
  rcases ty with⟨rfl,xs,hq⟩|⟨rfl,o,hk,hc,hd⟩|⟨rfl,hk⟩|⟨rfl,S,n,hk⟩
  ·obtain⟨its,_,pl,_⟩:=I.list hq
   refine⟨pl.isList.typeIs,λa e=>?_⟩
   cases e
   obtain⟨o,n,e,c,hd,_⟩:=pl
   exact⟨o,e,hd⟩
  ·refine⟨⟨o,I.rL p o hk,hc⟩,λa e=>?_⟩
   cases e
   exact⟨o,I.rL _ o hk,hd⟩
  ·have z:∃o,s.heap.get? p=some o/\o.ExactDict:=by
    rcases hk with⟨kvs,hk⟩|⟨kvs,hk⟩
    ·obtain⟨_,_,_,_,o,_,_,e,ex,_⟩:=I.hok p _ hk
     exact⟨o,e,ex⟩
    ·obtain⟨_,_,_,_,o,_,_,e,ex,_⟩:=I.hok p _ hk
     exact⟨o,e,ex⟩
   obtain⟨o,e,ex⟩:=z
   refine⟨⟨o,e,ex.1⟩,λa e2=>?_⟩
   cases e2
   exact⟨o,e,ex.2.1⟩
  ·obtain⟨o,_,_,_,e,ex,_⟩:=I.hok p _ hk
   refine⟨⟨o,e,ex.1⟩,λa e2=>?_⟩
   cases e2
   exact⟨o,e,ex.2.1⟩
 |_=>exact False.elim ty
def O4(K:PySem.W.Frag)(T:String)(r:V->List V->Hp->VK->Prop)(to:TE)(t:TA):TE:=λσ H Q=>to σ H λx H1=>NK K T x H1/\t σ H1 λxs H2=>r x xs H2 Q
variable{o e:Expr}{es:List Expr}{to:TE}{t:TA}{name:Str}{apos fk:Pos}{T id:String}{r:V->List V->Hp->VK->Prop}
theorem Dt(pa:PlainAttrs T)(slot:Slot T name id)(hty:typeOf (.builtin id)=pure (.type "method_descriptor"))(hm:O2 X id r)(ho:PE X o to)(ha:PA X (e::es) t)
  (hbase:attributeBase o name X.env (eval o X.env)=eval o X.env:=by rfl)
  (hfew:((backTo fk (starEach (e::es) X.env)).all (λx=> !x.1)&&(backToKw fk (keywordEach [] X.env)).all (λx=>x.1.isSome)
   &&decide ((e::es).length+([]:List Keyword).length+(if([]:List Keyword).isEmpty then 0 else 1)<30))=true:=by rfl)
  (hline:(apos.endLine==fk.line)=true:=by rfl)(hs:starEach (e::es) X.env=(false,eval e X.env)::starEach es X.env:=by rfl)(hplain:(backTo fk (starEach es X.env)).any (·.1)=false:=by rfl):
  PE X (.Call (.Attribute o name apos) (e::es) [] fk) (O4 X.K T r to t):=by
 intro pins s σ H Q I h
 refine wpAny_Call_method_late hbase hfew hline rfl (dO (ho pins s σ H _ I h) λv s1 ⟨x,H1,I1,r1,ty,q1⟩=>?_)
 obtain⟨h1,h2⟩:=FA I1 r1 ty
 refine⟨T,id,pa,slot,hty,h1,h2,?_⟩
 have hA:=ha fk pins s1 σ H1 _ I1 q1
 rw[hs]at hA⊢
 refine Calls.callWith_builtin (by show(false||(backTo fk (starEach es X.env)).any (·.1))=false;rw[hplain]<;>rfl) (Calls.evalArgs_plain ?_)
 exact dO hA λus s2 ⟨vs,H2,I2,r2,q2⟩=>hm pins s2 σ H2 x vs v us Q I2 r1 r2 q2
end
end L2
namespace L2
open PySem PySem.Spec PyProof.Rows
noncomputable def O5(X:Cx)(id:String)(r:V->List V->Hp->VK->Prop):Prop:=
 ∀(pins:List (Addr×Obj))(s:Shared)(σ:St)(H:Hp)(x:V)(xs:List V)(v:Value)(us:List Value)(Q:VK),Inv X pins σ H s->RelV x v->Vals xs us->r x xs H Q->
  wpAny (model X.prog X.w) X.A (call (.builtin id) (v::us)) (EP X pins σ Q) X.xe s
theorem Vals.one:∀{x:V}{us:List Value},Vals [x] us->∃u,us=[u]/\RelV x u
 |_,_,.cons r .nil=>⟨_,rfl,r⟩
section
variable{X:Cx}{pins:List (Addr×Obj)}{σ:St}{H:Hp}{s:Shared}{l b:Addr}{xs ys zs:List V}
theorem Inv.Ll {its its':List Value}{n:Nat}{f:Array Value->Array Value}{t':Nat}(I:Inv X pins σ H s)(hH:H l=some (.lst xs))
  (e:s.heap.get? l=some {cls:=.type "list",data:=.seq its.toArray n})(hf:f its.toArray=its'.toArray)(hv:Vals ys its')(hz:ys.length<=sizeLine):
  Inv X pins σ (upd H l (.lst ys)) {s with heap:=s.heap.update l (Obj.mapSeq f),toks:=t'}:=by
 have q:=PySem.IsL.update e f
 rw[hf]at q
 refine I.write (x:=l) (e:=l) (by rw[hH];exact trivial) (.inl rfl) (λb' u hb hu=>(Heap.get?_update_other s.heap (Obj.mapSeq f) (Ne.symm hb)).trans hu) ⟨_,q⟩ ?_
 exact⟨hz,its',_,hv,q⟩
theorem Inv.Ln {its:List Value}{t':Nat}(I:Inv X pins σ H s)(hv:Vals ys its)(hz:ys.length<=sizeLine):
  Inv X pins σ (upd H s.heap.objs.size (.lst ys)) {s with heap:=s.heap.push {cls:=.type "list",data:=.seq its.toArray},toks:=t'}:=
 I.laid (λ_ _ q=>Heap.get?_push_of_some _ q) (Nat.le_refl _) ⟨hz,its,0,hv,Heap.get?_push_size _ rfl⟩
theorem Inv.fresh (I:Inv X pins σ H s):H s.heap.objs.size=none:=I.hok.fresh (Nat.le_refl _)
theorem Inv.Lo (I:Inv X pins σ H s)(hH:H l=some (.lst xs)):xs.length<=sizeLine/\∃(its:List Value)(n:Nat),Vals xs its/\xs.length=its.length/\s.heap.get? l=some {cls:=.type "list",data:=.seq its.toArray n}:=by
 obtain⟨z,its,n,r,e⟩:=I.hok l _ hH
 exact⟨z,its,n,r,r.length,e⟩
end
section
variable{X:Cx}
def BW:V->List V->Hp->VK->Prop:=λx vs H Q=>∃l xs y,x=.ref l/\vs=[y]/\H l=some (.lst xs)/\xs.length<sizeLine/\Q .non (upd H l (.lst (xs++[y])))
theorem mY:O5 X "list.append" BW:=by
 intro pins s σ H x vs v us Q I rx rv h
 obtain⟨l,xs,y,rfl,rfl,hH,hz,q⟩:=h
 cases rx
 obtain⟨u,rfl,ru⟩:=rv.one
 obtain⟨z,its,n,r,hl,e⟩:=I.Lo hH
 refine call_meets F.slot_list_append ⟨_,e,rfl⟩ F.entry_list_append (F.args_list_append_2 _ _) (PySem.list_append l its.toArray n u (by rw[size_toArray];omega)) ⟨e,?_⟩
 refine⟨.non,_,I.Ll (its':=its++[u]) hH e (by simp) (r.append (.cons ru .nil)) ?_,rfl,q⟩
 rw[length_append,length_singleton]
 omega
end
section
variable{prog:Program}{w:World}{A:Around}{E:Value->Shared->Prop}{s:Shared}
set_option maxRecDepth 100000 in
end
end L2
namespace NN
open PySem PySem.W PySem.Calls PyProof.Rows
theorem oG{P:Params}{h:Heap}:∀(ns:List Int)(vs:List Value),WellAll P h vs (ns.map WData.int)->IntsAre vs ns:=by
 intro ns
 induction ns with
 |nil=>
  intro vs w
  rw[map_nil]at w
  cases w
  exact .nil
 |cons n ns ih=>
  intro vs w
  rw[map_cons]at w
  cases w with
  |cons a b=>
   cases a
   exact .cons _ _ (ih _ b)
theorem yp{l:OpenLaw}{n:Nat}(hn:l.most=some n){P:Params}{h:Heap}{args:List WData}{vals:List Value}
  (hpre:l.row.toRowW.claim.pre args=true)(Lq:WellAll P h vals args):
  ∃a vs ns,vals=[Value.ref a]/\args=[WData.list (ns.map WData.int)]/\h.get? a=some {cls:=.type "list",data:=.seq vs.toArray}/\IntsAre vs ns/\ns.length<=n:=by
 have hsh:WShape.hasAll [] args [.list .int]=true:=(pre_splitW hpre).1
 have hc:l.pre.holds [] {args:=args}=true:=(pre_splitW hpre).2
 obtain⟨d,r,rfl,h1,h2⟩:=hasAllW_cons hsh
 obtain rfl:=hasAllW_nil h2
 obtain⟨xs,rfl,h3⟩:=hasW_list h1
 obtain⟨ns,rfl⟩:=items_int h3
 have hlen:ns.length<=n:=by
  unfold OpenLaw.pre at hc
  have h4:(WTm.not (.lt (.lit (.int (n:Int))) (.len (.arg 0)))).holds [] {args:=[.list (ns.map .int)]}=true:=by
   have h4:=(holds_andW hc).1
   rw[hn]at h4
   exact h4
  have h5:=condW_of h4 (w_not (w_lt w_lit (w_len_list (w_arg rfl))))
  rw[length_map]at h5
  refine Nat.le_of_not_lt λq=>?_
  have q':(n:Int)<((ns.length:Nat):Int):=by omega
  first
   |(rw[decide_eq_true q']at h5;exact absurd h5 (by decide))
   |(simp at h5;omega)
 cases Lq with
 |cons w1 w2=>
  cases w2
  cases w1 with
  |list ho hall=>exact⟨_,_,ns,rfl,rfl,ho,oG ns _ hall,hlen⟩
theorem yq(l:OpenLaw)(args:List WData):l.row.toRowW.claim.post args (.bool true) args=true:=
 postW_of (r:=l.row.toRowW) (X:=(true==true))
  (show WShape.has [] (.bool true) .bool=true by first|rfl|decide|simp[WShape.has,WShape.arms,WShape.armsAll])
  (show(WTm.eq .res (.lit (.bool true))).value [] {args:=args,res:=some (.bool true),after:=args}=some (.bool (true==true))from w_eq_bool (w_res rfl) w_lit) rfl
theorem tV{l:OpenLaw}{n:Nat}{q:Program}{loose:List Str}{XP:(Str->Option Value)->Heap->Prop}{YP:World->Heap->Prop}{d:DefRec}
  (hn:l.most=some n)(Iz:d.params.defaults=[])
  (call:∀(w:World)(s₀ s₁:Shared)(mg mb:Str->Option Value)(fa:Addr)(o:Obj)(pm cd doc:Value)(a:Addr)(vs:List Value)(ns:List Int),
   Ground q loose [] XP w s₀ mg mb s₁.heap->YP w s₁.heap->
   s₁.heap.get? fa=some o->o.data=.func (docDef d.name d.params d.body d.scope pm cd doc)->s₁.heap.CodeRec cd d.name->mg d.name=some (.ref fa)->
   s₁.heap.get? a=some {cls:=.type "list",data:=.seq vs.toArray}->IntsAre vs ns->ns.length<=n->s₁.gens=#[]->
   codeAny (model l.prog w) callerA (.call (.ref fa) ⟨[.ref a],[]⟩) (λr s'=>r=.ok (.ret (.bool true))/\OldK s₁.heap s'.heap/\s'.os=s₁.os/\AllBare s'.gens) s₁):
  WalkO q loose XP YP l.row.toRowW d [] (λf vs=>PySem.call f vs):=by
 intro w s₀ s₁ mg mb G Y fa o pm cd doc dV kV ho hd hcd hD hmg hg args vals as hpre hlay hrd Lq hlo
 obtain rfl:dV=.none:=Dflts.none hD Iz
 obtain rfl:kV=.none:=Dflts.noKw hD
 obtain⟨a,vs,ns,rfl,rfl,hobj,hints,hlen⟩:=yp hn hpre Lq
 refine enter_call (codeAny_mono (call w s₀ s₁ mg mb fa o pm cd doc a vs ns G Y ho (fd_plain hd) hcd hmg hobj hints hlen hg) λr s' hq=>?_)
 obtain⟨rfl,h2,h3,h4⟩:=hq
 exact⟨.inl ⟨.bool true,.bool true,[],rfl,λ_=>rfl,.bool true,yq l _,λ_=>⟨Pairwise.nil,λ_ hm=>(nomatch hm)⟩⟩,h2,h3,h4⟩
section
variable{prog:Program}{w:World}{A:Around}{E:Value->Shared->Prop}{s:Shared}{K:Frag}
def ledger(h:Heap)(L d:Addr):List (Addr×Obj):=(range h.objs.size).filterMap λa=>if a=L\/a=d then none else(h.get? a).map λo=>(a,o)
end
end NN
namespace L2
open PySem PySem.Spec PyProof.Rows
theorem q8:∀{vs:List Value}{ns:List Int},IntsAre vs ns->Vals (ns.map V.int) vs
 |_,_,.nil=>.nil
 |_,_,.cons n t h=>.cons ⟨t,rfl⟩ (q8 h)
def FD(H:Hp):Prop:=∀b,H b=none\/∃o xs,H b=some (.qH o (.lst xs))
theorem zq{P:Program}{w:World}{K:PySem.W.Frag}{mg mb:Str->Option Value}{CX:yV}{k:Nat}{fa a:Addr}{fd:FuncData}{x:Str}{sp:Sp}{s₁:Shared}{vs:List Value}{ns:List Int}
  (KX:K.In s₁.heap)(hns:s₁.heap.Ns mainGlobals mg)(hb:s₁.heap.Ns builtinsNs mb)(O6:∀x:Str,x≠"__name__"->mb x=bootBuiltins x)(hlim:s₁.heap.NoLimit)(hg:s₁.gens=#[])
  (ha:s₁.heap.get? a=some {cls:=.type "list",data:=.seq vs.toArray})(hi:IntsAre vs ns)(hl:ns.length<=sizeLine)(hr:aV k callerA)
  (F:∀base:Heap,K.In base->base.Ns mainGlobals mg->gb P w K mg base CX k fa fd [x] sp)(hbind:∀(s:Shared)(u:Value),BindsTo s fd ⟨[u],[]⟩ [(x,u)])
  (Dq:∀H:Hp,FD H->jV K H a (ns.map V.int)->sp [.ref a] H (λv _=>v=.bl true) λ_ _ _=>False)
  (Lr:∀H e s',CX [] H s₁ (λ_ _ _=>False) e s'->False):
  codeAny (model P w) callerA (.call (.ref fa) ⟨[.ref a],[]⟩) (λr s'=>r=.ok (.ret (.bool true))/\OldK s₁.heap s'.heap/\s'.os=s₁.os/\AllBare s'.gens) s₁:=by
 have rv:=q8 hi
 have Ls:=hi.length
 have core:∀H:Hp,FD H->jV K H a (ns.map V.int)->nX P w H s₁.heap->(∀b,H b≠none->b=a)->(H a≠none->K.lookup a=none)->
   codeAny (model P w) callerA (.call (.ref fa) ⟨[.ref a],[]⟩) (λr s'=>r=.ok (.ret (.bool true))/\OldK s₁.heap s'.heap/\s'.os=s₁.os/\AllBare s'.gens) s₁:=by
  intro H hO hS hok hA hK
  have xm:∀{b:Addr}{o:Obj},s₁.heap.get? b=some o->H b=none->(rK s₁.heap H).get? b=some o:=λe n=>y8 e n
  have Im:∀{b:Addr}{o:Obj}{es:Array DictEntry}{ep:Nat},s₁.heap.get? b=some o->o.data=.dict es ep->H b=none:=λ{b o es ep} e d=>by
   cases q:H b with
   |none=>rfl
   |some u=>
    have e':b=a:=hA b (by rw[q];simp)
    subst e'
    rw[ha]at e;cases e
    have d':Data.seq vs.toArray _=Data.dict es ep:=d
    cases d'
  have Ko:∀{b:Addr}{m:Str->Option Value},s₁.heap.Ns b m->(rK s₁.heap H).Ns b m:=λ{b m}⟨o,es,ep,e,d,r⟩=>⟨o,es,ep,xm e (Im e d),d,r⟩
  have NP:K.In (rK s₁.heap H):=λb o e=>xm (KX b o e) (by
   cases q:H b with
   |none=>rfl
   |some u=>
    have e':b=a:=hA b (by rw[q];simp)
    subst e'
    rw[hK (by rw[q];simp)]at e;cases e)
  have hM:Mod K mg (rK s₁.heap H):=⟨NP,Ko hns,⟨mb,Ko hb,O6⟩,let⟨mc,h1,h2⟩:=hlim;⟨mc,Ko h1,h2⟩⟩
  have e0:BN P w K mg (rK s₁.heap H) callerA [] s₁ H:=⟨rfl,hM,λb o e=>Bu e,le_of_eq (yc _ _),trivial,λb hb=>absurd (show b∈([]:List Addr)from hb) (by simp),hok,.of_eq hg⟩
  refine codeAny_mono ((F _ NP (Ko hns)).run callerA [] s₁ H ⟨[.ref a],[]⟩ [.ref a] [.ref a] _ _ hr e0 (hbind s₁ (.ref a)) (.cons rfl .nil) (Dq H hO hS)) λr s' h=>?_
  cases r with
  |error e=>exact(Lr H e s' h).elim
  |ok fl=>
   cases fl with
   |next=>exact False.elim h
   |brk=>exact False.elim h
   |cont=>exact False.elim h
   |ret u=>
    obtain⟨v,H',os,bare,un,Lu,r',q⟩:=h
    have q':v=.bl true:=q
    subst q'
    obtain rfl:u=Value.bool true:=r'
    refine⟨rfl,OldK.of_keep λb o e=>?_,os,bare⟩
    cases q:H b with
    |none=>exact un.keep b o e q (by intro z;exact absurd (show b∈([]:List Addr)from z) (by simp)) (by simp)
    |some u=>
     rcases hO b with z|⟨ob,xs,z⟩
     ·rw[q]at z;cases z
     ·have z2:=un.rJ b ob _ z
      obtain⟨e1,_⟩:=hok b _ z
      obtain⟨e2,_⟩:=Lu b _ z2
      rw[e]at e1;cases e1
      exact e2
 cases hk:K.lookup a with
 |some o=>
  have e:=KX a o hk
  rw[ha]at e
  cases e
  refine core (λ_=>none) (λ_=>.inl rfl) (.inr ⟨_,vs.toArray,_,hk,rfl,rfl,rfl,by rw[size_toArray,Ls];exact hl,by simpa using rv⟩) (λb u z=>by have z':(none:Option HO)=some u:=z;cases z') (λb z=>absurd rfl z) λz=>absurd rfl z
 |none=>
  refine core (λb=>if b=a then some (.qH {cls:=.type "list",data:=.seq vs.toArray} (.lst (ns.map V.int)))else none) (λb=>?_) (.inl (.inr ⟨{cls:=.type "list",data:=.seq vs.toArray},if_pos rfl⟩)) (λb u z=>?_) (λb z=>?_) λ_=>hk
  ·by_cases hb:b=a
   ·exact .inr ⟨_,_,if_pos hb⟩
   ·exact .inl (if_neg hb)
  ·by_cases hb:b=a
   ·have z':=(if_pos hb).symm.trans z
    cases z'
    subst hb
    exact⟨ha,by rw[length_map];exact hl,vs,_,rv,ha⟩
   ·have z':=(if_neg hb).symm.trans z
    cases z'
  ·by_cases hb:b=a
   ·exact hb
   ·exact absurd (if_neg hb) z
end L2
namespace L2
open PySem PySem.Spec PyProof.Rows
abbrev Rg{K:PySem.W.Frag}{h:Heap}(_:K.In h):PySem.W.Frag:=K
theorem BX{l:PySem.W.OpenLaw}{n k:Nat}{q:Program}{loose:List Str}{XP:(Str->Option Value)->Heap->Prop}{YP:World->Heap->Prop}{d:DefRec}{K:Params->PySem.W.Frag}{CX:World->yV}{sp:World->Sp}{x:Str}
  (hn:l.most=some n)(hn2:n<=sizeLine)(Iz:d.params.defaults=[])(hr:aV k callerA)
  (hY:∀(w:World)(h:Heap),YP w h->(K w.params).In h)
  (F:∀(w:World)(mg:Str->Option Value)(fa:Addr)(h:Heap),(K w.params).In h->h.Ns mainGlobals mg->mg d.name=some (.ref fa)->
   ∃fd:FuncData,(∀(s:Shared)(u:Value),BindsTo s fd ⟨[u],[]⟩ [(x,u)])/\
    ∀base:Heap,(K w.params).In base->base.Ns mainGlobals mg->gb l.prog w (K w.params) mg base (CX w) k fa fd [x] (sp w))
  (Dq:∀(w:World)(H:Hp)(a:Addr)(ns:List Int),ns.length<=n->FD H->jV (K w.params) H a (ns.map V.int)->sp w [.ref a] H (λv _=>v=.bl true) λ_ _ _=>False)
  (Lr:∀(w:World)(H:Hp)(s:Shared)(e:Value)(s':Shared),CX w [] H s (λ_ _ _=>False) e s'->False):
  PySem.W.WalkO q loose XP YP l.row.toRowW d [] (λf vs=>PySem.call f vs):=by
 refine NN.tV hn Iz λw s₀ s₁ mg mb fa o pm cd doc a vs ns G Y ho hd hcd hmg hobj hints hlen hg=>?_
 have KX:=hY w _ Y
 obtain⟨fd,hb,hF⟩:=F w mg fa _ KX G.T.g hmg
 exact zq KX G.T.g G.T.b G.T.builtins G.T.nolimit hg hobj hints (le_trans hlen hn2) hr hF hb (λH hO hS=>Dq w H a ns hlen hO hS) λH e s'=>Lr w H s₁ e s'
end L2
namespace L2
open PySem PySem.Spec PyProof.Rows
def cW(s:Stmt):Arguments:=match s with
 |.FunctionDef _ a _ _ _ _ _ _ _ _=>a
 |_=>{posonlyargs:=[],args:=[],vararg:=none,kwonlyargs:=[],kw_defaults:=[],kwarg:=none,defaults:=[]}
def bF(s:Stmt):List Stmt:=match s with
 |.FunctionDef _ _ b _ _ _ _ _ _ _=>b
 |_=>[]
def ah(s:Stmt):Scope:=match s with
 |.FunctionDef _ _ _ _ _ _ sc _ _ _=>sc
 |_=>{kind:=.function,names:=[],isGenerator:=false,isCoroutine:=false}
abbrev n8:yV:=λ_ _ _ _ _ _=>False
structure Du(K:PySem.W.Frag)(x qual:Str)(st:Stmt)(f:Addr)(fd:FuncData):Prop where
 ex:∃(oc:Value)(od:Option Addr)(kV doc pm:Value)(an:Option Addr)(cdv ct:Value)(yW:Array (Option Value)),
  fd=PySem.W.fnOf x qual (cW st) (bF st) (ah st) .none kV doc pm an cdv ct/\K.lookup f=some ⟨oc,od,.func fd,yW⟩/\codeIn K cdv qual=true
 kp:keepIn K (.ref f)=true
section
variable{P:Program}{w:World}{K:PySem.W.Frag}{mg:Str->Option Value}{base:Heap}
theorem Du.ok {x qual:Str}{st:Stmt}{f:Addr}{fd:FuncData}{N ps:List Str}{k:Nat}{sp:Sp}(F:Du K x qual st f fd)(S:az N ps (ah st))(len:∀vs H Q E,sp vs H Q E->vs.length=ps.length)
  (hbody:∀(cdv:Value)(A:Around)(outer:List Env)(s:Shared)(H:Hp)(vs:List V)(Q:VK)(E:XK),aV k (A.deeper (envOfC qual (ah st) s.heap.objs.size f cdv))->sp vs H Q E->
   ∃t,kT (kU n8 P w K mg base N qual (ah st) f cdv A outer s H E).yh (bF st) t/\t {nx:=λ_ H'=>Q .non H',rt:=Q} (start N vs) H):gb P w K mg base n8 (k+1) f fd ps sp:=by
 obtain⟨oc,od,kV,doc,pm,an,cdv,ct,yW,rfl,lk,hcd⟩:=F.ex
 refine Io lk hcd S len λA outer s H vs Q E hr Dq=>?_
 obtain⟨t,h,q⟩:=hbody cdv A outer s H vs Q E hr Dq
 exact⟨t,h.yh,q⟩
theorem Du.binds {x qual:Str}{st:Stmt}{f:Addr}{fd:FuncData}{ps:List Str}(F:Du K x qual st f fd)
  (h:∀(kV doc pm:Value)(an:Option Addr)(cdv ct:Value)(us:List Value),us.length=ps.length->bindArgs (PySem.W.fnOf x qual (cW st) (bF st) (ah st) .none kV doc pm an cdv ct) ⟨us,[]⟩=pure (ps.zip us)):Binds K fd ps []:=by
 obtain⟨oc,od,kV,doc,pm,an,cdv,ct,yW,rfl,lk,hcd⟩:=F.ex
 exact .all (h kV doc pm an cdv ct)
theorem zr{x qual:Str}{st:Stmt}{f:Addr}{oc:Value}{od an:Option Addr}{yW:Array (Option Value)}{kV doc pm cdv ct:Value}(l:K.lookup f=some ⟨oc,od,.func (PySem.W.fnOf x qual (cW st) (bF st) (ah st) .none kV doc pm an cdv ct),yW⟩)
  (c:codeIn K cdv qual=true)(k:keepIn K (.ref f)=true):Du K x qual st f (PySem.W.fnOf x qual (cW st) (bF st) (ah st) .none kV doc pm an cdv ct):=⟨⟨oc,od,kV,doc,pm,an,cdv,ct,yW,rfl,l,c⟩,k⟩
end
def aF(H H':Hp):Prop:=∀b o,H b=some o->H' b=some o
theorem aF.refl (H:Hp):aF H H:=λ_ _ h=>h
theorem aF.trans {H H1 H2:Hp}(a:aF H H1)(b:aF H1 H2):aF H H2:=λc o h=>b c o (a c o h)
theorem aF.free {H H':Hp}(e:aF H H'){l:Addr}(h:H' l=Option.none):H l=Option.none:=by
 cases q:H l with
 |none=>rfl
 |some o=>
  rw[e l o q]at h
  cases h
theorem aF.seq {K:PySem.W.Frag}{H H':Hp}{a:Addr}{xs:List V}(e:aF H H')(h:jV K H a xs):jV K H' a xs:=by
 rcases h with(h|⟨o,h⟩)|h
 ·exact .inl (.inl (e _ _ h))
 ·exact .inl (.inr ⟨o,e _ _ h⟩)
 ·exact .inr h
end L2
set_option maxHeartbeats 4000000
namespace L2
open PySem PySem.Spec PyProof.Rows
section
variable{κ:Type}[DecidableEq κ]
def vC(kvs:List (κ×V))(k:κ):Option V:=(kvs.find? λkv=>decide (kv.1=k)).map (·.2)
def putK(kvs:List (κ×V))(k:κ)(v:V):List (κ×V):=
 if(kvs.any λkv=>decide (kv.1=k))=true then kvs.map (λkv=>if kv.1=k then(kv.1,v)else kv)else kvs++[(k,v)]
def NQ(kvs:List (κ×V))(k:κ):List (κ×V):=kvs.filter λkv=>decide (kv.1≠k)
end
abbrev KT(H:Hp):List (List Key×V)->List (List Key×Addr×Value)->Prop:=Paired λp q=>p.1=q.1/\H q.2.1=some (.tup (p.1.map kV))/\RelV p.2 q.2.2
def O7(H:Hp)(a:Addr)(y:V)(r:Option V):Prop:=
 (∃kvs k,Rd H a (.dK kvs)/\y=kV k/\r=vC kvs k)\/∃kvs k b,Rd H a (.dT kvs)/\y=.ref b/\H b=some (.tup (k.map kV))/\r=vC kvs k
def O8(H:Hp)(a:Addr)(y v:V)(H':Hp):Prop:=
 (∃kvs k,H a=some (.dK kvs)/\y=kV k/\kvs.length<sizeLine/\H'=upd H a (.dK (putK kvs k v)))\/
 ∃kvs k b,H a=some (.dT kvs)/\y=.ref b/\H b=some (.tup (k.map kV))/\kvs.length<sizeLine/\H'=upd H a (.dT (putK kvs k v))
end L2
namespace L2
open PySem PySem.Spec PyProof.Rows
variable{X:Cx}
end L2
namespace DL
open PySem PySem.Spec PyProof.Rows L2
abbrev St:=L2.St
inductive D where
 |non|bl (b:Bool)|int (i:Int)|str (x:Str)|lst (xs:List D)|tup (xs:List D)|exc (n:Str)|fn (n:Str)
 deriving Inhabited
inductive R (α:Type) where
 |ok (a:α)|err (c:Str)|bad
def R.bind {α β:Type}(r:R α)(f:α->R β):R β:=match r with
 |.ok a=>f a
 |.err c=>.err c
 |.bad=>.bad
def R.of {α:Type}:Option α->R α
 |some a=>.ok a
 |none=>.bad
theorem R.bJ {α β:Type}(a:α)(f:α->R β):(R.ok a).bind f=f a:=rfl
theorem R.iC {α:Type}(a:α):R.of (some a)=.ok a:=rfl
def Good{α:Type}(E:Str->Hp->Prop)(H₀:Hp)(r:R α)(post:α->Prop):Prop:=match r with
 |.ok a=>post a
 |.err c=>∀H',aF H₀ H'->E c H'
 |.bad=>False
theorem Good.bind {α β:Type}{E:Str->Hp->Prop}{H₀:Hp}{r:R α}{k:α->R β}{post:β->Prop}(h:Good E H₀ (r.bind k) post):Good E H₀ r (λa=>Good E H₀ (k a) post):=by
 cases r with
 |ok a=>exact h
 |err c=>exact h
 |bad=>exact h
theorem Good.mono {α:Type}{E:Str->Hp->Prop}{H₀:Hp}{r:R α}{p q:α->Prop}(h:Good E H₀ r p)(w:∀a,r=.ok a->p a->q a):Good E H₀ r q:=by
 cases r with
 |ok a=>exact w a rfl h
 |err c=>exact h
 |bad=>exact h
theorem Good.BZ {α β:Type}{E:Str->Hp->Prop}{H₀:Hp}{r:R α}{k:α->R β}{p:α->Prop}{q:β->Prop}(h:Good E H₀ r p)(w:∀a,r=.ok a->p a->Good E H₀ (k a) q):Good E H₀ (r.bind k) q:=by
 cases r with
 |ok a=>exact w a rfl h
 |err c=>exact h
 |bad=>exact h
theorem Good.of {α:Type}{E:Str->Hp->Prop}{H₀:Hp}{o:Option α}{p:α->Prop}(h:Good E H₀ (R.of o) p):∃a,o=some a/\p a:=by
 cases o with
 |none=>exact False.elim h
 |some a=>exact⟨a,rfl,h⟩
def KL(K:PySem.W.Frag)(a:Addr)(xs:List V):Prop:=∃(o:Obj)(its:Array Value)(n:Nat),K.lookup a=some o/\o.cls=.type "list"/\o.dict=none/\o.data=.seq its n/\its.size<=sizeLine/\Vals xs its.toList
def KT(K:PySem.W.Frag)(a:Addr)(xs:List V):Prop:=∃(o:Obj)(its:Array Value)(n:Nat),K.lookup a=some o/\o.cls=.type "tuple"/\o.data=.seq its n/\its.size<=sizeLine/\Vals xs its.toList
def rT(K:PySem.W.Frag)(P:Addr->Prop)(H:Hp)(a:Addr)(vs:List V):Prop:=(P a/\Rd H a (.lst vs))\/KL K a vs
def yr(K:PySem.W.Frag)(P:Addr->Prop)(H:Hp)(a:Addr)(vs:List V):Prop:=(P a/\Rd H a (.tup vs))\/KT K a vs
theorem rT.sq {K:PySem.W.Frag}{P:Addr->Prop}{H:Hp}{a:Addr}{vs:List V}(h:rT K P H a vs):jV K H a vs:=h.elim (λz=>.inl z.2) .inr
theorem yr.sq {K:PySem.W.Frag}{P:Addr->Prop}{H:Hp}{a:Addr}{vs:List V}(h:yr K P H a vs):tP K H a vs:=h.elim (λz=>.inl z.2) .inr
theorem rT.any {K:PySem.W.Frag}{H:Hp}{a:Addr}{vs:List V}(h:jV K H a vs):rT K (λ_=>True) H a vs:=h.elim (λz=>.inl ⟨trivial,z⟩) .inr
def Lv(a C:Addr):Heap->Prop:=λh=>∃vs,h.get? a=some {cls:=.ref C,data:=.fields vs}
noncomputable def Is(K:PySem.W.Frag)(P:Addr->Prop)(H:Hp):D->V->Prop
 |.non,v=>v=.non
 |.bl b,v=>v=.bl b
 |.int i,v=>v=.int i
 |.str x,v=>v=.str x
 |.lst ds,v=>∃a vs,v=.ref a/\rT K P H a vs/\IsL ds vs
 |.tup ds,v=>∃a vs,v=.ref a/\yr K P H a vs/\IsL ds vs
 |.exc n,v=>∃a C,v=.ref a/\P a/\nsIn K mainGlobals n=some (some (.ref C))/\H a=some (.ext (Lv a C))
 |.fn n,v=>∃a,v=.ref a/\nsIn K mainGlobals n=some (some (.ref a))
where
 IsL:List D->List V->Prop
 |[],vs=>vs=[]
 |d::ds,vs=>∃v r,vs=v::r/\Is K P H d v/\IsL ds r
abbrev IsL(K:PySem.W.Frag)(P:Addr->Prop)(H:Hp):List D->List V->Prop:=Is.IsL K P H
section
variable{K:PySem.W.Frag}{P P':Addr->Prop}{H H':Hp}
structure Ext(P P':Addr->Prop)(H H':Hp):Prop where
 p:∀a o,P a->H a=some o->P' a
 h:∀a o,P a->H a=some o->H' a=some o
theorem Ext.rd (e:Ext P P' H H'){a:Addr}{u:HO}(p:P a)(r:Rd H a u):P' a/\Rd H' a u:=by
 rcases r with r|⟨o,r⟩
 ·exact⟨e.p a _ p r,.inl (e.h a _ p r)⟩
 ·exact⟨e.p a _ p r,.inr ⟨o,e.h a _ p r⟩⟩
theorem rT.ext (e:Ext P P' H H'){a:Addr}{vs:List V}(h:rT K P H a vs):rT K P' H' a vs:=h.elim (λz=>.inl (e.rd z.1 z.2)) .inr
theorem yr.ext (e:Ext P P' H H'){a:Addr}{vs:List V}(h:yr K P H a vs):yr K P' H' a vs:=h.elim (λz=>.inl (e.rd z.1 z.2)) .inr
mutual
theorem Is.ext (e:Ext P P' H H'):∀(d:D)(v:V),Is K P H d v->Is K P' H' d v
 |.non,_,h=>h
 |.bl _,_,h=>h
 |.int _,_,h=>h
 |.str _,_,h=>h
 |.lst ds,_,⟨a,vs,e1,l,q⟩=>⟨a,vs,e1,l.ext e,IsL.ext e ds vs q⟩
 |.tup ds,_,⟨a,vs,e1,l,q⟩=>⟨a,vs,e1,l.ext e,IsL.ext e ds vs q⟩
 |.exc n,_,⟨a,C,e1,p,c,q⟩=>⟨a,C,e1,e.p a _ p q,c,e.h a _ p q⟩
 |.fn _,_,h=>h
theorem IsL.ext (e:Ext P P' H H'):∀(ds:List D)(vs:List V),IsL K P H ds vs->IsL K P' H' ds vs
 |[],_,h=>h
 |d::ds,_,⟨v,r,e1,p,q⟩=>⟨v,r,e1,Is.ext e d v p,IsL.ext e ds r q⟩
end
theorem Ext.same (s:aF H H'):Ext P P H H':=⟨λ_ _ p _=>p,λa o _ h=>s a o h⟩
theorem Is.same (s:aF H H'){d:D}{v:V}(h:Is K P H d v):Is K P H' d v:=Is.ext (.same s) d v h
theorem IsL.same (s:aF H H'){d:List D}{v:List V}(h:IsL K P H d v):IsL K P H' d v:=IsL.ext (.same s) d v h
theorem Is.weak {d:D}{v:V}(h:Is K P H d v):Is K (λ_=>True) H d v:=Is.ext ⟨λ_ _ _ _=>trivial,λ_ _ _ q=>q⟩ d v h
theorem IsL.weak {d:List D}{v:List V}(h:IsL K P H d v):IsL K (λ_=>True) H d v:=IsL.ext ⟨λ_ _ _ _=>trivial,λ_ _ _ q=>q⟩ d v h
def toV:D->Option V
 |.non=>some .non
 |.bl b=>some (.bl b)
 |.int i=>some (.int i)
 |.str x=>some (.str x)
 |_=>none
theorem Is.sc {d:D}{z:V}(h:toV d=some z):Is K P H d z:=by
 cases d with
 |non=>cases h;rfl
 |bl b=>cases h;rfl
 |int b=>cases h;rfl
 |str b=>cases h;rfl
 |lst b=>cases h
 |exc _=>cases h
 |fn _=>cases h
 |tup b=>cases h
theorem Is.zt {d:D}{z v:V}(h:toV d=some z)(i:Is K P H d v):v=z:=by
 cases d with
 |non=>cases h;exact i
 |bl b=>cases h;exact i
 |int b=>cases h;exact i
 |str b=>cases h;exact i
 |lst b=>cases h
 |exc _=>cases h
 |fn _=>cases h
 |tup b=>cases h
theorem IsL.length:∀{ds:List D}{vs:List V},IsL K P H ds vs->vs.length=ds.length
 |[],_,h=>by subst h;rfl
 |d::ds,_,⟨v,r,e,_,q⟩=>by subst e;simp[IsL.length q]
theorem IsL.get:∀{ds:List D}{vs:List V}{i:Nat}{d:D},IsL K P H ds vs->ds[i]?=some d->∃v,vs[i]?=some v/\Is K P H d v
 |[],_,_,_,_,e=>by simp at e
 |d::ds,_,0,_,⟨v,r,e,p,q⟩,e2=>by subst e;simp at e2;subst e2;exact⟨v,rfl,p⟩
 |d::ds,_,i+1,_,⟨v,r,e,p,q⟩,e2=>by
  subst e
  obtain⟨v',h1,h2⟩:=IsL.get (i:=i) q (by simpa using e2)
  exact⟨v',by simpa using h1,h2⟩
theorem IsL.app:∀{ds es:List D}{vs ws:List V},IsL K P H ds vs->IsL K P H es ws->IsL K P H (ds++es) (vs++ws)
 |[],_,_,_,h,q=>by
  have h':_=[]:=h
  subst h';exact q
 |d::ds,_,_,_,⟨v,r,e,p,q⟩,q2=>by subst e;exact⟨v,_,rfl,p,IsL.app q q2⟩
theorem IsL.one {d:D}{v:V}(h:Is K P H d v):IsL K P H [d] [v]:=⟨v,[],rfl,h,rfl⟩
theorem IsL.cons {d:D}{v:V}{ds:List D}{vs:List V}(h:Is K P H d v)(q:IsL K P H ds vs):IsL K P H (d::ds) (v::vs):=⟨v,vs,rfl,h,q⟩
theorem IsL.drop:∀{ds:List D}{vs:List V}(n:Nat),IsL K P H ds vs->IsL K P H (ds.drop n) (vs.drop n)
 |_,_,0,h=>h
 |[],_,n+1,h=>by
  have h':_=[]:=h
  subst h';exact rfl
 |d::ds,_,n+1,⟨v,r,e,p,q⟩=>by subst e;exact IsL.drop n q
theorem IsL.take:∀{ds:List D}{vs:List V}(n:Nat),IsL K P H ds vs->IsL K P H (ds.take n) (vs.take n)
 |_,_,0,_=>rfl
 |[],_,n+1,h=>by
  have h':_=[]:=h
  subst h';exact rfl
 |d::ds,_,n+1,⟨v,r,e,p,q⟩=>by subst e;exact⟨v,_,rfl,p,IsL.take n q⟩
end
abbrev B1:=Int×Int×List Int
inductive Ct where
 |ls (nss:List (List Int))|tp (nss:List (List Int))|dk (ks:List Int)|tq (n:Int) (ns:List Int)|tr (ts:List B1)|tv (ds:List D) (ns:List Int)
instance:Coe (List (List Int)) Ct:=⟨Ct.ls⟩
inductive Sl where
 |no|val (d:D)|own (xs:List D)|raw (v:V)|deep (c:Ct)
abbrev DE:=List Sl
structure Gh where
 P₀:Addr->Prop
 H₀:Hp
def Gh.P (g:Gh)(os:List Addr)(a:Addr):Prop:=(g.P₀ a\/g.H₀ a=none)/\a∉os
structure vD(hd:List V->HO)(H:Hp)(os:List Addr)(a:Addr)(as:List Addr)(nss:List (List Int)):Prop where
 ma:a∈os
 ha:H a=some (hd (as.map V.ref))
 len:as.length=nss.length
 nd:(a::as).Nodup
 it:∀(k:Nat)(b:Addr)(ns:List Int),as[k]?=some b->nss[k]?=some ns->b∈os/\H b=some (.lst (ns.map V.int))
theorem vD.mem {hd:List V->HO}{H:Hp}{os:List Addr}{a:Addr}{as:List Addr}{nss:List (List Int)}(d:vD hd H os a as nss):∀x∈a::as,x∈os/\∃o,H x=some o:=λx hx=>by
 rcases mem_cons.mp hx with rfl|hx
 ·exact⟨d.ma,_,d.ha⟩
 ·obtain⟨k,hk,rfl⟩:=List.getElem_of_mem hx
  have IA:k<nss.length:=by rw[<-d.len];exact hk
  have q:=d.it k _ _ (getElem?_eq_getElem hk) (getElem?_eq_getElem IA)
  exact⟨q.1,_,q.2⟩
theorem vD.to {hd:List V->HO}{H H':Hp}{os dm:List Addr}{a:Addr}{as:List Addr}{nss:List (List Int)}(d:vD hd H os a as nss)(h:∀x∈a::as,x∈dm/\H' x=H x):vD hd H' dm a as nss:=
 ⟨(h a (by simp)).1,by rw[(h a (by simp)).2];exact d.ha,d.len,d.nd,λk b ns e1 e2=>by
  have q:=d.it k b ns e1 e2
  have hb:=h b (mem_cons_of_mem _ (List.mem_of_getElem? e1))
  exact⟨hb.1,by rw[hb.2];exact q.2⟩⟩
def IB(H:Hp)(as:List Addr)(t:B1)(v:V):Prop:=∃b c,v=.ref b/\b∈as/\c∈as/\H b=some (.tup [.int t.1,.int t.2.1,.ref c])/\H c=some (.lst (t.2.2.map V.int))
structure FE(H:Hp)(os:List Addr)(a:Addr)(as:List Addr)(ts:List B1):Prop where
 ma:a∈os
 na:a∉as
 mem:∀x∈as,x∈os/\∃o,H x=some o
 at_:∃vs,H a=some (.lst vs)/\vs.length=ts.length/\∀(k:Nat)(t:B1)(v:V),ts[k]?=some t->vs[k]?=some v->IB H as t v
theorem IB.to {H H':Hp}{as Lw:List Addr}{t:B1}{v:V}(d:IB H as t v)(h:∀x∈as,x∈Lw/\H' x=H x):IB H' Lw t v:=by
 obtain⟨b,c,e,h1,h2,h3,h4⟩:=d
 exact⟨b,c,e,(h b h1).1,(h c h2).1,by rw[(h b h1).2];exact h3,by rw[(h c h2).2];exact h4⟩
theorem FE.to {H H':Hp}{os dm:List Addr}{a:Addr}{as:List Addr}{ts:List B1}(d:FE H os a as ts)(h:∀x∈a::as,x∈dm/\H' x=H x):FE H' dm a as ts:=by
 obtain⟨vs,h1,h2,h3⟩:=d.at_
 refine⟨(h a (by simp)).1,d.na,λx hx=>?_,vs,by rw[(h a (by simp)).2];exact h1,h2,λk t v e1 e2=>(h3 k t v e1 e2).to λx hx=>⟨hx,(h x (mem_cons_of_mem _ hx)).2⟩⟩
 obtain⟨q1,o,q2⟩:=d.mem x hx
 have q:=h x (mem_cons_of_mem _ hx)
 exact⟨q.1,o,by rw[q.2];exact q2⟩
def O9(ks:List Int):List (Key×V):=ks.map λk=>(Sum.inl k,V.bl true)
abbrev Dp(K:PySem.W.Frag)(H:Hp)(os:List Addr)(a:Addr)(as:List Addr)(c:Ct):Prop:=match c with
 |.ls nss=>vD HO.lst H os a as nss
 |.tp nss=>vD HO.tup H os a as nss
 |.dk ks=>a∈os/\as=[]/\H a=some (.dK (O9 ks))
 |.tq n ns=>∃b,as=[b]/\a∈os/\b∈os/\a≠b/\H a=some (.tup [.int n,.ref b])/\H b=some (.lst (ns.map V.int))
 |.tr ts=>FE H os a as ts
 |.tv ds ns=>∃b m ws,b∈as/\m∈as/\m≠b/\a∉as/\(∀x∈a::as,x∈os/\∃o,H x=some o)/\H a=some (.tup [.ref m,.ref b])/\H b=some (.lst (ns.map V.int))/\H m=some (.lst ws)/\IsL K (λc=>c∈as/\c≠b/\c≠m) H ds ws
theorem Dp.mem {K:PySem.W.Frag}{H:Hp}{os:List Addr}{a:Addr}{as:List Addr}{c:Ct}(d:Dp K H os a as c):∀x∈a::as,x∈os/\∃o,H x=some o:=by
 cases c with
 |ls nss=>exact vD.mem d
 |tp nss=>exact vD.mem d
 |dk ks=>
  obtain⟨h1,rfl,h2⟩:=d
  intro x hx
  rcases mem_cons.mp hx with rfl|hx
  ·exact⟨h1,_,h2⟩
  ·cases hx
 |tq n ns=>
  obtain⟨b,rfl,h1,h2,h3,h4,h5⟩:=d
  intro x hx
  rcases mem_cons.mp hx with rfl|hx
  ·exact⟨h1,_,h4⟩
  ·rcases mem_cons.mp hx with rfl|hx
   ·exact⟨h2,_,h5⟩
   ·cases hx
 |tr ts=>
  have d':FE H os a as ts:=d
  intro x hx
  rcases mem_cons.mp hx with rfl|hx
  ·obtain⟨vs,h1,_⟩:=d'.at_
   exact⟨d'.ma,_,h1⟩
  ·exact d'.mem x hx
 |tv ds ns=>
  obtain⟨b,m,ws,_,_,_,_,h,_⟩:=d
  exact h
theorem Dp.to {K:PySem.W.Frag}{H H':Hp}{os dm:List Addr}{a:Addr}{as:List Addr}{c:Ct}(d:Dp K H os a as c)(h:∀x∈a::as,x∈dm/\H' x=H x):Dp K H' dm a as c:=by
 cases c with
 |ls nss=>exact vD.to d h
 |tp nss=>exact vD.to d h
 |dk ks=>
  obtain⟨h1,rfl,h2⟩:=d
  exact⟨(h a (by simp)).1,rfl,by rw[(h a (by simp)).2];exact h2⟩
 |tq n ns=>
  obtain⟨b,rfl,h1,h2,h3,h4,h5⟩:=d
  exact⟨b,rfl,(h a (by simp)).1,(h b (by simp)).1,h3,by rw[(h a (by simp)).2];exact h4,by rw[(h b (by simp)).2];exact h5⟩
 |tr ts=>exact FE.to d h
 |tv ds ns=>
  obtain⟨b,m,ws,h1,h2,h3,h4,h5,h6,h7,h8,h9⟩:=d
  have hb:=h b (mem_cons_of_mem _ h1)
  have hm:=h m (mem_cons_of_mem _ h2)
  refine⟨b,m,ws,h1,h2,h3,h4,λx hx=>?_,by rw[(h a (by simp)).2];exact h6,by rw[hb.2];exact h7,by rw[hm.2];exact h8,IsL.ext ⟨λc o p _=>p,λc o p q=>by rw[(h c (mem_cons_of_mem _ p.1)).2];exact q⟩ _ _ h9⟩
  obtain⟨_,o,q⟩:=h5 x hx
  exact⟨(h x hx).1,o,by rw[(h x hx).2];exact q⟩
theorem Dp.ha {K:PySem.W.Frag}{H:Hp}{os:List Addr}{a:Addr}{as:List Addr}{nss:List (List Int)}(d:Dp K H os a as (.ls nss)):H a=some (.lst (as.map V.ref)):=vD.ha d
theorem Dp.len {K:PySem.W.Frag}{H:Hp}{os:List Addr}{a:Addr}{as:List Addr}{nss:List (List Int)}(d:Dp K H os a as (.ls nss)):as.length=nss.length:=vD.len d
theorem Dp.it {K:PySem.W.Frag}{H:Hp}{os:List Addr}{a:Addr}{as:List Addr}{nss:List (List Int)}(d:Dp K H os a as (.ls nss)):∀(k:Nat)(b:Addr)(ns:List Int),as[k]?=some b->nss[k]?=some ns->b∈os/\H b=some (.lst (ns.map V.int)):=vD.it d
structure HA(K:PySem.W.Frag)(A:Nat->List Addr)(env:DE)(σ:St)(H:Hp)(os:List Addr):Prop where
 dp:∀(i:Nat)(nss:Ct),env[i]?=some (.deep nss)->∃a as,A i=a::as/\σ[i]?=some (some (.ref a))/\Dp K H os a as nss
 ow:∀(i:Nat)(nss:Ct)(j:Nat)(xs:List D)(b:Addr),env[i]?=some (.deep nss)->env[j]?=some (.own xs)->σ[j]?=some (some (.ref b))->b∉A i
 dj:∀(i j:Nat)(nss tW:Ct),i≠j->env[i]?=some (.deep nss)->env[j]?=some (.deep tW)->∀x∈A i,x∉A j
theorem HA.mem {K:PySem.W.Frag}{A:Nat->List Addr}{env:DE}{σ:St}{H:Hp}{os:List Addr}(d:HA K A env σ H os){i:Nat}{nss:Ct}(e:env[i]?=some (.deep nss)):∀x∈A i,x∈os/\∃o,H x=some o:=λx hx=>by
 obtain⟨a,as,h1,_,h3⟩:=d.dp i nss e
 rw[h1]at hx
 exact h3.mem x hx
theorem HA.to {K:PySem.W.Frag}{A:Nat->List Addr}{env jj:DE}{σ σ':St}{H H':Hp}{os dm:List Addr}(d:HA K A env σ H os)
  (hd:∀(j:Nat)(nss:Ct),jj[j]?=some (.deep nss)->env[j]?=some (.deep nss)/\σ'[j]?=σ[j]?)
  (ho:∀(j:Nat)(xs:List D)(b:Addr),jj[j]?=some (.own xs)->σ'[j]?=some (some (.ref b))->(∃ys,env[j]?=some (.own ys)/\σ[j]?=some (some (.ref b)))\/b∉os)
  (hH:∀(i:Nat)(nss:Ct),env[i]?=some (.deep nss)->∀x∈A i,x∈dm/\H' x=H x):HA K A jj σ' H' dm where
 dp i nss e:=by
  obtain⟨e',q⟩:=hd i nss e
  obtain⟨a,as,h1,h2,h3⟩:=d.dp i nss e'
  exact⟨a,as,h1,by rw[q];exact h2,h3.to λx hx=>hH i nss e' x (by rw[h1];exact hx)⟩
 ow i nss j xs b e1 e2 e3:=by
  obtain⟨Kq,_⟩:=hd i nss e1
  rcases ho j xs b e2 e3 with⟨ys,q1,q2⟩|q
  ·exact d.ow i nss j ys b Kq q1 q2
  ·exact λz=>q (d.mem Kq b z).1
 dj i j nss tW hij e1 e2:=d.dj i j nss tW hij (hd i nss e1).1 (hd j tW e2).1
def yt(K:PySem.W.Frag)(env:DE)(σ:St)(H:Hp)(os:List Addr):Prop:=∃A,HA K A env σ H os
theorem yt.none {K:PySem.W.Frag}{env:DE}{σ:St}{H:Hp}{os:List Addr}(h:∀(i:Nat)(nss:Ct),env[i]?≠some (.deep nss)):yt K env σ H os:=
 ⟨λ_=>[],λi nss e=>(h i nss e).elim,λi nss _ _ _ e=>(h i nss e).elim,λi _ nss _ _ e=>(h i nss e).elim⟩
structure Rel(K:PySem.W.Frag)(g:Gh)(env:DE)(σ:St)(H:Hp)(os:List Addr):Prop where
 len:σ.length=env.length
 ext:aF g.H₀ H
 val:∀(i:Nat)(d:D),env[i]?=some (.val d)->∃v,σ[i]?=some (some v)/\Is K (g.P os) H d v
 own:∀(i:Nat)(xs:List D),env[i]?=some (.own xs)->∃a vs,σ[i]?=some (some (.ref a))/\a∈os/\H a=some (.lst vs)/\IsL K (g.P os) H xs vs
 inj:∀(i j:Nat)(xs ys:List D)(a:Addr),env[i]?=some (.own xs)->env[j]?=some (.own ys)->σ[i]?=some (some (.ref a))->σ[j]?=some (some (.ref a))->i=j
 new:∀a∈os,g.H₀ a=none/\∃o,H a=some o
 raw:∀(i:Nat)(v:V),env[i]?=some (.raw v)->σ[i]?=some (some v)
 Dv:yt K env σ H os
section
variable{K:PySem.W.Frag}{g:Gh}{env:DE}{σ:St}{H H':Hp}{os:List Addr}
theorem Rel.same (r:Rel K g env σ H os)(s:aF H H'):Rel K g env σ H' os:=
 ⟨r.len,r.ext.trans s,λi d e=>let⟨v,h1,h2⟩:=r.val i d e;⟨v,h1,h2.same s⟩,
  λi xs e=>let⟨a,vs,h1,h2,h3,h4⟩:=r.own i xs e;⟨a,vs,h1,h2,s a _ h3,h4.same s⟩,r.inj,λa ha=>⟨(r.new a ha).1,let⟨o,h⟩:=(r.new a ha).2;⟨o,s a o h⟩⟩,r.raw,by
  obtain⟨A,d⟩:=r.Dv
  exact⟨A,d.to (λj nss e=>⟨e,rfl⟩) (λj xs b e q=>.inl ⟨xs,e,q⟩) λi nss e x hx=>by
   obtain⟨q1,o,q2⟩:=d.mem e x hx
   exact⟨q1,by rw[s x o q2,q2]⟩⟩⟩
theorem Rel.fresh (r:Rel K g env σ H os){a:Addr}(h:H a=none):g.P os a:=by
 refine⟨.inr (r.ext.free h),λhm=>?_⟩
 obtain⟨o,e⟩:=(r.new a hm).2
 rw[h]at e;cases e
theorem dq{p:Addr}(h:H p=none)(o:HO):aF H (upd H p o):=λb u q=>by rw[aN (bK q h)];exact q
theorem Rel.set (r:Rel K g env σ H os)(i:Nat){d:D}{v:V}(h:Is K (g.P os) H d v):Rel K g (env.set i (.val d)) (σ.set i (some v)) H os:=by
 refine⟨by simp[r.len],r.ext,λj d' e=>?_,λj xs e=>?_,λj k xs ys a e1 e2 e3 e4=>?_,r.new,λj w e=>?_,?_⟩
 ·by_cases hj:i=j
  ·subst hj
   have hi:i<env.length:=by
    have:=(List.getElem?_eq_some_iff.mp e).1
    simpa using this
   rw[getElem?_set_self hi]at e
   cases e
   exact⟨v,by rw[getElem?_set_self (by rw[r.len];exact hi)],h⟩
  ·rw[getElem?_set_ne hj]at e
   obtain⟨v',h1,h2⟩:=r.val j d' e
   exact⟨v',by rw[getElem?_set_ne hj];exact h1,h2⟩
 ·by_cases hj:i=j
  ·subst hj
   have hi:i<env.length:=by
    have:=(List.getElem?_eq_some_iff.mp e).1
    simpa using this
   rw[getElem?_set_self hi]at e
   cases e
  ·rw[getElem?_set_ne hj]at e
   obtain⟨a,vs,h1,h2⟩:=r.own j xs e
   exact⟨a,vs,by rw[getElem?_set_ne hj];exact h1,h2⟩
 ·have f:∀(j:Nat)(xs:List D),(env.set i (Sl.val d))[j]?=some (.own xs)->i≠j:=λj xs e hj=>by
   subst hj
   have hi:i<env.length:=by
    have:=(List.getElem?_eq_some_iff.mp e).1
    simpa using this
   rw[getElem?_set_self hi]at e
   cases e
  have hj:=f j xs e1
  have hk:=f k ys e2
  rw[getElem?_set_ne hj]at e1 e3
  rw[getElem?_set_ne hk]at e2 e4
  exact r.inj j k xs ys a e1 e2 e3 e4
 ·by_cases hj:i=j
  ·subst hj
   have hi:i<env.length:=by
    have:=(List.getElem?_eq_some_iff.mp e).1
    simpa using this
   rw[getElem?_set_self hi]at e
   cases e
  ·rw[getElem?_set_ne hj]at e⊢
   exact r.raw j w e
 ·obtain⟨A,dd⟩:=r.Dv
  have f:∀(j:Nat)(sl:Sl),(env.set i (Sl.val d))[j]?=some sl->(∀d',sl≠.val d')->i≠j/\env[j]?=some sl:=λj sl q hn=>by
   by_cases hj:i=j
   ·subst hj
    have hi:i<env.length:=by
     have:=(List.getElem?_eq_some_iff.mp q).1
     simpa using this
    rw[getElem?_set_self hi]at q
    exact(hn d (Option.some.inj q).symm).elim
   ·rw[getElem?_set_ne hj]at q
    exact⟨hj,q⟩
  refine⟨A,dd.to (λj nss q=>?_) (λj xs b q z=>?_) λj nss q x hx=>⟨(dd.mem q x hx).1,rfl⟩⟩
  ·obtain⟨hj,q⟩:=f j _ q (λ_ z=>nomatch z)
   exact⟨q,by rw[getElem?_set_ne hj]⟩
  ·obtain⟨hj,q⟩:=f j _ q (λ_ z=>nomatch z)
   rw[getElem?_set_ne hj]at z
   exact .inl ⟨xs,q,z⟩
theorem Rel.apart (r:Rel K g env σ H os){a:Addr}(s:aF H H')(hn:H a=none):Ext (g.P os) (g.P (a::os)) H H':=
 ⟨λb o p e=>⟨p.1,λhm=>by
  rcases mem_cons.mp hm with z|z
  ·rw[z,hn]at e;cases e
  ·exact p.2 z⟩,λb o _ e=>s b o e⟩
theorem bH{α:Type}{l:List α}{i:Nat}{x y:α}(e:(l.set i x)[i]?=some y):y=x:=by
 have hi:i<l.length:=by
  have:=(List.getElem?_eq_some_iff.mp e).1
  simpa using this
 rw[getElem?_set_self hi]at e
 cases e;rfl
theorem q9{α:Type}{l:List α}{i j:Nat}{x y:α}(e:(l.set i x)[j]?=some y):j<l.length:=by
 have:=(List.getElem?_eq_some_iff.mp e).1
 simpa using this
theorem Rel.Lx (r:Rel K g env σ H os)(s:aF H H')(i:Nat){xs:List D}{vs:List V}{a:Addr}(hn:H a=none)(hH:H' a=some (.lst vs))(h:IsL K (g.P (a::os)) H' xs vs):
  Rel K g (env.set i (.own xs)) (σ.set i (some (.ref a))) H' (a::os):=by
 have ap:=r.apart s hn
 have old:∀(j:Nat)(ys:List D),env[j]?=some (.own ys)->σ[j]?=some (some (.ref a))->False:=λj ys e q=>by
  obtain⟨b,ws,h1,h2,h3,_⟩:=r.own j ys e
  rw[q]at h1
  cases h1
  rw[hn]at h3;cases h3
 refine⟨by simp[r.len],r.ext.trans s,λj d' e=>?_,λj ys e=>?_,λj k ys zs b e1 e2 e3 e4=>?_,λb hb=>?_,λj w e=>?_,?_⟩
 ·by_cases hj:i=j
  ·subst hj
   exact nomatch bH e
  ·rw[getElem?_set_ne hj]at e
   obtain⟨v,h1,h2⟩:=r.val j d' e
   exact⟨v,by rw[getElem?_set_ne hj];exact h1,Is.ext ap _ _ h2⟩
 ·by_cases hj:i=j
  ·subst hj
   have hi:=q9 e
   have e':=bH e
   cases e'
   exact⟨a,vs,by rw[getElem?_set_self (by rw[r.len];exact hi)],by simp,hH,h⟩
  ·rw[getElem?_set_ne hj]at e
   obtain⟨b,ws,h1,h2,h3,h4⟩:=r.own j ys e
   exact⟨b,ws,by rw[getElem?_set_ne hj];exact h1,mem_cons_of_mem _ h2,s _ _ h3,IsL.ext ap _ _ h4⟩
 ·by_cases hj:i=j
  ·subst hj
   by_cases hk:i=k
   ·exact hk
   ·have Pb:=bH e3
    cases Pb
    rw[getElem?_set_ne hk]at e2 e4
    exact(old k zs e2 e4).elim
  ·by_cases hk:i=k
   ·subst hk
    have Pd:=bH e4
    cases Pd
    rw[getElem?_set_ne hj]at e1 e3
    exact(old j ys e1 e3).elim
   ·rw[getElem?_set_ne hj]at e1 e3
    rw[getElem?_set_ne hk]at e2 e4
    exact r.inj j k ys zs b e1 e2 e3 e4
 ·rcases mem_cons.mp hb with rfl|hb
  ·exact⟨r.ext.free hn,_,hH⟩
  ·obtain⟨h1,o,h2⟩:=r.new b hb
   exact⟨h1,o,s _ _ h2⟩
 ·by_cases hj:i=j
  ·subst hj
   exact nomatch bH e
  ·rw[getElem?_set_ne hj]at e⊢
   exact r.raw j w e
 ·obtain⟨A,dd⟩:=r.Dv
  have f:∀(j:Nat)(sl:Sl),(env.set i (Sl.own xs))[j]?=some sl->i≠j->env[j]?=some sl:=λj sl q hj=>by
   rwa [getElem?_set_ne hj]at q
  refine⟨A,dd.to (λj nss q=>?_) (λj ys b q z=>?_) λj nss q x hx=>?_⟩
  ·by_cases hj:i=j
   ·subst hj
    exact nomatch bH q
   ·exact⟨f j _ q hj,by rw[getElem?_set_ne hj]⟩
  ·by_cases hj:i=j
   ·subst hj
    have z':=bH z
    cases z'
    exact .inr λhm=>by
     obtain⟨o,ho⟩:=(r.new a hm).2
     rw[hn]at ho
     cases ho
   ·rw[getElem?_set_ne hj]at z
    exact .inl ⟨ys,f j _ q hj,z⟩
  ·obtain⟨q1,o,q2⟩:=dd.mem q x hx
   exact⟨mem_cons_of_mem _ q1,by rw[s x o q2,q2]⟩
theorem Rel.mut (r:Rel K g env σ H os){i:Nat}{xs Ly:List D}{xn:List V}{a:Addr}(e:env[i]?=some (.own xs))(hσ:σ[i]?=some (some (.ref a)))(ha:a∈os)(h:IsL K (g.P os) H Ly xn):
  Rel K g (env.set i (.own Ly)) σ (upd H a (.lst xn)) os:=by
 have ex:Ext (g.P os) (g.P os) H (upd H a (.lst xn)):=⟨λ_ _ p _=>p,λb o p q=>by rw[aN (λz=>p.2 (by rw[z];exact ha))];exact q⟩
 refine⟨by simp[r.len],λb o q=>?_,λj d' e'=>?_,λj ys e'=>?_,λj k ys zs b e1 e2 e3 e4=>?_,λb hb=>?_,λj w e'=>?_,?_⟩
 ·rw[aN (λz=>by rw[z,(r.new a ha).1]at q;cases q)]
  exact r.ext b o q
 ·by_cases hj:i=j
  ·subst hj
   exact nomatch bH e'
  ·rw[getElem?_set_ne hj]at e'
   obtain⟨v,h1,h2⟩:=r.val j d' e'
   exact⟨v,h1,Is.ext ex _ _ h2⟩
 ·by_cases hj:i=j
  ·subst hj
   have e2:=bH e'
   cases e2
   exact⟨a,xn,hσ,ha,bO,IsL.ext ex _ _ h⟩
  ·rw[getElem?_set_ne hj]at e'
   obtain⟨b,ws,h1,h2,h3,h4⟩:=r.own j ys e'
   have hb:b≠a:=λz=>by
    subst z
    exact hj (r.inj i j xs ys b e e' hσ h1)
   exact⟨b,ws,h1,h2,by rw[aN hb];exact h3,IsL.ext ex _ _ h4⟩
 ·have f:∀(j:Nat)(ys:List D),(env.set i (Sl.own Ly))[j]?=some (.own ys)->∃Pe,env[j]?=some (.own Pe):=λj ys q=>by
   by_cases hj:i=j
   ·subst hj;exact⟨xs,e⟩
   ·rw[getElem?_set_ne hj]at q;exact⟨ys,q⟩
  obtain⟨y1,f1⟩:=f j ys e1
  obtain⟨y2,f2⟩:=f k zs e2
  exact r.inj j k y1 y2 b f1 f2 e3 e4
 ·obtain⟨h1,o,h2⟩:=r.new b hb
  refine⟨h1,?_⟩
  by_cases z:b=a
  ·exact⟨_,by rw[z];exact bO⟩
  ·exact⟨o,by rw[aN z];exact h2⟩
 ·by_cases hj:i=j
  ·subst hj
   exact nomatch bH e'
  ·rw[getElem?_set_ne hj]at e'
   exact r.raw j w e'
 ·obtain⟨A,dd⟩:=r.Dv
  refine⟨A,dd.to (λj nss q=>?_) (λj ys b q z=>?_) λj nss q x hx=>⟨(dd.mem q x hx).1,?_⟩⟩
  ·by_cases hj:i=j
   ·subst hj
    exact nomatch bH q
   ·rw[getElem?_set_ne hj]at q
    exact⟨q,rfl⟩
  ·by_cases hj:i=j
   ·subst hj
    exact .inl ⟨xs,e,z⟩
   ·rw[getElem?_set_ne hj]at q
    exact .inl ⟨ys,q,z⟩
  ·have hxa:x≠a:=λz=>dd.ow j nss i xs a q e hσ (by rw[<-z];exact hx)
   rw[aN hxa]
end
section
variable(K:PySem.W.Frag)(E:Str->Hp->Prop)
def tD(f:DE->R D):TE:=λσ H Q=>∃g env os,Rel K g env σ H os/\Good E g.H₀ (f env) λd=>∀v H',aF H H'->Is K (g.P os) H' d v->Q v H'
def tB(f:DE->R D):TE:=λσ H Q=>∃g env os,Rel K g env σ H os/\Good E g.H₀ (f env) λd=>∀v H',aF H H'->Is K (λ_=>True) H' d v->Q v H'
def tF(f:DE->R (List D)):TE:=λσ H Q=>∃g env os,Rel K g env σ H os/\Good E g.H₀ (f env) λxs=>∀a vs H',aF H H'->H a=none->H' a=some (.lst vs)->IsL K (g.P (a::os)) H' xs vs->Q (.ref a) H'
def tL(f:DE->R (List D)):TE:=λσ H Q=>∃g env os,Rel K g env σ H os/\Good E g.H₀ (f env) λxs=>∀a vs H',aF H H'->jV K H' a vs->IsL K (g.P os) H' xs vs->Q (.ref a) H'
def tT(f:DE->R Bool):TT:=λσ H Q=>∃g env os,Rel K g env σ H os/\Good E g.H₀ (f env) λb=>∀H',aF H H'->Q b H'
def Bk(f:DE->R (List D)):TA:=λσ H Q=>∃g env os,Rel K g env σ H os/\Good E g.H₀ (f env) λds=>∀vs H',aF H H'->IsL K (g.P os) H' ds vs->Q vs H'
def pQ(f:DE->R (List D)):TA:=λσ H Q=>∃g env os,Rel K g env σ H os/\Good E g.H₀ (f env) λds=>∀vs H',aF H H'->IsL K (λ_=>True) H' ds vs->Q vs H'
end
inductive Out where
 |nx (e:DE)|bk (e:DE)|ct (e:DE)|rt (d:D)|lW (xs:List D)|yX (nss:List (List Int))|yY (nss:List (List Int))|yZ (q:Int×List Int)|tX (c:Ct)
structure lX(H:Hp)(os:List Addr)(H':Hp)(dm:List Addr):Prop where
 own:∀a∈dm,a∈os\/H a=none
 grow:∀a,H' a=none->H a=none
 keep:∀a o,a∉os->H a=some o->H' a=some o
theorem lX.refl (H:Hp)(os:List Addr):lX H os H os:=⟨λ_ h=>.inl h,λ_ h=>h,λ_ _ _ h=>h⟩
theorem lX.same {H H':Hp}(s:aF H H')(os:List Addr):lX H os H' os:=⟨λ_ h=>.inl h,λ_ h=>s.free h,λ_ _ _ h=>s _ _ h⟩
theorem lX.trans {H H1 H2:Hp}{os IC B3:List Addr}(a:lX H os H1 IC)(b:lX H1 IC H2 B3):lX H os H2 B3 where
 own:=λx h=>(b.own x h).elim (λz=>a.own x z) λz=>.inr (a.grow x z)
 grow:=λx h=>a.grow x (b.grow x h)
 keep:=λx o hn h=>b.keep x o (λz=>(a.own x z).elim hn λq=>by rw[h]at q;cases q) (a.keep x o hn h)
theorem lX.ext {g:Gh}{H H':Hp}{os dm:List Addr}(s:lX H os H' dm):Ext (g.P os) (g.P dm) H H':=
 ⟨λa o p h=>⟨p.1,λz=>(s.own a z).elim p.2 λq=>by rw[h]at q;cases q⟩,λa o p h=>s.keep a o p.2 h⟩
structure ID(hd:List V->HO)(H₀ H:Hp)(a:Addr)(as:List Addr)(nss:List (List Int)):Prop where
 fr:∀b∈a::as,H₀ b=none
 nd:(a::as).Nodup
 len:as.length=nss.length
 ha:H a=some (hd (as.map V.ref))
 it:∀(k:Nat)(b:Addr)(ns:List Int),as[k]?=some b->nss[k]?=some ns->H b=some (.lst (ns.map V.int))
abbrev Lz:=ID HO.lst
abbrev LA:=ID HO.tup
structure LB(H₀ H:Hp)(a b:Addr)(q:Int×List Int):Prop where
 fa:H₀ a=none
 fb:H₀ b=none
 ne:a≠b
 ha:H a=some (.tup [.int q.1,.ref b])
 hb:H b=some (.lst (q.2.map V.int))
def vE(K:PySem.W.Frag)(H₀ H:Hp)(a:Addr)(c:Ct):Prop:=∃as,(∀x∈a::as,H₀ x=none)/\Dp K H (a::as) a as c
theorem vE.back {K:PySem.W.Frag}{H₀ H1 H:Hp}{a:Addr}{c:Ct}(d:vE K H1 H a c)(s:aF H₀ H1):vE K H₀ H a c:=by
 obtain⟨as,h1,h2⟩:=d
 exact⟨as,λx hx=>s.free (h1 x hx),h2⟩
def B4(K:PySem.W.Frag)(g:Gh)(H:Hp)(a:Addr)(ds:List D)(ns:List Int):Prop:=∃b m ws,g.H₀ a=none/\g.H₀ b=none/\g.H₀ m=none/\a≠b/\a≠m/\m≠b/\H a=some (.tup [.ref m,.ref b])/\H b=some (.lst (ns.map V.int))/\H m=some (.lst ws)/\IsL K (g.P [a,b,m]) H ds ws
def LC(K:PySem.W.Frag)(g:Gh)(H:Hp)(a:Addr):Ct->Prop
 |.tv ds ns=>B4 K g H a ds ns
 |c=>vE K g.H₀ H a c
noncomputable def dg(K:PySem.W.Frag)(g:Gh)(H:Hp)(os:List Addr)(De:Ends):Out->Prop
 |.nx e=>∀σ' H' dm,Rel K g e σ' H' dm->lX H os H' dm->De.nx σ' H'
 |.bk e=>∀σ' H' dm,Rel K g e σ' H' dm->lX H os H' dm->De.bk σ' H'
 |.ct e=>∀σ' H' dm,Rel K g e σ' H' dm->lX H os H' dm->De.ct σ' H'
 |.rt d=>∀v H',aF g.H₀ H'->Is K (g.P []) H' d v->De.rt v H'
 |.lW xs=>∀a vs H',aF g.H₀ H'->g.H₀ a=none->H' a=some (.lst vs)->IsL K (g.P [a]) H' xs vs->De.rt (.ref a) H'
 |.yY nss=>∀(a:Addr)(as:List Addr)(H':Hp),aF g.H₀ H'->LA g.H₀ H' a as nss->De.rt (.ref a) H'
 |.yZ q=>∀(a b:Addr)(H':Hp),aF g.H₀ H'->LB g.H₀ H' a b q->De.rt (.ref a) H'
 |.yX nss=>∀(a:Addr)(as:List Addr)(H':Hp),aF g.H₀ H'->Lz g.H₀ H' a as nss->De.rt (.ref a) H'
 |.tX c=>∀(a:Addr)(H':Hp),aF g.H₀ H'->LC K g H' a c->De.rt (.ref a) H'
theorem dg.step {K:PySem.W.Frag}{g:Gh}{H H1:Hp}{os IC:List Addr}{De:Ends}(s:lX H os H1 IC):∀{o:Out},dg K g H os De o->dg K g H1 IC De o
 |.nx e,h=>λσ' H' dm r z=>h σ' H' dm r (s.trans z)
 |.bk e,h=>λσ' H' dm r z=>h σ' H' dm r (s.trans z)
 |.ct e,h=>λσ' H' dm r z=>h σ' H' dm r (s.trans z)
 |.rt d,h=>h
 |.lW xs,h=>h
 |.yY xs,h=>h
 |.yZ xs,h=>h
 |.yX xs,h=>h
 |.tX xs,h=>h
def tS(K:PySem.W.Frag)(E:Str->Hp->Prop)(f:DE->R Out):TS:=λDe σ H=>∃g env os,Rel K g env σ H os/\Good E g.H₀ (f env) (dg K g H os De)
section
variable{X:Cx}{E:Str->Hp->Prop}{pos:Pos}
theorem imp{e:Expr}{t t':TE}(h:PE X e t)(w:∀σ H Q,t' σ H Q->t σ H Q):PE X e t':=λpins s σ H Q I q=>h pins s σ H Q I (w σ H Q q)
theorem FG{e:Expr}{t t':TT}(h:PT X e t)(w:∀σ H Q,t' σ H Q->t σ H Q):PT X e t':=λpins s σ H Q I q=>h pins s σ H Q I (w σ H Q q)
theorem IE{e:Expr}{t t':TT}(h:PW X e t)(w:∀σ H Q,t' σ H Q->t σ H Q):PW X e t':=λwh pins s σ H Q I q=>h wh pins s σ H Q I (w σ H Q q)
theorem B5{e:List Expr}{t t':TA}(h:PA X e t)(w:∀σ H Q,t' σ H Q->t σ H Q):PA X e t':=λpos pins s σ H Q I q=>h pos pins s σ H Q I (w σ H Q q)
theorem mZ{e:Stmt}{t t':TS}(h:PS X e t)(w:∀De σ H,t' De σ H->t De σ H):PS X e t':=λpins s σ H Q I q=>h pins s σ H Q I (w Q σ H q)
theorem Dw{e:List Stmt}{t t':TS}(h:kT X e t)(w:∀De σ H,t' De σ H->t De σ H):kT X e t':=λpins s σ H Q I q=>h pins s σ H Q I (w Q σ H q)
def dF(i:Nat)(env:DE):R D:=match env[i]? with
 |some (.val d)=>.ok d
 |_=>.bad
def dT(t:B1):D:=.tup [.int t.1,.int t.2.1,.lst (t.2.2.map .int)]
noncomputable def aC(i:Nat)(env:DE):R D:=match env[i]? with
 |some (.val d)=>.ok d
 |some (.own xs)=>.ok (.lst xs)
 |some (.deep (.ls nss))=>.ok (.lst (nss.map λns=>.lst (ns.map .int)))
 |some (.deep (.tp nss))=>.ok (.tup (nss.map λns=>.lst (ns.map .int)))
 |some (.deep (.tq n ns))=>.ok (.tup [.int n,.lst (ns.map .int)])
 |some (.deep (.tr ts))=>.ok (.lst (ts.map dT))
 |some (.deep (.tv ds ns))=>.ok (.tup [.lst ds,.lst (ns.map .int)])
 |_=>.bad
theorem jZ{K:PySem.W.Frag}{P:Addr->Prop}{H:Hp}:∀(ns:List Int),IsL K P H (ns.map D.int) (ns.map V.int)
 |[]=>rfl
 |n::ns=>⟨_,_,rfl,rfl,jZ ns⟩
theorem pR{K:PySem.W.Frag}{H:Hp}{os:List Addr}:∀{as:List Addr}{nss:List (List Int)},as.length=nss.length->(∀(k:Nat)(b:Addr)(ns:List Int),as[k]?=some b->nss[k]?=some ns->b∈os/\H b=some (.lst (ns.map V.int)))->IsL K (λ_=>True) H (nss.map λns=>.lst (ns.map D.int)) (as.map V.ref)
 |[],[],_,_=>rfl
 |[],_::_,h,_=>by simp at h
 |_::_,[],h,_=>by simp at h
 |a::as,ns::nss,h,hi=>⟨_,_,rfl,⟨a,_,rfl,.inl ⟨trivial,.inl (hi 0 a ns rfl rfl).2⟩,jZ ns⟩,pR (by simpa using h) λk b ms e1 e2=>hi (k+1) b ms e1 e2⟩
theorem tY{K:PySem.W.Frag}{P:Addr->Prop}{H:Hp}{as:List Addr}(hp:∀x∈as,P x):∀{ts:List B1}{vs:List V},vs.length=ts.length->(∀(k:Nat)(t:B1)(v:V),ts[k]?=some t->vs[k]?=some v->IB H as t v)->IsL K P H (ts.map dT) vs
 |[],[],_,_=>rfl
 |[],_::_,h,_=>by simp at h
 |_::_,[],h,_=>by simp at h
 |t::ts,v::vs,h,hi=>by
  obtain⟨b,c,rfl,h1,h2,h3,h4⟩:=hi 0 t v rfl rfl
  exact⟨_,_,rfl,⟨b,_,rfl,.inl ⟨hp b h1,.inl h3⟩,⟨_,_,rfl,rfl,⟨_,_,rfl,rfl,⟨_,_,rfl,⟨c,_,rfl,.inl ⟨hp c h2,.inl h4⟩,jZ t.2.2⟩,rfl⟩⟩⟩⟩,tY hp (by simpa using h) λk t v e1 e2=>hi (k+1) t v e1 e2⟩
def dR(i:Nat)(env:DE):R (List D):=match env[i]? with
 |some (.val (.lst xs))=>.ok xs
 |some (.own xs)=>.ok xs
 |_=>.bad
theorem nD(i:Nat){x:Str}(hN:X.N[i]?=some x:=by rfl)(hv:yd X.env.scope x:=by first|exact Or.inl rfl|exact Or.inr (Or.inl rfl)|exact Or.inr (Or.inr rfl))(hd:(x==("__debug__":Str))=false:=by decide)
  (hcd:(x==("__classdict__":Str))=false:=by decide):PE X (.Name x pos) (tD X.K E (dF i)):=imp (lA hN hv hd hcd) λσ H Q ⟨g,env,os,r,m⟩=>by
 unfold dF at m
 cases e:env[i]? with
 |none=>rw[e]at m;exact m.elim
 |some sl=>
  cases sl with
  |no=>rw[e]at m;exact m.elim
  |raw _=>rw[e]at m;exact m.elim
  |deep _=>rw[e]at m;exact m.elim
  |own xs=>rw[e]at m;exact m.elim
  |val d=>
   rw[e]at m
   obtain⟨v,h1,h2⟩:=r.val i d e
   exact⟨v,h1,m v H (aF.refl H) h2⟩
theorem nB(i:Nat){x:Str}(hN:X.N[i]?=some x:=by rfl)(hv:yd X.env.scope x:=by first|exact Or.inl rfl|exact Or.inr (Or.inl rfl)|exact Or.inr (Or.inr rfl))(hd:(x==("__debug__":Str))=false:=by decide)
  (hcd:(x==("__classdict__":Str))=false:=by decide):PE X (.Name x pos) (tB X.K E (aC i)):=imp (lA hN hv hd hcd) λσ H Q ⟨g,env,os,r,m⟩=>by
 unfold aC at m
 cases e:env[i]? with
 |none=>rw[e]at m;exact m.elim
 |some sl=>
  cases sl with
  |no=>rw[e]at m;exact m.elim
  |raw _=>rw[e]at m;exact m.elim
  |own xs=>
   rw[e]at m
   obtain⟨a,vs,h1,_,h3,h4⟩:=r.own i xs e
   exact⟨.ref a,h1,m _ H (aF.refl H) ⟨a,vs,rfl,.inl ⟨trivial,.inl h3⟩,h4.weak⟩⟩
  |deep c=>
   obtain⟨A,dd⟩:=r.Dv
   obtain⟨a,as,_,h1,h3⟩:=dd.dp i c e
   cases c with
   |ls nss=>
    rw[e]at m
    exact⟨.ref a,h1,m _ H (aF.refl H) ⟨a,_,rfl,.inl ⟨trivial,.inl h3.ha⟩,pR h3.len h3.it⟩⟩
   |tp nss=>
    rw[e]at m
    have h4:vD HO.tup H os a as nss:=h3
    exact⟨.ref a,h1,m _ H (aF.refl H) ⟨a,_,rfl,.inl ⟨trivial,.inl h4.ha⟩,pR h4.len h4.it⟩⟩
   |dk ks=>rw[e]at m;exact m.elim
   |tq n ns=>
    rw[e]at m
    obtain⟨b,_,_,_,_,h4,h5⟩:=h3
    exact⟨.ref a,h1,m _ H (aF.refl H) ⟨a,_,rfl,.inl ⟨trivial,.inl h4⟩,⟨_,_,rfl,rfl,⟨_,_,rfl,⟨b,_,rfl,.inl ⟨trivial,.inl h5⟩,jZ ns⟩,rfl⟩⟩⟩⟩
   |tr ts=>
    rw[e]at m
    have h4:FE H os a as ts:=h3
    obtain⟨vs,q1,q2,q3⟩:=h4.at_
    exact⟨.ref a,h1,m _ H (aF.refl H) ⟨a,_,rfl,.inl ⟨trivial,.inl q1⟩,tY (λ_ _=>trivial) q2 q3⟩⟩
   |tv ds ns=>
    rw[e]at m
    obtain⟨b,c,ws,_,_,_,_,_,h4,h5,h6,h7⟩:=h3
    exact⟨.ref a,h1,m _ H (aF.refl H) ⟨a,_,rfl,.inl ⟨trivial,.inl h4⟩,⟨_,_,rfl,⟨c,ws,rfl,.inl ⟨trivial,.inl h6⟩,IsL.ext ⟨λ_ _ _ _=>trivial,λ_ _ _ q=>q⟩ _ _ h7⟩,⟨_,_,rfl,⟨b,_,rfl,.inl ⟨trivial,.inl h5⟩,jZ ns⟩,rfl⟩⟩⟩⟩
  |val d=>
   rw[e]at m
   obtain⟨v,h1,h2⟩:=r.val i d e
   exact⟨v,h1,m v H (aF.refl H) h2.weak⟩
theorem nL(i:Nat){x:Str}(hN:X.N[i]?=some x:=by rfl)(hv:yd X.env.scope x:=by first|exact Or.inl rfl|exact Or.inr (Or.inl rfl)|exact Or.inr (Or.inr rfl))(hd:(x==("__debug__":Str))=false:=by decide)
  (hcd:(x==("__classdict__":Str))=false:=by decide):PE X (.Name x pos) (tL X.K E (dR i)):=imp (lA hN hv hd hcd) λσ H Q ⟨g,env,os,r,m⟩=>by
 unfold dR at m
 cases e:env[i]? with
 |none=>rw[e]at m;exact m.elim
 |some sl=>
  cases sl with
  |no=>rw[e]at m;exact m.elim
  |raw _=>rw[e]at m;exact m.elim
  |deep _=>rw[e]at m;exact m.elim
  |own xs=>
   rw[e]at m
   obtain⟨a,vs,h1,_,h3,h4⟩:=r.own i xs e
   exact⟨.ref a,h1,m _ _ H (aF.refl H) (jV.of h3) h4⟩
  |val d=>
   cases d with
   |lst xs=>
    rw[e]at m
    obtain⟨v,h1,a,vs,rfl,h3,h4⟩:=r.val i _ e
    exact⟨_,h1,m _ _ H (aF.refl H) h3.sq h4⟩
   |non=>rw[e]at m;exact m.elim
   |bl _=>rw[e]at m;exact m.elim
   |int _=>rw[e]at m;exact m.elim
   |str _=>rw[e]at m;exact m.elim
   |exc _=>rw[e]at m;exact m.elim
   |fn _=>rw[e]at m;exact m.elim
   |tup _=>rw[e]at m;exact m.elim
theorem cI{i j}:PE X (.Constant (.int i) j pos) (tD X.K E λ_=>.ok (.int i)):=imp E0 λσ H Q ⟨g,env,os,r,m⟩=>m _ H (aF.refl H) rfl
theorem y0{i j}:PE X (.Constant (.bool i) j pos) (tD X.K E λ_=>.ok (.bl i)):=imp HU λσ H Q ⟨g,env,os,r,m⟩=>m _ H (aF.refl H) rfl
theorem cN{j}:PE X (.Constant .none j pos) (tD X.K E λ_=>.ok .non):=imp E3 λσ H Q ⟨g,env,os,r,m⟩=>m _ H (aF.refl H) rfl
theorem cS{i j}:PE X (.Constant (.str i) j pos) (tD X.K E λ_=>.ok (.str i)):=imp E4 λσ H Q ⟨g,env,os,r,m⟩=>m _ H (aF.refl H) rfl
theorem PE.ar {e:Expr}{f:DE->R D}(h:PE X e (tD X.K E f)):PE X e (tB X.K E f):=imp h λσ H Q ⟨g,env,os,r,m⟩=>⟨g,env,os,r,m.mono λd _ q v H' s i=>q v H' s i.weak⟩
theorem PE.m7 {e:Expr}{f:DE->R (List D)}(h:PE X e (tF X.K E f)):PE X e (tD X.K E λenv=>(f env).bind λxs=>.ok (.lst xs)):=imp h λσ H Q ⟨g,env,os,r,m⟩=>⟨g,env,os,r,m.bind.mono λd _ q a vs H' s hn hH i=>by
 refine q _ H' s ⟨a,vs,rfl,.inl ⟨r.fresh hn,.inl hH⟩,IsL.ext ⟨λb o p _=>⟨p.1,λz=>p.2 (mem_cons_of_mem _ z)⟩,λ_ _ _ q=>q⟩ _ _ i⟩⟩
theorem PE.dY {e:Expr}{f:DE->R (List D)}(h:PE X e (tF X.K E f)):PE X e (tL X.K E f):=imp h λσ H Q ⟨g,env,os,r,m⟩=>⟨g,env,os,r,m.mono λd _ q a vs H' s hn hH i=>
 q _ vs H' s (jV.of hH) (IsL.ext ⟨λb o p _=>⟨p.1,λz=>p.2 (mem_cons_of_mem _ z)⟩,λ_ _ _ q=>q⟩ _ _ i)⟩
def zu:D->R (List D)
 |.lst xs=>.ok xs
 |_=>.bad
theorem PE.LD {e:Expr}{f:DE->R D}(h:PE X e (tD X.K E f)):PE X e (tL X.K E λenv=>(f env).bind zu):=imp h λσ H Q ⟨g,env,os,r,m⟩=>⟨g,env,os,r,m.bind.mono λd _ q v H' s i=>by
 cases d with
 |lst xs=>
  obtain⟨a,vs,rfl,h3,h4⟩:=i
  exact q a vs H' s h3.sq h4
 |non=>exact q.elim
 |bl _=>exact q.elim
 |int _=>exact q.elim
 |str _=>exact q.elim
 |exc _=>exact q.elim
 |fn _=>exact q.elim
 |tup _=>exact q.elim⟩
abbrev Tr:Addr->Prop:=λ_=>True
def jk(X:Cx)(r:R2)(k:D->D->Option D):Prop:=∀x y d,k x y=some d->∃z,toV d=some z/\∀H v w (Q:VK),Is X.K Tr H x v->Is X.K Tr H y w->Q z H->r v w H Q
theorem bq{op:Operator}{r:R2}{a b:Expr}{fa fb:DE->R D}{k:D->D->Option D}(ho:nY X (binaryOp op) r)(hk:jk X r k)(ha:PE X a (tB X.K E fa))(hb:PE X b (tB X.K E fb)):
  PE X (.BinOp a op b pos) (tD X.K E λenv=>(fa env).bind λx=>(fb env).bind λy=>R.of (k x y)):=
 imp (Dl ho ha hb) λσ H Q ⟨g,env,os,r,m⟩=>⟨g,env,os,r,m.bind.mono λx _ m1 v H1 s1 i1=>⟨g,env,os,r.same s1,m1.bind.mono λy _ m2 w H2 s2 i2=>by
  obtain⟨d,e,q⟩:=m2.of
  obtain⟨z,hz,hk⟩:=hk x y d e
  exact hk H2 v w Q (i1.same s2) i2 (q z H2 (s1.trans s2) (Is.sc hz))⟩⟩
theorem j0{op:CmpOp}{r:R2}{a b:Expr}{fa fb:DE->R D}{k:D->D->Option D}(ho:nY X (compareOp op) r)(hk:jk X r k)(ha:PE X a (tB X.K E fa))(hb:PE X b (tB X.K E fb))(hm:behindInMarks op b=false):
  PE X (.Compare a [op] [b] pos) (tD X.K E λenv=>(fa env).bind λx=>(fb env).bind λy=>R.of (k x y)):=
 imp (BJ ho ha hb hm) λσ H Q ⟨g,env,os,r,m⟩=>⟨g,env,os,r,m.bind.mono λx _ m1 v H1 s1 i1=>⟨g,env,os,r.same s1,m1.bind.mono λy _ m2 w H2 s2 i2=>by
  obtain⟨d,e,q⟩:=m2.of
  obtain⟨z,hz,hk⟩:=hk x y d e
  exact hk H2 v w Q (i1.same s2) i2 (q z H2 (s1.trans s2) (Is.sc hz))⟩⟩
def cQ:D->R Bool
 |.bl b=>.ok b
 |_=>.bad
theorem bx{op:CmpOp}{r:R2}{a b:Expr}{fa fb:DE->R D}{k:D->D->Option D}(ho:nY X (compareOp op) r)(hk:jk X r k)(ha:PE X a (tB X.K E fa))(hb:PE X b (tB X.K E fb))(hm:behindInMarks op b=false):
  PT X (.Compare a [op] [b] pos) (tT X.K E λenv=>(fa env).bind λx=>(fb env).bind λy=>(R.of (k x y)).bind cQ):=
 FG (BK ho ha hb hm) λσ H Q ⟨g,env,os,r,m⟩=>⟨g,env,os,r,m.bind.mono λx _ m1 v H1 s1 i1=>⟨g,env,os,r.same s1,m1.bind.mono λy _ m2 w H2 s2 i2=>by
  obtain⟨d,e,q⟩:=m2.bind.of
  obtain⟨z,hz,hk⟩:=hk x y d e
  refine hk H2 v w _ (i1.same s2) i2 ?_
  cases d with
  |bl b=>
   cases hz
   exact⟨b,rfl,q H2 (s1.trans s2)⟩
  |non=>exact q.elim
  |lst _=>exact q.elim
  |int _=>exact q.elim
  |str _=>exact q.elim
  |exc _=>exact q.elim
  |fn _=>exact q.elim
  |tup _=>exact q.elim⟩⟩
theorem FH{op Fp:CmpOp}{r r':R2}{a b c:Expr}{fa fb fc:DE->R D}{k k':D->D->Option D}(ho:nY X (compareOp op) r)(hk:jk X r k)(y9:nY X (compareOp Fp) r')(IA:jk X r' k')(ha:PE X a (tB X.K E fa))(hb:PE X b (tB X.K E fb))(hc:PE X c (tB X.K E fc))
  (hm:lastMarks [op,Fp] [b,c]=false:=by with_unfolding_all rfl):
  PE X (.Compare a [op,Fp] [b,c] pos) (tD X.K E λenv=>(fa env).bind λx=>(fb env).bind λy=>(R.of (k x y)).bind λd=>(cQ d).bind λt=>if t=true then(fc env).bind λz=>R.of (k' y z)else .ok (.bl false)):=
 imp (zj ho y9 ha hb hc hm) λσ H Q ⟨g,env,os,r,m⟩=>⟨g,env,os,r,m.bind.mono λx _ m1 v H1 s1 i1=>⟨g,env,os,r.same s1,m1.bind.mono λy _ m2 w H2 s2 i2=>by
  obtain⟨d,e,q⟩:=m2.bind.of
  obtain⟨z,hz,hk⟩:=hk x y d e
  refine hk H2 v w _ (i1.same s2) i2 ?_
  cases d with
  |bl b=>
   cases hz
   refine⟨b,rfl,?_⟩
   cases b with
   |false=>
    rw[if_neg Bool.false_ne_true]
    exact q _ H2 (s1.trans s2) rfl
   |true=>
    rw[if_pos rfl]
    have q':Good E g.H₀ ((fc env).bind λz=>R.of (k' y z)) _:=q
    refine⟨g,env,os,r.same (s1.trans s2),q'.bind.mono λz _ m3 w3 H3 s3 i3=>?_⟩
    obtain⟨d',e',q3⟩:=m3.of
    obtain⟨z',LG,IA⟩:=IA y z d' e'
    exact IA H3 w w3 Q (i2.same s3) i3 (q3 z' H3 (s1.trans (s2.trans s3)) (Is.sc LG))
  |non=>exact q.elim
  |lst _=>exact q.elim
  |int _=>exact q.elim
  |str _=>exact q.elim
  |exc _=>exact q.elim
  |fn _=>exact q.elim
  |tup _=>exact q.elim⟩⟩
def IF(X:Cx)(r:V->Hp->VK->Prop)(k:D->Option D):Prop:=∀x d,k x=some d->∃z,toV d=some z/\∀H v (Q:VK),Is X.K Tr H x v->Q z H->r v H Q
theorem B6{op:UnaryOp}{r:V->Hp->VK->Prop}{a:Expr}{fa:DE->R D}{k:D->Option D}(ho:Kl X (unaryOp op) r)(hk:IF X r k)(ha:PE X a (tB X.K E fa)):
  PE X (.UnaryOp op a pos) (tD X.K E λenv=>(fa env).bind λx=>R.of (k x)):=
 imp (Ic ho ha) λσ H Q ⟨g,env,os,r,m⟩=>⟨g,env,os,r,m.bind.mono λx _ m1 v H1 s1 i1=>by
  obtain⟨d,e,q⟩:=m1.of
  obtain⟨z,hz,hk⟩:=hk x d e
  exact hk H1 v Q i1 (q z H1 s1 (Is.sc hz))⟩
def m8:D->D->Option D
 |.int i,.int j=>some (.int (i-j))
 |_,_=>none
def vG:D->D->Option D
 |.int i,.int j=> @ite _ ((-(2^64)<i/\i<2^64)\/(-(2^64)<j/\j<2^64)) (propDecidable _) (some (.int (i*j))) (none)
 |_,_=>none
def tZ:D->D->Option D
 |.int i,.int j=> @ite _ (0<j/\j<1073741824) (propDecidable _) (some (.int (i/j))) (none)
 |_,_=>none
def m9:D->D->Option D
 |.int i,.int j=> @ite _ (0<j) (propDecidable _) (some (.int (i%j))) (none)
 |_,_=>none
def zw:D->D->Option D
 |.int i,.int j=> @ite _ (0<=j/\j<=1000000/\i.natAbs<2^64) (propDecidable _) (some (.int (i^j.toNat))) (none)
 |_,_=>none
def oH:D->Option D
 |.int i=>some (.int (-i))
 |_=>none
def vd:D->D->Option D
 |.int i,.int j=>some (.bl (decide (i<j)))
 |_,_=>none
def IG:D->D->Option D
 |.int i,.int j=>some (.bl (decide (i<=j)))
 |_,_=>none
def zx:D->D->Option D
 |.int i,.int j=>some (.bl (decide (j<i)))
 |_,_=>none
def HB:D->D->Option D
 |.int i,.int j=>some (.bl (decide (j<=i)))
 |_,_=>none
theorem i8{g:Int->Int->V}{h:Int->Int->D}{k:D->D->Option D}(hg:∀i j,toV (h i j)=some (g i j))(hk:∀x y d,k x y=some d->∃i j,x=.int i/\y=.int j/\d=h i j):jk X (vv g) k:=λx y d e=>by
 obtain⟨i,j,rfl,rfl,rfl⟩:=hk x y d e
 refine⟨g i j,hg i j,λH v w Q h1 h2 q=>⟨i,j,h1,h2,q⟩⟩
theorem oW{C:Int->Int->Prop}{g:Int->Int->V}{h:Int->Int->D}{k:D->D->Option D}(hg:∀i j,toV (h i j)=some (g i j))(hk:∀x y d,k x y=some d->∃i j,x=.int i/\y=.int j/\C i j/\d=h i j):jk X (rI C g) k:=λx y d e=>by
 obtain⟨i,j,rfl,rfl,c,rfl⟩:=hk x y d e
 refine⟨g i j,hg i j,λH v w Q h1 h2 q=>⟨i,j,h1,h2,c,q⟩⟩
theorem fI:jk X (vv λi j=>.int (i-j)) m8:=i8 (h:=λi j=>.int (i-j)) (λ_ _=>rfl) λx y d e=>by
 unfold m8 at e
 split at e<;>cases e
 exact⟨_,_,rfl,rfl,rfl⟩
theorem fu:jk X (vv λi j=>.bl (decide (i<j))) vd:=i8 (h:=λi j=>.bl (decide (i<j))) (λ_ _=>rfl) λx y d e=>by
 unfold vd at e
 split at e<;>cases e
 exact⟨_,_,rfl,rfl,rfl⟩
theorem zy:jk X (vv λi j=>.bl (decide (i<=j))) IG:=i8 (h:=λi j=>.bl (decide (i<=j))) (λ_ _=>rfl) λx y d e=>by
 unfold IG at e
 split at e<;>cases e
 exact⟨_,_,rfl,rfl,rfl⟩
theorem j3:jk X (vv λi j=>.bl (decide (j<i))) zx:=i8 (h:=λi j=>.bl (decide (j<i))) (λ_ _=>rfl) λx y d e=>by
 unfold zx at e
 split at e<;>cases e
 exact⟨_,_,rfl,rfl,rfl⟩
theorem vH:jk X (vv λi j=>.bl (decide (j<=i))) HB:=i8 (h:=λi j=>.bl (decide (j<=i))) (λ_ _=>rfl) λx y d e=>by
 unfold HB at e
 split at e<;>cases e
 exact⟨_,_,rfl,rfl,rfl⟩
theorem oX:jk X (rI BI λi j=>.int (i*j)) vG:=oW (h:=λi j=>.int (i*j)) (λ_ _=>rfl) λx y d e=>by
 unfold vG at e
 split at e
 ·split at e
  ·rename_i i j c
   cases e
   exact⟨i,j,rfl,rfl,c,rfl⟩
  ·cases e
 ·cases e
theorem lY:jk X (rI Ig λi j=>.int (i/j)) tZ:=oW (h:=λi j=>.int (i/j)) (λ_ _=>rfl) λx y d e=>by
 unfold tZ at e
 split at e
 ·split at e
  ·rename_i i j c
   cases e
   exact⟨i,j,rfl,rfl,c,rfl⟩
  ·cases e
 ·cases e
theorem fJ:jk X (rI (λ_ j=>0<j) λi j=>.int (i%j)) m9:=oW (h:=λi j=>.int (i%j)) (λ_ _=>rfl) λx y d e=>by
 unfold m9 at e
 split at e
 ·split at e
  ·rename_i i j c
   cases e
   exact⟨i,j,rfl,rfl,c,rfl⟩
  ·cases e
 ·cases e
theorem B7:jk X (rI Ih λi j=>.int (i^j.toNat)) zw:=oW (h:=λi j=>.int (i^j.toNat)) (λ_ _=>rfl) λx y d e=>by
 unfold zw at e
 split at e
 ·split at e
  ·rename_i i j c
   cases e
   exact⟨i,j,rfl,rfl,c,rfl⟩
  ·cases e
 ·cases e
theorem gA:IF X (rU λi=>.int (-i)) oH:=λx d e=>by
 unfold oH at e
 split at e<;>cases e
 exact⟨_,rfl,λH v Q h1 q=>⟨_,h1,q⟩⟩
theorem j4{a:Expr}{f:DE->R Bool}(h:PT X a (tT X.K E f)):PT X (.UnaryOp .Not a pos) (tT X.K E λenv=>(f env).bind λb=>.ok (!b)):=
 FG (E6 h) λσ H Q ⟨g,env,os,r,m⟩=>⟨g,env,os,r,m.bind.mono λb _ q H' s=>q H' s⟩
theorem zz{a:Expr}{f:DE->R Bool}(h:PT X a (tT X.K E f)):PW X (.BoolOp .And [a] pos) (tT X.K E f):=pw_and1 h
theorem rV{a:Expr}{f:DE->R Bool}(h:PT X a (tT X.K E f)):PW X (.BoolOp .Or [a] pos) (tT X.K E f):=pw_or1 h
theorem zA{a b:Expr}{rest:List Expr}{f k:DE->R Bool}(h:PT X a (tT X.K E f))(h2:PW X (.BoolOp .And (b::rest) pos) (tT X.K E k)):PW X (.BoolOp .And (a::b::rest) pos) (tT X.K E λenv=>(f env).bind λt=>if t=true then k env else .ok false):=
 IE (pw_and h h2) λσ H Q ⟨g,env,os,r,m⟩=>⟨g,env,os,r,m.bind.mono λt _ q H' s=>by
  cases t with
  |true=>exact⟨g,env,os,r.same s,Good.mono (show Good E g.H₀ (k env) _ from q) λb _ q2 H2 s2=>q2 H2 (s.trans s2)⟩
  |false=>exact q H' s⟩
theorem oJ{a b:Expr}{rest:List Expr}{f k:DE->R Bool}(h:PT X a (tT X.K E f))(h2:PW X (.BoolOp .Or (b::rest) pos) (tT X.K E k)):PW X (.BoolOp .Or (a::b::rest) pos) (tT X.K E λenv=>(f env).bind λt=>if t=true then .ok true else k env):=
 IE (pw_or h h2) λσ H Q ⟨g,env,os,r,m⟩=>⟨g,env,os,r,m.bind.mono λt _ q H' s=>by
  cases t with
  |false=>exact⟨g,env,os,r.same s,Good.mono (show Good E g.H₀ (k env) _ from q) λb _ q2 H2 s2=>q2 H2 (s.trans s2)⟩
  |true=>exact q H' s⟩
theorem lZ{e:Expr}{f:DE->R D}(h:PE X e (tB X.K E f))(he:∀whole,isTrue e X.env whole=(do let v<-whole;standAt e.pos;holding [v] (truthy v)):=by intro _;rfl):PT X e (tT X.K E λenv=>(f env).bind cQ):=
 FG (E5 h he) λσ H Q ⟨g,env,os,r,m⟩=>⟨g,env,os,r,m.bind.mono λd _ q v H' s i=>by
  cases d with
  |bl b=>exact⟨b,i,q H' s⟩
  |non=>exact q.elim
  |lst _=>exact q.elim
  |int _=>exact q.elim
  |str _=>exact q.elim
  |exc _=>exact q.elim
  |fn _=>exact q.elim
  |tup _=>exact q.elim⟩
theorem rW{op}{a:Expr}{f:DE->R D}(h:PE X a (tD X.K E f)):PE X (.BoolOp op [a] pos) (tD X.K E f):=E7 h
theorem rX{a b:Expr}{rest:List Expr}{f k:DE->R D}(h:PE X a (tB X.K E f))(h2:PE X (.BoolOp .And (b::rest) pos) (tD X.K E k)):PE X (.BoolOp .And (a::b::rest) pos) (tD X.K E λenv=>(f env).bind λx=>(cQ x).bind λt=>if t=true then k env else .ok (.bl false)):=
 imp (E8 h h2) λσ H Q ⟨g,env,os,r,m⟩=>⟨g,env,os,r,m.bind.mono λd _ q v H' s i=>by
  cases d with
  |bl b=>
   refine⟨b,i,?_⟩
   cases b with
   |true=>
    rw[if_pos rfl]
    exact⟨g,env,os,r.same s,Good.mono (show Good E g.H₀ (k env) _ from q) λb _ q2 v2 H2 s2 i2=>q2 v2 H2 (s.trans s2) i2⟩
   |false=>
    rw[if_neg Bool.false_ne_true]
    exact q _ H' s rfl
  |non=>exact q.elim
  |lst _=>exact q.elim
  |int _=>exact q.elim
  |str _=>exact q.elim
  |exc _=>exact q.elim
  |fn _=>exact q.elim
  |tup _=>exact q.elim⟩
theorem Pf{a b:Expr}{rest:List Expr}{f k:DE->R D}(h:PE X a (tB X.K E f))(h2:PE X (.BoolOp .Or (b::rest) pos) (tD X.K E k)):PE X (.BoolOp .Or (a::b::rest) pos) (tD X.K E λenv=>(f env).bind λx=>(cQ x).bind λt=>if t=true then .ok (.bl true)else k env):=
 imp (HW h h2) λσ H Q ⟨g,env,os,r,m⟩=>⟨g,env,os,r,m.bind.mono λd _ q v H' s i=>by
  cases d with
  |bl b=>
   refine⟨b,i,?_⟩
   cases b with
   |false=>
    rw[if_neg Bool.false_ne_true]
    exact⟨g,env,os,r.same s,Good.mono (show Good E g.H₀ (k env) _ from q) λb _ q2 v2 H2 s2 i2=>q2 v2 H2 (s.trans s2) i2⟩
   |true=>
    rw[if_pos rfl]
    exact q _ H' s rfl
  |non=>exact q.elim
  |lst _=>exact q.elim
  |int _=>exact q.elim
  |str _=>exact q.elim
  |exc _=>exact q.elim
  |fn _=>exact q.elim
  |tup _=>exact q.elim⟩
theorem Pg{c a b:Expr}{fc:DE->R Bool}{fa fb:DE->R D}(hc:PT X c (tT X.K E fc))(ha:PE X a (tD X.K E fa))(hb:PE X b (tD X.K E fb)):PE X (.IfExp c a b pos) (tD X.K E λenv=>(fc env).bind λt=>if t=true then fa env else fb env):=
 imp (za hc ha hb) λσ H Q ⟨g,env,os,r,m⟩=>⟨g,env,os,r,m.bind.mono λt _ q H' s=>by
  cases t with
  |true=>
   rw[if_pos rfl]
   exact⟨g,env,os,r.same s,Good.mono (show Good E g.H₀ (fa env) _ from q) λb _ q2 v2 H2 s2 i2=>q2 v2 H2 (s.trans s2) i2⟩
  |false=>
   rw[if_neg Bool.false_ne_true]
   exact⟨g,env,os,r.same s,Good.mono (show Good E g.H₀ (fb env) _ from q) λb _ q2 v2 H2 s2 i2=>q2 v2 H2 (s.trans s2) i2⟩⟩
theorem d7:PA X [] (Bk X.K E λ_=>.ok []):=B5 jY λσ H Q ⟨g,env,os,r,m⟩=>m [] H (aF.refl H) rfl
theorem aO:PA X [] (pQ X.K E λ_=>.ok []):=B5 jY λσ H Q ⟨g,env,os,r,m⟩=>m [] H (aF.refl H) rfl
theorem aB{e:Expr}{es:List Expr}{f:DE->R D}{k:DE->R (List D)}(ha:PE X e (tD X.K E f))(hr:PA X es (Bk X.K E k))(hs:starEach (e::es) X.env=(false,eval e X.env)::starEach es X.env:=by rfl):
  PA X (e::es) (Bk X.K E λenv=>(f env).bind λx=>(k env).bind λxs=>.ok (x::xs)):=
 B5 (fH ha hr hs) λσ H Q ⟨g,env,os,r,m⟩=>⟨g,env,os,r,m.bind.mono λx _ m1 v H1 s1 i1=>⟨g,env,os,r.same s1,m1.bind.mono λxs _ m2 vs H2 s2 i2=>m2 (v::vs) H2 (s1.trans s2) (.cons (i1.same s2) i2)⟩⟩
theorem ai{e:Expr}{es:List Expr}{f:DE->R D}{k:DE->R (List D)}(ha:PE X e (tB X.K E f))(hr:PA X es (pQ X.K E k))(hs:starEach (e::es) X.env=(false,eval e X.env)::starEach es X.env:=by rfl):
  PA X (e::es) (pQ X.K E λenv=>(f env).bind λx=>(k env).bind λxs=>.ok (x::xs)):=
 B5 (fH ha hr hs) λσ H Q ⟨g,env,os,r,m⟩=>⟨g,env,os,r,m.bind.mono λx _ m1 v H1 s1 i1=>⟨g,env,os,r.same s1,m1.bind.mono λxs _ m2 vs H2 s2 i2=>m2 (v::vs) H2 (s1.trans s2) (.cons (i1.same s2) i2)⟩⟩
def fit{α:Type}(xs:List α):R (List α):= @ite _ (xs.length<=sizeLine) (propDecidable _) (.ok xs) (.bad)
theorem Good.fit {α:Type}{H₀:Hp}{xs:List α}{p:List α->Prop}(h:Good E H₀ (fit xs) p):xs.length<=sizeLine/\p xs:=by
 unfold DL.fit at h
 split at h
 ·rename_i c
  exact⟨c,h⟩
 ·exact h.elim
theorem B8{K:PySem.W.Frag}{g:Gh}{env:DE}{σ:St}{H H1:Hp}{os:List Addr}{ds:List D}{vs:List V}{p:Addr}(r:Rel K g env σ H os)(s1:aF H H1)(hp:H1 p=none)(i:IsL K (g.P os) H1 ds vs):
  aF H (upd H1 p (.lst vs))/\H p=none/\upd H1 p (.lst vs) p=some (.lst vs)/\IsL K (g.P (p::os)) (upd H1 p (.lst vs)) ds vs:=
 ⟨s1.trans (dq hp _),s1.free hp,bO,IsL.ext ((r.same s1).apart (dq hp _) hp) _ _ i⟩
theorem j5{es:List Expr}{f:DE->R (List D)}(h:PA X es (Bk X.K E f)):PE X (.List es pos) (tF X.K E λenv=>(f env).bind fit):=
 imp (Ft h) λσ H Q ⟨g,env,os,r,m⟩=>⟨g,env,os,r,m.bind.mono λds _ m1 vs H1 s1 i1=>by
  obtain⟨z,q⟩:=m1.fit
  refine⟨by rw[i1.length];exact z,λp hp=>?_⟩
  obtain⟨a1,a2,a3,a4⟩:=B8 r s1 hp i1
  exact q p vs _ a1 a2 a3 a4⟩
theorem yu{es:List Expr}{x1}{f:DE->R (List D)}(h:PA X es (Bk X.K E f)):PE X (.Tuple es x1 pos) (tD X.K E λenv=>((f env).bind fit).bind λds=>.ok (.tup ds)):=
 imp (zk h) λσ H Q ⟨g,env,os,r,m⟩=>⟨g,env,os,r,m.bind.bind.mono λds _ m1 vs H1 s1 i1=>by
  obtain⟨z,q⟩:=m1.fit
  refine⟨by rw[i1.length];exact z,λp hp=>?_⟩
  exact q _ _ (s1.trans (dq hp _)) ⟨p,vs,rfl,.inl ⟨(r.same s1).fresh hp,.inl bO⟩,i1.same (dq hp _)⟩⟩
end
section
variable{X:Cx}{E:Str->Hp->Prop}{pos:Pos}
def II(K:PySem.W.Frag):R2:=λx y H Q=>∃l b xs zs,x=.ref l/\y=.ref b/\jV K H l xs/\jV K H b zs/\xs.length+zs.length<=sizeLine/\∀p,H p=none->Q (.ref p) (upd H p (.lst (xs++zs)))
theorem B9:nY X (binaryOp .Add) (II X.K):=by
 intro pins s σ H x y v u Q I rx ry h
 obtain⟨l,b,xs,zs,rfl,rfl,hH,hB,hz,q⟩:=h
 cases rx
 cases ry
 obtain⟨its,r,p1,z1⟩:=I.list hH
 obtain⟨its2,r2,p2,z2⟩:=I.list hB
 have hl:=r.length
 have hl2:=r2.length
 obtain⟨o1,n1,e1,c1,d1,t1⟩:=p1
 obtain⟨o2,n2,e2,c2,d2,t2⟩:=p2
 obtain⟨oc,od,Ph,yW⟩:=o1
 obtain⟨Pj,Pk,LH,LJ⟩:=o2
 have Pn:oc=_:=c1
 have Po:od=_:=d1
 have Pp:Ph=_:=t1
 have Pq:Pj=_:=c2
 have Pu:Pk=_:=d2
 have Pw:LH=_:=t2
 subst Pn Po Pp Pq Pu Pw
 have ea:its.toArray++its2.toArray=(its++its2).toArray:=by simp
 refine concat_meets ⟨_,e1,rfl⟩ ⟨_,e2,rfl⟩ noFill_list_add seq_list_add PySem.F.slot_list_add PySem.F.entry_list_add (PySem.F.args_list_add_2 _ _) (list_addW l b its.toArray its2.toArray n1 n2 none none yW LJ (by rw[size_toArray,size_toArray];omega)) ⟨e1,e2,?_⟩
 rw[ea]
 exact⟨.ref _,_,I.Ln (t':=s.toks) (r.append r2) (by rw[length_append];omega),rfl,q _ I.fresh⟩
theorem lB{a b:Expr}{fa fb:DE->R (List D)}(ha:PE X a (tL X.K E fa))(hb:PE X b (tL X.K E fb)):PE X (.BinOp a .Add b pos) (tF X.K E λenv=>(fa env).bind λx=>(fb env).bind λy=>fit (x++y)):=
 imp (Dl B9 ha hb) λσ H Q ⟨g,env,os,r,m⟩=>⟨g,env,os,r,m.bind.mono λx _ m1 a1 v1 H1 s1 q1 i1=>⟨g,env,os,r.same s1,m1.bind.mono λy _ m2 a2 v2 H2 s2 q2 i2=>by
  obtain⟨z,q⟩:=m2.fit
  rw[length_append]at z
  refine⟨a1,a2,v1,v2,rfl,rfl,s2.seq q1,q2,by rw[i1.length,i2.length];exact z,λp hp=>?_⟩
  obtain⟨b1,b2,b3,b4⟩:=B8 r (s1.trans s2) hp ((i1.same s2).app i2)
  exact q p _ _ b1 b2 b3 b4⟩⟩
def tO(K:PySem.W.Frag)(E:Str->Hp->Prop)(f:DE->R (Option Int)):TO:=λσ H Q=>∃g env os,Rel K g env σ H os/\Good E g.H₀ (f env) λo=>∀H',aF H H'->Q o H'
theorem IJ{e:Option Expr}{t t':TO}(h:L2.PO X e t)(w:∀σ H Q,t' σ H Q->t σ H Q):L2.PO X e t':=λpins s σ H Q I q=>h pins s σ H Q I (w σ H Q q)
theorem tJ:L2.PO X none (tO X.K E λ_=>.ok none):=IJ BP λσ H Q ⟨g,env,os,r,m⟩=>m H (aF.refl H)
def n9:D->R (Option Int)
 |.int i=>.ok (some i)
 |_=>.bad
theorem gB{e:Expr}{f:DE->R D}(h:PE X e (tB X.K E f)):L2.PO X (some e) (tO X.K E λenv=>(f env).bind n9):=IJ (BQ h) λσ H Q ⟨g,env,os,r,m⟩=>⟨g,env,os,r,m.bind.mono λd _ q v H' s i=>by
 cases d with
 |int k=>exact⟨k,i,q H' s⟩
 |non=>exact q.elim
 |bl _=>exact q.elim
 |lst _=>exact q.elim
 |str _=>exact q.elim
 |exc _=>exact q.elim
 |fn _=>exact q.elim
 |tup _=>exact q.elim⟩
def cut{α:Type}(xs:List α)(lo hi:Option Int):List α:=(xs.drop (HT.dX xs.length 0 lo)).take (HT.dX xs.length xs.length hi-HT.dX xs.length 0 lo)
theorem IsL.cut {K:PySem.W.Frag}{P:Addr->Prop}{H:Hp}{ds:List D}{vs:List V}(h:IsL K P H ds vs)(lo hi:Option Int):IsL K P H (DL.cut ds lo hi) (tU vs lo hi):=by
 unfold DL.cut tU
 rw[h.length]
 exact(h.drop _).take _
theorem b7{e:Expr}{lo hi:Option Expr}{f:DE->R (List D)}{fl fh:DE->R (Option Int)}{p2:Pos}(he:PE X e (tL X.K E f))(hl:L2.PO X lo (tO X.K E fl))(hh:L2.PO X hi (tO X.K E fh)):
  PE X (.Subscript e (.Slice lo hi none p2) pos) (tF X.K E λenv=>(f env).bind λx=>(fl env).bind λl=>(fh env).bind λh=>.ok (cut x l h)):=
 imp (tR BV he hl hh) λσ H Q ⟨g,env,os,r,m⟩=>⟨g,env,os,r,m.bind.mono λx _ m1 a1 v1 H1 s1 q1 i1=>⟨g,env,os,r.same s1,m1.bind.mono λl _ m2 H2 s2=>⟨g,env,os,r.same (s1.trans s2),m2.bind.mono λh _ m3 H3 s3=>by
  refine⟨a1,v1,rfl,s3.seq (s2.seq q1),λp hp=>?_⟩
  obtain⟨b1,b2,b3,b4⟩:=B8 r (s1.trans (s2.trans s3)) hp (((i1.same s2).same s3).cut l h)
  exact m3 p _ _ b1 b2 b3 b4⟩⟩⟩
theorem IsL.jH {K:PySem.W.Frag}{P:Addr->Prop}{H:Hp}{ds:List D}{vs:List V}{i:Int}{d:D}(h:IsL K P H ds vs)(e:L2.jH ds i=some d):∃v,L2.jH vs i=some v/\Is K P H d v:=by
 unfold L2.jH at e⊢
 rw[h.length]
 cases q:Dr ds.length i with
 |none=>rw[q]at e;cases e
 |some j=>
  rw[q]at e
  exact h.get e
def kL:D->D->R D
 |.lst xs,.int i=>R.of (jH xs i)
 |.tup xs,.int i=>R.of (jH xs i)
 |_,_=>.bad
theorem rf{a b:Expr}{fa fb:DE->R D}(ha:PE X a (tD X.K E fa))(hb:PE X b (tB X.K E fb))(hs:lV b:=by exact λ_ _=>rfl):PE X (.Subscript a b pos) (tD X.K E λenv=>(fa env).bind λx=>(fb env).bind λy=>kL x y):=
 imp (xh zp ha hb hs) λσ H Q ⟨g,env,os,r,m⟩=>⟨g,env,os,r,m.bind.mono λx _ m1 v H1 s1 i1=>⟨g,env,os,r.same s1,m1.bind.mono λy _ m2 w H2 s2 i2=>by
  unfold kL at m2
  split at m2
  ·rename_i xs i _ _
   obtain⟨d,e,q⟩:=m2.of
   have FI:=i1.same s2
   obtain⟨a,vs,rfl,h1,h2⟩:=FI
   obtain⟨z,e2,h3⟩:=IsL.jH h2 e
   exact .inl ⟨a,vs,i,z,rfl,i2,h1.sq,e2,q z H2 (s1.trans s2) h3⟩
  ·rename_i xs i _ _
   obtain⟨d,e,q⟩:=m2.of
   have FI:=i1.same s2
   obtain⟨a,vs,rfl,h1,h2⟩:=FI
   obtain⟨z,e2,h3⟩:=IsL.jH h2 e
   exact .inr (.inl ⟨a,vs,i,z,rfl,i2,h1.sq,e2,q z H2 (s1.trans s2) h3⟩)
  ·exact m2.elim⟩⟩
theorem Dy{a b:Expr}{fa fb:DE->R D}(ha:PE X a (tB X.K E fa))(hb:PE X b (tB X.K E fb))(hs:lV b:=by exact λ_ _=>rfl):PE X (.Subscript a b pos) (tB X.K E λenv=>(fa env).bind λx=>(fb env).bind λy=>kL x y):=
 imp (xh zp ha hb hs) λσ H Q ⟨g,env,os,r,m⟩=>⟨g,env,os,r,m.bind.mono λx _ m1 v H1 s1 i1=>⟨g,env,os,r.same s1,m1.bind.mono λy _ m2 w H2 s2 i2=>by
  unfold kL at m2
  split at m2
  ·rename_i xs i _ _
   obtain⟨d,e,q⟩:=m2.of
   have FI:=i1.same s2
   obtain⟨a,vs,rfl,h1,h2⟩:=FI
   obtain⟨z,e2,h3⟩:=IsL.jH h2 e
   exact .inl ⟨a,vs,i,z,rfl,i2,h1.sq,e2,q z H2 (s1.trans s2) h3⟩
  ·rename_i xs i _ _
   obtain⟨d,e,q⟩:=m2.of
   have FI:=i1.same s2
   obtain⟨a,vs,rfl,h1,h2⟩:=FI
   obtain⟨z,e2,h3⟩:=IsL.jH h2 e
   exact .inr (.inl ⟨a,vs,i,z,rfl,i2,h1.sq,e2,q z H2 (s1.trans s2) h3⟩)
  ·exact m2.elim⟩⟩
def jS(xs:List D):D->R D
 |.int i=>R.of (jH xs i)
 |_=>.bad
theorem kM{a b:Expr}{fa:DE->R (List D)}{fb:DE->R D}(ha:PE X a (tL X.K E fa))(hb:PE X b (tB X.K E fb))(hs:lV b:=by exact λ_ _=>rfl):PE X (.Subscript a b pos) (tD X.K E λenv=>(fa env).bind λx=>(fb env).bind λy=>jS x y):=
 imp (xh xj ha hb hs) λσ H Q ⟨g,env,os,r,m⟩=>⟨g,env,os,r,m.bind.mono λx _ m1 a1 v1 H1 s1 q1 i1=>⟨g,env,os,r.same s1,m1.bind.mono λy _ m2 w H2 s2 i2=>by
  unfold jS at m2
  split at m2
  ·rename_i i _
   obtain⟨d,e,q⟩:=m2.of
   obtain⟨z,e2,h3⟩:=(i1.same s2).jH e
   exact⟨a1,v1,i,z,rfl,i2,s2.seq q1,e2,q z H2 (s1.trans s2) h3⟩
  ·exact m2.elim⟩⟩
def Ca(X:Cx)(r:List V->Hp->VK->Prop)(k:List D->Option D):Prop:=∀ds d,k ds=some d->∃z,toV d=some z/\∀H vs (Q:VK),IsL X.K Tr H ds vs->Q z H->r vs H Q
theorem b8{id:String}{x:Str}{p:Pos}{e:Expr}{es:List Expr}{f:DE->R (List D)}{r:List V->Hp->VK->Prop}{k:List D->Option D}(hc:pL X (.builtin id) r)(hk:Ca X r k)(hm:X.mg x=none)(hv:bootBuiltins x=some (.builtin id))(ha:PA X (e::es) (pQ X.K E f))
  (hg:Gl X x:=by rfl)(hn:x≠"__name__":=by decide)(hdb:(x==("__debug__":Str))=false:=by decide)
  (he:starEach (e::es) X.env=(false,eval e X.env)::starEach es X.env:=by rfl)(hpl:(backTo pos (starEach es X.env)).any (·.1)=false:=by rfl):PE X (.Call (.Name x p) (e::es) [] pos) (tD X.K E λenv=>(f env).bind λds=>R.of (k ds)):=
 imp (pM hc hg hm hv ha hn hdb he hpl) λσ H Q ⟨g,env,os,r,m⟩=>⟨g,env,os,r,m.bind.mono λds _ m1 vs H1 s1 i1=>by
  obtain⟨d,e,q⟩:=m1.of
  obtain⟨z,hz,hk⟩:=hk ds d e
  exact hk H1 vs Q i1 (q z H1 s1 (Is.sc hz))⟩
theorem IsL.yv {K:PySem.W.Frag}{P:Addr->Prop}{H:Hp}{d:D}{vs:List V}(h:IsL K P H [d] vs):∃v,vs=[v]/\Is K P H d v:=by
 obtain⟨v,r,rfl,p,q⟩:=h
 have q':r=[]:=q
 subst q'
 exact⟨v,rfl,p⟩
theorem IsL.IK {K:PySem.W.Frag}{P:Addr->Prop}{H:Hp}{d d2:D}{vs:List V}(h:IsL K P H [d,d2] vs):∃v w,vs=[v,w]/\Is K P H d v/\Is K P H d2 w:=by
 obtain⟨v,r,rfl,p,q⟩:=h
 obtain⟨w,rfl,p2⟩:=IsL.yv q
 exact⟨v,w,rfl,p,p2⟩
def j6:List D->Option D
 |[.lst xs]=>some (.int xs.length)
 |[.tup xs]=>some (.int xs.length)
 |[.str x]=> @ite _ (x.length<=sizeLine) (propDecidable _) (some (.int x.length)) (none)
 |_=>none
theorem cX:Ca X (λxs H Q=>∃x n,xs=[x]/\Ij X.K x H n/\Q (.int n) H) j6:=λds d e=>by
 unfold j6 at e
 split at e
 ·rename_i xs
  cases e
  refine⟨_,rfl,λH vs Q i q=>?_⟩
  obtain⟨v,rfl,a,ws,rfl,h1,h2⟩:=IsL.yv i
  exact⟨_,_,rfl,.inl ⟨ws,h1.sq,(IsL.length h2).symm⟩,q⟩
 ·rename_i xs
  cases e
  refine⟨_,rfl,λH vs Q i q=>?_⟩
  obtain⟨v,rfl,a,ws,rfl,h1,h2⟩:=IsL.yv i
  exact⟨_,_,rfl,.inr ⟨ws,h1.sq,(IsL.length h2).symm⟩,q⟩
 ·split at e
  ·rename_i x c
   cases e
   refine⟨_,rfl,λH vs Q i q=>?_⟩
   obtain⟨v,rfl,i2⟩:=IsL.yv i
   have i':v=.str x:=i2
   subst i'
   exact⟨_,_,rfl,⟨c,rfl⟩,q⟩
  ·cases e
 ·cases e
def lC:List D->Option D
 |[.int i]=>some (.int (if i<0 then-i else i))
 |_=>none
theorem dA:Ca X (λxs H Q=>∃i,xs=[.int i]/\Q (.int (if i<0 then-i else i)) H) lC:=λds d e=>by
 unfold lC at e
 split at e
 ·rename_i i
  cases e
  refine⟨_,rfl,λH vs Q h q=>?_⟩
  obtain⟨v,rfl,h1⟩:=IsL.yv h
  have h':v=.int i:=h1
  subst h'
  exact⟨i,rfl,q⟩
 ·cases e
def t8:List D->Option D
 |[.int i,.int j]=>some (.int (if j>i then j else i))
 |_=>none
theorem t9:Ca X (λxs H Q=>∃i j,xs=[.int i,.int j]/\Q (.int (if j>i then j else i)) H) t8:=λds d e=>by
 unfold t8 at e
 split at e
 ·rename_i i j
  cases e
  refine⟨_,rfl,λH vs Q h q=>?_⟩
  obtain⟨v,w,rfl,h1,h2⟩:=IsL.IK h
  have h':v=.int i:=h1
  have LK:w=.int j:=h2
  subst h' LK
  exact⟨i,j,rfl,q⟩
 ·cases e
theorem DA{p:Pos}{a:Expr}{f:DE->R (List D)}(hm:X.mg "list"=none)(ha:PE X a (tL X.K E f))(hg:Gl X "list":=by rfl)
  (he:starEach [a] X.env=(false,eval a X.env)::starEach [] X.env:=by rfl)(hpl:(backTo pos (starEach [] X.env)).any (·.1)=false:=by rfl):PE X (.Call (.Name "list" p) [a] [] pos) (tF X.K E f):=
 imp (yo rS hg hm (by decide +kernel) (fH ha jY he) (by decide) (by decide) he hpl) λσ H Q ⟨g,env,os,r,m⟩=>⟨g,env,os,r,m.mono λx _ m1 a1 v1 H1 s1 q1 i1=>
  ⟨a1,v1,rfl,.inl q1,λp hp=>by
   obtain⟨b1,b2,b3,b4⟩:=B8 r s1 hp i1
   exact m1 p _ _ b1 b2 b3 b4⟩⟩
def ve(K:PySem.W.Frag)(xc:Str->Value)(m:List D->R D):Sp:=λvs H Q E=>∃P ds,IsL K P H ds vs/\(match m ds with
 |.ok d=>∀v H',aF H H'->Is K (λa=>P a\/H a=none) H' d v->Q v H'
 |.err c=>∀H',aF H H'->E (xc c) none H'
 |.bad=>False)
noncomputable def Bl(K:PySem.W.Frag)(xc:Str->Value)(m:List D->R (List D)):Sp:=λvs H Q E=>∃P ds,IsL K P H ds vs/\(match m ds with
 |.ok xs=>∀a ws H',aF H H'->H a=none->H' a=some (.lst ws)->IsL K (λb=>(P b\/H b=none)/\b≠a) H' xs ws->Q (.ref a) H'
 |.err c=>∀H',aF H H'->E (xc c) none H'
 |.bad=>False)
def EX(xc:Str->Value)(E:Str->Hp->Prop):XK:=λc _ H'=>∃n,c=xc n/\E n H'
theorem rg{E:XK}:Passes n8 X E:=λ_ _ _ _ _ _ _ h=>h.elim
variable{CX:yV}{k:Nat}{fa:Addr}{fd:FuncData}{ps:List Str}{xc:Str->Value}{x:Str}{p:Pos}{e:Expr}{es:List Expr}{f:DE->R (List D)}
theorem fD{m:List D->R D}(F:gb X.prog X.w X.K X.mg X.base CX k fa fd ps (ve X.K xc m))(hm:X.mg x=some (.ref fa))(hk:keepIn X.K (.ref fa)=true)(hb:Binds X.K fd ps [])(hr:aV k X.A)(hx:Passes CX X (EX xc E))
  (ha:PA X (e::es) (Bk X.K E f))(hg:Gl X x:=by rfl)(hdb:(x==("__debug__":Str))=false:=by decide)(he:starEach (e::es) X.env=(false,eval e X.env)::starEach es X.env:=by rfl)(hpl:(backTo pos (starEach es X.env)).any (·.1)=false:=by rfl):
  PE X (.Call (.Name x p) (e::es) [] pos) (tD X.K E λenv=>(f env).bind m):=
 imp (kK F hr hg hm hk hb .nil hx ha hdb he hpl) λσ H Q ⟨g,env,os,r,q⟩=>⟨g,env,os,r,q.bind.mono λds _ q1 vs H1 s1 i1=>by
  show ve X.K xc m (vs++[]) H1 Q _
  rw[append_nil]
  refine⟨g.P os,ds,i1,?_⟩
  cases em:m ds with
  |ok d=>
   rw[em]at q1
   intro v H' s' i'
   exact q1 v H' (s1.trans s') (Is.ext ⟨λa o pa _=>pa.elim (λz=>z) λz=>(r.same s1).fresh z,λ_ _ _ z=>z⟩ _ _ i')
  |err c=>
   rw[em]at q1
   intro H' s'
   exact⟨c,rfl,q1 H' (r.ext.trans (s1.trans s'))⟩
  |bad=>rw[em]at q1;exact q1⟩
theorem fB{m:List D->R D}(F:gb X.prog X.w X.K X.mg X.base CX k fa fd ps (ve X.K xc m))(hsc:∀ds d,m ds=.ok d->∃z,toV d=some z)(hm:X.mg x=some (.ref fa))(hk:keepIn X.K (.ref fa)=true)(hb:Binds X.K fd ps [])(hr:aV k X.A)(hx:Passes CX X (EX xc E))
  (ha:PA X (e::es) (pQ X.K E f))(hg:Gl X x:=by rfl)(hdb:(x==("__debug__":Str))=false:=by decide)(he:starEach (e::es) X.env=(false,eval e X.env)::starEach es X.env:=by rfl)(hpl:(backTo pos (starEach es X.env)).any (·.1)=false:=by rfl):
  PE X (.Call (.Name x p) (e::es) [] pos) (tD X.K E λenv=>(f env).bind m):=
 imp (kK F hr hg hm hk hb .nil hx ha hdb he hpl) λσ H Q ⟨g,env,os,r,q⟩=>⟨g,env,os,r,q.bind.mono λds _ q1 vs H1 s1 i1=>by
  show ve X.K xc m (vs++[]) H1 Q _
  rw[append_nil]
  refine⟨Tr,ds,i1,?_⟩
  cases em:m ds with
  |ok d=>
   rw[em]at q1
   intro v H' s' i'
   obtain⟨z,hz⟩:=hsc ds d em
   have e2:=Is.zt hz i'
   subst e2
   exact q1 _ H' (s1.trans s') (Is.sc hz)
  |err c=>
   rw[em]at q1
   intro H' s'
   exact⟨c,rfl,q1 H' (r.ext.trans (s1.trans s'))⟩
  |bad=>rw[em]at q1;exact q1⟩
theorem fF{m:List D->R (List D)}(F:gb X.prog X.w X.K X.mg X.base CX k fa fd ps (Bl X.K xc m))(hm:X.mg x=some (.ref fa))(hk:keepIn X.K (.ref fa)=true)(hb:Binds X.K fd ps [])(hr:aV k X.A)(hx:Passes CX X (EX xc E))
  (ha:PA X (e::es) (Bk X.K E f))(hg:Gl X x:=by rfl)(hdb:(x==("__debug__":Str))=false:=by decide)(he:starEach (e::es) X.env=(false,eval e X.env)::starEach es X.env:=by rfl)(hpl:(backTo pos (starEach es X.env)).any (·.1)=false:=by rfl):
  PE X (.Call (.Name x p) (e::es) [] pos) (tF X.K E λenv=>(f env).bind m):=
 imp (kK F hr hg hm hk hb .nil hx ha hdb he hpl) λσ H Q ⟨g,env,os,r,q⟩=>⟨g,env,os,r,q.bind.mono λds _ q1 vs H1 s1 i1=>by
  show Bl X.K xc m (vs++[]) H1 Q _
  rw[append_nil]
  refine⟨g.P os,ds,i1,?_⟩
  cases em:m ds with
  |ok d=>
   rw[em]at q1
   intro a ws H' s' hn hH i'
   exact q1 a ws H' (s1.trans s') (s1.free hn) hH (IsL.ext ⟨λb o pb _=>by
    have z:g.P os b:=pb.1.elim (λz=>z) λz=>(r.same s1).fresh z
    exact⟨z.1,λhm=>(mem_cons.mp hm).elim pb.2 z.2⟩,λ_ _ _ z=>z⟩ _ _ i')
  |err c=>
   rw[em]at q1
   intro H' s'
   exact⟨c,rfl,q1 H' (r.ext.trans (s1.trans s'))⟩
  |bad=>rw[em]at q1;exact q1⟩
theorem NR{K:PySem.W.Frag}{P P':Addr->Prop}{H:Hp}:∀{ds:List D}{vs:List V},(∀d∈ds,∃z,toV d=some z)->IsL K P H ds vs->IsL K P' H ds vs
 |[],_,_,h=>h
 |d::ds,_,hs,⟨v,r,e,p,q⟩=>by
  obtain⟨z,hz⟩:=hs d (by simp)
  have e2:=Is.zt hz p
  exact⟨v,r,e,by rw[e2];exact Is.sc hz,NR (λd hd=>hs d (by simp[hd])) q⟩
theorem Py{m:List D->R (List D)}(F:gb X.prog X.w X.K X.mg X.base CX k fa fd ps (Bl X.K xc m))(hsc:∀ds xs,m ds=.ok xs->∀d∈xs,∃z,toV d=some z)(hm:X.mg x=some (.ref fa))(hk:keepIn X.K (.ref fa)=true)(hb:Binds X.K fd ps [])(hr:aV k X.A)(hx:Passes CX X (EX xc E))
  (ha:PA X (e::es) (pQ X.K E f))(hg:Gl X x:=by rfl)(hdb:(x==("__debug__":Str))=false:=by decide)(he:starEach (e::es) X.env=(false,eval e X.env)::starEach es X.env:=by rfl)(hpl:(backTo pos (starEach es X.env)).any (·.1)=false:=by rfl):
  PE X (.Call (.Name x p) (e::es) [] pos) (tF X.K E λenv=>(f env).bind m):=
 imp (kK F hr hg hm hk hb .nil hx ha hdb he hpl) λσ H Q ⟨g,env,os,r,q⟩=>⟨g,env,os,r,q.bind.mono λds _ q1 vs H1 s1 i1=>by
  show Bl X.K xc m (vs++[]) H1 Q _
  rw[append_nil]
  refine⟨Tr,ds,i1,?_⟩
  cases em:m ds with
  |ok d=>
   rw[em]at q1
   intro a ws H' s' hn hH i'
   exact q1 a ws H' (s1.trans s') (s1.free hn) hH (NR (hsc ds d em) i')
  |err c=>
   rw[em]at q1
   intro H' s'
   exact⟨c,rfl,q1 H' (r.ext.trans (s1.trans s'))⟩
  |bad=>rw[em]at q1;exact q1⟩
end
def bj(r:R Out)(k:DE->R Out):R Out:=r.bind λo=>match o with
 |.nx e=>k e
 |o=>.ok o
noncomputable def fX(b:D->DE->R Out):List D->DE->R Out
 |[],e=>.ok (.nx e)
 |x::xs,e=>(b x e).bind λo=>match o with
  |.nx e'=>fX b xs e'
  |.ct e'=>fX b xs e'
  |.bk e'=>.ok (.nx e')
  |.rt d=>.ok (.rt d)
  |.lW ys=>.ok (.lW ys)
  |.tX ys=>.ok (.tX ys)
  |.yY ys=>.ok (.yY ys)
  |.yZ ys=>.ok (.yZ ys)
  |.yX ys=>.ok (.yX ys)
noncomputable def gf(c:DE->R Bool)(b:DE->R Out):Nat->DE->R Out
 |0,_=>.bad
 |n+1,e=>(c e).bind λt=>if t=true then(b e).bind λo=>match o with
  |.nx e'=>gf c b n e'
  |.ct e'=>gf c b n e'
  |.bk e'=>.ok (.nx e')
  |.rt d=>.ok (.rt d)
  |.lW ys=>.ok (.lW ys)
  |.tX ys=>.ok (.tX ys)
  |.yY ys=>.ok (.yY ys)
  |.yZ ys=>.ok (.yZ ys)
  |.yX ys=>.ok (.yX ys)else .ok (.nx e)
section
variable{X:Cx}{E:Str->Hp->Prop}{pos:Pos}
theorem cP:kT X [] (tS X.K E λe=>.ok (.nx e)):=Dw BB λDe σ H ⟨g,env,os,r,m⟩=>m σ H os r (.refl H os)
theorem aA{st:Stmt}{rest:List Stmt}{f k:DE->R Out}(h1:PS X st (tS X.K E f))(h2:kT X rest (tS X.K E k)):kT X (st::rest) (tS X.K E λe=>bj (f e) k):=
 Dw (zb h1 h2) λDe σ H ⟨g,env,os,r,m⟩=>⟨g,env,os,r,(show Good E g.H₀ ((f env).bind _) _ from m).bind.mono λo _ q=>by
  cases o with
  |nx e'=>exact λσ' H' dm r' z=>⟨g,e',dm,r',Good.mono (show Good E g.H₀ (k e') _ from q) λo _ q=>dg.step z q⟩
  |bk e'=>exact q
  |ct e'=>exact q
  |rt d=>exact q
  |lW xs=>exact q
  |tX xs=>exact q
  |yY xs=>exact q
  |yZ xs=>exact q
  |yX xs=>exact q⟩
theorem aX{st:Stmt}{f:DE->R Out}(h1:PS X st (tS X.K E f)):kT X [st] (tS X.K E f):=BC h1
theorem IL{e:Expr}{f:DE->R D}(he:PE X e (tB X.K E f))(hs:swapsWith e none pos.line X.env=pure false:=by rfl):PS X (.Expr e pos) (tS X.K E λenv=>(f env).bind λ_=>.ok (.nx env)):=
 mZ (rN he hs) λDe σ H ⟨g,env,os,r,m⟩=>⟨g,env,os,r,m.bind.mono λd _ q v H' s i=>q σ H' os (r.same s) (.same s os)⟩
theorem IM{g:Gh}{os:List Addr}{K:PySem.W.Frag}{H:Hp}{d:D}{v:V}(h:Is K (g.P os) H d v):Is K (g.P []) H d v:=Is.ext ⟨λ_ _ p _=>⟨p.1,by simp⟩,λ_ _ _ q=>q⟩ _ _ h
theorem bZ{e:Expr}{f:DE->R D}(he:PE X e (tD X.K E f)):PS X (.Return (some e) pos) (tS X.K E λenv=>(f env).bind λd=>.ok (.rt d)):=
 mZ (vm he) λDe σ H ⟨g,env,os,r,m⟩=>⟨g,env,os,r,m.bind.mono λd _ q v H' s i=>q v H' (r.ext.trans s) (IM i)⟩
theorem jI{e:Expr}{f:DE->R (List D)}(he:PE X e (tF X.K E f)):PS X (.Return (some e) pos) (tS X.K E λenv=>(f env).bind λd=>.ok (.lW d)):=
 mZ (vm he) λDe σ H ⟨g,env,os,r,m⟩=>⟨g,env,os,r,m.bind.mono λxs _ q a vs H' s hn hH i=>
  q a vs H' (r.ext.trans s) (r.ext.free hn) hH (IsL.ext ⟨λb o p _=>⟨p.1,λz=>p.2 (by simp at z;simp[z])⟩,λ_ _ _ q=>q⟩ _ _ i)⟩
def ownAt(i:Nat)(env:DE):R (List D):=match env[i]? with
 |some (.own xs)=>.ok xs
 |_=>.bad
theorem Good.own {H₀:Hp}{i:Nat}{env:DE}{p:List D->Prop}(h:Good E H₀ (ownAt i env) p):∃xs,env[i]?=some (.own xs)/\p xs:=by
 unfold ownAt at h
 split at h
 ·rename_i xs e
  exact⟨xs,e,h⟩
 ·exact h.elim
theorem jT{c:Expr}{a b:List Stmt}{fc:DE->R Bool}{fa fb:DE->R Out}(hc:PT X c (tT X.K E fc))(ha:kT X a (tS X.K E fa))(hb:kT X b (tS X.K E fb)):PS X (.If c a b pos) (tS X.K E λenv=>(fc env).bind λt=>if t=true then fa env else fb env):=
 mZ (HZ hc ha hb) λDe σ H ⟨g,env,os,r,m⟩=>⟨g,env,os,r,m.bind.mono λt _ q H' s=>by
  cases t with
  |true=>
   rw[if_pos rfl]
   exact⟨g,env,os,r.same s,Good.mono (show Good E g.H₀ (fa env) _ from q) λo _ q2=>dg.step (.same s os) q2⟩
  |false=>
   rw[if_neg Bool.false_ne_true]
   exact⟨g,env,os,r.same s,Good.mono (show Good E g.H₀ (fb env) _ from q) λo _ q2=>dg.step (.same s os) q2⟩⟩
theorem gC(i:Nat){x:Str}{e:Expr}{f:DE->R D}{pos':Pos}(he:PE X e (tD X.K E f))(hN:X.N.Nodup)(hi:X.N[i]?=some x:=by rfl)(hx:Loc X.env.scope x:=by first|exact Or.inl rfl|exact Or.inr rfl)(hs:swapsWith e (some (.Name x pos')) pos.line X.env=pure false:=by rfl)
  (hf:X.fn x=true\/X.env.scope.names.lookup x=some .local:=by first|exact .inl rfl|exact .inr rfl|assumption):PS X (.Assign [.Name x pos'] e pos) (tS X.K E λenv=>(f env).bind λd=>.ok (.nx (env.set i (.val d)))):=
 mZ (vo hN hi hx he hs hf) λDe σ H ⟨g,env,os,r,m⟩=>⟨g,env,os,r,m.bind.mono λd _ q v H' s h=>q _ H' os ((r.same s).set i h) (.same s os)⟩
theorem lX.new {H H':Hp}{os:List Addr}{a:Addr}(s:aF H H')(hn:H a=none):lX H os H' (a::os):=
 ⟨λb hb=>(mem_cons.mp hb).elim (λz=>.inr (by rw[z];exact hn)) .inl,λ_ h=>s.free h,λ_ _ _ h=>s _ _ h⟩
theorem xo(i:Nat){x:Str}{e:Expr}{f:DE->R (List D)}{pos':Pos}(he:PE X e (tF X.K E f))(hN:X.N.Nodup)(hi:X.N[i]?=some x:=by rfl)(hx:Loc X.env.scope x:=by first|exact Or.inl rfl|exact Or.inr rfl)(hs:swapsWith e (some (.Name x pos')) pos.line X.env=pure false:=by rfl)
  (hf:X.fn x=true\/X.env.scope.names.lookup x=some .local:=by first|exact .inl rfl|exact .inr rfl|assumption):PS X (.Assign [.Name x pos'] e pos) (tS X.K E λenv=>(f env).bind λd=>.ok (.nx (env.set i (.own d)))):=
 mZ (vo hN hi hx he hs hf) λDe σ H ⟨g,env,os,r,m⟩=>⟨g,env,os,r,m.bind.mono λd _ q a vs H' s hn hH h=>q _ H' (a::os) (r.Lx s i hn hH h) (.new s hn)⟩
theorem lX.mut {H:Hp}{os:List Addr}{a:Addr}{o:HO}(ha:a∈os):lX H os (upd H a o) os:=
 ⟨λb hb=>.inl hb,λb h=>by
  by_cases z:b=a
  ·subst z;rw[bO]at h;cases h
  ·rw[aN z]at h;exact h,λb u hb h=>by rw[aN (λz=>hb (by rw[z];exact ha))];exact h⟩
def qH(i:Nat)(env:DE):DE:=match env[i]? with
 |some (.own xs)=>env.set i (.val (.lst xs))
 |_=>env
theorem LL(i:Nat){x:Str}{e:Expr}{f:DE->R D}{p apos fk:Pos}(he:PE X e (tD X.K E f))(hN:X.N[i]?=some x:=by rfl)(hv:yd X.env.scope x:=by first|exact Or.inl rfl|exact Or.inr (Or.inl rfl)|exact Or.inr (Or.inr rfl))(hd:(x==("__debug__":Str))=false:=by decide)
  (hcd:(x==("__classdict__":Str))=false:=by decide)
  (hbase:attributeBase (.Name x p) "append" X.env (eval (.Name x p) X.env)=eval (.Name x p) X.env:=by rfl)
  (hfew:((backTo fk (starEach [e] X.env)).all (λx=> !x.1)&&(backToKw fk (keywordEach [] X.env)).all (λx=>x.1.isSome)
   &&decide ([e].length+([]:List Keyword).length+(if([]:List Keyword).isEmpty then 0 else 1)<30))=true:=by rfl)
  (hline:(apos.endLine==fk.line)=true:=by rfl)(hst:starEach [e] X.env=(false,eval e X.env)::starEach [] X.env:=by rfl)(hplain:(backTo fk (starEach [] X.env)).any (·.1)=false:=by rfl)
  (hs:swapsWith (.Call (.Attribute (.Name x p) "append" apos) [e] [] fk) none pos.line X.env=pure false:=by rfl):
  PS X (.Expr (.Call (.Attribute (.Name x p) "append" apos) [e] [] fk) pos) (tS X.K E λenv=>(ownAt i env).bind λxs=>(f env).bind λd=> @ite _ (xs.length<sizeLine) (propDecidable _) (.ok (.nx (env.set i (.own (xs++[d]))))) (.bad)):=
 mZ (rN (Dt PySem.F.plainAttrs_list PySem.F.slot_list_append PySem.F.type_list_append mY (lA hN hv hd hcd) (fH he jY hst) hbase hfew hline hst hplain) hs) λDe σ H ⟨g,env,os,r,m⟩=>by
  obtain⟨xs,e,m1⟩:=m.bind.own
  obtain⟨a,vs,h1,h2,h3,h4⟩:=r.own i xs e
  refine⟨.ref a,h1,.inl ⟨rfl,vs,jV.of h3⟩,g,env,os,r,m1.bind.mono λd _ q v H' s hi=>?_⟩
  split at q
  ·rename_i c
   refine⟨a,vs,v,rfl,rfl,s _ _ h3,by rw[h4.length];exact c,?_⟩
   exact q σ _ os ((r.same s).mut e h1 h2 ((h4.same s).app (.one hi))) ((lX.same s os).trans (.mut h2))
  ·exact q.elim
theorem LM(i:Nat){x:Str}{e:Expr}{op:Operator}{h:Int->Int->Int}{f:DE->R D}{pos':Pos}(ho:Kf X op (K8 h))(he:PE X e (tB X.K E f))(hN:X.N.Nodup)(hi:X.N[i]?=some x:=by rfl)(hx:Loc X.env.scope x:=by first|exact Or.inl rfl|exact Or.inr rfl)
  (hf:X.fn x=true\/X.env.scope.names.lookup x=some .local:=by first|exact .inl rfl|exact .inr rfl|assumption):
  PS X (.AugAssign (.Name x pos') op e pos) (tS X.K E λenv=>(dF i env).bind λa=>(f env).bind λb=>match a,b with
   |.int u,.int w=>.ok (.nx (env.set i (.val (.int (h u w)))))
   |_,_=>.bad):=
 mZ (Fb hN hi hx he ho hf) λDe σ H ⟨g,env,os,r,m⟩=>by
  dsimp only [dF]at m
  cases q:env[i]? with
  |none=>rw[q]at m;exact m.elim
  |some sl=>
   cases sl with
   |no=>rw[q]at m;exact m.elim
   |raw _=>rw[q]at m;exact m.elim
   |deep _=>rw[q]at m;exact m.elim
   |own _=>rw[q]at m;exact m.elim
   |val a=>
    rw[q]at m
    obtain⟨v,h1,h2⟩:=r.val i a q
    have m':Good E g.H₀ ((f env).bind _) _:=m
    refine⟨v,h1,g,env,os,r,m'.bind.mono λb _ m2 w H' s i2=>?_⟩
    cases a with
    |int u=>
     cases b with
     |int w'=>exact⟨u,w',h2,i2,m2 _ H' os ((r.same s).set i rfl) (.same s os)⟩
     |non=>exact m2.elim
     |bl _=>exact m2.elim
     |lst _=>exact m2.elim
     |str _=>exact m2.elim
     |exc _=>exact m2.elim
     |fn _=>exact m2.elim
     |tup _=>exact m2.elim
    |non=>exact m2.elim
    |bl _=>exact m2.elim
    |lst _=>exact m2.elim
    |str _=>exact m2.elim
    |exc _=>exact m2.elim
    |fn _=>exact m2.elim
    |tup _=>exact m2.elim
def Yl(K:PySem.W.Frag)(P:Addr->Prop)(J:It)(H:Hp)(xs:List D):Prop:=
 ∀(i:Nat)(H':Hp)(P':Addr->Prop),Ext P P' H H'->(∀d,xs[i]?=some d->J.go i H'/\∀x FJ,J.Kg i H' x FJ->aF H' FJ/\Is K (λa=>P' a\/H' a=none) FJ d x)/\(xs.length=i->J.stop i H')
def tI(K:PySem.W.Frag)(E:Str->Hp->Prop)(f:DE->R (List D)):TI:=λσ H Rr=>∃g env os,Rel K g env σ H os/\Good E g.H₀ (f env) λxs=>∀J H1,aF H H1->Yl K (g.P os) J H1 xs->Rr J H1
theorem Cb{tg e:Expr}{t t':TI}(h:PI X tg e t)(w:∀σ H Q,t' σ H Q->t σ H Q):PI X tg e t':=λpins s σ H Q I q=>h pins s σ H Q I (w σ H Q q)
def NS(K:PySem.W.Frag)(P:Addr->Prop)(J:It)(H:Hp)(xs:List D):Prop:=
 ∀(i:Nat)(H':Hp)(P':Addr->Prop),aF H H'->Ext P P' H H'->(∀d,xs[i]?=some d->J.go i H'/\∀x FJ,J.Kg i H' x FJ->aF H' FJ/\Is K (λa=>P' a\/H' a=none) FJ d x)/\(xs.length=i->J.stop i H')
def LN(K:PySem.W.Frag)(E:Str->Hp->Prop)(f:DE->R (List D)):TI:=λσ H Rr=>∃g env os,Rel K g env σ H os/\Good E g.H₀ (f env) λxs=>∀J H1,aF H H1->NS K (g.P os) J H1 xs->Rr J H1
theorem LO{tg e:Expr}{f:DE->R (List D)}(h:PI X tg e (tI X.K E f)):PI X tg e (LN X.K E f):=Cb h λσ H Q ⟨g,env,os,r,m⟩=>⟨g,env,os,r,m.mono λxs _ q J H1 s1 yl=>q J H1 s1 λi H' P' _ ex=>yl i H' P' ex⟩
theorem iL{tg e:Expr}{f:DE->R D}(he:PE X e (tD X.K E f)):PI X tg e (tI X.K E λenv=>(f env).bind zu):=
 Cb (BG he) λσ H Q ⟨g,env,os,r,m⟩=>⟨g,env,os,r,m.bind.mono λd _ q v H' s i=>by
  cases d with
  |lst xs=>
   obtain⟨a,vs,rfl,h1,h2⟩:=i
   refine⟨a,rfl,⟨vs,h1.sq⟩,q _ H' s λj H2 P' ex=>⟨λd hd=>?_,λhj=>?_⟩⟩
   ·obtain⟨x,hx,hi⟩:=(IsL.ext ex _ _ h2).get hd
    refine⟨⟨vs,x,(h1.ext ex).sq,hx⟩,λy H3 hy=>?_⟩
    obtain⟨rfl,hy⟩:=hy
    have e2:=hy vs (h1.ext ex).sq
    rw[hx]at e2
    cases e2
    exact⟨aF.refl _,Is.ext ⟨λ_ _ p _=>.inl p,λ_ _ _ z=>z⟩ _ _ hi⟩
   ·exact⟨vs,(h1.ext ex).sq,by rw[IsL.length h2];exact le_of_eq hj⟩
  |non=>exact q.elim
  |bl _=>exact q.elim
  |int _=>exact q.elim
  |str _=>exact q.elim
  |exc _=>exact q.elim
  |fn _=>exact q.elim
  |tup _=>exact q.elim⟩
def vI(lo:Int)(n:Nat):List D:=(range n).map λi=>.int (lo+(i:Nat))
def zB:List D->R (List D)
 |[.int i,.int j]=> @ite _ (-(2^62)<=i/\i<2^62/\ -(2^62)<=j/\j<2^62) (propDecidable _) (.ok (vI i (j-i).toNat)) (.bad)
 |_=>.bad
theorem FN{K:PySem.W.Frag}{P:Addr->Prop}{H:Hp}(lo:Int)(n:Nat):Yl K P (Kh lo n) H (vI lo n):=λi H' P' ex=>⟨λd hd=>by
 unfold vI at hd
 rw[getElem?_map]at hd
 have hi:i<n:=by
  cases q:(range n)[i]? with
  |none=>rw[q]at hd;cases hd
  |some j=>simpa using(List.getElem?_eq_some_iff.mp q).1
 rw[List.getElem?_range hi]at hd
 cases hd
 refine⟨hi,λx H2 hy=>?_⟩
 obtain⟨rfl,rfl⟩:=hy
 exact⟨aF.refl _,rfl⟩,λh=>by
 unfold vI at h
 exact le_of_eq (by simpa using h)⟩
theorem Pz{tg a b:Expr}{p:Pos}{f:DE->R (List D)}(hm:X.mg "range"=none)(ha:PA X [a,b] (pQ X.K E f))(hg:Gl X "range":=by rfl)(hs:starEach [a,b] X.env=[(false,eval a X.env),(false,eval b X.env)]:=by rfl)(hs2:starEach [b] X.env=[(false,eval b X.env)]:=by rfl):
  PI X tg (.Call (.Name "range" p) [a,b] [] pos) (tI X.K E λenv=>(f env).bind zB):=
 Cb (yj hg hm ha hs hs2) λσ H Q ⟨g,env,os,r,m⟩=>⟨g,env,os,r,m.bind.mono λds _ q vs H' s i=>by
  unfold zB at q
  split at q
  ·rename_i u j _
   split at q
   ·rename_i c
    obtain⟨v,w,rfl,h1,h2⟩:=IsL.IK i
    have h':v=.int u:=h1
    have LK:w=.int j:=h2
    subst h' LK
    exact⟨u,j,rfl,c,q _ H' s (FN u _)⟩
   ·exact q.elim
  ·exact q.elim⟩
def tG(K:PySem.W.Frag)(E:Str->Hp->Prop)(b:D->DE->R DE):TG:=λv σ H Q=>∃g env os d,Rel K g env σ H os/\Is K (g.P os) H d v/\Good E g.H₀ (b d env) λe'=>∀σ',Rel K g e' σ' H os->Q σ' H
def DB(K:PySem.W.Frag)(E:Str->Hp->Prop)(b:List D->DE->R DE):BD:=λvs σ H Q=>∃g env os ds,Rel K g env σ H os/\IsL K (g.P os) H ds vs/\Good E g.H₀ (b ds env) λe'=>∀σ',Rel K g e' σ' H os->Q σ' H
theorem IP{e:Expr}{t t':TG}(h:PG X e t)(w:∀v σ H Q,t' v σ H Q->t v σ H Q):PG X e t':=λpins s σ H v u Q I r q=>h pins s σ H v u Q I r (w v σ H Q q)
theorem DC{e:List Expr}{t t':BD}(h:w9 X e t)(w:∀v σ H Q,t' v σ H Q->t v σ H Q):w9 X e t':=λpins s σ H v u Q I r q=>h pins s σ H v u Q I r (w v σ H Q q)
theorem gN(i:Nat){x:Str}(hN:X.N.Nodup)(hi:X.N[i]?=some x:=by rfl)(hx:Loc X.env.scope x:=by first|exact Or.inl rfl|exact Or.inr rfl)(hf:X.fn x=true\/X.env.scope.names.lookup x=some .local:=by first|exact .inl rfl|exact .inr rfl|assumption):
  PG X (.Name x pos) (tG X.K E λd env=>.ok (env.set i (.val d))):=IP (BE hN hi hx hf) λv σ H Q ⟨g,env,os,d,r,h,m⟩=>m _ (r.set i h)
theorem IQ:w9 X [] (DB X.K E λds env=>match ds with
  |[]=>.ok env
  |_=>.bad):=DC BF λvs σ H Q ⟨g,env,os,ds,r,h,m⟩=>by
 cases ds with
 |nil=>exact⟨h,m σ r⟩
 |cons _ _=>exact m.elim
theorem FO{e:Expr}{es:List Expr}{b:D->DE->R DE}{k:List D->DE->R DE}(h1:PG X e (tG X.K E b))(h2:w9 X es (DB X.K E k))(hs:(assignEach (e::es) X.env).map (·.2)=assign e X.env::(assignEach es X.env).map (·.2):=by rfl):
  w9 X (e::es) (DB X.K E λds env=>match ds with
   |d::r=>(b d env).bind λe'=>k r e'
   |_=>.bad):=DC (zc h1 h2 hs) λvs σ H Q ⟨g,env,os,ds,r,h,m⟩=>by
 cases ds with
 |nil=>exact m.elim
 |cons d rest=>
  obtain⟨v,vr,rfl,p,q⟩:=h
  have m':Good E g.H₀ ((b d env).bind λe'=>k rest e') _:=m
  exact⟨v,vr,rfl,g,env,os,d,r,p,m'.bind.mono λe' _ m2 σ' r'=>⟨g,e',os,rest,r',q,m2⟩⟩
theorem gT{es:List Expr}{kk:Nat}{b:List D->DE->R DE}{n:Nat}(hc:X.calm=true)(h:w9 X es (DB X.K E b))(hn:(assignEach es X.env).length=n:=by rfl)(hst:(assignEach es X.env).findIdx? (·.1)=none:=by rfl):
  PG X (.Tuple es kk pos) (tG X.K E λd env=>match d with
   |.tup ds=>if ds.length=n then b ds env else .bad
   |_=>.bad):=IP (E9 hc h hn hst) λv σ H Q ⟨g,env,os,d,r,h,m⟩=>by
 cases d with
 |tup ds=>
  obtain⟨a,vs,rfl,h1,h2⟩:=h
  have m':Good E g.H₀ (if ds.length=n then b ds env else .bad) _:=m
  split at m'
  ·rename_i c
   exact⟨a,vs,rfl,h1.sq,by rw[IsL.length h2];exact c,g,env,os,ds,r,h2,m'⟩
  ·exact m'.elim
 |non=>exact m.elim
 |bl _=>exact m.elim
 |int _=>exact m.elim
 |str _=>exact m.elim
 |lst _=>exact m.elim
 |exc _=>exact m.elim
 |fn _=>exact m.elim
theorem yw{tg iter:Expr}{body:List Stmt}{f:DE->R (List D)}{b:D->DE->R DE}{k:DE->R Out}(hp:PassesOwn (model X.prog X.w) X.A X.env X.xe)(hc:X.calm=true)(hi:PI X tg iter (tI X.K E f))(hg:PG X tg (tG X.K E b))(hb:kT X body (tS X.K E k))
  (hs:∀x,foldedSetIterable iter X.env x=pure x:=by intro _;rfl):PS X (.For tg iter body [] pos) (tS X.K E λenv=>(f env).bind λxs=>fX (λd e=>(b d e).bind k) xs env):=
 mZ (Ff hp hc hi hg hb hs) λDe σ H ⟨g,env,os,r,m⟩=>⟨g,env,os,r,m.bind.mono λxs _ m1 J H1 s1 yl=>by
  refine⟨λi n σ' H'=>n=xs.length-i/\i<=xs.length/\∃jj dm,Rel X.K g jj σ' H' dm/\lX H1 os H' dm/\Good E g.H₀ (fX (λd e=>(b d e).bind k) (xs.drop i) jj) (dg X.K g H' dm De),
   ⟨xs.length,by simp,zero_le _,env,os,r.same s1,.refl _ _,by rw[drop_zero];exact m1.mono λo _ q=>dg.step (.same s1 os) q⟩,?_⟩
  rintro i n σ' H' ⟨rfl,hi,jj,dm,r',st,m2⟩
  obtain⟨y1,y2⟩:=yl i H' (g.P dm) st.ext
  by_cases hlt:i<xs.length
  ·have hx:xs[i]?=some xs[i]:=getElem?_eq_getElem hlt
   obtain⟨go,y3⟩:=y1 _ hx
   rw[List.drop_eq_getElem_cons hlt]at m2
   refine .inr ⟨go,λσ2 H2=>∃zC B3,Rel X.K g zC σ2 H2 B3/\lX H1 os H2 B3/\Good E g.H₀ (fX (λd e=>(b d e).bind k) (xs.drop (i+1)) zC) (dg X.K g H2 B3 De),λσ2 H2 ⟨e2,o2,r2,t2,g2⟩=>⟨xs.length-(i+1),by omega,rfl,hlt,e2,o2,r2,t2,g2⟩,λx H2 hy=>?_⟩
   obtain⟨s2,PB⟩:=y3 x H2 hy
   have r2:=r'.same s2
   have ix:Is X.K (g.P dm) H2 xs[i] x:=Is.ext ⟨λa o p _=>p.elim (λz=>z) λz=>r'.fresh z,λ_ _ _ z=>z⟩ _ _ PB
   have m3:Good E g.H₀ (((b xs[i] jj).bind k).bind _) _:=m2
   refine⟨g,jj,dm,xs[i],r2,ix,m3.bind.bind.mono λe3 _ m4 σ3 r3=>⟨g,e3,dm,r3,Good.mono m4 λo _ q=>?_⟩⟩
   have Fg:=st.trans (lX.same s2 dm)
   cases o with
   |nx e4=>exact λσ4 H4 zD r4 z=>⟨e4,zD,r4,Fg.trans z,Good.mono (show Good E g.H₀ (fX _ _ e4) _ from q) λo _ q=>dg.step ((lX.same s2 dm).trans z) q⟩
   |ct e4=>exact λσ4 H4 zD r4 z=>⟨e4,zD,r4,Fg.trans z,Good.mono (show Good E g.H₀ (fX _ _ e4) _ from q) λo _ q=>dg.step ((lX.same s2 dm).trans z) q⟩
   |bk e4=>exact λσ4 H4 zD r4 z=>(show dg X.K g H' dm De (.nx e4)from q) σ4 H4 zD r4 ((lX.same s2 dm).trans z)
   |rt d=>exact q
   |lW ys=>exact q
   |tX ys=>exact q
   |yY ys=>exact q
   |yZ ys=>exact q
   |yX ys=>exact q
  ·have e:i=xs.length:=by omega
   subst e
   rw[List.drop_length]at m2
   exact .inl ⟨y2 rfl,(show dg X.K g H' dm De (.nx jj)from m2) σ' H' dm r' (.refl _ _)⟩⟩
theorem FP{c:Expr}{body:List Stmt}{fc:DE->R Bool}{k:DE->R Out}(fuel:DE->Nat)(hp:PassesOwn (model X.prog X.w) X.A X.env X.xe)(hc:PT X c (tT X.K E fc))(hb:kT X body (tS X.K E k)):
  PS X (.While c body [] pos) (tS X.K E λenv=>gf fc k (fuel env) env):=
 mZ (zd hp hc hb) λDe σ H ⟨g,env,os,r,m⟩=>by
  refine⟨λn σ' H'=>∃jj dm,Rel X.K g jj σ' H' dm/\Good E g.H₀ (gf fc k n jj) (dg X.K g H' dm De),⟨fuel env,env,os,r,m⟩,?_⟩
  rintro n σ' H' ⟨jj,dm,r',m2⟩
  cases n with
  |zero=>exact m2.elim
  |succ n=>
   have m3:Good E g.H₀ ((fc jj).bind _) _:=m2
   refine⟨g,jj,dm,r',m3.bind.mono λt _ m4 H2 s2=>?_⟩
   cases t with
   |false=>
    rw[if_neg Bool.false_ne_true]
    exact(show dg X.K g H' dm De (.nx jj)from m4) σ' H2 dm (r'.same s2) (.same s2 dm)
   |true=>
    rw[if_pos rfl]
    have m5:Good E g.H₀ ((k jj).bind _) _:=m4
    refine⟨λσ2 NT=>∃zC B3,Rel X.K g zC σ2 NT B3/\Good E g.H₀ (gf fc k n zC) (dg X.K g NT B3 De),λσ2 H3 q=>⟨n,Nat.lt_succ_self n,q⟩,g,jj,dm,r'.same s2,m5.bind.mono λo _ q=>?_⟩
    cases o with
    |nx e4=>exact λσ4 H4 zD r4 z=>⟨e4,zD,r4,Good.mono (show Good E g.H₀ (gf _ _ n e4) _ from q) λo _ q=>dg.step ((lX.same s2 dm).trans z) q⟩
    |ct e4=>exact λσ4 H4 zD r4 z=>⟨e4,zD,r4,Good.mono (show Good E g.H₀ (gf _ _ n e4) _ from q) λo _ q=>dg.step ((lX.same s2 dm).trans z) q⟩
    |bk e4=>exact λσ4 H4 zD r4 z=>(show dg X.K g H' dm De (.nx e4)from q) σ4 H4 zD r4 ((lX.same s2 dm).trans z)
    |rt d=>exact q
    |lW ys=>exact q
    |tX ys=>exact q
    |yY ys=>exact q
    |yZ ys=>exact q
    |yX ys=>exact q
end
def ae(n:Nat)(ds:List D):DE:=ds.map .val++replicate (n-ds.length) .no
theorem nc{K:PySem.W.Frag}{N:List Str}{P:Addr->Prop}{H:Hp}{ds:List D}{vs:List V}(h:IsL K P H ds vs):Rel K ⟨P,H⟩ (ae N.length ds) (L2.start N vs) H []:=by
 have hl:=h.length
 refine⟨by simp[ae,L2.start,hl],aF.refl H,λi d e=>?_,λi xs e=>?_,λi j xs ys a e=>?_,(λa ha=>nomatch ha),λi v e=>?_,yt.none λi v e=>?_⟩
 ·unfold ae at e
  by_cases hi:i<ds.length
  ·rw[getElem?_append_left (by simpa using hi),getElem?_map,getElem?_eq_getElem hi]at e
   have e':Sl.val ds[i]=Sl.val d:=Option.some.inj e
   cases e'
   obtain⟨v,h1,h2⟩:=h.get (getElem?_eq_getElem hi)
   refine⟨v,?_,Is.ext ⟨λa o p _=>⟨.inl p,by simp⟩,λ_ _ _ z=>z⟩ _ _ h2⟩
   unfold L2.start
   rw[getElem?_append_left (by simp;omega),getElem?_map,h1]<;>rfl
  ·rw[getElem?_append_right (by simp;omega)]at e
   have:=getElem?_replicate (n:=N.length-ds.length) (a:=Sl.no) (i:=i-(ds.map Sl.val).length)
   rw[this]at e
   split at e<;>cases e
 ·exfalso
  unfold ae at e
  by_cases hi:i<ds.length
  ·rw[getElem?_append_left (by simpa using hi),getElem?_map,getElem?_eq_getElem hi]at e
   cases e
  ·rw[getElem?_append_right (by simp;omega)]at e
   have:=getElem?_replicate (n:=N.length-ds.length) (a:=Sl.no) (i:=i-(ds.map Sl.val).length)
   rw[this]at e
   split at e<;>cases e
 ·exfalso
  unfold ae at e
  by_cases hi:i<ds.length
  ·rw[getElem?_append_left (by simpa using hi),getElem?_map,getElem?_eq_getElem hi]at e
   cases e
  ·rw[getElem?_append_right (by simp;omega)]at e
   have:=getElem?_replicate (n:=N.length-ds.length) (a:=Sl.no) (i:=i-(ds.map Sl.val).length)
   rw[this]at e
   split at e<;>cases e
 ·exfalso
  unfold ae at e
  by_cases hi:i<ds.length
  ·rw[getElem?_append_left (by simpa using hi),getElem?_map,getElem?_eq_getElem hi]at e
   cases e
  ·rw[getElem?_append_right (by simp;omega)]at e
   have:=getElem?_replicate (n:=N.length-ds.length) (a:=Sl.no) (i:=i-(ds.map Sl.val).length)
   rw[this]at e
   split at e<;>cases e
 ·exfalso
  unfold ae at e
  by_cases hi:i<ds.length
  ·rw[getElem?_append_left (by simpa using hi),getElem?_map,getElem?_eq_getElem hi]at e
   cases e
  ·rw[getElem?_append_right (by simp;omega)]at e
   have:=getElem?_replicate (n:=N.length-ds.length) (a:=Sl.no) (i:=i-(ds.map Sl.val).length)
   rw[this]at e
   split at e<;>cases e
def aj:Out->R D
 |.rt d=>.ok d
 |.lW xs=>.ok (.lst xs)
 |.nx _=>.ok .non
 |_=>.bad
def ak:Out->R (List D)
 |.lW xs=>.ok xs
 |_=>.bad
abbrev EN:Str->Hp->Prop:=λ_ _=>False
section
variable{P:Program}{w:World}{K:PySem.W.Frag}{mg:Str->Option Value}{base:Heap}
theorem Is.P0 {Q:Addr->Prop}{H H':Hp}{d:D}{v:V}(h:Is K ((⟨Q,H⟩:Gh).P []) H' d v):Is K (λa=>Q a\/H a=none) H' d v:=Is.ext ⟨λ_ _ p _=>p.1,λ_ _ _ z=>z⟩ _ _ h
theorem LP{x qual:Str}{st:Stmt}{f:Addr}{fd:FuncData}{N ps:List Str}{k:Nat}{xc:Str->Value}{m:List D->R D}{b:DE->R Out}(F:Du K x qual st f fd)(S:az N ps (ah st))
  (hm:∀ds d,m ds=.ok d->ds.length=ps.length/\(b (ae N.length ds)).bind aj=.ok d)(hne:∀ds c,m ds≠.err c)
  (hb:∀(cdv:Value)(A:Around)(outer:List Env)(s:Shared)(H:Hp)(E:XK),aV k (A.deeper (envOfC qual (ah st) s.heap.objs.size f cdv))->kT (kU n8 P w K mg base N qual (ah st) f cdv A outer s H E).yh (bF st) (tS K EN b)):
  gb P w K mg base n8 (k+1) f fd ps (ve K xc m):=by
 refine F.ok S (λvs H Q E h=>?_) (λcdv A outer s H vs Q E hr h=>?_)
 ·obtain⟨Pa,ds,i,h⟩:=h
  cases e:m ds with
  |ok d=>rw[i.length];exact(hm ds d e).1
  |err c=>exact(hne ds c e).elim
  |bad=>rw[e]at h;exact h.elim
 ·obtain⟨Pa,ds,i,h⟩:=h
  refine⟨_,hb cdv A outer s H E hr,⟨⟨Pa,H⟩,ae N.length ds,[],nc i,?_⟩⟩
  cases e:m ds with
  |err c=>exact(hne ds c e).elim
  |bad=>rw[e]at h;exact h.elim
  |ok d=>
   rw[e]at h
   obtain⟨_,q⟩:=hm ds d e
   cases eb:b (ae N.length ds)with
   |bad=>rw[eb]at q;cases q
   |err c=>rw[eb]at q;cases q
   |ok o=>
    rw[eb]at q
    cases o with
    |rt d'=>
     cases q
     exact λv H' s' i'=>h v H' s' i'.P0
    |lW xs=>
     cases q
     intro a xn H' s' hn hH i'
     exact h _ H' s' ⟨a,xn,rfl,.inl ⟨.inr hn,.inl hH⟩,IsL.ext ⟨λb o p _=>p.1,λ_ _ _ z=>z⟩ _ _ i'⟩
    |nx e'=>
     cases q
     exact λσ' H' dm r' _=>h _ H' r'.ext rfl
    |tX _=>cases q
    |yY _=>cases q
    |yZ _=>cases q
    |yX _=>cases q
    |bk _=>cases q
    |ct _=>cases q
theorem LQ{x qual:Str}{st:Stmt}{f:Addr}{fd:FuncData}{N ps:List Str}{k:Nat}{xc:Str->Value}{m:List D->R (List D)}{b:DE->R Out}(F:Du K x qual st f fd)(S:az N ps (ah st))
  (hm:∀ds d,m ds=.ok d->ds.length=ps.length/\(b (ae N.length ds)).bind ak=.ok d)(hne:∀ds c,m ds≠.err c)
  (hb:∀(cdv:Value)(A:Around)(outer:List Env)(s:Shared)(H:Hp)(E:XK),aV k (A.deeper (envOfC qual (ah st) s.heap.objs.size f cdv))->kT (kU n8 P w K mg base N qual (ah st) f cdv A outer s H E).yh (bF st) (tS K EN b)):
  gb P w K mg base n8 (k+1) f fd ps (Bl K xc m):=by
 refine F.ok S (λvs H Q E h=>?_) (λcdv A outer s H vs Q E hr h=>?_)
 ·obtain⟨Pa,ds,i,h⟩:=h
  cases e:m ds with
  |ok d=>rw[i.length];exact(hm ds d e).1
  |err c=>exact(hne ds c e).elim
  |bad=>rw[e]at h;exact h.elim
 ·obtain⟨Pa,ds,i,h⟩:=h
  refine⟨_,hb cdv A outer s H E hr,⟨⟨Pa,H⟩,ae N.length ds,[],nc i,?_⟩⟩
  cases e:m ds with
  |err c=>exact(hne ds c e).elim
  |bad=>rw[e]at h;exact h.elim
  |ok d=>
   rw[e]at h
   obtain⟨_,q⟩:=hm ds d e
   cases eb:b (ae N.length ds)with
   |bad=>rw[eb]at q;cases q
   |err c=>rw[eb]at q;cases q
   |ok o=>
    rw[eb]at q
    cases o with
    |rt d'=>cases q
    |lW xs=>
     cases q
     intro a xn H' s' hn hH i'
     exact h a xn H' s' hn hH (IsL.ext ⟨λb o p _=>⟨p.1,λz=>p.2 (by simp[z])⟩,λ_ _ _ z=>z⟩ _ _ i')
    |nx e'=>cases q
    |tX _=>cases q
    |yY _=>cases q
    |yZ _=>cases q
    |yX _=>cases q
    |bk _=>cases q
    |ct _=>cases q
end
def vg(cells:List (Str×Addr)):List (Str×NameKind)->List (Str×Addr)->List (Str×Addr)
 |[],acc=>acc
 |(n,k)::r,acc=>if(k==NameKind.free)=true then vg cells r ((n,(cells.lookup n).getD 0)::acc)else vg cells r acc
theorem qK{scope:Scope}{env:Env}(h:∀y∈scope.names,y.2=.free->∃c,env.cells.lookup y.1=some c):closureFor scope env=pure (vg env.cells scope.names []):=by
 have gen:∀(l:List (Str×NameKind))(acc:List (Str×Addr)),(∀y∈l,y.2=.free->∃c,env.cells.lookup y.1=some c)->
   (forIn l acc λ(x:Str×NameKind)(r:List (Str×Addr))=>(if(x.2==NameKind.free)=true then(do let a<-cellOf env x.1;pure (ForInStep.yield ((x.1,a)::r)))else pure (ForInStep.yield r):Sem (ForInStep (List (Str×Addr)))))=pure (vg env.cells l acc):=by
  intro l
  induction l with
  |nil=>intro acc _;rfl
  |cons y r ih=>
   intro acc hy
   obtain⟨n,k⟩:=y
   rw[List.forIn_cons]
   have hr:∀y∈r,y.2=.free->∃c,env.cells.lookup y.1=some c:=λy h=>hy y (mem_cons_of_mem _ h)
   by_cases hk:(k==NameKind.free)=true
   ·obtain⟨c,hc⟩:=hy (n,k) mem_cons_self (by simpa using hk)
    have Bx:env.cells.lookup n=some c:=hc
    simp only [hk,if_true,vg,cellOf,Bx,getD_some]
    exact ih _ hr
   ·simp only [hk,vg]
    exact ih _ hr
 show((forIn scope.names ([]:List (Str×Addr)) λ(x:Str×NameKind)(r:List (Str×Addr))=>(if(x.2==NameKind.free)=true then(do let a<-cellOf env x.1;pure (ForInStep.yield ((x.1,a)::r)))else pure (ForInStep.yield r):Sem (ForInStep (List (Str×Addr)))))>>=λs=>pure s)=_
 rw[gen scope.names [] h]
 rfl
theorem lD{cells:List (Str×Addr)}{x:Str}:∀(l:List (Str×NameKind))(acc:List (Str×Addr)),(∀y∈l,y.2=.free->∃c,cells.lookup y.1=some c)->(∀c,acc.lookup x=some c->cells.lookup x=some c)->
  ∀c,(vg cells l acc).lookup x=some c->cells.lookup x=some c
 |[],acc,_,h,c,e=>h c e
 |(n,k)::r,acc,hy,h,c,e=>by
  unfold vg at e
  have hr:∀y∈r,y.2=.free->∃c,cells.lookup y.1=some c:=λy h=>hy y (mem_cons_of_mem _ h)
  split at e
  ·rename_i hk
   refine lD r _ hr (λc' e'=>?_) c e
   rw[lookup_cons]at e'
   obtain⟨c0,hc0⟩:=hy (n,k) mem_cons_self (by simpa using hk)
   have IS:cells.lookup n=some c0:=hc0
   cases hx:x==n with
   |true=>
    rw[hx]at e'
    have ex:x=n:=by simpa using hx
    rw[IS]at e'
    cases e'
    rw[ex];exact IS
   |false=>
    rw[hx]at e'
    exact h c' e'
  ·exact lD r _ hr h c e
theorem oY{cells:List (Str×Addr)}{x:Str}:∀(l:List (Str×NameKind))(acc:List (Str×Addr)),((∃c,acc.lookup x=some c)\/(x,NameKind.free)∈l)->∃c,(vg cells l acc).lookup x=some c
 |[],acc,h=>h.elim (λz=>z) λz=>nomatch z
 |(n,k)::r,acc,h=>by
  unfold vg
  split
  ·rename_i hk
   refine oY r _ ?_
   by_cases hx:x=n
   ·exact .inl ⟨_,by rw[lookup_cons,beq_iff_eq.mpr hx]⟩
   ·rcases h with⟨c,h⟩|h
    ·refine .inl ⟨c,?_⟩
     rw[lookup_cons,beq_eq_false_iff_ne.mpr hx];exact h
    ·rcases mem_cons.mp h with z|z
     ·cases z;exact absurd rfl hx
     ·exact .inr z
  ·rename_i hk
   refine oY r _ ?_
   rcases h with h|h
   ·exact .inl h
   ·rcases mem_cons.mp h with z|z
    ·cases z;exact absurd (by simp) hk
    ·exact .inr z
noncomputable def qL(X:Cx)(scope:Scope)(N:List Str)(s:Shared)(H:Hp)(fp:List Addr)(C:Addr)(pl:List (Addr×Obj)):Cx where
 prog:=X.prog
 w:=X.w
 K:=X.K
 mg:=X.mg
 base:=X.base
 A:=X.A
 N:=N
 s₀:=s
 H₀:=H
 env:=compEnvC scope (vg X.env.cells scope.names []) C X.env
 outer:=X.stack
 stack:=X.stack
 ex:=fp
 fn:=λ_=>false
 calm:=X.calm
 pn:=pl
 xe:=λ_ _=>False
structure gD(X:Cx)(scope:Scope)(N:List Str)(nt:Nat)(caps:List Nat):Prop where
 kind:scope.kind=.function
 cell:∀y∈scope.names,y.2≠.cell
 names:∀y∈scope.names,y.2=.local->scope.names.lookup y.1=some .local
 free:∀y∈scope.names,y.2=.free->X.env.kindOf y.1=some .cell\/X.env.kindOf y.1=some .free
 len:N.length=nt+caps.length
 nd:N.Nodup
 caps:∀(j i:Nat),caps[j]?=some i->∃x,N[nt+j]?=some x/\X.N[i]?=some x/\scope.names.lookup x=some .free/\yd X.env.scope x
theorem dG{scope:Scope}{env:Env}{x:Str}{k:NameKind}(h:(relabel scope env).names.lookup x=some k):∃k',scope.names.lookup x=some k'/\(k=k'\/(k'=.free/\k=.cell)):=by
 unfold relabel at h
 dsimp only at h
 generalize scope.names=l at h
 induction l with
 |nil=>cases h
 |cons y r ih=>
  obtain⟨n,kk⟩:=y
  rw[map_cons]at h
  by_cases hc:(kk==NameKind.free&&env.scope.kind==.function&&env.kindOf n==some .cell)=true
  ·simp only [hc,if_true]at h
   rw[lookup_cons]at h⊢
   cases hx:x==n with
   |true=>
    rw[hx]at h
    cases h
    simp only [and_eq_true]at hc
    exact⟨kk,rfl,.inr ⟨by simpa using hc.1.1,rfl⟩⟩
   |false=>
    rw[hx]at h
    exact ih h
  ·simp only [hc,false_eq_true,if_false]at h
   rw[lookup_cons]at h⊢
   cases hx:x==n with
   |true=>
    rw[hx]at h
    exact⟨kk,rfl,.inl (Option.some.inj h).symm⟩
   |false=>
    rw[hx]at h
    exact ih h
theorem mem_of_lookup{α:Type}{l:List (Str×α)}{x:Str}{k:α}(h:l.lookup x=some k):(x,k)∈l:=by
 induction l with
 |nil=>cases h
 |cons y r ih=>
  obtain⟨n,kk⟩:=y
  rw[lookup_cons]at h
  cases hx:x==n with
  |true=>
   rw[hx]at h
   cases h
   have ex:x=n:=by simpa using hx
   rw[ex];exact mem_cons_self
  |false=>
   rw[hx]at h
   exact mem_cons_of_mem _ (ih h)
section
variable{X:Cx}{scope:Scope}{N:List Str}{nt:Nat}{caps:List Nat}{pins:List (Addr×Obj)}{σ:St}{H:Hp}{s:Shared}
theorem gD.cells (S:gD X scope N nt caps)(I:Inv X pins σ H s):∀y∈scope.names,y.2=.free->∃c,X.env.cells.lookup y.1=some c:=λy hy hf=>I.ok.has y.1 (S.free y hy hf)
theorem gD.lk (S:gD X scope N nt caps)(I:Inv X pins σ H s){x:Str}{c:Addr}(h:(vg X.env.cells scope.names []).lookup x=some c):X.env.cells.lookup x=some c:=
 lD scope.names [] (S.cells I) (λc e=>by cases e) c h
theorem gD.start (S:gD X scope N nt caps)(I:Inv X pins σ H s){fp:List Addr}(hf:∀b∈fp,lR X pins H b){C:Addr}{h':Heap}{m:Str->Option Value}{t':Nat}(hC:s.heap.objs.size<=C)(hn:h'.Ns C m)(k:∀b o,s.heap.get? b=some o->h'.get? b=some o)
  (hpin:∀b∈fp,∃o,s.heap.get? b=some o)
  {vs:List V}(hv:vs.length=caps.length)(hvs:∀(j i:Nat)(v:V),caps[j]?=some i->vs[j]?=some v->σ[i]?=some (some v))(σ':St)(hσ:σ'=replicate nt none++vs.map some):
  Inv (qL X scope N s H fp C (X.pn++pins)) [] σ' H {s with heap:=h',toks:=t'}:=by
 subst hσ
 have hH:∀b,s.heap.objs.size<=b->H b=none:=λb hb=>I.hok.fresh hb
 have lk:=λ{x c}(h:(vg X.env.cells scope.names []).lookup x=some c)=>S.lk I h
 have ok:(qL X scope N s H fp C (X.pn++pins)).Ok:={
  mod:=I.ok.mod
  kind:=S.kind
  glob:=I.ok.glob
  blt:=I.ok.blt
  above:=hC
  inj:=λx y c h1 h2=>I.ok.inj x y c (lk h1) (lk h2)
  has:=λx h=>by
   have h':(relabel scope X.env).names.lookup x=some .cell\/(relabel scope X.env).names.lookup x=some .free:=h
   have hfree:scope.names.lookup x=some .free:=by
    rcases h' with h'|h'
    ·obtain⟨k',e,q⟩:=dG h'
     rcases q with rfl|⟨rfl,_⟩
     ·exact absurd rfl (S.cell _ (mem_of_lookup e))
     ·exact e
    ·obtain⟨k',e,q⟩:=dG h'
     rcases q with rfl|⟨rfl,q⟩
     ·exact e
     ·exact e
   exact oY scope.names [] (.inr (mem_of_lookup hfree))
  Hw:=λx c h=>nomatch h
  hd:=I.ok.hd
  frames:=I.ok.frames
  HP:=.inl rfl
  Kb:=λb hb=>by
   obtain⟨o,e⟩:=hpin b hb
   exact⟨λz=>absurd (lt_of_lt_of_le (Heap.lt_size e) (by rw[z];exact hC)) (lt_irrefl _),λx c h=>(hf b hb).2.2.2.2.1 x c (lk h)⟩
  bs:=I.bs
  Bw:=le_trans I.ok.Bw I.sz
  ye:=λb o e hb=>by
   rcases(hf b hb).2.2.2.1 with z|z
   ·exact I.ok.ye b o e z
   ·exact absurd (lt_of_lt_of_le (Heap.lt_size e) (le_trans I.ok.Bw z)) (lt_irrefl _)
  yf:=λb hb z=>by
   rcases mem_cons.mp (I.rM b z)with q|q
   ·exact(hf b hb).2.1 q
   ·exact(hf b hb).2.2.1 q
  oE:=I.stack
  EY:=I.w5}
 refine⟨ok,rfl,I.bare,Un.kept k,⟨m,hn,λi x v e1 e2 e3=>?_⟩,λx c e=>?_,hH C hC,λx c e=>I.kY x c (lk e),λp hp=>?_,I.hok.kept k,?_⟩
 ·have hi:nt<=i:=by
   refine Nat.le_of_not_lt λz=>?_
   rw[getElem?_append_left (by simpa using z),getElem?_replicate]at e2
   split at e2<;>cases e2
  rw[getElem?_append_right (by simpa using hi),getElem?_map]at e2
  have Kr:(vs[i-nt]?).map some=some (some v):=by simpa using e2
  cases q:vs[i-nt]? with
  |none=>rw[q]at Kr;cases Kr
  |some v'=>
   rw[q]at Kr
   cases Kr
   have hj:i-nt<caps.length:=by rw[<-hv];exact(List.getElem?_eq_some_iff.mp q).1
   obtain⟨x',h1,h2,h3,h4⟩:=S.caps (i-nt) caps[i-nt] (getElem?_eq_getElem hj)
   have ex:x'=x:=by
    have Kq:N[i]?=some x:=e1
    rw[show nt+(i-nt)=i by omega,Kq]at h1
    exact(Option.some.inj h1).symm
   subst ex
   have hs:=hvs (i-nt) _ v (getElem?_eq_getElem hj) q
   obtain⟨m0,hn0,PC⟩:=I.loc
   obtain⟨u,r,l⟩:=PC _ x' v h2 hs h4
   refine⟨u,r,?_⟩
   have hkx:=S.free _ (mem_of_lookup h3) rfl
   rcases l with⟨k1,_⟩|⟨k1,c,hc,hcell⟩
   ·have NU:X.env.kindOf x'=some .local:=k1
    rcases hkx with z|z
    ·have z':X.env.kindOf x'=some .cell:=z
     rw[NU]at z';cases z'
    ·have z':X.env.kindOf x'=some .free:=z
     rw[NU]at z';cases z'
   ·obtain⟨c',Bx⟩:=oY (cells:=X.env.cells) (x:=x') scope.names [] (.inr (mem_of_lookup h3))
    have:=lk Bx
    rw[hc]at this
    cases this
    refine .inr ⟨?_,c,Bx,let⟨o,ho,hd⟩:=hcell;⟨o,k _ o ho,hd⟩⟩
    rcases e3 with z|z|z
    ·exfalso
     obtain⟨k',e,q⟩:=dG (show(relabel scope X.env).names.lookup x'=some .local from z)
     rcases q with rfl|⟨_,q⟩
     ·rw[h3]at e;cases e
     ·cases q
    ·exact .inl z
    ·exact .inr z
 ·obtain⟨v,z⟩:=I.cell x c (lk e)
  exact⟨v,let⟨o,ho,hd⟩:=z;⟨o,k _ o ho,hd⟩⟩
 ·have PD:p∈X.pn++pins:=by simpa[qL]using hp
  obtain⟨e,n,ne,nf,d⟩:=I.pin p PD
  refine⟨k _ _ e,n,λz=>absurd (lt_of_lt_of_le (Heap.lt_size e) (by rw[z];exact hC)) (lt_irrefl _),λz=>?_,d⟩
  rcases mem_cons.mp (I.rM _ z)with q|q
  ·exact ne q
  ·exact nf q
 ·show(replicate nt none++vs.map some).length=N.length
  rw[S.len];simp[hv]
end
section
variable{prog:Program}{w:World}{A:Around}{E:Value->Shared->Prop}{R:Result->Shared->Prop}{s:Shared}
theorem uc{elt target iter:Expr}{ifs:List Expr}{scope:Scope}{pos:Pos}{it acc:Value}{env:Env}(I:Nat->Shared->Prop)
  (turn:∀n s,I n s->wpAny (model prog w) A (pyNext it) (λr s₁=>match r with
   |none=>R (.ok .next) s₁
   |some v=>wpAny (model prog w) A (letOwnedTupleGo target it v) (λ_ NV=>wpAny (model prog w) A (assign target env v) (λ_ s₂=>
     wpAny (model prog w) A (forIn ifs true λc r=>if r=true then do let ok<-isTrue c env (eval c env);pure (ForInStep.yield ok)else pure (ForInStep.yield r)) (λok s₃=>
      if ok=true then wpAny (model prog w) A (eval elt env) (λx s₄=>
       wpAny (model prog w) A (call (.builtin "list.append") [acc,x]) (λ_ s₅=>∃m,m<n/\I m s₅) (λ_ _=>False) s₄) (λ_ _=>False) s₃
      else∃m,m<n/\I m s₃) (λ_ _=>False) s₂) (λ_ _=>False) NV) (λ_ _=>False) s₁) (λ_ _=>False) s)
  (n:Nat)(h:I n s):
  codeAny (model prog w) A (.compLoop (.ListComp elt [⟨target,iter,ifs,0⟩] scope pos) 0 it acc env) R s:=by
 refine codeAny_loop rfl I (λn s hI=>?_) n h
 show wpAny _ A ((compTurn (.ListComp elt [⟨target,iter,ifs,0⟩] scope pos) 0 it acc env).onRaise (λx=>do noteFrame x env;theTreesLotGoes x)) _ _ s
 refine wpAny_noted ?_
 rw[compTurn_list]
 refine wpAny_bind (wpAny_standAt (wpAny_bind (wpAny_mono (turn n s hI) (λr s₁ h₁=>?_) λ_ _ h'=>h'.elim)))
 cases r with
 |none=>exact wpAny_pure h₁
 |some v=>
  refine wpAny_bind (wpAny_mono h₁ (λ_ NV PF=>?_) λ_ _ h'=>h'.elim)
  refine wpAny_bind (wpAny_mono PF (λ_ s₂ h₂=>wpAny_bind (wpAny_mono h₂ (λok s₃ h₃=>?_) λ_ _ h'=>h'.elim)) λ_ _ h'=>h'.elim)
  cases ok with
  |false=>exact wpAny_pure ⟨rfl,h₃⟩
  |true=>
   exact wpAny_bind (wpAny_bind (wpAny_mono h₃ (λx s₄ h₄=>wpAny_bind (wpAny_mono h₄ (λ_ s₅ h₅=>wpAny_pure (wpAny_pure ⟨rfl,h₅⟩)) λ_ _ h'=>h'.elim)) λ_ _ h'=>h'.elim))
end
noncomputable def LR(X:Cx)(ifs:List Expr)(t:TT):Prop:=
 ∀(pins:List (Addr×Obj))(s:Shared)(σ:St)(H:Hp)(Q:Bool->Hp->Prop),Inv X pins σ H s->t σ H Q->
  wpAny (model X.prog X.w) X.A (forIn ifs true λc r=>if r=true then do let ok<-isTrue c X.env (eval c X.env);pure (ForInStep.yield ok)else pure (ForInStep.yield r)) (TP X pins σ Q) X.xe s
theorem PH{X:Cx}{E:Str->Hp->Prop}:LR X [] (tT X.K E λ_=>.ok true):=λpins s σ H Q I ⟨g,env,os,r,m⟩=>wpAny_tests_nil ⟨H,I,m H (aF.refl H)⟩
def jJ(b:D->DE->R DE)(ct:DE->R Bool)(fe:DE->R D)(e₀:DE):List D->R (List D)
 |[]=>.ok []
 |x::xs=>(b x e₀).bind λe=>(ct e).bind λt=>if t=true then(fe e).bind λd=>(jJ b ct fe e₀ xs).bind λds=>.ok (d::ds)else jJ b ct fe e₀ xs
def pS(env:DE):List Nat->R (List D)
 |[]=>.ok []
 |i::r=>(dF i env).bind λd=>(pS env r).bind λds=>.ok (d::ds)
theorem Good.pS {K:PySem.W.Frag}{E:Str->Hp->Prop}{H₀ H:Hp}{g:Gh}{σ:St}{os:List Addr}{env:DE}(r:Rel K g env σ H os):∀{caps:List Nat}{p:List D->Prop},Good E H₀ (pS env caps) p->
  ∃ds vs,p ds/\vs.length=caps.length/\ds.length=caps.length/\IsL K (g.P os) H ds vs/\∀(j i:Nat)(v:V),caps[j]?=some i->vs[j]?=some v->σ[i]?=some (some v)
 |[],p,h=>⟨[],[],h,rfl,rfl,rfl,λj i v e=>by simp at e⟩
 |i::rest,p,h=>by
  have h1:=h.bind
  unfold dF at h1
  split at h1
  ·rename_i d e
   have h2:Good E H₀ ((DL.pS env rest).bind λds=>.ok (d::ds)) p:=h1
   obtain⟨ds,vs,q1,q2,q3,q4,q5⟩:=Good.pS r h2.bind
   obtain⟨v,s1,s2⟩:=r.val i d e
   refine⟨d::ds,v::vs,q1,by simp[q2],by simp[q3],.cons s2 q4,λj i' v' e1 e2=>?_⟩
   cases j with
   |zero=>simp at e1 e2;subst e1 e2;exact s1
   |succ j=>exact q5 j i' v' (by simpa using e1) (by simpa using e2)
  ·exact h1.elim
def mR(nt:Nat)(ds:List D):DE:=replicate nt Sl.no++ds.map .val
theorem xp{nt:Nat}{ds:List D}{i:Nat}{d:D}(h:(mR nt ds)[i]?=some (.val d)):nt<=i/\ds[i-nt]?=some d:=by
 unfold mR at h
 have hi:nt<=i:=by
  refine Nat.le_of_not_lt λz=>?_
  rw[getElem?_append_left (by simpa using z),getElem?_replicate]at h
  split at h<;>cases h
 rw[getElem?_append_right (by simpa using hi),getElem?_map]at h
 refine⟨hi,?_⟩
 simp only [List.length_replicate]at h
 cases q:ds[i-nt]? with
 |none=>rw[q]at h;cases h
 |some d'=>rw[q]at h;cases h;rfl
theorem oZ{nt:Nat}{ds:List D}{i:Nat}{xs:List D}(h:(mR nt ds)[i]?=some (.own xs)):False:=by
 unfold mR at h
 by_cases hi:i<nt
 ·rw[getElem?_append_left (by simpa using hi),getElem?_replicate]at h
  split at h<;>cases h
 ·rw[getElem?_append_right (by simp;omega),getElem?_map]at h
  cases q:ds[i-(replicate nt Sl.no).length]? with
  |none=>rw[q]at h;cases h
  |some d'=>rw[q]at h;cases h
theorem ud{nt:Nat}{ds:List D}{i:Nat}{w:Ct}(h:(mR nt ds)[i]?=some (.deep w)):False:=by
 unfold mR at h
 by_cases hi:i<nt
 ·rw[getElem?_append_left (by simpa using hi),getElem?_replicate]at h
  split at h<;>cases h
 ·rw[getElem?_append_right (by simp;omega),getElem?_map]at h
  cases q:ds[i-(replicate nt Sl.no).length]? with
  |none=>rw[q]at h;cases h
  |some d'=>rw[q]at h;cases h
theorem xq{nt:Nat}{ds:List D}{i:Nat}{w:V}(h:(mR nt ds)[i]?=some (.raw w)):False:=by
 unfold mR at h
 by_cases hi:i<nt
 ·rw[getElem?_append_left (by simpa using hi),getElem?_replicate]at h
  split at h<;>cases h
 ·rw[getElem?_append_right (by simp;omega),getElem?_map]at h
  cases q:ds[i-(replicate nt Sl.no).length]? with
  |none=>rw[q]at h;cases h
  |some d'=>rw[q]at h;cases h
section
variable{X:Cx}{pins:List (Addr×Obj)}{σ:St}{H:Hp}{s:Shared}{h':Heap}
theorem DD{fp:List Addr}{t':Nat}(I:Inv X pins σ H s)(hf:∀b∈fp,lR X pins H b)(k:∀b u,b∉fp->s.heap.get? b=some u->h'.get? b=some u):Inv X pins σ H {s with heap:=h',toks:=t'}:=by
 have IU:∀b u,H b=some u->b∉fp:=λb u e z=>by rw[(hf b z).1]at e;cases e
 refine I.step (g':=s.gens) (d':=s.drawn) (ch:=fp) (λb hb=>⟨(hf b hb).2.2.2.1,(hf b hb).2.1,(hf b hb).2.2.2.2.1,(hf b hb).2.2.2.2.2⟩) (λb u _ _ hc e _=>k b u hc e) (λb u _ _ hc e _=>⟨u.slots,k b u hc e⟩)
  (λb u _ e n=>n) (λb u hc e=>⟨u,k b u hc e⟩) (λb xs e=>e) (λb u xs e=>e) (λb ps e=>⟨#[],by rw[e];simp⟩) (λm hm=>?_) (λb u e=>?_) I.bare
 ·obtain⟨ob,es,ep,ho,r⟩:=hm
  exact⟨ob,es,ep,k _ ob (λz=>(hf _ z).2.1 rfl) ho,r⟩
 ·refine(I.hok b u e).vk (λc v hc q=>k c v ?_ q) (λc q=>q) λc xs q=>q
  rcases hc with z|z
  ·rw[z];exact IU b u e
  ·exact IU c _ z
end
def R.ne {α:Type}:R α->R α
 |.ok a=>.ok a
 |_=>.bad
theorem R.zE {α:Type}(a:α):(R.ok a).ne=.ok a:=rfl
theorem R.d8 {α β:Type}{r:R α}{k:α->R β}{y:β}(h:r.bind k=.ok y):∃a,r=.ok a/\k a=.ok y:=by
 cases r with
 |ok a=>exact⟨a,rfl,h⟩
 |err c=>cases h
 |bad=>cases h
theorem rY{α:Type}{E:Str->Hp->Prop}{H₀:Hp}{r:R α}{a:α}{p:α->Prop}(e:r=.ok a)(h:p a):Good E H₀ r p:=by rw[e];exact h
section
variable{X:Cx}{E:Str->Hp->Prop}{pos:Pos}{scope:Scope}{N:List Str}{nt:Nat}{caps:List Nat}
theorem xr{K:PySem.W.Frag}{g:Gh}{e:DE}{σ:St}{H H':Hp}{a:Addr}{ds:List D}{ts:DE}(r:Rel K g e σ H [a])(he:e=ts++ds.map .val)(hl:ts.length=nt)(x:Ext (g.P [a]) (g.P [a]) H H')(s:aF g.H₀ H')(hn:∃o,H' a=some o):
  Rel K g (mR nt ds) σ H' [a]:=by
 subst he
 refine⟨by rw[r.len];simp[mR,hl],s,λi d e=>?_,λi xs e=>(oZ e).elim,λi j xs ys b e=>(oZ e).elim,λb hb=>?_,λi w e=>(xq e).elim,yt.none λi w e=>ud e⟩
 ·obtain⟨h1,h2⟩:=xp e
  obtain⟨v,q1,q2⟩:=r.val i d (by rw[getElem?_append_right (by omega),hl,getElem?_map,h2];rfl)
  exact⟨v,q1,Is.ext x _ _ q2⟩
 ·have e:b=a:=by simpa using hb
  subst e
  exact⟨(r.new b hb).1,hn⟩
noncomputable def LS(X:Cx)(pins:List (Addr×Obj))(σ:St)(g:Gh)(os:List Addr)(H:Hp)(use:Option (Value->Sem Unit))(Qv:Value->Shared->Prop)(ys:List D):Prop:=
 ∀(Dd C:Addr)(acc:List V)(Hx:Hp)(s6:Shared),Inv X pins σ Hx s6->(∃m,s6.heap.Ns C m)->lR X pins Hx C->aF H Hx->H Dd=none->Hx Dd=some (.lst acc)->IsL X.K (g.P (Dd::os)) Hx ys acc->
  compPost (model X.prog X.w) X.A X.xe use Qv (.ref Dd) C (.ok .next) s6
theorem Cc{elt tg iter:Expr}{ifs:List Expr}{fi:DE->R (List D)}{b:D->DE->R DE}{ct:DE->R Bool}{fe:DE->R D}(S:gD X scope N nt caps)(zF:X.calm=true)(hi:PI X tg iter (LN X.K E fi))
  (hb1:∀ds d e,b d (mR nt ds)=.ok e->∃ts,e=ts++ds.map .val/\ts.length=nt)
  (hg:∀s H fp C pl,PG (qL X scope N s H fp C pl) tg (tG X.K EN b))(ht:∀s H fp C pl,LR (qL X scope N s H fp C pl) ifs (tT X.K EN ct))(he:∀s H fp C pl,PE (qL X scope N s H fp C pl) elt (tD X.K EN fe))
  (hs:∀x,foldedSetIterable iter X.env x=pure x){use:Option (Value->Sem Unit)}{Qv:Value->Shared->Prop}{pins:List (Addr×Obj)}{s:Shared}{σ:St}{H:Hp}{env:DE}{os:List Addr}{g:Gh}(I:Inv X pins σ H s)(r:Rel X.K g env σ H os)
  (m:Good E g.H₀ ((fi env).bind λxs=>(pS env caps).bind λds=>(jJ b ct fe (mR nt ds) xs).ne.bind fit) (LS X pins σ g os H use Qv)){ps:Pos}:
  wpAny (model X.prog X.w) X.A (comprehension (.ListComp elt [⟨tg,iter,ifs,0⟩] scope pos) scope X.env ps (newList []) false (eval iter X.env) use) Qv X.xe s:=by
 refine wpAny_comprehension_free (use:=use) rfl hs (qK (S.cells I)) S.kind S.names ?_
 refine dO (hi pins s σ H (λJ H1=>∃xs,aF H H1/\NS X.K (g.P os) J H1 xs/\Good E g.H₀ ((pS env caps).bind λds=>(jJ b ct fe (mR nt ds) xs).ne.bind fit) _) I ⟨g,env,os,r,m.bind.mono λxs _ m1 J H1 s1 yl=>⟨xs,s1,yl,m1⟩⟩) λv s1 h1=>dO h1 λitv s2 h2=>?_
 obtain⟨it,fp,tn,J,H2,rfl,I2,T,Fg,f2,xs,LU,yl,m1⟩:=h2
 have r2:=r.same LU
 obtain⟨ds,vs,m2,NW,HC,hds,hvs⟩:=m1.bind.pS r2
 cases ec:jJ b ct fe (mR nt ds) xs with
 |bad=>rw[ec]at m2;exact m2.elim
 |err c=>rw[ec]at m2;exact m2.elim
 |ok ys=>
 rw[ec]at m2
 obtain⟨hz,q⟩:=(show Good E g.H₀ (fit ys) _ from m2).fit
 refine wpAny_newObj_type (wpAny_newFunctionEnv S.cell (by intro y hy;simp at hy) (λh₁ FQ hsb₁=>?_) S.kind)
 dsimp only at FQ hsb₁⊢
 have IV:H2 s2.heap.objs.size=none:=I2.hok.fresh (Nat.le_refl _)
 have I3:Inv X pins σ (upd H2 s2.heap.objs.size (.lst [])) {s2 with heap:=s2.heap.push {cls:=.type "list",dict:=none,data:=.seq ([]:List Value).toArray}}:=
  I2.laid (t':=s2.toks) (λb u e=>Heap.get?_push_of_some _ e) (Nat.le_refl _) ⟨zero_le _,[],0,.nil,Heap.get?_push_size _ rfl⟩
 generalize NX:({s2 with heap:=s2.heap.push {cls:=.type "list",dict:=none,data:=.seq ([]:List Value).toArray}}:Shared)=s3 at I3
 have LV:s3.heap=s2.heap.push {cls:=.type "list",dict:=none,data:=.seq ([]:List Value).toArray}:=by rw[<-NX]
 rw[<-LV]at FQ hsb₁⊢
 generalize PJ:s2.heap.objs.size=Dd at*
 have k3:∀b o,s3.heap.get? b=some o->h₁.get? b=some o:=λb o e=>hsb₁.extBut b o (ne_of_lt (Heap.lt_size e)) (Heap.get?_push_of_some _ e)
 have IW:∀b∈fp,∃o,s2.heap.get? b=some o:=λb hb=>let⟨o,e,_⟩:=T.obj 0 _ Fg b hb;⟨o,e⟩
 have LW:∀b∈fp,∃o,s3.heap.get? b=some o:=λb hb=>let⟨o,e⟩:=IW b hb;⟨o,by rw[LV];exact Heap.get?_push_of_some _ e⟩
 have PK:∀b∈fp,b≠Dd:=λb hb=>let⟨o,e⟩:=IW b hb;by rw[<-PJ];exact ne_of_lt (Heap.lt_size e)
 have f3:∀b∈fp,lR X pins (upd H2 Dd (.lst [])) b:=λb hb=>⟨by rw[aN (PK b hb)];exact(f2 b hb).1,(f2 b hb).2⟩
 have sD:aF H2 (upd H2 Dd (.lst [])):=dq IV _
 have I4:=S.start (t':=s2.toks+([]:List (Str×Value)).length) I3 f3 (Nat.le_refl _) FQ k3 LW NW (λj i v e1 e2=>hvs j i v e1 e2) _ rfl
 generalize hX:qL X scope N s3 (upd H2 Dd (.lst [])) fp s3.heap.objs.size (X.pn++pins)=X' at I4
 have NY:=hg s3 (upd H2 Dd (.lst [])) fp s3.heap.objs.size (X.pn++pins)
 have NZ:=ht s3 (upd H2 Dd (.lst [])) fp s3.heap.objs.size (X.pn++pins)
 have N3:=he s3 (upd H2 Dd (.lst [])) fp s3.heap.objs.size (X.pn++pins)
 rw[hX]at NY NZ N3
 have eK:X'.K=X.K:=by rw[<-hX];rfl
 have eP:X'.prog=X.prog:=by rw[<-hX];rfl
 have eW:X'.w=X.w:=by rw[<-hX];rfl
 have eA:X'.A=X.A:=by rw[<-hX];rfl
 have eE:X'.xe=λ_ _=>False:=by rw[<-hX];rfl
 have eC:X'.calm=true:=by rw[<-hX];exact zF
 have eL:X'.env.locals=s3.heap.objs.size:=by rw[<-hX];rfl
 have eS:X'.s₀=s3:=by rw[<-hX];rfl
 have eX:X'.ex=fp:=by rw[<-hX];rfl
 have eF:X'.fs=wZ X.stack:=by rw[<-hX];rfl
 have eN:X'.pn=X.pn++pins:=by rw[<-hX];rfl
 have eH:X'.H₀=upd H2 Dd (.lst []):=by rw[<-hX];rfl
 have eV:X'.env=compEnvC scope (vg X.env.cells scope.names []) s3.heap.objs.size X.env:=by rw[<-hX];rfl
 have LX:∀{Hx:Hp},(∀b∈fp,Hx b=none)->∀b∈fp,lR X' [] Hx b:=λ{Hx} hn b hb=>by
  obtain⟨_,c1,c2,c3,c4,c5⟩:=f3 b hb
  have q:=I4.ok.Kb b (by rw[eX];exact hb)
  refine⟨hn b hb,q.1,I4.ok.yf b (by rw[eX];exact hb),.inl (by rw[eX];exact hb),q.2,λp hp=>?_⟩
  rw[eN,append_nil]at hp
  exact c5 p hp
 let g':Gh:=⟨g.P os,H2⟩
 have N4:∀{Hx:Hp},aF H2 Hx->Ext (g.P os) (g'.P [Dd]) H2 Hx:=λsx=>⟨λa o p e=>⟨.inl p,λz=>by
  have z':a=Dd:=by simpa using z
  rw[z',IV]at e;cases e⟩,λa o _ e=>sx a o e⟩
 have LY:Rel X.K g' (mR nt ds) (replicate nt none++vs.map some) (upd H2 Dd (.lst [])) [Dd]:=by
  refine⟨by simp[mR,NW,HC],sD,λi d e=>?_,λi xs e=>(oZ e).elim,λi j xs ys b e=>(oZ e).elim,λb hb=>?_,λi w e=>(xq e).elim,yt.none λi w e=>ud e⟩
  ·obtain⟨h1,h2⟩:=xp e
   obtain⟨v,q1,q2⟩:=hds.get h2
   refine⟨v,?_,Is.ext (N4 sD) _ _ q2⟩
   rw[getElem?_append_right (by simpa using h1),getElem?_map,List.length_replicate,q1]<;>rfl
  ·have e:b=Dd:=by simpa using hb
   subst e
   exact⟨IV,_,bO⟩
 have loop:∀s4:Shared,Inv X' [] (replicate nt none++vs.map some) (upd H2 Dd (.lst [])) s4->tn 0 s4.heap->
   codeAny (model X.prog X.w) X.A (.compLoop (.ListComp elt [⟨tg,iter,ifs,0⟩] scope pos) 0 (.ref it) (.ref Dd) (compEnvC scope (vg X.env.cells scope.names []) s3.heap.objs.size X.env))
    (compPost (model X.prog X.w) X.A X.xe use Qv (.ref Dd) s3.heap.objs.size) s4:=by
  intro s4 J4 IX
  refine uc (λn s'=>∃i acc as rest Hx σ',n=xs.length-i/\i<=xs.length/\Inv X' [] σ' Hx s'/\tn i s'.heap/\(∀b∈fp,Hx b=none)/\Hx Dd=some (.lst acc)/\IsL X.K (g'.P [Dd]) Hx as acc/\
   jJ b ct fe (mR nt ds) (xs.drop i)=.ok rest/\as++rest=ys/\Rel X.K g' (mR nt ds) σ' Hx [Dd]) ?_ xs.length
   ⟨0,[],[],ys,_,_,by simp,zero_le _,J4,IX,λb hb=>(f3 b hb).1,bO,rfl,by rw[drop_zero];exact ec,rfl,LY⟩
  rintro n s5 ⟨i,acc,as,rest,Hx,σ5,rfl,Rh,J5,Hz,Kj,Ks,LZ,c5,e5,r5⟩
  obtain⟨y1,y2⟩:=yl i Hx (g'.P [Dd]) r5.ext (N4 r5.ext)
  by_cases hlt:i<xs.length
  ·have hx:xs[i]?=some xs[i]:=getElem?_eq_getElem hlt
   obtain⟨go,y3⟩:=y1 _ hx
   rw[List.drop_eq_getElem_cons hlt]at c5
   obtain⟨e1,Ku,c6⟩:=R.d8 (show(b xs[i] (mR nt ds)).bind _=.ok rest from c5)
   obtain⟨t,PL,c7⟩:=R.d8 c6
   have TI:=T.item X' eP eW eK eC i [] s5 σ5 Hx (λ_ _=>False) J5 (LX Kj) Hz go
   rw[eA]at TI
   refine dO TI λr s6 h6=>?_
   obtain⟨u,rfl,h6⟩:=h6
   refine dO h6 λ_ s7 h7=>?_
   obtain⟨x,H7,J7,rx,hy,L4,PN⟩:=h7
   obtain⟨HD,hix⟩:=y3 x H7 hy
   have ix:Is X.K (g'.P [Dd]) H7 xs[i] x:=Is.ext ⟨λa o p _=>p.elim (λz=>z) λz=>r5.fresh z,λ_ _ _ z=>z⟩ _ _ hix
   have PQ:=J7.pinned (LX PN) (T.obj _ _ L4)
   have TG:=NY _ s7 σ5 H7 x u (λσ8 H8=>∃e8,b xs[i] (mR nt ds)=.ok e8/\Rel X.K g' e8 σ8 H8 [Dd]/\H8=H7) PQ rx ⟨g',mR nt ds,[Dd],xs[i],r5.same HD,ix,rY Ku λσ8 r8=>⟨e1,Ku,r8,rfl⟩⟩
   rw[eP,eW,eA,eE,eV]at TG
   refine dO TG λ_ s8 h8=>?_
   obtain⟨σ8,H8,J8,e8,N5,r8,PR⟩:=h8
   rw[PR]at J8 r8
   rw[Ku]at N5
   cases N5
   have TT:=NZ _ s8 σ8 H7 (λt' H9=>t'=t/\aF H7 H9) J8 ⟨g',e1,[Dd],r8,rY PL λH9 s9=>⟨rfl,s9⟩⟩
   rw[eP,eW,eA,eE,eV]at TT
   refine dO TT λok s9 h9=>?_
   obtain⟨H9,J9,rfl,Bm⟩:=h9
   obtain⟨ts,hts,N6⟩:=hb1 ds _ _ Ku
   have DF:∀{σx:St}{Hy:Hp}{sx:Shared},Inv X' ([]++pK fp s7.heap) σx Hy sx->tn (i+1) sx.heap/\∀b∈fp,Hy b=none:=λ{σx Hy sx} Jx=>
    ⟨T.keep _ _ _ L4 λb hb o e=>(Jx.pin (b,o) (mem_append_right _ (mem_append_right _ (jh hb e)))).1,λb hb=>by
     obtain⟨o,e,d⟩:=T.obj _ _ L4 b hb
     exact(Jx.pin (b,o) (mem_append_right _ (mem_append_right _ (jh hb e)))).2.1⟩
   cases ok with
   |false=>
    rw[if_neg Bool.false_ne_true]
    have c8:jJ b ct fe (mR nt ds) (xs.drop (i+1))=.ok rest:=c7
    obtain⟨k1,k2⟩:=DF J9
    exact⟨xs.length-(i+1),by omega,i+1,acc,as,rest,H9,σ8,rfl,hlt,J9.jX,k1,k2,Bm _ _ (HD _ _ Ks),(LZ.same HD).same Bm,c8,e5,
     xr r8 hts N6 (.same Bm) (r8.ext.trans Bm) ⟨_,Bm _ _ (HD _ _ Ks)⟩⟩
   |true=>
    rw[if_pos rfl]
    obtain⟨d,PU,c8⟩:=R.d8 (show(fe e1).bind _=.ok rest from c7)
    obtain⟨zG,PV,c9⟩:=R.d8 c8
    have PX:rest=d::zG:=by cases c9;rfl
    subst PX
    have TE:=N3 _ s9 σ8 H9 (λv zH=>aF H9 zH/\Is X.K (g'.P [Dd]) zH d v) J9 ⟨g',e1,[Dd],r8.same Bm,rY PU λv zH L5 PY=>⟨L5,PY⟩⟩
    rw[eP,eW,eA,eE,eV]at TE
    refine dO TE λy L5 PZ=>?_
    obtain⟨v,zH,P1,rv,Cd,iv⟩:=PZ
    have L6:zH Dd=some (.lst acc):=Cd _ _ (Bm _ _ (HD _ _ Ks))
    have IY:IsL X.K (g'.P [Dd]) zH as acc:=((LZ.same HD).same Bm).same Cd
    have TM:=mY (X:=X') _ L5 σ8 zH (.ref Dd) [v] (.ref Dd) [y] (λ_ N7=>N7=upd zH Dd (.lst (acc++[v]))) P1 rfl (.cons rv .nil) ⟨Dd,acc,v,rfl,rfl,L6,by
     rw[IY.length]
     have:(as++d::zG).length<=sizeLine:=by rw[e5];exact hz
     rw[length_append,length_cons]at this
     omega,rfl⟩
    rw[eP,eW,eA,eE]at TM
    refine dO TM λ_ Ri h11=>?_
    obtain⟨v',N7,N8,_,rfl⟩:=h11
    obtain⟨k1,k2⟩:=DF N8
    have N9:Ext (g'.P [Dd]) (g'.P [Dd]) zH (upd zH Dd (.lst (acc++[v]))):=⟨λ_ _ p _=>p,λa o p e=>by rw[aN (λz=>p.2 (by simp[z]))];exact e⟩
    have L7:aF H2 zH:=(r8.ext.trans Bm).trans Cd
    refine⟨xs.length-(i+1),by omega,i+1,acc++[v],as++[d],zG,_,σ8,rfl,hlt,N8.jX,k1,k2,bO,IsL.ext N9 _ _ (IY.app (.one iv)),PV,by rw[List.append_assoc];exact e5,?_⟩
    exact xr (r8.same (Bm.trans Cd)) hts N6 N9 (λa o e=>by rw[aN (bK (show H2 a=some o from e) IV)];exact L7 a o e) ⟨_,bO⟩
  ·have e:i=xs.length:=by omega
   subst e
   rw[List.drop_length]at c5
   have P4:rest=[]:=by cases c5;rfl
   subst P4
   rw[append_nil]at e5
   subst e5
   have TD:=T.done X' eP eW eK eC xs.length [] s5 σ5 Hx (λ_ _=>False) J5 (LX Kj) Hz (y2 rfl)
   rw[eA]at TD
   refine dO TD λr s6 h6=>?_
   obtain⟨rfl,J6⟩:=h6
   obtain⟨m6,Kv,_⟩:=J6.loc
   rw[eL]at Kv
   have P5:Un (wZ X.stack) fp (upd H2 Dd (.lst [])) Hx s3.heap s6.heap:=by
    have u:=J6.base
    rw[eF,eX,eH,eS]at u
    exact u
   have hxC:Hx s3.heap.objs.size=none:=by have:=J6.free;rw[eL]at this;exact this
   have L8:nX X.prog X.w Hx s6.heap:=by
    have z:=J6.hok
    rw[eP,eW]at z
    exact z
   have P6:s6.os=s3.os:=by have:=J6.os;rw[eS]at this;exact this
   have I6:Inv X pins σ Hx s6:=I3.HS (s':=s6) P6 P5 L8 J6.bare λb hb=>by
    obtain⟨_,c1,c2,c3,c4,c5⟩:=f3 b hb
    exact⟨c3,c1,c4,c5⟩
   have fC:lR X pins Hx s3.heap.objs.size:=⟨hxC,(I3.ze (Nat.le_refl _) (I3.hok.fresh (Nat.le_refl _))).2⟩
   refine q Dd s3.heap.objs.size acc Hx s6 I6 ⟨m6,Kv⟩ fC (LU.trans r5.ext) (LU.free IV) Ks (IsL.ext ⟨λa o p _=>?_,λ_ _ _ z=>z⟩ _ _ LZ)
   have z:g.P os a:=p.1.elim (λz=>z) λz=>r2.fresh z
   exact⟨z.1,λhm=>(mem_cons.mp hm).elim (λz=>p.2 (by simp[z])) z.2⟩
 have IX:tn 0 h₁:=T.keep _ _ _ Fg λb hb o e=>k3 b o (by rw[LV];exact Heap.get?_push_of_some _ e)
 have eG:({heap:=h₁,gens:=s3.gens,drawn:=s3.drawn,toks:=s2.toks+([]:List (Str×Value)).length,os:=s3.os}:Shared)={heap:=h₁,gens:=s2.gens,drawn:=s2.drawn,toks:=s2.toks+([]:List (Str×Value)).length,os:=s2.os}:=by rw[<-NX]
 rw[eG]at I4
 exact codeAny_compStart_list (loop _ I4 IX) (T.self _ 0 _ _ _ IX (loop _ I4 IX))
variable{elt tg iter:Expr}{ifs:List Expr}{fi:DE->R (List D)}{b:D->DE->R DE}{ct:DE->R Bool}{fe:DE->R D}
theorem IZ(S:gD X scope N nt caps)(zF:X.calm=true)(hi:PI X tg iter (LN X.K E fi))
  (hb1:∀ds d e,b d (mR nt ds)=.ok e->∃ts,e=ts++ds.map .val/\ts.length=nt)
  (hg:∀s H fp C pl,PG (qL X scope N s H fp C pl) tg (tG X.K EN b))(ht:∀s H fp C pl,LR (qL X scope N s H fp C pl) ifs (tT X.K EN ct))(he:∀s H fp C pl,PE (qL X scope N s H fp C pl) elt (tD X.K EN fe))
  (hs:∀x,foldedSetIterable iter X.env x=pure x:=by intro _;rfl):
  PE X (.ListComp elt [⟨tg,iter,ifs,0⟩] scope pos) (tF X.K E λenv=>(fi env).bind λxs=>(pS env caps).bind λds=>(jJ b ct fe (mR nt ds) xs).ne.bind fit):=by
 intro pins s σ H Q I h
 obtain⟨g,env,os,r,m⟩:=h
 rw[eval_ListComp]
 refine Cc S zF hi hb1 hg ht he hs I r (m.mono λys _ q Dd C acc Hx s6 I6 hn fC sm hD hx ia=>?_)
 obtain⟨m6,Kv⟩:=hn
 refine⟨m6,Kv,λh7 P7=>⟨.ref Dd,Hx,DD (fp:=[C]) (t':=s6.toks) I6 (λb hb=>by
  have z:b=C:=by simpa using hb
  rw[z];exact fC) (λb u hb e=>(P7.2 b (λz=>hb (by simp[z]))).trans e),rfl,q Dd acc Hx sm hD hx ia⟩⟩
end
section
variable{X:Cx}{pins:List (Addr×Obj)}{σ:St}{H:Hp}{s:Shared}{h':Heap}
theorem Ce{fp:List Addr}{t:Addr}{o:HO}{t':Nat}(I:Inv X pins σ H s)(hf:∀b∈fp,lR X pins H b)(k:∀b u,b∉fp->s.heap.get? b=some u->h'.get? b=some u)(hex:∀b∈fp,∀u,s.heap.get? b=some u->∃u',h'.get? b=some u')(ht:s.heap.objs.size<=t)
  (new:dN X.prog X.w (upd H t o) h' t o):Inv X pins σ (upd H t o) {s with heap:=h',toks:=t'}:=by
 have hn:H t=none:=I.hok.fresh ht
 have IU:∀b u,H b=some u->b∉fp:=λb u e z=>by rw[(hf b z).1]at e;cases e
 refine I.step (g':=s.gens) (d':=s.drawn) (ch:=fp) (λb hb=>⟨(hf b hb).2.2.2.1,(hf b hb).2.1,(hf b hb).2.2.2.2.1,(hf b hb).2.2.2.2.2⟩) (λb u _ _ hc e _=>k b u hc e) (λb u _ _ hc e _=>⟨u.slots,k b u hc e⟩)
  (λb u _ e n=>by rw[aN (ne_of_lt (lt_of_lt_of_le (Heap.lt_size e) ht))];exact n) (λb u hc e=>⟨u,k b u hc e⟩)
  (λb xs e=>by rw[aN (bK e hn)];exact e) (λb u xs e=>by rw[aN (bK e hn)];exact e) (λb ps e=>⟨#[],by rw[aN (bK e hn),e];simp⟩)
  (λm hm=>?_) (λb u e=>?_) I.bare
 ·obtain⟨ob,es,ep,ho,r⟩:=hm
  exact⟨ob,es,ep,k _ ob (λz=>(hf _ z).2.1 rfl) ho,r⟩
 ·by_cases hb:b=t
  ·subst hb;rw[bO]at e;cases e;exact new
  ·rw[aN hb]at e
   refine(I.hok b u e).vk (λc v hc q=>k c v ?_ q) (λc q=>by rw[aN (bK q hn)];exact q) λc xs q=>by rw[aN (bK q hn)];exact q
   rcases hc with z|z
   ·rw[z];exact IU b u e
   ·exact IU c _ z
end
def Oa(K:PySem.W.Frag)(l:Addr):It:=
 ⟨λi H=>∃xs x,jV K H l xs/\xs[i]?=some x,λi H x H'=>∃t y,H t=none/\H'=upd H t (.tup [.int (i:Nat),y])/\x=.ref t/\∀xs,jV K H l xs->xs[i]?=some y,λi H=>∃xs,jV K H l xs/\xs.length<=i⟩
theorem yx{P:Program}{w:World}{K:PySem.W.Frag}{elts:List Expr}{kk:Nat}{pp:Pos}(l e it:Addr)(hei:e≠it):
  Turn P w K (.Tuple elts kk pp) (Oa K l) [e,it] e (λi h=>(∃old,IsEnum h e it (i:Nat) old)/\h.IsListIter it l i) where
 mem:=by simp
 obj:=λi h st b hb=>by
  obtain⟨⟨old,he⟩,o,e2,c,d⟩:=st
  rcases mem_cons.mp hb with rfl|hb
  ·exact⟨_,he,λv z=>by cases z⟩
  ·have z:b=it:=by simpa using hb
   subst z
   exact⟨o,e2,λv z=>by rw[d]at z;cases z⟩
 keep:=λi h h' st k=>by
  obtain⟨⟨old,he⟩,hit⟩:=st
  exact⟨⟨old,k e (by simp) _ he⟩,hit.at λo q=>k it (by simp) o q⟩
 item:=by
  intro X hP hw hK hc i pins s σ H E I hf st hg
  subst hP hw hK
  obtain⟨xs,x,hq,hx⟩:=hg
  obtain⟨its,rv,p,hz⟩:=I.list hq
  obtain⟨u,hu,ru⟩:=rv.get hx
  obtain⟨⟨old,he⟩,hit⟩:=st
  refine wpAny_pyNext_enum_item he hit p.isList (x:=u) (by simpa using hu) hei λh' ho I0 hT hsz hk=>?_
  refine⟨_,rfl,wpAny_letOwnedTupleGo_enum ho λOb I8 Cf=>?_⟩
  have hlt:e<s.heap.objs.size:=Heap.lt_size he
  have L9:it<s.heap.objs.size:=by obtain⟨_,z,_⟩:=hit;exact Heap.lt_size z
  have kk:∀b o,b∉[e,it]->s.heap.get? b=some o->Ob.get? b=some o:=λb o hb q=>by
   have h1:b≠e:=λz=>hb (by simp[z])
   have h2:b≠it:=λz=>hb (by simp[z])
   exact(Cf.2 b h1).trans (hk b o h1 h2 q)
  have Mb:Ob.get? s.heap.objs.size=some {cls:=.type "tuple",data:=.seq #[.int i s.toks,u]}:=(Cf.2 _ (ne_of_gt hlt)).trans hT
  have hn:H s.heap.objs.size=none:=I.hok.fresh (Nat.le_refl _)
  refine⟨.ref s.heap.objs.size,upd H s.heap.objs.size (.tup [.int (i:Nat),x]),?_,rfl,⟨_,x,hn,rfl,rfl,λys hy=>by rw[I.pJ hy hq];exact hx⟩,⟨⟨u,by simpa using I8⟩,I0.at λo q=>(Cf.2 it hei.symm).trans q⟩,λb hb=>?_⟩
  ·refine Ce (s:=s) I hf kk (λb hb u hu=>?_) (Nat.le_refl _) ⟨(by show 2<=sizeLine;decide),[.int i s.toks,u],.cons ⟨_,rfl⟩ (.cons ru .nil),⟨_,Mb,rfl,_,rfl⟩⟩
   rcases mem_cons.mp hb with rfl|hb
   ·exact⟨_,I8⟩
   ·have z:b=it:=by simpa using hb
    subst z
    obtain⟨o,q,_⟩:=I0
    exact⟨o,(Cf.2 b hei.symm).trans q⟩
  ·rw[aN]
   ·exact(hf b hb).1
   ·rcases mem_cons.mp hb with rfl|hb
    ·exact ne_of_lt hlt
    ·have z:b=it:=by simpa using hb
     subst z
     exact ne_of_lt L9
 done:=by
  intro X hP hw hK hc i pins s σ H E I hf st hg
  subst hP hw hK
  obtain⟨xs,hq,hx⟩:=hg
  obtain⟨its,rv,p,hz⟩:=I.list hq
  obtain⟨⟨old,he⟩,hit⟩:=st
  have hl:=rv.length
  refine wpAny_pyNext_enum_end (I.ok.hd hc) he hit p.isList (by simp;omega) λh' eb=>⟨rfl,?_⟩
  exact DD (fp:=[e,it]) (t':=s.toks) I hf λb o hb q=>eb b o (λz=>hb (by simp[z])) q
 self:=λ_ _ _ _ _ st h=>by
  obtain⟨⟨old,he⟩,_⟩:=st
  exact wpAny_pyIter_enum he h
section
variable{X:Cx}{E:Str->Hp->Prop}{pos:Pos}
def dS(xs:List D):List D:=xs.zipIdx.map λp=>.tup [.int (p.2:Nat),p.1]
theorem ng{xs:List D}{i:Nat}{d:D}(h:(dS xs)[i]?=some d):∃x,xs[i]?=some x/\d=.tup [.int (i:Nat),x]:=by
 unfold dS at h
 rw[getElem?_map,List.getElem?_zipIdx]at h
 cases q:xs[i]? with
 |none=>rw[q]at h;cases h
 |some x=>
  rw[q]at h
  refine⟨x,rfl,?_⟩
  have h':some (D.tup [.int ((0+i:Nat):Int),x])=some d:=h
  rw[zero_add]at h'
  exact(Option.some.inj h').symm
theorem iE{a:Expr}{elts:List Expr}{kk:Nat}{pp p:Pos}{f:DE->R D}(hm:X.mg "enumerate"=none)(ha:PE X a (tD X.K E f))(hg:Gl X "enumerate":=by rfl)(hs:starEach [a] X.env=[(false,eval a X.env)]:=by rfl):
  PI X (.Tuple elts kk pp) (.Call (.Name "enumerate" p) [a] [] pos) (tI X.K E λenv=>(f env).bind λd=>(zu d).bind λxs=>.ok (dS xs)):=by
 intro pins s σ H Rr I h
 obtain⟨g,env,os,r,m⟩:=h
 have P8:PA X [a] (Bk X.K E λenv=>(f env).bind λx=>(R.ok []).bind λxs=>.ok (x::xs)):=aB ha d7 hs
 refine Call_ (pI I hg hm boot_enumerate (PyProof.Rows.callWith_type1 (dO (P8 pos pins s σ H (λvs H1=>aF H H1/\∃d,f env=.ok d/\∃v,vs=[v]/\Is X.K (g.P os) H1 d v/\Good E g.H₀ ((zu d).bind λxs=>.ok (dS xs)) (λxs=>∀J H1,aF H H1->Yl X.K (g.P os) J H1 xs->Rr J H1)) I
  ⟨g,env,os,r,?_⟩) λus s1 ⟨vs,H1,I1,r1,q1⟩=>?_) hs rfl))
 ·exact Good.BZ m.bind (λd e q=>by
   show Good E g.H₀ (R.ok [d]) _
   exact λvs H' s' i'=>by
    obtain⟨v,rfl,iv⟩:=IsL.yv i'
    exact⟨s',d,e,v,rfl,iv,q⟩)
 ·obtain⟨P9,d,_,v,rfl,iv,q⟩:=q1
  cases d with
  |lst xs=>
   obtain⟨l,ws,rfl,h1,h2⟩:=iv
   obtain⟨u,rfl,ru⟩:=vals1 r1
   cases ru
   obtain⟨its,rv,pl,hz⟩:=I1.list h1.sq
   refine call_enumerate_list pl.isList λh' he hit hsz hk=>?_
   refine wpAny_pyIter_enum he ?_
   have I2:Inv X pins σ H1 {s1 with heap:=h'}:=I1.kept (t':=s1.toks) hk
   have f1:∀b∈[s1.heap.objs.size+1,s1.heap.objs.size],lR X pins H1 b:=λb hb=>by
    have Oc:s1.heap.objs.size<=b:=by
     simp only [mem_cons,not_mem_nil,or_false]at hb
     rcases hb with rfl|rfl<;>omega
    exact I1.ze Oc (I1.hok.fresh Oc)
   refine⟨s1.heap.objs.size+1,[s1.heap.objs.size+1,s1.heap.objs.size],_,Oa X.K l,H1,rfl,I2,yx l _ _ (ne_of_gt (Nat.lt_succ_self _)),⟨⟨_,he⟩,hit⟩,f1,?_⟩
   refine(show∀J H1,aF H H1->Yl X.K (g.P os) J H1 (dS xs)->Rr J H1 from q) _ H1 P9 λi H' P' ex=>⟨λd hd=>?_,λhi=>?_⟩
   ·obtain⟨x,hx,rfl⟩:=ng hd
    obtain⟨y,hy,iy⟩:=(IsL.ext ex _ _ h2).get hx
    refine⟨⟨ws,y,(h1.ext ex).sq,hy⟩,λz H2 Qa=>?_⟩
    obtain⟨t,y',ht,rfl,rfl,hall⟩:=Qa
    have e2:=hall ws (h1.ext ex).sq
    rw[hy]at e2
    cases e2
    refine⟨dq ht _,t,_,rfl,.inl ⟨.inr ht,.inl bO⟩,IsL.cons rfl (IsL.one (Is.ext ⟨λ_ _ p _=>.inl p,λa o _ e=>dq ht _ a o e⟩ _ _ iy))⟩
   ·refine⟨ws,(h1.ext ex).sq,?_⟩
    rw[IsL.length h2]
    refine le_of_eq ?_
    have:(dS xs).length=xs.length:=by simp[dS]
    omega
  |non=>exact q.elim
  |bl _=>exact q.elim
  |int _=>exact q.elim
  |str _=>exact q.elim
  |exc _=>exact q.elim
  |fn _=>exact q.elim
  |tup _=>exact q.elim
end
def o4:D->String
 |.non=>"NoneType"
 |.bl _=>"bool"
 |.int _=>"int"
 |.str _=>"str"
 |.lst _=>"list"
 |.tup _=>"tuple"
 |.exc _=>"tuple"
 |.fn _=>"tuple"
def fx(t T:String):Bool:=t==T||(t=="bool"&&T=="int")
def ue(t T:String):Option Bool:=if((Value.type t)==(Value.type T))=true then some true else if PySem.W.kitMeta T=true then(fastBuiltinMro t).map (·.contains (.type T))else none
theorem Cg(K:PySem.W.Frag)(t T:String):kitOne K (.type t) (.type T)=ue t T:=rfl
def uf(T:String):Prop:=∀d:D,ue (o4 d) T=some (fx (o4 d) T)
theorem l0{T:String}(h:ue "NoneType" T=some (fx "NoneType" T)/\ue "bool" T=some (fx "bool" T)/\ue "int" T=some (fx "int" T)/\ue "str" T=some (fx "str" T)/\ue "list" T=some (fx "list" T)/\ue "tuple" T=some (fx "tuple" T)):uf T:=λd=>by
 cases d with
 |non=>exact h.1
 |bl _=>exact h.2.1
 |int _=>exact h.2.2.1
 |str _=>exact h.2.2.2.1
 |lst _=>exact h.2.2.2.2.1
 |tup _=>exact h.2.2.2.2.2
 |exc _=>exact h.2.2.2.2.2
 |fn _=>exact h.2.2.2.2.2
theorem zI:uf "int":=l0 (by decide +kernel)
theorem xt:uf "bool":=l0 (by decide +kernel)
theorem FT:uf "str":=l0 (by decide +kernel)
theorem xu:uf "list":=l0 (by decide +kernel)
theorem ug:uf "tuple":=l0 (by decide +kernel)
section
variable{X:Cx}{E:Str->Hp->Prop}{pos:Pos}
theorem FU{pins:List (Addr×Obj)}{σ:St}{H:Hp}{s:Shared}{A:Around}{E:Value->Shared->Prop}{Q:Value->Shared->Prop}{d:D}{x:V}{u:Value}{T:String}{P:Addr->Prop}(I:Inv X pins σ H s)(rx:RelV x u)(hd:Is X.K P H d x)(hne:∀n,d≠.exc n/\d≠.fn n)(kt:uf T)(h:∀tk,Q (.bool (fx (o4 d) T)) {s with toks:=tk}):
  wpAny (model X.prog X.w) A (call (.builtin "isinstance") [u,.type T]) Q E s:=by
 have e:kitOne X.K (.type (o4 d)) (.type T)=some (fx (o4 d) T):=(Cg _ _ _).trans (kt d)
 cases d with
 |non=>cases hd;exact kJ I rx .non e h
 |bl b=>cases hd;exact kJ I rx (.bl b) e h
 |int b=>cases hd;exact kJ I rx (.int b) e h
 |str b=>cases hd;exact kJ I rx (.str b) e h
 |lst ds=>
  obtain⟨a,vs,rfl,h1,h2⟩:=hd
  cases rx
  obtain⟨its,rv,⟨o,n,e1,c1,d1,t1⟩,hz⟩:=I.list h1.sq
  exact kia_one kitx_list I.rL ⟨o,e1,c1⟩ e (λz=>nomatch z) h
 |tup ds=>
  obtain⟨a,vs,rfl,h1,h2⟩:=hd
  cases rx
  obtain⟨its,rv,⟨o,e1,c1,d1⟩,hz⟩:=I.tuple h1.sq
  exact kia_one kitx_tuple I.rL ⟨o,e1,c1⟩ e (λz=>nomatch z) h
 |exc n=>exact((hne n).1 rfl).elim
 |fn n=>exact((hne n).2 rfl).elim
def uh(T:String)(d:D):R D:=match d with
 |.exc _=>.bad
 |.fn _=>.bad
 |d=>.ok (.bl (fx (o4 d) T))
theorem FW{T:String}{d:D}(h:∀n,d≠.exc n/\d≠.fn n):uh T d=.ok (.bl (fx (o4 d) T)):=by
 cases d with
 |exc n=>exact((h n).1 rfl).elim
 |fn n=>exact((h n).2 rfl).elim
 |_=>rfl
theorem qM:bootBuiltins "isinstance"=some (.builtin "isinstance"):=by decide +kernel
theorem zJ:bootBuiltins "int"=some (.type "int"):=by decide +kernel
theorem xw:bootBuiltins "bool"=some (.type "bool"):=by decide +kernel
theorem xx:bootBuiltins "list"=some (.type "list"):=by decide +kernel
theorem FY:bootBuiltins "str"=some (.type "str"):=by decide +kernel
theorem ui:bootBuiltins "tuple"=some (.type "tuple"):=by decide +kernel
theorem fy:bootBuiltins "len"=some (.builtin "len"):=by decide +kernel
theorem gg:bootBuiltins "abs"=some (.builtin "abs"):=by decide +kernel
theorem zK:bootBuiltins "max"=some (.builtin "max"):=by decide +kernel
theorem rZ{T:String}{x:Str}{p p2:Pos}{a:Expr}{f:DE->R D}(kt:uf T)(hv:bootBuiltins x=some (.type T))(hm:X.mg "isinstance"=none)(hmt:X.mg x=none)(ha:PE X a (tB X.K E f))(hg:Gl X "isinstance":=by rfl)(fK:Gl X x:=by rfl)
  (hn:x≠"__name__":=by decide)(hdb:(x==("__debug__":Str))=false:=by decide)
  (hs:starEach [a,.Name x p2] X.env=(false,eval a X.env)::starEach [.Name x p2] X.env:=by rfl)(hpl:(backTo pos (starEach [.Name x p2] X.env)).any (·.1)=false:=by rfl)(hs2:starEach [.Name x p2] X.env=(false,eval (.Name x p2) X.env)::starEach [] X.env:=by rfl):
  PE X (.Call (.Name "isinstance" p) [a,.Name x p2] [] pos) (tD X.K E λenv=>(f env).bind (uh T)):=by
 have hty:PE X (.Name x p2) (tC (.ty T)):=BA fK hmt hv rfl hn hdb
 refine imp (pM (r:=λxs H Q=>∃d v,xs=[v,.ty T]/\(∀n,d≠.exc n/\d≠.fn n)/\Is X.K Tr H d v/\Q (.bl (fx (o4 d) T)) H) ?_ hg hm qM (fH ha (fH hty jY hs2) hs) (by decide) (by decide) hs hpl) λσ H Q ⟨g,env,os,r,m⟩=>⟨g,env,os,r,m.bind.mono λd _ q v H' s i=>?_⟩
 ·intro pins s σ H xs us Q I r h
  obtain⟨d,v,rfl,hne,hd,q⟩:=h
  obtain⟨u,w,rfl,ru,mQ⟩:=vals2 r
  have e:w=.type T:=mQ
  subst e
  exact FU I ru hd hne kt λtk=>⟨.bl _,H,I.tok _,rfl,q⟩
 ·by_cases hne:∀n,d≠.exc n/\d≠.fn n
  ·rw[FW hne]at q
   exact⟨d,v,rfl,hne,i,q _ H' s rfl⟩
  ·cases d with
   |exc n=>exact q.elim
   |fn n=>exact q.elim
   |_=>exact(hne λn=>⟨λz=>(nomatch z),λz=>(nomatch z)⟩).elim
def bools:List D->Option (List Bool)
 |[]=>some []
 |.bl b::r=>(bools r).map (b::·)
 |_::_=>none
end
noncomputable def HE:D->D->Option Bool
 |.non,.non=>some true
 |.bl a,.bl b=>some (a==b)
 |.int a,.int b=>some (a==b)
 |.str a,.str b=>some (a==b)
 |.bl a,.int b=>some ((if a then 1 else 0)==b)
 |.int a,.bl b=>some (a==(if b then 1 else 0))
 |.non,.bl _=>some false
 |.non,.int _=>some false
 |.non,.str _=>some false
 |.bl _,.non=>some false
 |.bl _,.str _=>some false
 |.int _,.non=>some false
 |.int _,.str _=>some false
 |.str _,.non=>some false
 |.str _,.bl _=>some false
 |.str _,.int _=>some false
 |_,_=>none
def l5(f:D->D->Option Bool):List D->List D->Option Bool
 |x::xs,y::ys=>(f x y).bind λb=>(l5 f xs ys).map (b&&·)
 |_,_=>some true
def pT:Nat->D->D->Option Bool
 |0,x,y=>HE x y
 |n+1,x,y=>match x,y with
  |.lst xs,.lst ys=>if xs.length=ys.length then l5 (pT n) xs ys else some false
  |.tup xs,.tup ys=>(l5 (pT n) xs ys).map (·&&xs.length==ys.length)
  |x,y=>HE x y
def FZ(f:D->D->Option Bool)(xs ys:List D)(j:Nat):Bool:=((xs[j]?).bind λx=>(ys[j]?).bind λy=>f x y).getD false
theorem pU(n:Nat)(e:Nat->Bool):(range (n+1)).all e=(e 0&&(range n).all λj=>e (j+1)):=by
 rw[List.range_succ_eq_map,all_cons,List.all_map]
 rfl
theorem nh{f:D->D->Option Bool}:∀{xs ys:List D}{b:Bool},l5 f xs ys=some b->(∀(j:Nat)(x y:D),xs[j]?=some x->ys[j]?=some y->f x y=some (FZ f xs ys j))/\b=(range (min xs.length ys.length)).all (FZ f xs ys)
 |[],ys,b,h=>by
  have h':some true=some b:=by cases ys<;>exact h
  cases h'
  exact⟨λj x y e=>by simp at e,by simp⟩
 |x::xs,[],b,h=>by
  cases h
  exact⟨λj x y _ e=>by simp at e,by simp⟩
 |x::xs,y::ys,b,h=>by
  unfold l5 at h
  cases e1:f x y with
  |none=>rw[e1]at h;cases h
  |some c=>
   cases e2:l5 f xs ys with
   |none=>rw[e1,e2]at h;cases h
   |some d=>
    rw[e1,e2]at h
    have h':(c&&d)=b:=Option.some.inj h
    obtain⟨q1,q2⟩:=nh e2
    refine⟨λj x' y' h1 h2=>?_,?_⟩
    ·cases j with
     |zero=>
      simp at h1 h2
      subst h1 h2
      show f x y=some (((some x).bind λx=>(some y).bind λy=>f x y).getD false)
      simp[e1]
     |succ j=>exact q1 j x' y' (by simpa using h1) (by simpa using h2)
    ·have e3:min (x::xs).length (y::ys).length=min xs.length ys.length+1:=by simp[Nat.succ_min_succ]
     rw[e3,pU,<-h',q2]
     have e4:FZ f (x::xs) (y::ys) 0=c:=by
      show(((some x).bind λx=>(some y).bind λy=>f x y).getD false)=c
      simp[e1]
     rw[e4];rfl
section
variable{X:Cx}{pins:List (Addr×Obj)}{σ:St}{H:Hp}{s:Shared}
theorem zL{A:Around}{P:Addr->Prop}{x y:D}{v w:V}{u u':Value}{b:Bool}(hx:Is X.K P H x v)(hy:Is X.K P H y w)(rv:RelV v u)(mQ:RelV w u')(e:HE x y=some b):SeqAt.EqAt A s u u' b/\SeqAt.RcAt A s u u' b/\SeqAt.RcNeAt A s u u' (!b):=by
 unfold HE at e
 split at e<;>first|cases e|skip
 ·cases hx;cases hy;cases rv;cases mQ;exact⟨.same _,.none_none,.none_none⟩
 ·cases hx;cases hy;cases rv;cases mQ;exact⟨.bool_bool _ _,.bool_bool _ _,.bool_bool _ _⟩
 ·cases hx;cases hy;obtain⟨t,rfl⟩:=rv;obtain⟨t',rfl⟩:=mQ;exact⟨.int_int _ _ _ _,.int_int _ _ _ _,.int_int _ _ _ _⟩
 ·cases hx;cases hy;obtain⟨t,rfl⟩:=rv;obtain⟨t',rfl⟩:=mQ;exact⟨.str_str _ _ _ _,.str_str _ _ _ _,.str_str _ _ _ _⟩
 ·cases hx;cases hy;cases rv;obtain⟨t',rfl⟩:=mQ;exact⟨.bool_int _ _ _,.bool_int _ _ _,.bool_int _ _ _⟩
 ·cases hx;cases hy;obtain⟨t,rfl⟩:=rv;cases mQ;exact⟨.int_bool _ _ _,.int_bool _ _ _,.int_bool _ _ _⟩
 ·cases hx;cases hy;cases rv;cases mQ;exact⟨.none_bool _,.none_bool _,.none_bool _⟩
 ·cases hx;cases hy;cases rv;obtain⟨t',rfl⟩:=mQ;exact⟨.none_int _ _,.none_int _ _,.none_int _ _⟩
 ·cases hx;cases hy;cases rv;obtain⟨t',rfl⟩:=mQ;exact⟨.none_str _ _,.none_str _ _,.none_str _ _⟩
 ·cases hx;cases hy;cases rv;cases mQ;exact⟨.bool_none _,.bool_none _,.bool_none _⟩
 ·cases hx;cases hy;cases rv;obtain⟨t',rfl⟩:=mQ;exact⟨.bool_str _ _ _,.bool_str _ _ _,.bool_str _ _ _⟩
 ·cases hx;cases hy;obtain⟨t,rfl⟩:=rv;cases mQ;exact⟨.int_none _ _,.int_none _ _,.int_none _ _⟩
 ·cases hx;cases hy;obtain⟨t,rfl⟩:=rv;obtain⟨t',rfl⟩:=mQ;exact⟨.int_str _ _ _ _,.int_str _ _ _ _,.int_str _ _ _ _⟩
 ·cases hx;cases hy;obtain⟨t,rfl⟩:=rv;cases mQ;exact⟨.str_none _ _,.str_none _ _,.str_none _ _⟩
 ·cases hx;cases hy;obtain⟨t,rfl⟩:=rv;cases mQ;exact⟨.str_bool _ _ _,.str_bool _ _ _,.str_bool _ _ _⟩
 ·cases hx;cases hy;obtain⟨t,rfl⟩:=rv;obtain⟨t',rfl⟩:=mQ;exact⟨.str_int _ _ _ _,.str_int _ _ _ _,.str_int _ _ _ _⟩
theorem uj{P:Addr->Prop}{x y:D}{v:V}{b:Bool}(hx:Is X.K P H x v)(hy:Is X.K P H y v)(e:HE x y=some b):b=true:=by
 unfold HE at e
 split at e<;>first|cases e|skip
 all_goals cases hx
 all_goals cases hy
 all_goals simp
theorem pV{P:Addr->Prop}{f:D->D->Option Bool}:∀{xs ys:List D}{vs:List V}{b:Bool},(∀x y v b,Is X.K P H x v->Is X.K P H y v->f x y=some b->b=true)->IsL X.K P H xs vs->IsL X.K P H ys vs->l5 f xs ys=some b->b=true/\xs.length=ys.length
 |[],ys,vs,b,_,hx,hy,e=>by
  have e':vs=[]:=hx
  subst e'
  have:=IsL.length hy
  cases ys with
  |nil=>cases e;exact⟨rfl,rfl⟩
  |cons _ _=>simp at this
 |x::xs,[],vs,b,_,hx,hy,e=>by
  have:=IsL.length hx
  have e':vs=[]:=hy
  subst e'
  simp at this
 |x::xs,y::ys,vs,b,hf,⟨v,r,e1,p1,q1⟩,⟨v',r',e2,p2,q2⟩,e=>by
  subst e1
  cases e2
  unfold l5 at e
  cases h1:f x y with
  |none=>rw[h1]at e;cases e
  |some c=>
   cases h2:l5 f xs ys with
   |none=>rw[h1,h2]at e;cases e
   |some d=>
    rw[h1,h2]at e
    have e':(c&&d)=b:=Option.some.inj e
    obtain⟨z1,z2⟩:=pV hf q1 q2 h2
    have z3:=hf x y v c p1 p2 h1
    subst z1 z3 e'
    exact⟨rfl,by simp[z2]⟩
theorem l6(I:Inv X pins σ H s){P:Addr->Prop}:∀(n:Nat)(x y:D)(v:V)(b:Bool),Is X.K P H x v->Is X.K P H y v->pT n x y=some b->b=true
 |0,x,y,v,b,hx,hy,e=>uj hx hy e
 |n+1,x,y,v,b,hx,hy,e=>by
  unfold pT at e
  split at e
  ·rename_i xs ys
   obtain⟨a,vs,rfl,h1,h2⟩:=hx
   obtain⟨a',xn,ea,h3,h4⟩:=hy
   cases ea
   have ev:=I.pJ h1.sq h3.sq
   subst ev
   split at e
   ·exact(pV (l6 I n) h2 h4 e).1
   ·rename_i c
    exact absurd ((IsL.length h2).symm.trans (IsL.length h4)) c
  ·rename_i xs ys
   obtain⟨a,vs,rfl,h1,h2⟩:=hx
   obtain⟨a',xn,ea,h3,h4⟩:=hy
   cases ea
   have ev:=I.qU h1.sq h3.sq
   subst ev
   cases ez:l5 (pT n) xs ys with
   |none=>rw[ez]at e;cases e
   |some c=>
    rw[ez]at e
    obtain⟨z1,z2⟩:=pV (l6 I n) h2 h4 ez
    subst z1
    have e':(true&&(xs.length==ys.length))=b:=Option.some.inj e
    rw[<-e',z2];simp
  ·exact uj hx hy e
theorem in1_units(A:Around):A.in1.units=A.units+1:=rfl
theorem xy(I:Inv X pins σ H s){P:Addr->Prop}:∀(n:Nat)(A:Around)(x y:D)(v w:V)(u u':Value)(b:Bool),A.units+n<cLine->Is X.K P H x v->Is X.K P H y w->RelV v u->RelV w u'->pT n x y=some b->SeqAt.EqAt A s u u' b/\SeqAt.RcAt A s u u' b/\SeqAt.RcNeAt A s u u' (!b)
 |0,A,x,y,v,w,u,u',b,hu,hx,hy,rv,mQ,e=>zL hx hy rv mQ e
 |n+1,A,x,y,v,w,u,u',b,hu,hx,hy,rv,mQ,e=>by
  have e0:=e
  unfold pT at e
  have hu1:A.in1.units+n<cLine:=by rw[in1_units];omega
  have HF:A.units<cLine:=by omega
  split at e
  ·rename_i xs ys
   have Mc:=hx
   have Md:=hy
   obtain⟨a,vs,rfl,h1,h2⟩:=hx
   obtain⟨a',xn,rfl,h3,h4⟩:=hy
   cases rv
   cases mQ
   obtain⟨its,I9,pl,hz⟩:=I.list h1.sq
   obtain⟨its',zM,F0,LG⟩:=I.list h3.sq
   have l1:=I9.length
   have l2:=zM.length
   have l3:vs.length=xs.length:=IsL.length h2
   have l4:xn.length=ys.length:=IsL.length h4
   have main:SeqAt.RcAt A s (.ref a) (.ref a') b/\SeqAt.RcNeAt A s (.ref a) (.ref a') (!b):=by
    split at e
    ·rename_i c
     obtain⟨q1,q2⟩:=nh e
     have hsz:its.toArray.size=its'.toArray.size:=by simp;omega
     have Me:min xs.length ys.length=its.toArray.size:=by simp;omega
     rw[Me]at q2
     subst q2
     have he:∀j (g1:j<its.toArray.size)(g2:j<its'.toArray.size),SeqAt.EqAt A.in1 s its.toArray[j] its'.toArray[j] (FZ (pT n) xs ys j):=λj g1 g2=>by
      have j1:j<xs.length:=by simp at g1;omega
      have j2:j<ys.length:=by simp at g2;omega
      have f:=q1 j _ _ (getElem?_eq_getElem j1) (getElem?_eq_getElem j2)
      obtain⟨v1,hv1,Mf⟩:=IsL.get h2 (getElem?_eq_getElem j1)
      obtain⟨v2,hv2,Mg⟩:=IsL.get h4 (getElem?_eq_getElem j2)
      obtain⟨u1,F3,Mh⟩:=I9.get hv1
      obtain⟨u2,F4,Mi⟩:=zM.get hv2
      have E1:its.toArray[j]=u1:=by
       have:=List.getElem?_eq_some_iff.mp F3
       obtain⟨_,h⟩:=this
       simpa using h
      have E2:its'.toArray[j]=u2:=by
       have:=List.getElem?_eq_some_iff.mp F4
       obtain⟨_,h⟩:=this
       simpa using h
      rw[E1,E2]
      exact(xy I n A.in1 _ _ _ _ _ _ _ hu1 Mf Mg Mh Mi f).1
     exact⟨SeqAt.RcAt.lists pl.isList F0.isList hsz HF he,SeqAt.RcNeAt.lists pl.isList F0.isList hsz HF he⟩
    ·rename_i c
     cases e
     have hsz:(its.toArray.size !=its'.toArray.size)=true:=by simp;omega
     exact⟨SeqAt.RcAt.lists_lengths pl.isList F0.isList hsz HF,SeqAt.RcNeAt.lists_lengths pl.isList F0.isList hsz HF⟩
   refine⟨?_,main⟩
   by_cases ha:a=a'
   ·subst ha
    have:=l6 I (n+1) _ _ _ _ Mc Md e0
    subst this
    exact .same _
   ·exact .of_refs ha main.1
  ·rename_i xs ys
   have Mc:=hx
   have Md:=hy
   obtain⟨a,vs,rfl,h1,h2⟩:=hx
   obtain⟨a',xn,rfl,h3,h4⟩:=hy
   cases rv
   cases mQ
   obtain⟨its,I9,pl,hz⟩:=I.tuple h1.sq
   obtain⟨its',zM,F0,LG⟩:=I.tuple h3.sq
   have l1:=I9.length
   have l2:=zM.length
   have l3:vs.length=xs.length:=IsL.length h2
   have l4:xn.length=ys.length:=IsL.length h4
   have main:SeqAt.RcAt A s (.ref a) (.ref a') b/\SeqAt.RcNeAt A s (.ref a) (.ref a') (!b):=by
    cases ez:l5 (pT n) xs ys with
    |none=>rw[ez]at e;cases e
    |some c=>
     rw[ez]at e
     obtain⟨q1,q2⟩:=nh ez
     have s1:xs.length=its.toArray.size:=by simp;omega
     have s2:ys.length=its'.toArray.size:=by simp;omega
     have e':(c&&(xs.length==ys.length))=b:=Option.some.inj e
     rw[q2]at e'
     have he:∀j (g1:j<its.toArray.size)(g2:j<its'.toArray.size),SeqAt.EqAt A.in1 s its.toArray[j] its'.toArray[j] (FZ (pT n) xs ys j):=λj g1 g2=>by
      have j1:j<xs.length:=by simp at g1;omega
      have j2:j<ys.length:=by simp at g2;omega
      have f:=q1 j _ _ (getElem?_eq_getElem j1) (getElem?_eq_getElem j2)
      obtain⟨v1,hv1,Mf⟩:=IsL.get h2 (getElem?_eq_getElem j1)
      obtain⟨v2,hv2,Mg⟩:=IsL.get h4 (getElem?_eq_getElem j2)
      obtain⟨u1,F3,Mh⟩:=I9.get hv1
      obtain⟨u2,F4,Mi⟩:=zM.get hv2
      have E1:its.toArray[j]=u1:=by
       have:=List.getElem?_eq_some_iff.mp F3
       obtain⟨_,h⟩:=this
       simpa using h
      have E2:its'.toArray[j]=u2:=by
       have:=List.getElem?_eq_some_iff.mp F4
       obtain⟨_,h⟩:=this
       simpa using h
      rw[E1,E2]
      exact(xy I n A.in1 _ _ _ _ _ _ _ hu1 Mf Mg Mh Mi f).1
     subst e'
     have R1:=SeqAt.RcAt.tuples (A:=A) (e:=FZ (pT n) xs ys) pl F0 HF he
     have R2:=SeqAt.RcNeAt.tuples (A:=A) (e:=FZ (pT n) xs ys) pl F0 HF he
     rw[<-s1,<-s2]at R1 R2
     exact⟨R1,R2⟩
   refine⟨?_,main⟩
   by_cases ha:a=a'
   ·subst ha
    have:=l6 I (n+1) _ _ _ _ Mc Md e0
    subst this
    exact .same _
   ·exact .of_refs ha main.1
  ·exact zL hx hy rv mQ e
end
section
variable{X:Cx}{E:Str->Hp->Prop}{pos:Pos}
def Ci(K:PySem.W.Frag)(ne:Bool):R2:=λv w H Q=>∃x y b,Is K Tr H x v/\Is K Tr H y w/\pT 6 x y=some b/\Q (.bl (if ne=true then !b else b)) H
theorem bL(hu:X.A.units+6<cLine):nY X (compareOp .Eq) (Ci X.K false):=by
 intro pins s σ H v w u u' Q I rx ry h
 obtain⟨x,y,b,hx,hy,e,q⟩:=h
 exact(xy I 6 X.A x y v w u u' b hu hx hy rx ry e).2.1 X.prog X.w _ _ ⟨.bl b,H,I,rfl,q⟩
theorem j7(hu:X.A.units+6<cLine):nY X (compareOp .NotEq) (Ci X.K true):=by
 intro pins s σ H v w u u' Q I rx ry h
 obtain⟨x,y,b,hx,hy,e,q⟩:=h
 exact(xy I 6 X.A x y v w u u' b hu hx hy rx ry e).2.2 X.prog X.w _ _ ⟨.bl (!b),H,I,rfl,q⟩
def lE(x y:D):Option D:=(pT 6 x y).map .bl
def xA(x y:D):Option D:=(pT 6 x y).map λb=>.bl (!b)
theorem br:jk X (Ci X.K false) lE:=λx y d e=>by
 unfold lE at e
 cases h:pT 6 x y with
 |none=>rw[h]at e;cases e
 |some b=>
  rw[h]at e;cases e
  exact⟨_,rfl,λH v w Q i1 i2 q=>⟨x,y,b,i1,i2,h,q⟩⟩
theorem iD:jk X (Ci X.K true) xA:=λx y d e=>by
 unfold xA at e
 cases h:pT 6 x y with
 |none=>rw[h]at e;cases e
 |some b=>
  rw[h]at e;cases e
  exact⟨_,rfl,λH v w Q i1 i2 q=>⟨x,y,b,i1,i2,h,q⟩⟩
theorem aV.u6 {k:Nat}{A:Around}(r:aV k A):A.units+6<cLine:=by have:=r.un;omega
end
def Kp(nt:Nat)(b:D->DE->R DE):Prop:=∀(d:D)(r ts e':DE),ts.length=nt->b d (ts++r)=.ok e'->∃Ja,e'=Ja++r/\Ja.length=nt
def DG(nt:Nat)(b:List D->DE->R DE):Prop:=∀(d:List D)(r ts e':DE),ts.length=nt->b d (ts++r)=.ok e'->∃Ja,e'=Ja++r/\Ja.length=nt
theorem Qc{nt:Nat}(i:Nat)(hi:i<nt:=by decide):Kp nt λd env=>.ok (env.set i (.val d)):=λd r ts e' hl h=>by
 cases h
 exact⟨ts.set i (.val d),by rw[List.set_append_left _ _ (by omega)],by simp[hl]⟩
theorem Jb{nt:Nat}:DG nt λds env=>match ds with
  |[]=>.ok env
  |_=>.bad:=λd r ts e' hl h=>by
 cases d with
 |nil=>cases h;exact⟨ts,rfl,hl⟩
 |cons _ _=>cases h
theorem F5{nt:Nat}{b:D->DE->R DE}{k:List D->DE->R DE}(hb:Kp nt b)(hk:DG nt k):DG nt λds env=>match ds with
   |d::r=>(b d env).bind λe'=>k r e'
   |_=>.bad:=λd r ts e' hl h=>by
 cases d with
 |nil=>cases h
 |cons x xs=>
  obtain⟨e1,h1,h2⟩:=R.d8 (show(b x (ts++r)).bind (λe'=>k xs e')=.ok e' from h)
  obtain⟨t1,rfl,l1⟩:=hb x r ts e1 hl h1
  exact hk xs r t1 e' l1 h2
theorem Qd{nt n:Nat}{b:List D->DE->R DE}(hb:DG nt b):Kp nt λd env=>match d with
   |.tup ds=>if ds.length=n then b ds env else .bad
   |_=>.bad:=λd r ts e' hl h=>by
 cases d with
 |tup ds=>
  have h':(if ds.length=n then b ds (ts++r)else .bad)=.ok e':=h
  split at h'
  ·exact hb ds r ts e' hl h'
  ·cases h'
 |non=>cases h
 |bl _=>cases h
 |int _=>cases h
 |str _=>cases h
 |lst _=>cases h
 |exc _=>cases h
 |fn _=>cases h
theorem Kp.ok {nt:Nat}{b:D->DE->R DE}(h:Kp nt b):∀ds d e,b d (mR nt ds)=.ok e->∃ts,e=ts++ds.map Sl.val/\ts.length=nt:=λds d e q=>h d _ _ e (by simp) q
structure Df(K:PySem.W.Frag)(mg:Str->Option Value)(x:Str)(st:Stmt)(ps:List Str)(f:Addr)(fd:FuncData):Prop where
 F:Du K x x st f fd
 b:Binds K fd ps []
 m:mg x=some (.ref f)
 ns:nsIn K mainGlobals x=some (some (.ref f))
abbrev vJ:Str->Value:=λ_=>.none
section
variable{X:Cx}{E:Str->Hp->Prop}{pos:Pos}{k:Nat}{fa:Addr}{fd:FuncData}{st:Stmt}{ps:List Str}{x:Str}{p:Pos}{e:Expr}{es:List Expr}{f:DE->R (List D)}
theorem Oe{m:List D->R D}(d:Df X.K X.mg x st ps fa fd)(F:gb X.prog X.w X.K X.mg X.base n8 k fa fd ps (ve X.K vJ m))(hr:aV k X.A)
  (ha:PA X (e::es) (Bk X.K E f))(hg:Gl X x:=by rfl)(hdb:(x==("__debug__":Str))=false:=by decide)(he:starEach (e::es) X.env=(false,eval e X.env)::starEach es X.env:=by rfl)(hpl:(backTo pos (starEach es X.env)).any (·.1)=false:=by rfl):
  PE X (.Call (.Name x p) (e::es) [] pos) (tD X.K E λenv=>(f env).bind m):=fD F d.m d.F.kp d.b hr rg ha hg hdb he hpl
def Og(m:List D->R D):Prop:=∀ds d,m ds=.ok d->∃z,toV d=some z
def Oh(m:List D->R (List D)):Prop:=∀ds xs,m ds=.ok xs->∀d∈xs,∃z,toV d=some z
theorem rh{m:List D->R D}(hsc:Og m)(d:Df X.K X.mg x st ps fa fd)(F:gb X.prog X.w X.K X.mg X.base n8 k fa fd ps (ve X.K vJ m))(hr:aV k X.A)
  (ha:PA X (e::es) (pQ X.K E f))(hg:Gl X x:=by rfl)(hdb:(x==("__debug__":Str))=false:=by decide)(he:starEach (e::es) X.env=(false,eval e X.env)::starEach es X.env:=by rfl)(hpl:(backTo pos (starEach es X.env)).any (·.1)=false:=by rfl):
  PE X (.Call (.Name x p) (e::es) [] pos) (tD X.K E λenv=>(f env).bind m):=fB F hsc d.m d.F.kp d.b hr rg ha hg hdb he hpl
theorem Mj{m:List D->R (List D)}(d:Df X.K X.mg x st ps fa fd)(F:gb X.prog X.w X.K X.mg X.base n8 k fa fd ps (Bl X.K vJ m))(hr:aV k X.A)
  (ha:PA X (e::es) (Bk X.K E f))(hg:Gl X x:=by rfl)(hdb:(x==("__debug__":Str))=false:=by decide)(he:starEach (e::es) X.env=(false,eval e X.env)::starEach es X.env:=by rfl)(hpl:(backTo pos (starEach es X.env)).any (·.1)=false:=by rfl):
  PE X (.Call (.Name x p) (e::es) [] pos) (tF X.K E λenv=>(f env).bind m):=fF F d.m d.F.kp d.b hr rg ha hg hdb he hpl
theorem Ml{m:List D->R (List D)}(hsc:Oh m)(d:Df X.K X.mg x st ps fa fd)(F:gb X.prog X.w X.K X.mg X.base n8 k fa fd ps (Bl X.K vJ m))(hr:aV k X.A)
  (ha:PA X (e::es) (pQ X.K E f))(hg:Gl X x:=by rfl)(hdb:(x==("__debug__":Str))=false:=by decide)(he:starEach (e::es) X.env=(false,eval e X.env)::starEach es X.env:=by rfl)(hpl:(backTo pos (starEach es X.env)).any (·.1)=false:=by rfl):
  PE X (.Call (.Name x p) (e::es) [] pos) (tF X.K E λenv=>(f env).bind m):=Py F hsc d.m d.F.kp d.b hr rg ha hg hdb he hpl
end
abbrev Ok(P:Program)(w:World)(K:PySem.W.Frag)(mg:Str->Option Value)(base:Heap)(k:Nat)(f:Addr)(fd:FuncData)(ps:List Str)(m:List D->R D):Prop:=gb P w K mg base n8 k f fd ps (ve K vJ m)
abbrev zN(P:Program)(w:World)(K:PySem.W.Frag)(mg:Str->Option Value)(base:Heap)(k:Nat)(f:Addr)(fd:FuncData)(ps:List Str)(m:List D->R (List D)):Prop:=gb P w K mg base n8 k f fd ps (Bl K vJ m)
section
variable{P:Program}{w:World}{K:PySem.W.Frag}{mg:Str->Option Value}{base:Heap}
theorem Oi{x:Str}{st:Stmt}{f:Addr}{fd:FuncData}{N ps:List Str}{k:Nat}{m:List D->R D}{b:DE->R Out}(S:az N ps (ah st))(d:Df K mg x st ps f fd)
  (hb:∀(cdv:Value)(A:Around)(outer:List Env)(s:Shared)(H:Hp)(E:XK),aV k (A.deeper (envOfC x (ah st) s.heap.objs.size f cdv))->kT (kU n8 P w K mg base N x (ah st) f cdv A outer s H E).yh (bF st) (tS K EN b))
  (hm:∀ds d,m ds=.ok d->ds.length=ps.length/\(b (ae N.length ds)).bind aj=.ok d)(hne:∀ds c,m ds≠.err c):
  Ok P w K mg base (k+1) f fd ps m:=LP d.F S hm hne hb
theorem Oj{x:Str}{st:Stmt}{f:Addr}{fd:FuncData}{N ps:List Str}{k:Nat}{m:List D->R (List D)}{b:DE->R Out}(S:az N ps (ah st))(d:Df K mg x st ps f fd)
  (hb:∀(cdv:Value)(A:Around)(outer:List Env)(s:Shared)(H:Hp)(E:XK),aV k (A.deeper (envOfC x (ah st) s.heap.objs.size f cdv))->kT (kU n8 P w K mg base N x (ah st) f cdv A outer s H E).yh (bF st) (tS K EN b))
  (hm:∀ds d,m ds=.ok d->ds.length=ps.length/\(b (ae N.length ds)).bind ak=.ok d)(hne:∀ds c,m ds≠.err c):
  zN P w K mg base (k+1) f fd ps m:=LQ d.F S hm hne hb
end
def bE:D->D->Option D
 |.int i,.int j=>some (.int (i+j))
 |_,_=>none
theorem aw{X:Cx}:jk X (vv λi j=>.int (i+j)) bE:=i8 (h:=λi j=>.int (i+j)) (λ_ _=>rfl) λx y d e=>by
 unfold bE at e
 split at e<;>cases e
 exact⟨_,_,rfl,rfl,rfl⟩
noncomputable def DH(DI sc:Scope)(XN N:List Str)(nt:Nat)(caps:List Nat):Bool:=
 sc.kind==.function&&sc.names.all (λy=>y.2 !=.cell&&(y.2 !=.local||sc.names.lookup y.1==some .local)&&(y.2 !=.free||DI.names.lookup y.1==some .cell||DI.names.lookup y.1==some .free))&&
 N.length==nt+caps.length&&decide N.Nodup&&(range caps.length).all λj=>match caps[j]?,N[nt+j]? with
  |some i,some x=>XN[i]?==some x&&sc.names.lookup x==some .free&&(DI.names.lookup x==some .local||DI.names.lookup x==some .cell||DI.names.lookup x==some .free)
  |_,_=>false
theorem Qe{X:Cx}{sc:Scope}{N:List Str}{nt:Nat}{caps:List Nat}(DI:Scope)(XN:List Str)(h:DH DI sc XN N nt caps=true)(hsc:X.env.scope=DI:=by rfl)(hN:X.N=XN:=by rfl):gD X sc N nt caps:=by
 subst hsc hN
 unfold DH at h
 simp only [and_eq_true,all_eq_true,Bool.or_eq_true,decide_eq_true_eq,beq_iff_eq,bne_iff_ne,ne_eq]at h
 obtain⟨⟨⟨⟨h1,h2⟩,h3⟩,h4⟩,h5⟩:=h
 refine⟨by simpa using h1,λy hy=>(h2 y hy).1.1,λy hy e=>?_,λy hy e=>?_,h3,h4,λj i e=>?_⟩
 ·rcases(h2 y hy).1.2 with q|q
  ·exact absurd e q
  ·exact q
 ·rcases(h2 y hy).2 with(q|q)|q
  ·exact absurd e q
  ·exact .inl q
  ·exact .inr q
 ·have hj:j<caps.length:=(List.getElem?_eq_some_iff.mp e).1
  have q:=h5 j (by simpa using hj)
  rw[e]at q
  cases hx:N[nt+j]? with
  |none=>rw[hx]at q;exact absurd q (by simp)
  |some x=>
   rw[hx]at q
   simp only [and_eq_true,Bool.or_eq_true,beq_iff_eq]at q
   obtain⟨⟨q1,q2⟩,q3⟩:=q
   refine⟨x,rfl,q1,q2,?_⟩
   rcases q3 with(q3|q3)|q3
   ·exact .inl q3
   ·exact .inr (.inl q3)
   ·exact .inr (.inr q3)
def Mm(i:Nat):Out->R Out
 |.nx e=>.ok (.nx (qH i e))
 |o=>.ok o
theorem r6(i j:Int):bE (.int i) (.int j)=some (.int (i+j)):=rfl
theorem zO(i j:Int):m8 (.int i) (.int j)=some (.int (i-j)):=rfl
theorem zP(i:Int):oH (.int i)=some (.int (-i)):=rfl
theorem DJ(i j:Int):vd (.int i) (.int j)=some (.bl (decide (i<j))):=rfl
theorem DK(i j:Int):IG (.int i) (.int j)=some (.bl (decide (i<=j))):=rfl
theorem DM(i j:Int):zx (.int i) (.int j)=some (.bl (decide (j<i))):=rfl
theorem DN(i j:Int):HB (.int i) (.int j)=some (.bl (decide (j<=i))):=rfl
theorem DP(i j:Int):lE (.int i) (.int j)=some (.bl (i==j)):=rfl
theorem DQ(i j:Int):xA (.int i) (.int j)=some (.bl (!(i==j))):=rfl
theorem DR(i j:Str):lE (.str i) (.str j)=some (.bl (i==j)):=rfl
theorem DS(i j:Str):xA (.str i) (.str j)=some (.bl (!(i==j))):=rfl
theorem r9(i j:Int)(h:(-(2^64)<i/\i<2^64)\/(-(2^64)<j/\j<2^64)):vG (.int i) (.int j)=some (.int (i*j)):=if_pos h
theorem pW(i j:Int)(h:0<j/\j<1073741824):tZ (.int i) (.int j)=some (.int (i/j)):=if_pos h
theorem iO(i j:Int)(h:0<j):m9 (.int i) (.int j)=some (.int (i%j)):=if_pos h
theorem F6(i j:Int)(h:0<=j/\j<=1000000/\i.natAbs<2^64):zw (.int i) (.int j)=some (.int (i^j.toNat)):=if_pos h
theorem Mn:(10:Int)^(9:Nat)=1000000000:=by
 rw[show(10:Int)=((10:Nat):Int)from rfl,<-Int.natCast_pow]
 rfl
theorem Jc:(10:Int)^(9:Int).toNat=1000000000:=Mn
theorem zQ:zw (.int 10) (.int 9)=some (.int 1000000000):=(F6 10 9 (by decide)).trans (by rw[Jc])
theorem zR(i:Int):lC [.int i]=some (.int (if i<0 then-i else i)):=rfl
theorem xB(i j:Int):t8 [.int i,.int j]=some (.int (if j>i then j else i)):=rfl
theorem zS(xs:List D):j6 [.lst xs]=some (.int xs.length):=rfl
theorem zT(xs:List D):j6 [.tup xs]=some (.int xs.length):=rfl
theorem DT(b:Bool):cQ (.bl b)=.ok b:=rfl
theorem DU(xs:List D):zu (.lst xs)=.ok xs:=rfl
theorem DV(i:Int):n9 (.int i)=.ok (some i):=rfl
theorem DW(xs:List D)(i:Int):jS xs (.int i)=R.of (jH xs i):=rfl
theorem DX(xs:List D)(i:Int):kL (.lst xs) (.int i)=R.of (jH xs i):=rfl
theorem DY(xs:List D)(i:Int):kL (.tup xs) (.int i)=R.of (jH xs i):=rfl
theorem lF{α:Type}{xs:List α}(h:xs.length<=sizeLine):fit xs=.ok xs:=if_pos h
theorem big{n:Nat}(h:n<=1000000):n<=sizeLine:=le_trans h (by decide)
theorem Jd{α:Type}:fit ([]:List α)=.ok []:=lF (big (by simp))
theorem Je{α:Type}(a:α):fit [a]=.ok [a]:=lF (big (by simp))
theorem Jf{α:Type}(a b:α):fit [a,b]=.ok [a,b]:=lF (big (by simp))
theorem Jg{α:Type}(a b c:α):fit [a,b,c]=.ok [a,b,c]:=lF (big (by simp))
theorem Jh{α:Type}(a b c d:α):fit [a,b,c,d]=.ok [a,b,c,d]:=lF (big (by simp))
theorem F7(i j:Int)(h: -(2^62)<=i/\i<2^62/\ -(2^62)<=j/\j<2^62):zB [.int i,.int j]=.ok (vI i (j-i).toNat):=if_pos h
theorem xC(e:DE)(k:DE->R Out):bj (.ok (.nx e)) k=k e:=rfl
theorem xD(d:D)(k:DE->R Out):bj (.ok (.rt d)) k=.ok (.rt d):=rfl
theorem uk(d:List D)(k:DE->R Out):bj (.ok (.lW d)) k=.ok (.lW d):=rfl
theorem xE(i:Nat)(e:DE):Mm i (.nx e)=.ok (.nx (qH i e)):=rfl
theorem zU{S:Type}{b:D->DE->R Out}(J:Nat->S->Prop)(Ev:S->DE):∀(xs:List D)(i:Nat)(s:S),J i s->(∀(j:Nat)(s:S)(x:D),J (i+j) s->xs[j]?=some x->∃s',b x (Ev s)=.ok (.nx (Ev s'))/\J (i+j+1) s')->∃s',fX b xs (Ev s)=.ok (.nx (Ev s'))/\J (i+xs.length) s'
 |[],i,s,hI,h=>⟨s,rfl,hI⟩
 |x::xs,i,s,hI,h=>by
  obtain⟨s1,h1,h2⟩:=h 0 s x hI rfl
  obtain⟨s2,h3,h4⟩:=zU J Ev xs (i+1) s1 (by simpa using h2) λj s y hs hy=>by
   have e:i+1+j=i+(j+1):=by omega
   rw[e]at hs⊢
   exact h (j+1) s y hs (by simpa using hy)
  refine⟨s2,?_,by rw[length_cons,show i+(xs.length+1)=i+1+xs.length by omega];exact h4⟩
  unfold fX
  rw[h1]
  exact h3
theorem ri{b:D->DE->R DE}{ct:DE->R Bool}{fe:DE->R D}{e₀:DE}(g:D->D):∀(xs:List D),(∀x∈xs,∃e,b x e₀=.ok e/\ct e=.ok true/\fe e=.ok (g x))->jJ b ct fe e₀ xs=.ok (xs.map g)
 |[],_=>rfl
 |x::xs,h=>by
  obtain⟨e,h1,h2,h3⟩:=h x (by simp)
  have ih:=ri g xs λy hy=>h y (by simp[hy])
  unfold jJ
  rw[h1,R.bJ,h2,R.bJ,if_pos rfl,h3,R.bJ,ih]
  rfl
def bp(ns:List Int):List D:=ns.map .int
theorem bw(ns:List Int):(bp ns).length=ns.length:=length_map _
def zV:List D->Option (List Int)
 |[]=>some []
 |.int i::r=>(zV r).map (i::·)
 |_::_=>none
theorem zW(ns:List Int):zV (bp ns)=some ns:=by
 induction ns with
 |nil=>rfl
 |cons x r ih=>show(zV (bp r)).map (x::·)=_;rw[ih];rfl
theorem vK:∀{xs:List D}{ns:List Int},zV xs=some ns->xs=bp ns
 |[],ns,h=>by cases h;rfl
 |.int i::r,ns,h=>by
  unfold zV at h
  cases e:zV r with
  |none=>rw[e]at h;cases h
  |some ms=>rw[e]at h;cases h;rw[vK e];rfl
 |.non::r,_,h=>by cases h
 |.bl _::r,_,h=>by cases h
 |.str _::r,_,h=>by cases h
 |.lst _::r,_,h=>by cases h
 |.tup _::r,_,h=>by cases h
theorem rm(n:Nat):∀(a b:List Int),a.length=b.length->l5 (pT n) (bp a) (bp b)=some (decide (a=b))
 |[],[],_=>rfl
 |[],_::_,h=>by simp at h
 |_::_,[],h=>by simp at h
 |x::a,y::b,h=>by
  have ih:=rm n a b (by simpa using h)
  show(pT n (.int x) (.int y)).bind _=_
  have e:pT n (.int x) (.int y)=some (x==y):=by cases n<;>rfl
  rw[e]
  show(l5 (pT n) (bp a) (bp b)).map ((x==y)&&·)=_
  rw[ih]
  show some ((x==y)&&decide (a=b))=some (decide (x::a=y::b))
  congr 1
  rw[Bool.eq_iff_iff]
  simp
theorem um(n:Nat)(a b:List Int):pT (n+1) (.lst (bp a)) (.lst (bp b))=some (decide (a=b)):=by
 show(if(bp a).length=(bp b).length then l5 (pT n) (bp a) (bp b)else some false)=_
 split
 ·rename_i h
  exact rm n a b (by simpa[bw]using h)
 ·rename_i h
  congr 1
  symm
  rw[decide_eq_false_iff_not]
  rintro rfl
  exact h rfl
theorem zX(a b:List Int):lE (.lst (bp a)) (.lst (bp b))=some (.bl (decide (a=b))):=by unfold lE;rw[um];rfl
theorem zY(a b:List Int):xA (.lst (bp a)) (.lst (bp b))=some (.bl (!decide (a=b))):=by unfold xA;rw[um];rfl
theorem se(ns:List Int)(i:Int):jH (bp ns) i=(jH ns i).map .int:=by
 unfold L2.jH
 rw[bw]
 cases Dr ns.length i with
 |none=>rfl
 |some j=>exact getElem?_map
theorem cL(ns:List Int)(lo hi:Option Int):cut (bp ns) lo hi=bp (cut ns lo hi):=by
 unfold cut
 rw[bw]
 simp only [bp,List.map_take,List.map_drop]
def bN(i:Nat)(d:D)(env:DE):R DE:=.ok (env.set i (.val d))
def uo:List D->DE->R DE
 |[],env=>.ok env
 |_::_,_=>.bad
def jK(b:D->DE->R DE)(k:List D->DE->R DE):List D->DE->R DE
 |d::r,env=>(b d env).bind λe'=>k r e'
 |[],_=>.bad
def bT(n:Nat)(b:List D->DE->R DE):D->DE->R DE
 |.tup ds,env=>if ds.length=n then b ds env else .bad
 |_,_=>.bad
def F8(i:Nat)(env:DE)(xs:List D)(d:D):R Out:= @ite _ (xs.length<sizeLine) (propDecidable _) (.ok (.nx (env.set i (.own (xs++[d]))))) (.bad)
def Cj(h:Int->Int->Int)(i:Nat)(env:DE):D->D->R Out
 |.int u,.int w=>.ok (.nx (env.set i (.val (.int (h u w)))))
 |_,_=>.bad
section
variable{X:Cx}{E:Str->Hp->Prop}{pos:Pos}
theorem Ck(i:Nat){x:Str}(hN:X.N.Nodup)(hi:X.N[i]?=some x:=by rfl)(hx:Loc X.env.scope x:=by first|exact Or.inl rfl|exact Or.inr rfl)(hf:X.fn x=true\/X.env.scope.names.lookup x=some .local:=by first|exact .inl rfl|exact .inr rfl|assumption):
  PG X (.Name x pos) (tG X.K E (bN i)):=gN i hN hi hx hf
theorem zZ:w9 X [] (DB X.K E uo):=by
 have e:uo=λds env=>match ds with
  |[]=>.ok env
  |_=>.bad:=by funext ds env;cases ds<;>rfl
 rw[e];exact IQ
theorem o5{e:Expr}{es:List Expr}{b:D->DE->R DE}{k:List D->DE->R DE}(h1:PG X e (tG X.K E b))(h2:w9 X es (DB X.K E k))(hs:(assignEach (e::es) X.env).map (·.2)=assign e X.env::(assignEach es X.env).map (·.2):=by rfl):
  w9 X (e::es) (DB X.K E (jK b k)):=by
 have e':jK b k=λds env=>match ds with
   |d::r=>(b d env).bind λe'=>k r e'
   |_=>.bad:=by funext ds env;cases ds<;>rfl
 rw[e'];exact FO h1 h2 hs
theorem Ol{es:List Expr}{kk:Nat}{b:List D->DE->R DE}(n:Nat)(hc:X.calm=true)(h:w9 X es (DB X.K E b))(hn:(assignEach es X.env).length=n:=by rfl)(hst:(assignEach es X.env).findIdx? (·.1)=none:=by rfl):
  PG X (.Tuple es kk pos) (tG X.K E (bT n b)):=by
 have e':bT n b=λd env=>match d with
   |.tup ds=>if ds.length=n then b ds env else .bad
   |_=>.bad:=by funext d env;cases d<;>rfl
 rw[e'];exact gT hc h hn hst
theorem Ji{nt:Nat}(i:Nat)(hi:i<nt:=by decide):Kp nt (bN i):=Qc i hi
theorem F9{nt:Nat}:DG nt uo:=by
 have e:uo=λds env=>match ds with
  |[]=>.ok env
  |_=>.bad:=by funext ds env;cases ds<;>rfl
 rw[e];exact Jb
theorem xF{nt:Nat}{b:D->DE->R DE}{k:List D->DE->R DE}(hb:Kp nt b)(hk:DG nt k):DG nt (jK b k):=by
 have e':jK b k=λds env=>match ds with
   |d::r=>(b d env).bind λe'=>k r e'
   |_=>.bad:=by funext ds env;cases ds<;>rfl
 rw[e'];exact F5 hb hk
theorem Mp{nt:Nat}{b:List D->DE->R DE}(n:Nat)(hb:DG nt b):Kp nt (bT n b):=by
 have e':bT n b=λd env=>match d with
   |.tup ds=>if ds.length=n then b ds env else .bad
   |_=>.bad:=by funext d env;cases d<;>rfl
 rw[e'];exact Qd hb
theorem Jj(i:Nat){x:Str}{e:Expr}{f:DE->R D}{p apos fk:Pos}(he:PE X e (tD X.K E f))(hN:X.N[i]?=some x:=by rfl)(hv:yd X.env.scope x:=by first|exact Or.inl rfl|exact Or.inr (Or.inl rfl)|exact Or.inr (Or.inr rfl))(hd:(x==("__debug__":Str))=false:=by decide)
  (hcd:(x==("__classdict__":Str))=false:=by decide)
  (hbase:attributeBase (.Name x p) "append" X.env (eval (.Name x p) X.env)=eval (.Name x p) X.env:=by rfl)
  (hfew:((backTo fk (starEach [e] X.env)).all (λx=> !x.1)&&(backToKw fk (keywordEach [] X.env)).all (λx=>x.1.isSome)
   &&decide ([e].length+([]:List Keyword).length+(if([]:List Keyword).isEmpty then 0 else 1)<30))=true:=by rfl)
  (hline:(apos.endLine==fk.line)=true:=by rfl)(hst:starEach [e] X.env=(false,eval e X.env)::starEach [] X.env:=by rfl)(hplain:(backTo fk (starEach [] X.env)).any (·.1)=false:=by rfl)
  (hs:swapsWith (.Call (.Attribute (.Name x p) "append" apos) [e] [] fk) none pos.line X.env=pure false:=by rfl):
  PS X (.Expr (.Call (.Attribute (.Name x p) "append" apos) [e] [] fk) pos) (tS X.K E λenv=>(ownAt i env).bind λxs=>(f env).bind λd=>F8 i env xs d):=LL i he hN hv hd hcd hbase hfew hline hst hplain hs
theorem Jk(i:Nat){x:Str}{e:Expr}{op:Operator}{h:Int->Int->Int}{f:DE->R D}{pos':Pos}(ho:Kf X op (K8 h))(he:PE X e (tB X.K E f))(hN:X.N.Nodup)(hi:X.N[i]?=some x:=by rfl)(hx:Loc X.env.scope x:=by first|exact Or.inl rfl|exact Or.inr rfl)
  (hf:X.fn x=true\/X.env.scope.names.lookup x=some .local:=by first|exact .inl rfl|exact .inr rfl|assumption):
  PS X (.AugAssign (.Name x pos') op e pos) (tS X.K E λenv=>(dF i env).bind λa=>(f env).bind λb=>Cj h i env a b):=by
 have h':=LM (pos:=pos) (pos':=pos') i ho he hN hi hx hf
 have e':(λenv:DE=>(dF i env).bind λa=>(f env).bind λb=>Cj h i env a b)=(λenv=>(dF i env).bind λa=>(f env).bind λb=>match a,b with
   |.int u,.int w=>.ok (.nx (env.set i (.val (.int (h u w)))))
   |_,_=>.bad):=by
  funext env
  refine congrArg (R.bind _) (funext λa=>congrArg (R.bind _) (funext λb=>?_))
  cases a<;>cases b<;>rfl
 rw[e'];exact h'
end
def Cm(d:D):R D:=match toV d with
 |some _=>.ok d
 |none=>.bad
theorem vL{x d:D}(h:Cm x=.ok d):x=d/\∃z,toV d=some z:=by
 unfold Cm at h
 cases e:toV x with
 |none=>rw[e]at h;cases h
 |some z=>rw[e]at h;cases h;exact⟨rfl,z,e⟩
def HG:List D->R (List D)
 |[]=>.ok []
 |x::r=>(Cm x).bind λy=>(HG r).bind λys=>.ok (y::ys)
theorem vM:∀{xs ys:List D},HG xs=.ok ys->xs=ys/\∀d∈ys,∃z,toV d=some z
 |[],ys,h=>by cases h;exact⟨rfl,λd hd=>nomatch hd⟩
 |x::r,ys,h=>by
  unfold HG at h
  obtain⟨y,h1,h2⟩:=R.d8 h
  obtain⟨zs,h3,h4⟩:=R.d8 h2
  cases h4
  obtain⟨rfl,hz⟩:=vL h1
  obtain⟨rfl,hs⟩:=vM h3
  exact⟨rfl,λd hd=>(mem_cons.mp hd).elim (λe=>by rw[e];exact hz) (hs d)⟩
theorem DZ(i:Int):Cm (.int i)=.ok (.int i):=rfl
theorem D1(i:Bool):Cm (.bl i)=.ok (.bl i):=rfl
theorem D2(i:Str):Cm (.str i)=.ok (.str i):=rfl
theorem D3:Cm .non=.ok .non:=rfl
theorem l7(ns:List Int):HG (bp ns)=.ok (bp ns):=by
 induction ns with
 |nil=>rfl
 |cons x r ih=>show(Cm (.int x)).bind (λy=>(HG (bp r)).bind λys=>.ok (y::ys))=_;rw[ih];rfl
def mD(n N:Nat)(b:DE->R Out)(ds:List D):R D:=if ds.length=n then((b (ae N ds)).bind aj).ne else .bad
def mS(n N:Nat)(b:DE->R Out)(ds:List D):R D:=if ds.length=n then(((b (ae N ds)).bind aj).bind Cm).ne else .bad
def mF(n N:Nat)(b:DE->R Out)(ds:List D):R (List D):=if ds.length=n then((b (ae N ds)).bind ak).ne else .bad
def aM(n N:Nat)(b:DE->R Out)(ds:List D):R (List D):=if ds.length=n then(((b (ae N ds)).bind ak).bind HG).ne else .bad
theorem R.nW {α:Type}{r:R α}{a:α}(h:r.ne=.ok a):r=.ok a:=by
 cases r with
 |ok b=>exact h
 |err c=>cases h
 |bad=>cases h
theorem R.xG {α:Type}{r:R α}{c:Str}:r.ne≠.err c:=by
 cases r<;>intro h<;>cases h
theorem rn{n N:Nat}{b:DE->R Out}:Og (mS n N b):=λds d h=>by
 unfold mS at h
 split at h
 ·obtain⟨x,_,h2⟩:=R.d8 (R.nW h)
  exact(vL h2).2
 ·cases h
theorem Qf{n N:Nat}{b:DE->R Out}:Oh (aM n N b):=λds d h=>by
 unfold aM at h
 split at h
 ·obtain⟨x,_,h2⟩:=R.d8 (R.nW h)
  exact(vM h2).2
 ·cases h
section
variable{P:Program}{w:World}{K:PySem.W.Frag}{mg:Str->Option Value}{base:Heap}
variable{x:Str}{st:Stmt}{f:Addr}{fd:FuncData}{N ps:List Str}{k:Nat}{b:DE->R Out}
theorem Mq(S:az N ps (ah st))(d:Df K mg x st ps f fd)
  (hb:∀(cdv:Value)(A:Around)(outer:List Env)(s:Shared)(H:Hp)(E:XK),aV k (A.deeper (envOfC x (ah st) s.heap.objs.size f cdv))->kT (kU n8 P w K mg base N x (ah st) f cdv A outer s H E).yh (bF st) (tS K EN b)):
  Ok P w K mg base (k+1) f fd ps (mD ps.length N.length b):=Oi S d hb (λds e h=>by
 unfold mD at h
 split at h
 ·rename_i c
  exact⟨c,R.nW h⟩
 ·cases h) λds c h=>by
 unfold mD at h
 split at h
 ·exact R.xG h
 ·cases h
theorem uq(S:az N ps (ah st))(d:Df K mg x st ps f fd)
  (hb:∀(cdv:Value)(A:Around)(outer:List Env)(s:Shared)(H:Hp)(E:XK),aV k (A.deeper (envOfC x (ah st) s.heap.objs.size f cdv))->kT (kU n8 P w K mg base N x (ah st) f cdv A outer s H E).yh (bF st) (tS K EN b)):
  Ok P w K mg base (k+1) f fd ps (mS ps.length N.length b):=Oi S d hb (λds e h=>by
 unfold mS at h
 split at h
 ·rename_i c
  obtain⟨y,h1,h2⟩:=R.d8 (R.nW h)
  obtain⟨rfl,_⟩:=vL h2
  exact⟨c,h1⟩
 ·cases h) λds c h=>by
 unfold mS at h
 split at h
 ·exact R.xG h
 ·cases h
theorem Qg(S:az N ps (ah st))(d:Df K mg x st ps f fd)
  (hb:∀(cdv:Value)(A:Around)(outer:List Env)(s:Shared)(H:Hp)(E:XK),aV k (A.deeper (envOfC x (ah st) s.heap.objs.size f cdv))->kT (kU n8 P w K mg base N x (ah st) f cdv A outer s H E).yh (bF st) (tS K EN b)):
  zN P w K mg base (k+1) f fd ps (mF ps.length N.length b):=Oj S d hb (λds e h=>by
 unfold mF at h
 split at h
 ·rename_i c
  exact⟨c,R.nW h⟩
 ·cases h) λds c h=>by
 unfold mF at h
 split at h
 ·exact R.xG h
 ·cases h
theorem Ga(S:az N ps (ah st))(d:Df K mg x st ps f fd)
  (hb:∀(cdv:Value)(A:Around)(outer:List Env)(s:Shared)(H:Hp)(E:XK),aV k (A.deeper (envOfC x (ah st) s.heap.objs.size f cdv))->kT (kU n8 P w K mg base N x (ah st) f cdv A outer s H E).yh (bF st) (tS K EN b)):
  zN P w K mg base (k+1) f fd ps (aM ps.length N.length b):=Oj S d hb (λds e h=>by
 unfold aM at h
 split at h
 ·rename_i c
  obtain⟨y,h1,h2⟩:=R.d8 (R.nW h)
  obtain⟨rfl,_⟩:=vM h2
  exact⟨c,h1⟩
 ·cases h) λds c h=>by
 unfold aM at h
 split at h
 ·exact R.xG h
 ·cases h
end
section
variable{d:D}{xs:List D}{r:DE}{a:Sl}{i:Nat}
theorem D4:dF 0 (.val d::r)=.ok d:=rfl
theorem D5:dF (i+1) (a::r)=dF i r:=rfl
theorem D6:aC 0 (.val d::r)=.ok d:=rfl
theorem z0:aC 0 (.own xs::r)=.ok (.lst xs):=rfl
theorem D7:aC (i+1) (a::r)=aC i r:=rfl
theorem D8:dR 0 (.val (.lst xs)::r)=.ok xs:=rfl
theorem z7:dR 0 (.own xs::r)=.ok xs:=rfl
theorem D9:dR (i+1) (a::r)=dR i r:=rfl
theorem Ea:ownAt 0 (.own xs::r)=.ok xs:=rfl
theorem Eb:ownAt (i+1) (a::r)=ownAt i r:=rfl
theorem Ec:qH 0 (.own xs::r)=.val (.lst xs)::r:=rfl
theorem Ed:qH (i+1) (a::r)=a::qH i r:=by
 unfold qH
 rw[List.getElem?_cons_succ]
 cases e:r[i]? with
 |none=>rfl
 |some sl=>cases sl<;>rfl
end
theorem Qh(i j:Nat)(a b:D)(env:DE):bT 2 (jK (bN i) (jK (bN j) uo)) (.tup [a,b]) env=.ok ((env.set i (.val a)).set j (.val b)):=rfl
theorem ur(i:Nat)(a:D)(env:DE):bN i a env=.ok (env.set i (.val a)):=rfl
theorem xH{ns:List Int}(h:ns.length<=1000000):fit (bp ns)=.ok (bp ns):=lF (by rw[bw];exact big h)
theorem ck(a b:List Int):bp a++bp b=bp (a++b):=(map_append ..).symm
theorem pN(n d:Nat):HT.dX n d none=d:=rfl
theorem lT(n d:Nat)(i:Int)(h:0<=i):HT.dX n d (some i)=min i.toNat n:=by
 unfold HT.dX
 dsimp only
 split<;>omega
theorem jl{α:Type}(xs:List α)(m:Int)(h:0<=m):cut xs none (some m)=xs.take m.toNat:=by
 unfold cut
 rw[pN,lT _ _ _ h,drop_zero,Nat.sub_zero]
 rcases le_total m.toNat xs.length with q|q
 ·rw[min_eq_left q]
 ·rw[min_eq_right q,List.take_length,take_of_length_le q]
theorem fY{α:Type}(xs:List α)(m:Int)(h:0<=m):cut xs (some m) none=xs.drop m.toNat:=by
 unfold cut
 rw[pN,lT _ _ _ h]
 rcases le_total m.toNat xs.length with q|q
 ·rw[min_eq_left q,take_of_length_le (by rw[length_drop];exact Nat.le_refl _)]
 ·rw[min_eq_right q,Nat.sub_self,List.take_zero,List.drop_eq_nil_of_le q]
theorem pX{α:Type}(xs:List α)(a b:Int)(h:0<=a)(h2:0<=b):cut xs (some a) (some b)=(xs.drop a.toNat).take (b.toNat-a.toNat):=by
 unfold cut
 rw[lT _ _ _ h,lT _ _ _ h2]
 rcases le_total a.toNat xs.length with q|q
 ·rw[min_eq_left q]
  rcases le_total b.toNat xs.length with q2|q2
  ·rw[min_eq_left q2]
  ·rw[min_eq_right q2,take_of_length_le (by rw[length_drop];exact Nat.le_refl _),take_of_length_le (by rw[length_drop];omega)]
 ·rw[min_eq_right q,List.drop_eq_nil_of_le (Nat.le_refl _),List.drop_eq_nil_of_le q,take_nil,take_nil]
theorem yy{cells:List Int}{j:Nat}{x:D}(h:(dS (bp cells))[j]?=some x):∃c,cells[j]?=some c/\x=.tup [.int (j:Nat),.int c]:=by
 obtain⟨d,hd,rfl⟩:=ng h
 unfold bp at hd
 rw[getElem?_map]at hd
 cases q:cells[j]? with
 |none=>rw[q]at hd;cases hd
 |some c=>rw[q]at hd;cases hd;exact⟨c,rfl,rfl⟩
theorem yz(xs:List D):(dS xs).length=xs.length:=by simp[dS]
theorem sy{α:Type}{xs:List α}{j:Int}(h:0<=j):jH xs j=xs[j.toNat]?:=by
 unfold L2.jH L2.Dr
 rw[if_pos h]
 split
 ·rfl
 ·rename_i c
  symm
  show _=none
  rw[List.getElem?_eq_none_iff]
  omega
theorem uu(a:Int)(ns:List Int):D.int a::bp ns=bp (a::ns):=rfl
theorem Ef(T:String)(i:Int):uh T (.int i)=.ok (.bl (fx (o4 (.int i)) T)):=rfl
theorem Eg(T:String)(i:Bool):uh T (.bl i)=.ok (.bl (fx (o4 (.bl i)) T)):=rfl
theorem Eh(T:String)(i:Str):uh T (.str i)=.ok (.bl (fx (o4 (.str i)) T)):=rfl
theorem Ei(T:String):uh T .non=.ok (.bl (fx (o4 .non) T)):=rfl
theorem Ej(T:String)(i:List D):uh T (.lst i)=.ok (.bl (fx (o4 (.lst i)) T)):=rfl
theorem Ek(T:String)(i:List D):uh T (.tup i)=.ok (.bl (fx (o4 (.tup i)) T)):=rfl
theorem aP:(type_of% @length_cons.{0})/\(type_of% @length_nil.{0})/\(type_of% @map_cons.{0,0})/\(type_of% @map_nil.{0,0})/\(type_of% @cons_append.{0})/\(type_of% @nil_append.{0})/\(type_of% @replicate_zero.{0})/\(type_of% @replicate_succ.{0})/\(type_of% @if_true.{1})/\(type_of% @ite_true.{1})/\(type_of% @false_eq_true)/\(type_of% @Bool.true_eq_false)/\(type_of% @D4)/\(type_of% @D5)/\(type_of% @D6)/\(type_of% @z0)/\(type_of% @D7)/\(type_of% @D8)/\(type_of% @z7)/\(type_of% @D9):=⟨@length_cons.{0},@length_nil.{0},@map_cons.{0,0},@map_nil.{0,0},@cons_append.{0},@nil_append.{0},@replicate_zero.{0},@replicate_succ.{0},@if_true.{1},@ite_true.{1},@false_eq_true,@Bool.true_eq_false,@D4,@D5,@D6,@z0,@D7,@D8,@z7,@D9⟩
theorem aQ:(type_of% @Ea)/\(type_of% @Eb)/\(type_of% @Ec)/\(type_of% @Ed)/\(type_of% @List.set_cons_zero.{0})/\(type_of% @List.set_cons_succ.{0})/\(type_of% @R.bJ)/\(type_of% @R.iC)/\(type_of% @R.zE)/\(type_of% @DT)/\(type_of% @DU)/\(type_of% @DV)/\(type_of% @r6)/\(type_of% @zO)/\(type_of% @zP)/\(type_of% @DJ)/\(type_of% @DK)/\(type_of% @DM)/\(type_of% @DN)/\(type_of% @DP):=⟨@Ea,@Eb,@Ec,@Ed,@List.set_cons_zero.{0},@List.set_cons_succ.{0},@R.bJ,@R.iC,@R.zE,@DT,@DU,@DV,@r6,@zO,@zP,@DJ,@DK,@DM,@DN,@DP⟩
theorem aR:(type_of% @DQ)/\(type_of% @DR)/\(type_of% @DS)/\(type_of% @zR)/\(type_of% @xB)/\(type_of% @zS)/\(type_of% @zT)/\(type_of% @DW)/\(type_of% @DX)/\(type_of% @DY)/\(type_of% @Jd)/\(type_of% @Je)/\(type_of% @Jf)/\(type_of% @Jg)/\(type_of% @Jh)/\(type_of% @xC)/\(type_of% @xD)/\(type_of% @uk)/\(type_of% @DZ)/\(type_of% @D1):=⟨@DQ,@DR,@DS,@zR,@xB,@zS,@zT,@DW,@DX,@DY,@Jd,@Je,@Jf,@Jg,@Jh,@xC,@xD,@uk,@DZ,@D1⟩
theorem aS:(type_of% @D2)/\(type_of% @D3)/\(type_of% @xE)/\(type_of% @Ef)/\(type_of% @Eg)/\(type_of% @Eh)/\(type_of% @Ei)/\(type_of% @Ej)/\(type_of% @Ek):=⟨@D2,@D3,@xE,@Ef,@Eg,@Eh,@Ei,@Ej,@Ek⟩
section
variable{X:Cx}{E:Str->Hp->Prop}{pos:Pos}
theorem Mr{st:Stmt}:PS X st (tS X.K E λ_=>.bad):=λpins s σ H De I ⟨g,env,os,r,m⟩=>m.elim
def Ms:D->R (List D)
 |.tup xs=>.ok xs
 |_=>.bad
def z8(x:D)(lo hi:Option Int):R D:=match x with
 |.tup xs=>if HT.dX xs.length 0 lo=0/\HT.dX xs.length xs.length hi=xs.length then .bad else .ok (.tup (cut xs lo hi))
 |_=>.bad
theorem Gb{e:Expr}{lo hi:Option Expr}{f:DE->R D}{fl fh:DE->R (Option Int)}{p2:Pos}(he:PE X e (tD X.K E f))(hl:L2.PO X lo (tO X.K E fl))(hh:L2.PO X hi (tO X.K E fh)):
  PE X (.Subscript e (.Slice lo hi none p2) pos) (tD X.K E λenv=>(f env).bind λx=>(fl env).bind λl=>(fh env).bind λh=>z8 x l h):=
 imp (tR Fy he hl hh) λσ H Q ⟨g,env,os,r,m⟩=>⟨g,env,os,r,m.bind.mono λx _ m1 v1 H1 s1 i1=>⟨g,env,os,r.same s1,m1.bind.mono λl _ m2 H2 s2=>⟨g,env,os,r.same (s1.trans s2),m2.bind.mono λh _ m3 H3 s3=>by
  unfold z8 at m3
  split at m3
  ·rename_i xs
   split at m3
   ·exact m3.elim
   ·rename_i c
    have i3:=(i1.same s2).same s3
    obtain⟨a,vs,rfl,h1,h2⟩:=i3
    refine⟨a,vs,rfl,h1.sq,by rw[IsL.length h2];exact c,λp hp=>?_⟩
    have sm:=s1.trans (s2.trans s3)
    exact m3 _ _ (sm.trans (dq hp _)) ⟨p,_,rfl,.inl ⟨(r.same sm).fresh hp,.inl bO⟩,(IsL.cut h2 l h).same (dq hp _)⟩
  ·exact m3.elim⟩⟩⟩
theorem iT{tg e:Expr}{f:DE->R D}(he:PE X e (tD X.K E f)):PI X tg e (tI X.K E λenv=>(f env).bind Ms):=
 Cb (Fe he) λσ H Q ⟨g,env,os,r,m⟩=>⟨g,env,os,r,m.bind.mono λd _ q v H' s i=>by
  cases d with
  |tup xs=>
   obtain⟨a,vs,rfl,h1,h2⟩:=i
   refine⟨a,rfl,⟨vs,h1.sq⟩,q _ H' s λj H2 P' ex=>⟨λd hd=>?_,λhj=>?_⟩⟩
   ·obtain⟨x,hx,hi⟩:=(IsL.ext ex _ _ h2).get hd
    refine⟨⟨vs,x,(h1.ext ex).sq,hx⟩,λy H3 hy=>?_⟩
    obtain⟨rfl,hy⟩:=hy
    have e2:=hy vs (h1.ext ex).sq
    rw[hx]at e2
    cases e2
    exact⟨aF.refl _,Is.ext ⟨λ_ _ p _=>.inl p,λ_ _ _ z=>z⟩ _ _ hi⟩
   ·exact⟨vs,(h1.ext ex).sq,by rw[IsL.length h2];exact le_of_eq hj⟩
  |non=>exact q.elim
  |bl _=>exact q.elim
  |int _=>exact q.elim
  |str _=>exact q.elim
  |exc _=>exact q.elim
  |fn _=>exact q.elim
  |lst _=>exact q.elim⟩
end
theorem xJ(xs:List D):Ms (.tup xs)=.ok xs:=rfl
def Rj(fs xs:List Addr)(h h':Heap):Prop:=∀b o,h.get? b=some o->b∉xs->(b∉fs->h'.get? b=some o)/\∃sl,h'.get? b=some {o with slots:=sl}
structure Exc(h:Heap)(e T C:Addr)(fl:Value):Prop where
 at_:∃vs,h.get? e=some {cls:=.ref C,data:=.fields vs}/\vs[1]?=some (.ref T)
 ne:T≠e
 tb:∃oT ts,h.get? T=some oT/\oT.data=.fields ts/\ts[3]?=some fl
section
variable{P:Program}{w:World}{H H':Hp}{h h1 h2:Heap}{fs Nv xs:List Addr}
noncomputable def Mt(P:Program)(w:World):yV:=λouter H s E ev s'=>∃e T C H',ev=.ref e/\Exc s'.heap e T C .none/\s.heap.get? e=none/\s.heap.get? T=none/\H' e=none/\H' T=none/\s'.os=s.os/\AllBare s'.gens/\
 Un (wZ outer) [] H H' s.heap s'.heap/\nX P w H' s'.heap/\E (.ref C) none H'
end
def Mu(K:PySem.W.Frag)(n:Str):Value:=match nsIn K mainGlobals n with
 |some (some v)=>v
 |_=>.none
section
variable{P:Program}{w:World}{K:PySem.W.Frag}{mg:Str->Option Value}{base:Heap}{N:List Str}{qual:Str}{scope:Scope}{f:Addr}{cd:Value}{A:Around}{outer:List Env}{s:Shared}{H:Hp}{E:XK}
abbrev EW(K:PySem.W.Frag)(E:XK):Str->Hp->Prop:=λn H'=>E (Mu K n) none H'
end
abbrev Rk(P:Program)(w:World)(K:PySem.W.Frag)(mg:Str->Option Value)(base:Heap)(k:Nat)(f:Addr)(fd:FuncData)(ps:List Str)(m:List D->R D):Prop:=gb P w K mg base (Mt P w) k f fd ps (ve K (Mu K) m)
abbrev Qi(P:Program)(w:World)(K:PySem.W.Frag)(mg:Str->Option Value)(base:Heap)(k:Nat)(f:Addr)(fd:FuncData)(ps:List Str)(m:List D->R (List D)):Prop:=gb P w K mg base (Mt P w) k f fd ps (Bl K (Mu K) m)
section
variable{P:Program}{w:World}{K:PySem.W.Frag}{mg:Str->Option Value}{base:Heap}
variable{x:Str}{st:Stmt}{f:Addr}{fd:FuncData}{N ps:List Str}{k:Nat}{b:DE->R Out}
variable(S:az N ps (ah st))(d:Df K mg x st ps f fd)
  (hb:∀(cdv:Value)(A:Around)(outer:List Env)(s:Shared)(H:Hp)(E:XK),aV k (A.deeper (envOfC x (ah st) s.heap.objs.size f cdv))->kT (kU (Mt P w) P w K mg base N x (ah st) f cdv A outer s H E) (bF st) (tS K (EW K E) b))
include S d hb
end
abbrev HC(X:Cx)(e:Addr):Cx:={X with A:=X.A.mark (some (.ref e)),calm:=false,xe:=λ_ _=>False}
theorem sC{K:PySem.W.Frag}{P:Addr->Prop}{H:Hp}:∀{ns:List Int}{vs:List V},IsL K P H (bp ns) vs->vs=ns.map V.int
 |[],_,h=>h
 |n::ns,_,⟨v,r,e,p,q⟩=>by
  have p':v=.int n:=p
  rw[e,p',sC q];rfl
def xK(xs:List D):Option D:=(zV xs).map λns=>.int ns.sum
theorem Gd:bootBuiltins "sum"=some (.builtin "sum"):=by decide +kernel
section
variable{X:Cx}{E:Str->Hp->Prop}{pos:Pos}
theorem Mw{p:Pos}{a:Expr}{f:DE->R (List D)}(hc:X.calm=true)(hm:X.mg "sum"=none)(ha:PE X a (tL X.K E f))(hg:Gl X "sum":=by rfl)
  (he:starEach [a] X.env=(false,eval a X.env)::starEach [] X.env:=by rfl)(hpl:(backTo pos (starEach [] X.env)).any (·.1)=false:=by rfl):PE X (.Call (.Name "sum" p) [a] [] pos) (tD X.K E λenv=>(f env).bind λxs=>R.of (xK xs)):=by
 refine imp (pM (r:=λxs H Q=>∃(l:Addr)(ns:List Int),xs=[.ref l]/\jV X.K H l (ns.map V.int)/\Q (.int ns.sum) H) ?_ hg hm Gd (fH ha jY he) (by decide) (by decide) he hpl) λσ H Q ⟨g,env,os,r,m⟩=>⟨g,env,os,r,m.bind.mono λxs _ q l vs H' s hl i=>?_⟩
 ·intro pins s σ H xs us Q I r h
  obtain⟨l,ns,rfl,hl,q⟩:=h
  obtain⟨u,rfl,ru⟩:=vals1 r
  have e:u=.ref l:=ru
  subst e
  obtain⟨its,rv,pl,hz⟩:=I.list hl
  have ia:=intsAre_of rv
  obtain⟨ys,hx⟩:=ia.allInts.items
  have Qj:s.heap.IsList l (intItems ys):=hx▸pl.isList
  have hh:X.A.handled=none:=I.ok.hd hc
  have e1:ns=ys.toList.map (·.1):=by
   rw[<-nums_intItems,<-hx]
   exact(show numsOf its.toArray.toList=ns from ia.numsOf).symm
  refine sum_intListG hh Qj λh' tk t' hk=>?_
  have e2:preSum (numAt ys) ys.size=ns.sum:=by
   rw[preSum_eq,take_of_length_le (by simp),e1]
  rw[e2]
  exact⟨.int _,H,I.kept (s:=s) (t':=tk) hk,⟨_,rfl⟩,q⟩
 ·obtain⟨d,e,q2⟩:=q.of
  unfold xK at e
  cases z:zV xs with
  |none=>rw[z]at e;cases e
  |some ns=>
   rw[z]at e
   have ex:=vK z
   subst ex
   have ev:=sC i
   subst ev
   cases e
   exact⟨l,ns,rfl,hl,q2 _ H' s rfl⟩
end
def Qk(X:Cx)(scope:Scope)(C:Addr):List (Str×Addr):=cellsFrom (C+1) scope.names (vg X.env.cells scope.names [])
noncomputable def Om(X:Cx)(scope:Scope)(N:List Str)(s:Shared)(H:Hp)(fp:List Addr)(C:Addr)(pl:List (Addr×Obj)):Cx where
 prog:=X.prog
 w:=X.w
 K:=X.K
 mg:=X.mg
 base:=X.base
 A:=X.A
 N:=N
 s₀:=s
 H₀:=H
 env:=compEnvC scope (Qk X scope C) C X.env
 outer:=X.stack
 stack:=X.stack
 ex:=fp
 fn:=λx=>scope.names.lookup x==some NameKind.cell
 calm:=X.calm
 pn:=pl
 xe:=λ_ _=>False
structure Jl(X:Cx)(scope:Scope)(N:List Str)(nt:Nat)(caps:List Nat):Prop where
 kind:scope.kind=.function
 apart:∀x,scope.names.lookup x=some .free->(x,NameKind.cell)∉scope.names
 names:∀y∈scope.names,y.2=.local->scope.names.lookup y.1=some .local
 free:∀y∈scope.names,y.2=.free->X.env.kindOf y.1=some .cell\/X.env.kindOf y.1=some .free
 len:N.length=nt+caps.length
 nd:N.Nodup
 caps:∀(j i:Nat),caps[j]?=some i->∃x,N[nt+j]?=some x/\X.N[i]?=some x/\scope.names.lookup x=some .free/\yd X.env.scope x
section
variable{K:PySem.W.Frag}{g:Gh}{env:DE}{σ:St}{H H':Hp}{os:List Addr}
theorem og{α:Type}{l:List α}{i j:Nat}{x y:α}(e:(l.set i x)[j]?=some y)(h:y≠x):i≠j/\l[j]?=some y:=by
 by_cases hj:i=j
 ·subst hj
  exact(h (bH e)).elim
 ·rw[getElem?_set_ne hj]at e
  exact⟨hj,e⟩
theorem Rel.Ge (r:Rel K g env σ H os){l:List Addr}(s:aF H H')(hn:∀a∈l,H a=none):Ext (g.P os) (g.P (l++os)) H H':=
 ⟨λb o p e=>⟨p.1,λhm=>by
  rcases mem_append.mp hm with z|z
  ·rw[hn b z]at e;cases e
  ·exact p.2 z⟩,λb o _ e=>s b o e⟩
end
section
variable{X:Cx}{E:Str->Hp->Prop}{pos:Pos}
def Mx(i:Nat)(env:DE):R (List (List Int)):=match env[i]? with
 |some (.deep (.ls nss))=>.ok nss
 |_=>.bad
end
section
variable{X:Cx}{E:Str->Hp->Prop}{pos:Pos}{k:Nat}{fa:Addr}{fd:FuncData}{st:Stmt}{ps:List Str}{x:Str}{p:Pos}{e:Expr}{es:List Expr}{f:DE->R (List D)}
abbrev My:=List (Str×(List D->R (List D)))
def Ql(X:Cx)(n:Str)(m:List D->R (List D)):Prop:=∃st ps fa fd k,Df X.K X.mg n st ps fa fd/\gb X.prog X.w X.K X.mg X.base n8 k fa fd ps (Bl X.K vJ m)/\aV k X.A
def Rl(X:Cx)(tab:My):Prop:=∀n m,tab.lookup n=some m->Ql X n m
end
section
variable{K:PySem.W.Frag}{g:Gh}{env:DE}{σ:St}{H H':Hp}{os:List Addr}
theorem Rel.setC (r:Rel K g env σ H os)(s:aF H H')(i:Nat){c:Ct}{a:Addr}{as:List Addr}(hn:∀b∈a::as,H b=none)(dp:Dp K H' ((a::as)++os) a as c):
  Rel K g (env.set i (.deep c)) (σ.set i (some (.ref a))) H' ((a::as)++os):=by
 have ap:=r.Ge s hn
 have f:∀(j:Nat)(sl:Sl),(env.set i (Sl.deep c))[j]?=some sl->sl≠.deep c->i≠j/\env[j]?=some sl:=λj sl q hn=>og q hn
 have hnew:∀x∈a::as,x∉os:=λx hx hm=>by
  obtain⟨o,ho⟩:=(r.new x hm).2
  rw[hn x hx]at ho
  cases ho
 refine⟨by simp[r.len],r.ext.trans s,λj d q=>?_,λj xs q=>?_,λj k xs ys b q1 q2 q3 q4=>?_,λb hb=>?_,λj v q=>?_,?_⟩
 ·obtain⟨hj,q⟩:=f j _ q (λz=>nomatch z)
  obtain⟨v,h1,h2⟩:=r.val j d q
  exact⟨v,by rw[getElem?_set_ne hj];exact h1,Is.ext ap _ _ h2⟩
 ·obtain⟨hj,q⟩:=f j _ q (λz=>nomatch z)
  obtain⟨b,vs,h1,h2,h3,h4⟩:=r.own j xs q
  exact⟨b,vs,by rw[getElem?_set_ne hj];exact h1,mem_append_right _ h2,s _ _ h3,IsL.ext ap _ _ h4⟩
 ·obtain⟨hj,q1⟩:=f j _ q1 (λz=>nomatch z)
  obtain⟨hk,q2⟩:=f k _ q2 (λz=>nomatch z)
  rw[getElem?_set_ne hj]at q3
  rw[getElem?_set_ne hk]at q4
  exact r.inj j k xs ys b q1 q2 q3 q4
 ·rcases mem_append.mp hb with z|z
  ·exact⟨r.ext.free (hn b z),(dp.mem b z).2⟩
  ·obtain⟨h1,o,h2⟩:=r.new b z
   exact⟨h1,o,s _ _ h2⟩
 ·obtain⟨hj,q⟩:=f j _ q (λz=>nomatch z)
  rw[getElem?_set_ne hj]
  exact r.raw j v q
 ·obtain⟨A,dd⟩:=r.Dv
  refine⟨λj=>if j=i then a::as else A j,λj tW q=>?_,λj tW k xs b q1 q2 q3=>?_,λj k tW Mz Oo q1 q2 x hx=>?_⟩
  ·by_cases hj:j=i
   ·subst hj
    have z:=bH q
    cases z
    exact⟨a,as,if_pos rfl,by rw[getElem?_set_self (by rw[r.len];exact q9 q)],dp⟩
   ·have q':=q
    rw[getElem?_set_ne (Ne.symm hj)]at q'
    obtain⟨b,bs,h1,h2,h3⟩:=dd.dp j tW q'
    refine⟨b,bs,by rw[if_neg hj];exact h1,by rw[getElem?_set_ne (Ne.symm hj)];exact h2,h3.to λx hx=>?_⟩
    obtain⟨z1,o,z2⟩:=h3.mem x hx
    exact⟨mem_append_right _ z1,by rw[s x o z2,z2]⟩
  ·obtain⟨hk,q2⟩:=f k _ q2 (λz=>nomatch z)
   rw[getElem?_set_ne hk]at q3
   show b∉if j=i then a::as else A j
   by_cases hj:j=i
   ·rw[if_pos hj]
    obtain⟨c,vs,h1,h2,_⟩:=r.own k xs q2
    rw[q3]at h1
    cases h1
    exact λz=>hnew b z h2
   ·rw[if_neg hj]
    rw[getElem?_set_ne (Ne.symm hj)]at q1
    exact dd.ow j tW k xs b q1 q2 q3
  ·show x∉if k=i then a::as else A k
   have Jm:x∈if j=i then a::as else A j:=hx
   by_cases hj:j=i
   ·have hk:k≠i:=λz=>Oo (by rw[hj,z])
    rw[if_pos hj]at Jm
    rw[if_neg hk]
    rw[getElem?_set_ne (Ne.symm hk)]at q2
    exact λz=>hnew x Jm (dd.mem q2 x z).1
   ·rw[if_neg hj]at Jm
    rw[getElem?_set_ne (Ne.symm hj)]at q1
    by_cases hk:k=i
    ·rw[if_pos hk]
     exact λz=>hnew x z (dd.mem q1 x Jm).1
    ·rw[if_neg hk]
     rw[getElem?_set_ne (Ne.symm hk)]at q2
     exact dd.dj j k tW Mz Oo q1 q2 x Jm
end
def Oq:D->R Int
 |.int i=>.ok i
 |_=>.bad
section
variable{X:Cx}{E:Str->Hp->Prop}{pos:Pos}
theorem Good.MA {H₀:Hp}{i:Nat}{env:DE}{p:List Int->Prop}(h:Good E H₀ ((ownAt i env).bind λxs=>R.of (zV xs)) p):∃ns:List Int,env[i]?=some (.own (bp ns))/\p ns:=by
 obtain⟨xs,e,h1⟩:=h.bind.own
 obtain⟨ns,e2,h2⟩:=h1.of
 have e3:=vK e2
 subst e3
 exact⟨ns,e,h2⟩
end
section
variable{X:Cx}{E:Str->Hp->Prop}{pos:Pos}
def Ot:D->R Str
 |.str i=>.ok i
 |_=>.bad
end
section
variable{X:Cx}{E:Str->Hp->Prop}{pos:Pos}
def MB(T:List (Str×Int)):List (Str×PyData):=T.map λp=>(p.1,PyData.int p.2)
def Ou(K:PySem.W.Frag)(a:Addr)(T:List (Str×Int)):Prop:=KTD.tabLook KTD.flatLooks (λb=>K.lookup b) a (MB T)=true
end
section
variable{X:Cx}{E:Str->Hp->Prop}{pos:Pos}
def uv:D->R Unit
 |.int 1=>.ok ()
 |_=>.bad
theorem Good.one {H₀:Hp}{d:D}{p:Unit->Prop}(h:Good E H₀ (uv d) p):d=.int 1/\p ():=by
 unfold uv at h
 split at h
 ·exact⟨rfl,h⟩
 ·exact h.elim
end
section
variable{X:Cx}{E:Str->Hp->Prop}{pos:Pos}
def Ov:D->R Unit
 |.int 2=>.ok ()
 |_=>.bad
end
section
variable{K:PySem.W.Frag}{g:Gh}{env:DE}{σ:St}{H H1:Hp}{os:List Addr}
theorem Rel.Jo (r:Rel K g env σ H os){i:Nat}{c:Ct}(e:env[i]?=some (.deep c)){a:Addr}(hσ:σ[i]?=some (some (.ref a))){b:Addr}{o:HO}(hb:∀as,Dp K H os a as c->b∈a::as):
  b∈os/\Rel K g (env.set i .no) σ (upd H b o) os:=by
 obtain⟨A,dd⟩:=r.Dv
 obtain⟨a0,Rm,hA,h1,h3⟩:=dd.dp i c e
 rw[hσ]at h1
 cases h1
 have MC:b∈A i:=by rw[hA];exact hb _ h3
 have z9:b∈os:=(dd.mem e b MC).1
 refine⟨z9,?_⟩
 have ex:Ext (g.P os) (g.P os) H (upd H b o):=⟨λ_ _ p _=>p,λc o p q=>by rw[aN (λz=>p.2 (by rw[z];exact z9))];exact q⟩
 have f:∀(j:Nat)(sl:Sl),(env.set i Sl.no)[j]?=some sl->sl≠.no->i≠j/\env[j]?=some sl:=λj sl q hn=>og q hn
 refine⟨by simp[r.len],λc' o' q=>?_,λj d q=>?_,λj xs q=>?_,λj k xs ys c' q1 q2 q3 q4=>?_,λc' hc=>?_,λj v q=>?_,?_⟩
 ·rw[aN (λz=>by rw[z,(r.new b z9).1]at q;cases q)]
  exact r.ext c' o' q
 ·obtain⟨hj,q⟩:=f j _ q (λz=>nomatch z)
  obtain⟨v,h1,h2⟩:=r.val j d q
  exact⟨v,h1,Is.ext ex _ _ h2⟩
 ·obtain⟨hj,q⟩:=f j _ q (λz=>nomatch z)
  obtain⟨c',vs,h1,h2,Qn,h4⟩:=r.own j xs q
  have MD:c'≠b:=λz=>dd.ow i _ j xs c' e q h1 (by rw[z];exact MC)
  exact⟨c',vs,h1,h2,by rw[aN MD];exact Qn,IsL.ext ex _ _ h4⟩
 ·obtain⟨hj,q1⟩:=f j _ q1 (λz=>nomatch z)
  obtain⟨hk,q2⟩:=f k _ q2 (λz=>nomatch z)
  exact r.inj j k xs ys c' q1 q2 q3 q4
 ·obtain⟨z1,o',z2⟩:=r.new c' hc
  refine⟨z1,?_⟩
  by_cases z:c'=b
  ·exact⟨_,by rw[z];exact bO⟩
  ·exact⟨o',by rw[aN z];exact z2⟩
 ·obtain⟨hj,q⟩:=f j _ q (λz=>nomatch z)
  exact r.raw j v q
 ·refine⟨A,λj tW q=>?_,λj tW m xs c' q1 q2 q3=>?_,λj m tW Mz Qo q1 q2 x hx=>?_⟩
  ·obtain⟨hj,q⟩:=f j _ q (λz=>nomatch z)
   obtain⟨c',cs,z1,z2,z3⟩:=dd.dp j tW q
   refine⟨c',cs,z1,z2,z3.to λx hx=>?_⟩
   have hxb:x≠b:=λz=>dd.dj i j _ tW hj e q b MC (by rw[z1,<-z];exact hx)
   exact⟨(z3.mem x hx).1,aN hxb⟩
  ·obtain⟨_,q1⟩:=f j _ q1 (λz=>nomatch z)
   obtain⟨_,q2⟩:=f m _ q2 (λz=>nomatch z)
   exact dd.ow j tW m xs c' q1 q2 q3
  ·obtain⟨_,q1⟩:=f j _ q1 (λz=>nomatch z)
   obtain⟨_,q2⟩:=f m _ q2 (λz=>nomatch z)
   exact dd.dj j m tW Mz Qo q1 q2 x hx
end
section
variable{X:Cx}{E:Str->Hp->Prop}{pos:Pos}
def Ow:D->R Unit
 |.int 0=>.ok ()
 |_=>.bad
end
theorem Qp{K:PySem.W.Frag}{h:Heap}{mg:Str->Option Value}{x:Str}{st:Stmt}{ps:List Str}{f:Addr}{oc:Value}{od an:Option Addr}{yW:Array (Option Value)}{kV doc pm cdv ct:Value}(X:K.In h)(G:h.Ns mainGlobals mg)(a:nsIn K mainGlobals x=some (some (.ref f)))
  (l:K.lookup f=some ⟨oc,od,.func (PySem.W.fnOf x x (cW st) (bF st) (ah st) .none kV doc pm an cdv ct),yW⟩)(c:codeIn K cdv x=true)(k:keepIn K (.ref f)=true)
  (hb:∀(kV doc pm:Value)(an:Option Addr)(cdv ct:Value)(us:List Value),us.length=ps.length->bindArgs (PySem.W.fnOf x x (cW st) (bF st) (ah st) .none kV doc pm an cdv ct) ⟨us,[]⟩=pure (ps.zip us)):
  Df K mg x st ps f (PySem.W.fnOf x x (cW st) (bF st) (ah st) .none kV doc pm an cdv ct):=⟨zr l c k,(zr l c k).binds hb,mg_of X G a,a⟩
theorem oK{N P:List Str}{sc:Scope}(h1:sc.kind=.function:=by rfl)(h2:sc.isCoroutine=false:=by rfl)(h3:sc.isGenerator=false:=by rfl)(h4:N.Nodup:=by decide +kernel)(h5:N.take P.length=P:=by rfl)
  (h6:∀x∈P,sc.names.lookup x=some .local\/sc.names.lookup x=some .cell:=by decide +kernel)(h7:∀y∈sc.names,y.2≠.free:=by decide +kernel):az N P sc:=⟨h1,h2,h3,h4,h5,h6,h7⟩
def Bo(d:D):Bool:=(toV d).isSome
def uw:D->Bool
 |.tup xs=>xs.all Bo
 |_=>false
def El:D->Bool
 |.lst xs=>xs.all Bo
 |d=>Bo d
def Cn(H:Hp)(c:Addr):Prop:=∃vs,Rd H c (.lst vs)
section
variable{K:PySem.W.Frag}{P P':Addr->Prop}{H H':Hp}
theorem pY{d:D}{v:V}(h:Bo d=true)(i:Is K P H d v):Is K P' H' d v:=by
 unfold Bo at h
 cases e:toV d with
 |none=>rw[e]at h;cases h
 |some z=>
  have:=Is.zt e i
  subst this
  exact Is.sc e
theorem l8:∀{xs:List D}{vs:List V},xs.all Bo=true->IsL K P H xs vs->IsL K P' H' xs vs
 |[],vs,_,i=>i
 |x::xs,vs,h,i=>by
  obtain⟨v,r,rfl,i1,i2⟩:=i
  rw[all_cons,and_eq_true]at h
  exact⟨v,r,rfl,pY h.1 i1,l8 h.2 i2⟩
theorem ux:∀{ds:List D}{ws:List V},ds.all uw=true->IsL K P H ds ws->∃cs:List Addr,(∀c∈cs,P c/\∃vs,Rd H c (.tup vs))/\IsL K (λc=>c∈cs) H ds ws
 |[],ws,_,i=>⟨[],by simp,i⟩
 |d::ds,ws,h,i=>by
  obtain⟨v,r,rfl,i1,i2⟩:=i
  rw[all_cons,and_eq_true]at h
  obtain⟨cs,q1,q2⟩:=ux h.2 i2
  cases d with
  |tup xs=>
   obtain⟨a,vs,rfl,t,il⟩:=i1
   have hx:xs.all Bo=true:=h.1
   rcases t with⟨t1,t2⟩|t
   ·refine⟨a::cs,λc hc=>?_,⟨_,_,rfl,⟨a,vs,rfl,.inl ⟨mem_cons_self,t2⟩,l8 hx il⟩,IsL.ext ⟨λ_ _ p _=>mem_cons_of_mem _ p,λ_ _ _ q=>q⟩ _ _ q2⟩⟩
    rcases mem_cons.mp hc with rfl|hc
    ·exact⟨t1,_,t2⟩
    ·exact q1 c hc
   ·exact⟨cs,q1,⟨_,_,rfl,⟨a,vs,rfl,.inr t,l8 hx il⟩,q2⟩⟩
  |non=>cases h.1
  |bl _=>cases h.1
  |int _=>cases h.1
  |str _=>cases h.1
  |lst _=>cases h.1
  |exc _=>cases h.1
  |fn _=>cases h.1
theorem uy:∀{ds:List D}{vs:List V},ds.all El=true->IsL K P H ds vs->IsL K (Cn H) H ds vs
 |[],vs,_,i=>i
 |d::ds,vs,h,i=>by
  obtain⟨v,r,rfl,i1,i2⟩:=i
  rw[all_cons,and_eq_true]at h
  refine⟨v,r,rfl,?_,uy h.2 i2⟩
  cases d with
  |lst xs=>
   obtain⟨a,vs,rfl,t,il⟩:=i1
   have hx:xs.all Bo=true:=h.1
   rcases t with⟨t1,t2⟩|t
   ·exact⟨a,vs,rfl,.inl ⟨⟨vs,t2⟩,t2⟩,l8 hx il⟩
   ·exact⟨a,vs,rfl,.inr t,l8 hx il⟩
  |non=>exact pY h.1 i1
  |bl _=>exact pY h.1 i1
  |int _=>exact pY h.1 i1
  |str _=>exact pY h.1 i1
  |tup _=>cases h.1
  |exc _=>cases h.1
  |fn _=>cases h.1
theorem Gf{c:Addr}{vs ws:List V}(s:aF H H')(h:Rd H c (.lst vs))(h':Rd H' c (.tup ws)):False:=by
 rcases h with h|⟨o,h⟩<;>rcases h' with h'|⟨o',h'⟩<;>(rw[s _ _ h]at h';cases h')
theorem B4.new {a:Addr}{ds:List D}{ns:List Int}(d:B4 K ⟨Cn H,H⟩ H' a ds ns)(s:aF H H')(hf:ds.all uw=true):vE K H H' a (.tv ds ns):=by
 obtain⟨b,m,ws,fa,fb,fm,n1,n2,n3,ha,hb,hm,i⟩:=d
 obtain⟨cs,q1,q2⟩:=ux hf i
 have hc:∀c∈cs,H c=none/\(∃o,H' c=some o)/\c≠a/\c≠b/\c≠m:=λc hc=>by
  obtain⟨⟨p1,p2⟩,vs,p3⟩:=q1 c hc
  simp only [mem_cons,not_mem_nil,or_false,not_or]at p2
  refine⟨?_,p3.elim (λz=>⟨_,z⟩) (λ⟨_,z⟩=>⟨_,z⟩),p2.1,p2.2.1,p2.2.2⟩
  rcases p1 with⟨us,p1⟩|p1
  ·exact(Gf s p1 p3).elim
  ·exact p1
 refine⟨b::m::cs,λx hx=>?_,b,m,ws,by simp,by simp,n3,λz=>?_,λx hx=>⟨hx,?_⟩,ha,hb,hm,IsL.ext ⟨λc _ p _=>⟨by simp[p],(hc c p).2.2.2.1,(hc c p).2.2.2.2⟩,λ_ _ _ q=>q⟩ _ _ q2⟩
 ·simp only [mem_cons]at hx
  rcases hx with rfl|rfl|rfl|hx
  ·exact fa
  ·exact fb
  ·exact fm
  ·exact(hc x hx).1
 ·simp only [mem_cons]at z
  rcases z with z|z|z
  ·exact n1 z
  ·exact n2 z
  ·exact(hc a z).2.2.1 rfl
 ·simp only [mem_cons]at hx
  rcases hx with rfl|rfl|rfl|hx
  ·exact⟨_,ha⟩
  ·exact⟨_,hb⟩
  ·exact⟨_,hm⟩
  ·exact(hc x hx).2.1
end
def Ox:Out->R (List D×List Int)
 |.tX (.tv xs ns)=>if xs.all uw=true then .ok (xs,ns)else .bad
 |_=>.bad
def Oz(K:PySem.W.Frag)(m:List D->R (List D×List Int)):Sp:=λvs H Q E=>∃ds,IsL K (Cn H) H ds vs/\(match m ds with
 |.ok q=>∀(a:Addr)(H':Hp),aF H H'->vE K H H' a (.tv q.1 q.2)->Q (.ref a) H'
 |_=>False)
def mV(n N:Nat)(b:DE->R Out)(ds:List D):R (List D×List Int):=if ds.length=n then((b (ae N ds)).bind Ox).ne else .bad
abbrev Kx(P:Program)(w:World)(K:PySem.W.Frag)(mg:Str->Option Value)(base:Heap)(k:Nat)(f:Addr)(fd:FuncData)(ps:List Str)(m:List D->R (List D×List Int)):Prop:=gb P w K mg base n8 k f fd ps (Oz K m)
section
variable{P:Program}{w:World}{K:PySem.W.Frag}{mg:Str->Option Value}{base:Heap}
theorem Qq{x:Str}{st:Stmt}{f:Addr}{fd:FuncData}{N ps:List Str}{k:Nat}{b:DE->R Out}(S:az N ps (ah st))(d:Df K mg x st ps f fd)
  (hb:∀(cdv:Value)(A:Around)(outer:List Env)(s:Shared)(H:Hp)(E:XK),aV k (A.deeper (envOfC x (ah st) s.heap.objs.size f cdv))->kT (kU n8 P w K mg base N x (ah st) f cdv A outer s H E).yh (bF st) (tS K EN b)):
  Kx P w K mg base (k+1) f fd ps (mV ps.length N.length b):=by
 refine d.F.ok S (λvs H Q E h=>?_) (λcdv A outer s H vs Q E hr h=>?_)
 ·obtain⟨ds,i,h⟩:=h
  cases e:mV ps.length N.length b ds with
  |ok nss=>
   rw[i.length]
   unfold mV at e
   split at e
   ·assumption
   ·cases e
  |err c=>rw[e]at h;exact h.elim
  |bad=>rw[e]at h;exact h.elim
 ·obtain⟨ds,i,h⟩:=h
  refine⟨_,hb cdv A outer s H E hr,⟨⟨Cn H,H⟩,ae N.length ds,[],nc i,?_⟩⟩
  cases e:mV ps.length N.length b ds with
  |err c=>rw[e]at h;exact h.elim
  |bad=>rw[e]at h;exact h.elim
  |ok nss=>
   rw[e]at h
   unfold mV at e
   split at e
   ·have q:=R.nW e
    cases eb:b (ae N.length ds)with
    |bad=>rw[eb]at q;cases q
    |err c=>rw[eb]at q;cases q
    |ok o=>
     rw[eb]at q
     cases o with
     |tX c=>
      cases c with
      |tv xs ns=>
       have q':(if xs.all uw=true then R.ok (xs,ns)else .bad)=R.ok nss:=q
       split at q'
       ·rename_i hf
        cases q'
        exact λa H' s' nd=>h a H' s' (B4.new nd s' hf)
       ·cases q'
      |ls _=>cases q
      |tp _=>cases q
      |dk _=>cases q
      |tq _ _=>cases q
      |tr _=>cases q
     |yZ _=>cases q
     |yY _=>cases q
     |yX _=>cases q
     |lW _=>cases q
     |rt _=>cases q
     |nx _=>cases q
     |bk _=>cases q
     |ct _=>cases q
   ·cases e
end
section
variable{X:Cx}{E:Str->Hp->Prop}{pos:Pos}
def OA(K:PySem.W.Frag)(E:Str->Hp->Prop)(f:DE->R (List D×List Int)):TE:=λσ H Q=>∃g env os,Rel K g env σ H os/\Good E g.H₀ (f env) λq=>∀(a:Addr)(H':Hp),aF H H'->vE K H H' a (.tv q.1 q.2)->Q (.ref a) H'
def HH(m:List D->R (List D×List Int))(ds:List D):R (List D×List Int):=if ds.all El=true then m ds else .bad
theorem Qt{x:Str}{st:Stmt}{ps:List Str}{fa:Addr}{fd:FuncData}{k:Nat}{p:Pos}{e:Expr}{es:List Expr}{f:DE->R (List D)}{m:List D->R (List D×List Int)}(d:Df X.K X.mg x st ps fa fd)(F:Kx X.prog X.w X.K X.mg X.base k fa fd ps m)(hr:aV k X.A)
  (ha:PA X (e::es) (pQ X.K E f))(hg:Gl X x:=by rfl)(hdb:(x==("__debug__":Str))=false:=by decide)(he:starEach (e::es) X.env=(false,eval e X.env)::starEach es X.env:=by rfl)(hpl:(backTo pos (starEach es X.env)).any (·.1)=false:=by rfl):
  PE X (.Call (.Name x p) (e::es) [] pos) (OA X.K E λenv=>((f env).bind (HH m)).ne):=
 imp (kK (E:=λ_ _ _=>False) F hr hg d.m d.F.kp d.b .nil rg ha hdb he hpl) λσ H Q ⟨g,env,os,r,q⟩=>⟨g,env,os,r,by
  dsimp only at q
  cases ef:f env with
  |bad=>rw[ef]at q;exact q.elim
  |err c=>rw[ef]at q;exact q.elim
  |ok ds=>
   rw[ef]at q
   have hb:((R.ok ds).bind (HH m))=HH m ds:=rfl
   rw[hb]at q
   unfold HH at q
   split at q
   ·rename_i hf
    cases em:m ds with
    |bad=>rw[em]at q;exact q.elim
    |err c=>rw[em]at q;exact q.elim
    |ok nss=>
     rw[em]at q
     intro vs H1 s1 i1
     show Oz X.K m (vs++[]) H1 Q _
     rw[append_nil]
     refine⟨ds,uy hf i1,?_⟩
     rw[em]
     exact λa H' s' nd=>q a H' (s1.trans s') (nd.back s1)
   ·exact q.elim⟩
theorem Jp(i:Nat){x:Str}{e:Expr}{f:DE->R (List D×List Int)}{pos':Pos}(he:PE X e (OA X.K E f))(hN:X.N.Nodup)(hi:X.N[i]?=some x:=by rfl)(hx:Loc X.env.scope x:=by first|exact Or.inl rfl|exact Or.inr rfl)(hs:swapsWith e (some (.Name x pos')) pos.line X.env=pure false:=by rfl)
  (hf:X.fn x=true\/X.env.scope.names.lookup x=some .local:=by first|exact .inl rfl|exact .inr rfl|assumption):PS X (.Assign [.Name x pos'] e pos) (tS X.K E λenv=>(f env).bind λq=>.ok (.nx (env.set i (.deep (.tv q.1 q.2))))):=
 mZ (vo hN hi hx he hs hf) λDe σ H ⟨g,env,os,r,m⟩=>⟨g,env,os,r,m.bind.mono λnss _ q a H' s ⟨as,hfr,dp⟩=>by
  refine q _ H' ((a::as)++os) (r.setC s i (c:=.tv nss.1 nss.2) hfr (dp.to λx hx=>⟨List.mem_append_left _ hx,rfl⟩)) ⟨λc hc=>?_,λc hc=>s.free hc,λc o _ hc=>s c o hc⟩
  rcases mem_append.mp hc with z|z
  ·exact .inr (hfr c z)
  ·exact .inl z⟩
theorem Jq(i j:Nat){x y:Str}{p q tp:Pos}{x1}(hij:i≠j)(Qu:X.N[i]?=some x:=by rfl)(Qw:yd X.env.scope x:=by first|exact Or.inl rfl|exact Or.inr (Or.inl rfl)|exact Or.inr (Or.inr rfl))(hdx:(x==("__debug__":Str))=false:=by decide)
  (ME:(x==("__classdict__":Str))=false:=by decide)(Qx:X.N[j]?=some y:=by rfl)(Qy:yd X.env.scope y:=by first|exact Or.inl rfl|exact Or.inr (Or.inl rfl)|exact Or.inr (Or.inr rfl))(Qz:(y==("__debug__":Str))=false:=by decide)
  (MF:(y==("__classdict__":Str))=false:=by decide)
  (hs:starEach [.Name x p,.Name y q] X.env=(false,eval (.Name x p) X.env)::starEach [.Name y q] X.env:=by rfl)(hs2:starEach [.Name y q] X.env=(false,eval (.Name y q) X.env)::starEach [] X.env:=by rfl):
  PS X (.Return (some (.Tuple [.Name x p,.Name y q] x1 tp)) pos) (tS X.K E λenv=>(ownAt i env).bind λxs=>((ownAt j env).bind λys=>R.of (zV ys)).bind λms=>.ok (.tX (.tv xs ms))):=
 mZ (vm (zk (fH (lA Qu Qw hdx ME) (fH (lA Qx Qy Qz MF) jY hs2) hs))) λDe σ H ⟨g,env,os,r,m⟩=>by
  obtain⟨xs,e1,m1⟩:=m.bind.own
  obtain⟨ms,e2,m2⟩:=m1.bind.MA
  obtain⟨c,us,c1,c2,c3,c4⟩:=r.own i _ e1
  obtain⟨b,ws,b1,b2,b3,b4⟩:=r.own j _ e2
  have ew:=sC b4
  subst ew
  refine⟨.ref c,c1,.ref b,b1,(by show 2<=sizeLine;decide),λp hp=>?_⟩
  have sp:=dq hp (.tup [.ref c,.ref b])
  have QA:p≠b:=λz=>by rw[z,b3]at hp;cases hp
  have QB:p≠c:=λz=>by rw[z,c3]at hp;cases hp
  have MD:c≠b:=λz=>hij (r.inj i j _ _ b e1 e2 (by rw[c1,z]) b1)
  refine(show dg X.K g H os De (.tX (.tv xs ms))from m2) p _ (r.ext.trans sp) ⟨b,c,us,r.ext.free hp,(r.new _ b2).1,(r.new _ c2).1,QA,QB,MD,bO,sp _ _ b3,sp _ _ c3,IsL.ext ⟨λa o h q=>⟨h.1,λz=>?_⟩,λa o _ q=>sp _ _ q⟩ _ _ c4⟩
  simp only [mem_cons,not_mem_nil,or_false]at z
  rcases z with rfl|rfl|rfl
  ·rw[hp]at q;cases q
  ·exact h.2 b2
  ·exact h.2 c2
end
def Aa(i:Nat)(env:DE):R (List D×List Int):=match env[i]? with
 |some (.deep (.tv ds ns))=>.ok (ds,ns)
 |_=>.bad
section
variable{X:Cx}{E:Str->Hp->Prop}{pos:Pos}
theorem Good.QC {H₀:Hp}{i:Nat}{env:DE}{p:List D×List Int->Prop}(h:Good E H₀ (Aa i env) p):∃ds ns,env[i]?=some (.deep (.tv ds ns))/\p (ds,ns):=by
 unfold Aa at h
 split at h
 ·rename_i n ns e
  exact⟨n,ns,e,h⟩
 ·exact h.elim
def vN(ix:Nat)(env:DE)(q:List D×List Int):D->R Out
 |.int v=> @ite _ (q.2.length<sizeLine) (propDecidable _) (.ok (.nx (env.set ix .no))) .bad
 |_=>.bad
theorem Good.vN {H₀:Hp}{ix:Nat}{env:DE}{q:List D×List Int}{d:D}{p:Out->Prop}(h:Good E H₀ (vN ix env q d) p):∃v,d=.int v/\q.2.length<sizeLine/\p (.nx (env.set ix .no)):=by
 unfold DL.vN at h
 split at h
 ·split at h
  ·rename_i c
   exact⟨_,rfl,c,h⟩
  ·exact h.elim
 ·exact h.elim
theorem Jr(ix:Nat){x:Str}{ei e:Expr}{fi f:DE->R D}{p Js apos fk:Pos}(hi:PE X ei (tB X.K E fi))(he:PE X e (tB X.K E f))(hN:X.N[ix]?=some x:=by rfl)(hv:yd X.env.scope x:=by first|exact Or.inl rfl|exact Or.inr (Or.inl rfl)|exact Or.inr (Or.inr rfl))(hd:(x==("__debug__":Str))=false:=by decide)
  (hcd:(x==("__classdict__":Str))=false:=by decide)(QD:lV ei:=by exact λ_ _=>rfl)
  (hbase:attributeBase (.Subscript (.Name x p) ei Js) "append" X.env (eval (.Subscript (.Name x p) ei Js) X.env)=eval (.Subscript (.Name x p) ei Js) X.env:=by rfl)
  (hfew:((backTo fk (starEach [e] X.env)).all (λx=> !x.1)&&(backToKw fk (keywordEach [] X.env)).all (λx=>x.1.isSome)
   &&decide ([e].length+([]:List Keyword).length+(if([]:List Keyword).isEmpty then 0 else 1)<30))=true:=by rfl)
  (hline:(apos.endLine==fk.line)=true:=by rfl)(hst:starEach [e] X.env=(false,eval e X.env)::starEach [] X.env:=by rfl)(hplain:(backTo fk (starEach [] X.env)).any (·.1)=false:=by rfl)
  (hs:swapsWith (.Call (.Attribute (.Subscript (.Name x p) ei Js) "append" apos) [e] [] fk) none pos.line X.env=pure false:=by rfl):
  PS X (.Expr (.Call (.Attribute (.Subscript (.Name x p) ei Js) "append" apos) [e] [] fk) pos) (tS X.K E λenv=>(Aa ix env).bind λq=>(fi env).bind λa=>(uv a).bind λ_=>(f env).bind λd=>vN ix env q d):=
 mZ (rN (Dt PySem.F.plainAttrs_list PySem.F.slot_list_append PySem.F.type_list_append mY (xh zo (lA hN hv hd hcd) hi QD) (fH he jY hst) hbase hfew hline hst hplain) hs) λDe σ H ⟨g,env,os,r,m⟩=>by
  obtain⟨ds,ns,e1,m2⟩:=m.bind.QC
  obtain⟨A,dd⟩:=r.Dv
  obtain⟨a,as,hA,q1,b,c,ws,t1,t2,t3,t4,t5,q2,q3,t6,t7⟩:=dd.dp ix _ e1
  refine⟨.ref a,q1,g,env,os,r,m2.bind.mono λda _ m3 w H2 s2 i2=>?_⟩
  obtain⟨rfl,m4⟩:=m3.bind.one
  have iw:w=.int 1:=i2
  refine⟨a,[.ref c,.ref b],1,.ref b,rfl,iw,tP.of (s2 _ _ q2),rfl,.inl ⟨rfl,_,jV.of (s2 _ _ q3)⟩,g,env,os,r.same s2,m4.bind.mono λd _ m5 v H3 s3 i3=>?_⟩
  obtain⟨u,rfl,hl,m6⟩:=m5.vN
  have iu:v=.int u:=i3
  subst iu
  have r3:=r.same (s2.trans s3)
  have QE:=s3 _ _ (s2 _ _ q3)
  have QF:=s3 _ _ (s2 _ _ q2)
  obtain⟨z9,r4⟩:=r3.Jo (b:=b) (o:=.lst ((ns++[u]).map V.int)) e1 q1 (λLw h=>by
   obtain⟨b',c',Rn,z1,z2,z3,z4,z5,z6,_⟩:=h
   rw[QF]at z6
   injection z6 with z6
   injection z6 with z6
   injection z6 with _ z6
   injection z6 with z6 _
   injection z6 with z6
   subst z6
   exact mem_cons_of_mem _ z1)
  refine⟨b,ns.map V.int,.int u,rfl,rfl,QE,by rw[length_map];exact hl,?_⟩
  rw[map_append]at r4
  exact(show dg X.K g H os De (.nx _)from m6) σ _ os r4 ((lX.same (s2.trans s3) os).trans (.mut z9))
end
section
variable{X:Cx}{E:Str->Hp->Prop}{pos:Pos}{k:Nat}{fa:Addr}{fd:FuncData}{st:Stmt}{ps:List Str}{x:Str}{p:Pos}{e:Expr}{es:List Expr}{f:DE->R (List D)}
theorem QG{m:List D->R D}(d:Df X.K X.mg x st ps fa fd)(F:gb X.prog X.w X.K X.mg X.base n8 k fa fd ps (ve X.K vJ m))(hr:aV k X.A)
  (ha:PA X (e::es) (pQ X.K E f))(hg:Gl X x:=by rfl)(hdb:(x==("__debug__":Str))=false:=by decide)(he:starEach (e::es) X.env=(false,eval e X.env)::starEach es X.env:=by rfl)(hpl:(backTo pos (starEach es X.env)).any (·.1)=false:=by rfl):
  PE X (.Call (.Name x p) (e::es) [] pos) (tB X.K E λenv=>(f env).bind m):=
 imp (kK (E:=EX vJ E) F hr hg d.m d.F.kp d.b .nil rg ha hdb he hpl) λσ H Q ⟨g,env,os,r,q⟩=>⟨g,env,os,r,q.bind.mono λds _ q1 vs H1 s1 i1=>by
  show ve X.K vJ m (vs++[]) H1 Q _
  rw[append_nil]
  refine⟨_,ds,i1,?_⟩
  cases em:m ds with
  |ok d=>
   rw[em]at q1
   intro v H' s' i'
   exact q1 v H' (s1.trans s') i'.weak
  |err c=>
   rw[em]at q1
   intro H' s'
   exact⟨c,rfl,q1 H' (r.ext.trans (s1.trans s'))⟩
  |bad=>rw[em]at q1;exact q1⟩
end
noncomputable def pZ(env:DE):R Out:=
 ((((((((aC 0 env>=>λj8=>R.ok (D.int 1000003)>=>λj9=>R.of (m9 j8 j9))>=>λjm=>R.ok (D.int 7)>=>λgU=>R.of (vG jm gU))>=>λv10=>(aC 1 env>=>λkc=>aC 1 env>=>λiP=>R.of (vG kc iP))>=>λv11=>R.of (bE v10 v11))>=>λv8=>R.ok (D.int 1)>=>λv9=>R.of (bE v8 v9))>=>λv6=>aC 2 env>=>λv7=>R.of (vG v6 v7))>=>λv4=>R.ok (D.int 2147483647)>=>λv5=>R.of (m9 v4 v5))>=>λv2=>R.ok (D.int 16)>=>λv3=>R.of (tZ v2 v3))>=>λv1=>R.ok (Out.rt v1))
def dH:=mS 3 3 pZ
noncomputable def kd(env:DE):R Out:=
 (bj (((aC 1 env>=>λv4=>R.ok (D.int 1)>=>λv5=>R.of (lE v4 v5)>=>cQ)>=>λv3=>if v3=true then((aC 0 env>=>λv8=>R.ok (D.int 13)>=>λv9=>R.of (m9 v8 v9))>=>λv6=>R.ok (D.int 5)>=>λv7=>R.of (lE v6 v7)>=>cQ)else R.ok false)>=>λv2=>if v2=true then(R.ok (D.int 1)>=>λv10=>R.ok (Out.rt v10))else(R.ok (Out.nx env))) λv1=>
 (bj (((R.ok (D.int 2)>=>λj8=>(aC 1 v1>=>λkc=>R.ok []>=>λiP=>R.ok (kc::iP))>=>λj9=>R.ok (j8::j9))>=>λgU=>R.of (t8 gU))>=>λjm=>R.ok (Out.nx (List.set v1 1 (Sl.val jm)))) λv11=>
 ((aC 1 v11>=>λni=>((aC 0 v11>=>λnj=>R.ok (D.int 13)>=>λnk=>R.of (tZ nj nk))>=>λl9=>((aC 2 v11>=>λnq=>aC 1 v11>=>λoM=>R.of (m8 nq oM))>=>λmf=>R.ok (D.int 1)>=>λnv=>R.of (bE mf nv))>=>λik=>R.of (m9 l9 ik))>=>λv20=>R.of (bE ni v20))>=>λkZ=>R.ok (Out.rt kZ))))
def cR:=mS 3 3 kd
noncomputable def jL(env:DE):R Out:=
 (bj ((R.ok (D.int 1)>=>λv3=>(aC 0 env>=>λv5=>(aC 1 env>=>λv7=>R.ok (D.int 1)>=>λv8=>R.of (m8 v7 v8))>=>λv6=>R.of (m9 v5 v6))>=>λv4=>R.of (bE v3 v4))>=>λv2=>R.ok (Out.nx (List.set env 2 (Sl.val v2)))) λv1=>
 (bj ((((aC 0 v1>=>λj9=>R.ok (D.int 8)>=>λkc=>R.of (tZ j9 kc))>=>λgU=>R.ok (D.int 2)>=>λj8=>R.of (m9 gU j8))>=>λv11=>R.ok (D.int 1)>=>λjm=>R.of (lE v11 jm)>=>cQ)>=>λv10=>if v10=true then((aC 2 v1>=>λkZ=>R.of (oH kZ))>=>λiP=>R.ok (Out.rt iP))else(R.ok (Out.nx v1))) λv9=>
 (dF 2 v9>=>λni=>R.ok (Out.rt ni))))
def cD:=mS 2 3 jL
noncomputable def mh(env:DE):R Out:=
 (bj (((aC 0 env>=>λv3=>(aC 1 env>=>λv5=>R.ok []>=>λv6=>R.ok (v5::v6))>=>λv4=>R.ok (v3::v4))>=>cD)>=>λv2=>R.ok (Out.nx (List.set env 2 (Sl.val v2)))) λv1=>
 (bj (((((aC 0 v1>=>λj8=>R.ok (D.int 16)>=>λj9=>R.of (tZ j8 j9))>=>λjm=>R.ok (D.int 4)>=>λgU=>R.of (m9 jm gU))>=>λv10=>R.ok (D.int 0)>=>λv11=>R.of (zx v10 v11)>=>cQ)>=>λv9=>if v9=true then R.ok true else(aC 1 v1>=>λkc=>R.ok (D.int 3)>=>λiP=>R.of (vd kc iP)>=>cQ))>=>λv8=>if v8=true then((((dF 2 v1>=>λv20=>R.ok []>=>λl9=>R.ok (v20::l9))>=>fit)>=>λni=>R.ok (D.lst ni))>=>λkZ=>R.ok (Out.rt kZ))else(R.ok (Out.nx v1))) λv7=>
 (bj (((((((aC 2 v7>=>λvO=>R.ok (D.int 1)>=>λjU=>R.of (bE vO jU))>=>λsE=>R.ok []>=>λv30=>R.ok (sE::v30))>=>λoM=>R.of (lC oM))>=>λnv=>aC 1 v7>=>λnq=>R.of (vd nv nq)>=>cQ)>=>λmf=>if mf=true then((aC 2 v7>=>λvR=>R.ok (D.int 1)>=>λvU=>R.of (bE vR vU))>=>λrq=>R.ok (D.int 0)>=>λvV=>R.of (xA rq vV)>=>cQ)else R.ok false)>=>λnk=>if nk=true then(aC 2 v7>=>λvh=>R.ok (D.int 1)>=>λvW=>R.of (bE vh vW))else(aC 2 v7>=>λvX=>R.ok (D.int 1)>=>λvY=>R.of (m8 vX vY)))>=>λnj=>R.ok (Out.nx (List.set v7 3 (Sl.val nj)))) λik=>
 (((((((dF 2 ik>=>λyA=>(dF 3 ik>=>λyB=>(dF 2 ik>=>λvZ=>R.ok []>=>λyC=>R.ok (vZ::yC))>=>λyD=>R.ok (yB::yD))>=>λqD=>R.ok (yA::qD))>=>fit)>=>λwc=>R.ok (D.lst wc))>=>λwe=>((((dF 2 ik>=>λnz=>(dF 3 ik>=>λyE=>R.ok []>=>λyF=>R.ok (yE::yF))>=>λxM=>R.ok (nz::xM))>=>fit)>=>λyG=>R.ok (D.lst yG))>=>λyH=>((((dF 2 ik>=>λyI=>(dF 2 ik>=>λy4=>R.ok []>=>λAb=>R.ok (y4::Ab))>=>λyJ=>R.ok (yI::yJ))>=>fit)>=>λuz=>R.ok (D.lst uz))>=>λyK=>((((dF 2 ik>=>λCo=>((aC 3 ik>=>λCp=>R.of (oH Cp))>=>λCq=>(dF 2 ik>=>λCr=>R.ok []>=>λCs=>R.ok (Cr::Cs))>=>λCu=>R.ok (Cq::Cu))>=>λy6=>R.ok (Co::y6))>=>fit)>=>λCw=>R.ok (D.lst Cw))>=>λAc=>R.ok []>=>λAe=>R.ok (Ac::Ae))>=>λyL=>R.ok (yK::yL))>=>λwj=>R.ok (yH::wj))>=>λwm=>R.ok (we::wm))>=>fit)>=>λwo=>((aC 0 ik>=>λCy=>R.ok (D.int 64)>=>λCz=>R.of (tZ Cy Cz))>=>λCA=>R.ok (D.int 4)>=>λCB=>R.of (m9 CA CB))>=>λsF=>jS wo sF)>=>λwq=>R.ok (Out.rt wq)))))
def d9:=mD 2 4 mh
noncomputable def gh(d:D)(env:DE):R Out:=
 (bT 2 (jK (bN 4) (jK (bN 5) uo))) d env>=>λv8=>
  ((aC 1 v8>=>λv10=>R.ok (D.int 1)>=>λv11=>R.of (zx v10 v11)>=>cQ)>=>λv9=>if v9=true then(((dR 3 v8>=>λj8=>(((((aC 5 v8>=>λkZ=>(aC 4 v8>=>λv20=>(R.ok (D.int 48271)>=>λik=>R.ok []>=>λnj=>R.ok (ik::nj))>=>λl9=>R.ok (v20::l9))>=>λni=>R.ok (kZ::ni))>=>dH)>=>λkc=>(dF 1 v8>=>λnk=>R.ok []>=>λmf=>R.ok (nk::mf))>=>λiP=>R.ok (kc::iP))>=>d9)>=>zu)>=>λj9=>fit (j8++j9))>=>λgU=>R.ok (D.lst gU))>=>λjm=>R.ok (Out.nx (List.set v8 3 (Sl.val jm))))else(R.ok (Out.nx v8)))
noncomputable def mi(env:DE):R Out:=
 (bj (((R.ok []>=>fit)>=>λv3=>R.ok (D.lst v3))>=>λv2=>R.ok (Out.nx (List.set env 3 (Sl.val v2)))) λv1=>
 (bj ((dF 0 v1>=>λnv=>zu nv>=>λxs=>R.ok (dS xs))>=>λv5=>fX gh v5 v1) λv4=>
 ((dR 3 v4>=>λoM=>R.ok none>=>λsE=>(aC 2 v4>=>n9)>=>λv30=>R.ok (cut oM sE v30))>=>λnq=>R.ok (Out.lW nq))))
def ed:=aM 3 6 mi
def wu(c k f:Int):Int:=(c%1000003*7+k*k+1)*f%2147483647/16
theorem Af(c k f:Int)(hk:0<=k/\k<1000000)(hf:0<=f/\f<2147483647):dH [.int c,.int k,.int f]=.ok (.int (wu c k f)):=by
 have h1:=emod_nonneg c (show(1000003:Int)≠0 by decide)
 have h2:=Int.emod_lt_of_pos c (show(0:Int)<1000003 by decide)
 unfold dH pZ
 simp_all
 rw[iO c 1000003 (by decide)]
 simp_all only [R.iC,R.bJ]
 rw[r9 _ 7 (.inr (by decide))]
 simp_all only [R.iC,R.bJ]
 rw[r9 k k (.inl (by omega))]
 simp_all only [R.iC,R.bJ,r6]
 rw[r9 _ f (.inr (by omega))]
 simp_all only [R.iC,R.bJ]
 rw[iO _ 2147483647 (by decide)]
 simp_all only [R.iC,R.bJ]
 rw[pW _ 16 (by decide)]
 rfl
def i9(s:Int):Int:=if s%13=5 then 1 else 2+s/13%6
theorem wx(s:Int):cR [.int s,.int 1,.int 7]=.ok (.int (i9 s)):=by
 unfold cR kd i9
 simp_all
 rw[iO s 13 (by decide)]
 simp_all [beq_self_eq_true]
 by_cases h:s%13=5
 ·simp_all only [h,beq_self_eq_true,mS,mD,mF,aM,ae,reduceAdd,reduceSub,reduceEqDiff,reduceIte,aj,ak,aP,aQ,aR,aS]
 ·have h':(s%13==5)=false:=beq_false_of_ne h
  simp_all only [h',h,mS,mD,mF,aM,ae,reduceAdd,reduceSub,reduceEqDiff,reduceIte,aj,ak,aP,aQ,aR,aS]
  rw[pW s 13 (by decide)]
  simp_all
  rw[iO _ _ (by decide)]
  rfl
theorem uA(s:Int):1<=i9 s/\i9 s<=7:=by
 unfold i9
 split<;>omega
def cK(x n:Int):Int:=if x/8%2=1 then-(1+x%(n-1))else 1+x%(n-1)
theorem Ag(x n:Int)(h:2<=n):cD [.int x,.int n]=.ok (.int (cK x n)):=by
 unfold cD jL cK
 simp_all
 rw[iO x (n-1) (by omega)]
 simp_all
 rw[pW x 8 (by decide)]
 simp_all
 rw[iO _ 2 (by decide)]
 simp_all
 by_cases hc:x/8%2=1
 ·simp_all only [hc,beq_self_eq_true,mS,mD,mF,aM,ae,reduceAdd,reduceSub,reduceEqDiff,reduceIte,aj,ak,aP,aQ,aR,aS]
 ·have Bx:(x/8%2==1)=false:=beq_false_of_ne hc
  simp_all only [hc,Bx,mS,mD,mF,aM,ae,reduceAdd,reduceSub,reduceEqDiff,reduceIte,aj,ak,aP,aQ,aR,aS]
def iB(n k:Int):Prop:=k≠0/\ -n<k/\k<n
theorem Ah(x n:Int)(h:2<=n):iB n (cK x n):=by
 unfold cK iB
 have h1:=emod_nonneg x (show n-1≠0 by omega)
 have h2:=Int.emod_lt_of_pos x (show 0<n-1 by omega)
 split<;>omega
def nA(k n:Int):Int:=if(if k+1<0 then-(k+1)else k+1)<n/\k+1≠0 then k+1 else k-1
def kg(x n:Int):List Int:=
 if x/16%4>0\/n<3 then[cK x n]else
  let k:=cK x n
  let o:=nA k n
  if x/64%4=0 then[k,o,k]else if x/64%4=1 then[k,o]else if x/64%4=2 then[k,k]else[k,-o,k]
theorem Ai{k n:Int}(h:3<=n)(hk:iB n k):iB n (nA k n):=by
 unfold nA iB at*
 split<;>split at* <;>omega
theorem Aj{x n:Int}(h:2<=n):∀k∈kg x n,iB n k:=by
 have h1:=Ah x n h
 unfold kg
 split
 ·simp[h1]
 ·rename_i hc
  have h2:=Ai (n:=n) (by omega) h1
  have h3:iB n (-nA (cK x n) n):=by unfold iB at*;omega
  dsimp only
  split
  ·simp[h1,h2]
  ·split
   ·simp[h1,h2]
   ·split<;>simp[h1,h3]
theorem rz(x n:Int):(kg x n).length<=3:=by
 unfold kg
 split
 ·simp
 ·dsimp only
  split
  ·simp
  ·split
   ·simp
   ·split<;>simp
theorem Ak(x n:Int)(h:2<=n):d9 [.int x,.int n]=.ok (.lst (bp (kg x n))):=by
 unfold d9 mh kg
 simp_all
 rw[Ag x n h]
 simp_all
 rw[pW x 16 (by decide)]
 simp_all
 rw[iO _ 4 (by decide)]
 simp_all
 by_cases h1:0<x/16%4
 ·have Jt:x/16%4>0\/n<3:=.inl h1
  rw[if_pos Jt]
  simp_all only [h1,decide_true,mS,mD,mF,aM,ae,reduceAdd,reduceSub,reduceEqDiff,reduceIte,aj,ak,aP,aQ,aR,aS]
  rfl
 ·by_cases h2:n<3
  ·have Jt:x/16%4>0\/n<3:=.inr h2
   rw[if_pos Jt]
   simp_all only [h1,h2,decide_true,decide_false,mS,mD,mF,aM,ae,reduceAdd,reduceSub,reduceEqDiff,reduceIte,aj,ak,aP,aQ,aR,aS]
   rfl
  ·have Jt:¬(x/16%4>0\/n<3):=by omega
   rw[if_neg Jt]
   simp_all only [h1,h2,decide_false,mS,mD,mF,aM,ae,reduceAdd,reduceSub,reduceEqDiff,reduceIte,aj,ak,aP,aQ,aR,aS]
   have ho:((if decide ((if cK x n+1<0 then-(cK x n+1)else cK x n+1)<n)=true then R.ok (!(cK x n+1==0))else R.ok false)>=>λt=>if t=true then R.ok (D.int (cK x n+1))else R.ok (D.int (cK x n-1)))=R.ok (D.int (nA (cK x n) n)):=by
    unfold nA
    by_cases c1:(if cK x n+1<0 then-(cK x n+1)else cK x n+1)<n
    ·by_cases c2:cK x n+1=0
     ·simp[c1,c2,R.bJ]
     ·simp[c1,c2,R.bJ]
    ·simp[c1,R.bJ]
   rw[ho]
   simp_all
   rw[pW x 64 (by decide)]
   simp_all
   rw[iO _ 4 (by decide)]
   simp_all
   have h5:=emod_nonneg (x/64) (show(4:Int)≠0 by decide)
   have h6:=Int.emod_lt_of_pos (x/64) (show(0:Int)<4 by decide)
   have h7:x/64%4=0\/x/64%4=1\/x/64%4=2\/x/64%4=3:=by omega
   rcases h7 with q|q|q|q<;>simp[q,L2.jH,L2.Dr,R.iC,R.bJ,R.zE,aj,bp]
def wy(n:Int)(cells:List Int)(i:Nat):List Int:=((range i).map λk=>match cells[k]? with
 |some c=>kg (wu c k 48271) n
 |none=>[]).flatten
theorem Al{n:Int}{cells:List Int}{i:Nat}{c:Int}(h:cells[i]?=some c):wy n cells (i+1)=wy n cells i++kg (wu c i 48271) n:=by
 unfold wy
 rw[range_succ,map_append,List.flatten_append]
 simp[h]
theorem xN(n:Int)(cells:List Int):∀i:Nat,(wy n cells i).length<=3*i
 |0=>by simp[wy]
 |i+1=>by
  unfold wy
  rw[range_succ,map_append,List.flatten_append,length_append]
  have ih:=xN n cells i
  unfold wy at ih
  cases h:cells[i]? with
  |none=>simp_all only [h,map_cons,map_nil,flatten_cons,List.flatten_nil,length_append,length_nil];omega
  |some c=>
   have:=rz (wu c i 48271) n
   simp_all only [h,map_cons,map_nil,flatten_cons,List.flatten_nil,length_append,length_nil];omega
theorem Gg{n:Int}(hn:2<=n)(cells:List Int)(i:Nat):∀k∈wy n cells i,iB n k:=by
 intro k hk
 unfold wy at hk
 rw[List.mem_flatten]at hk
 obtain⟨l,hl,hk⟩:=hk
 rw[mem_map]at hl
 obtain⟨j,_,rfl⟩:=hl
 cases h:cells[j]? with
 |none=>rw[h]at hk;cases hk
 |some c=>rw[h]at hk;exact Aj hn k hk
def p4(cells:List Int)(n most:Int):List Int:=(if 1<n then wy n cells cells.length else[]).take most.toNat
theorem Am{cells:List Int}{n most:Int}:∀k∈p4 cells n most,iB n k:=by
 intro k hk
 unfold p4 at hk
 have:=mem_of_mem_take hk
 split at this
 ·exact Gg (by omega) _ _ k this
 ·cases this
theorem p5(cells:List Int)(n most:Int)(hc:cells.length<=1000)(hn:1<=n)(hm:0<=most):ed [.lst (bp cells),.int n,.int most]=.ok (bp (p4 cells n most)):=by
 unfold ed mi
 simp_all
 obtain⟨s',e,hj⟩:=zU (S:=List Int×Sl×Sl) (b:=gh)
  (λi s=>s.1=if 1<n then wy n cells i else[]) (λs=>[.val (.lst (bp cells)),.val (.int n),.val (.int most),.val (.lst (bp s.1)),s.2.1,s.2.2]) (dS (bp cells)) 0 ([],.no,.no) (by simp[wy]) (by
   rintro j ⟨wd,s4,s5⟩ x hs hx
   obtain⟨c,OB,rfl⟩:=yy hx
   have hj:j<cells.length:=(List.getElem?_eq_some_iff.mp OB).1
   rw[zero_add]at hs⊢
   have Ky:wd=if 1<n then wy n cells j else[]:=hs
   unfold gh
   simp_all only [Qh,mS,mD,mF,aM,ae,reduceAdd,reduceSub,reduceEqDiff,reduceIte,aj,ak,aP,aQ,aR,aS]
   by_cases h1:1<n
   ·rw[if_pos h1]at Ky
    subst Ky
    have hl:=xN n cells j
    have hl2:=rz (wu c j 48271) n
    refine⟨(wy n cells (j+1),.val (.int (j:Nat)),.val (.int c)),?_,by simp[h1]⟩
    simp_all only [h1,decide_true,mS,mD,mF,aM,ae,reduceAdd,reduceSub,reduceEqDiff,reduceIte,aj,ak,aP,aQ,aR,aS]
    rw[Af c j 48271 (by omega) (by decide)]
    simp_all
    rw[Ak _ n (by omega)]
    simp_all [ck]
    rw[xH (by rw[length_append];omega)]
    simp_all [Al OB]
   ·rw[if_neg h1]at Ky
    subst Ky
    exact⟨([],.val (.int (j:Nat)),.val (.int c)),by simp_all only [h1,decide_false,mS,mD,mF,aM,ae,reduceAdd,reduceSub,reduceEqDiff,reduceIte,aj,ak,aP,aQ,aR,aS],by simp[h1]⟩)
 obtain⟨wd,s4,s5⟩:=s'
 have OC:wd=if 1<n then wy n cells (0+(dS (bp cells)).length)else[]:=hj
 have he:(dS (bp cells)).length=cells.length:=by rw[yz,bw]
 rw[zero_add,he]at OC
 rw[show bp []=[]from rfl]at e
 rw[e]
 simp_all [cL]
 rw[jl _ _ hm,l7]
 simp_all [OC]
 rfl
theorem Ju{K:PySem.W.Frag}{H:Hp}{a:Addr}{m:List D->R D}{ns:List Int}(h:m [.lst (bp ns)]=.ok (.bl true))(hS:jV K H a (ns.map V.int)):ve K vJ m [.ref a] H (λv _=>v=.bl true) λ_ _ _=>False:=by
 refine⟨Tr,[.lst (bp ns)],IsL.one ⟨a,_,rfl,rT.any hS,?_⟩,?_⟩
 ·clear h hS
  induction ns with
  |nil=>rfl
  |cons x r ih=>exact⟨_,_,rfl,rfl,ih⟩
 ·rw[h]
  intro v H' _ i
  exact i
def An(_:DE):Nat:=100000000
noncomputable def k6(env:DE):R Out:=
 (((aC 1 env>=>λv3=>R.ok (D.int 0)>=>λv4=>R.of (xA v3 v4))>=>λv2=>cQ v2>=>λt=>if t=true then(((aC 1 env>=>λv8=>R.ok []>=>λv9=>R.ok (v8::v9))>=>λv7=>R.of (lC v7))>=>λv5=>aC 0 env>=>λv6=>R.of (vd v5 v6))else R.ok (D.bl false))>=>λv1=>R.ok (Out.rt v1))
def du:=mS 2 2 k6
noncomputable def mj(env:DE):R Out:=
 (((aC 1 env>=>λv3=>R.ok (D.int 0)>=>λv4=>R.of (HB v3 v4))>=>λv2=>cQ v2>=>λt=>if t=true then((aC 1 env>=>λv7=>aC 2 env>=>λv8=>R.of (bE v7 v8))>=>λv5=>((aC 0 env>=>λv10=>R.ok []>=>λv11=>R.ok (v10::v11))>=>λv9=>R.of (j6 v9))>=>λv6=>R.of (IG v5 v6))else R.ok (D.bl false))>=>λv1=>R.ok (Out.rt v1))
def bz:=mS 3 3 mj
noncomputable def mm(env:DE):R Out:=
 (bj ((aC 1 env>=>λv3=>(aC 2 env>=>λv5=>R.of (oH v5))>=>λv4=>R.of (lE v3 v4)>=>cQ)>=>λv2=>if v2=true then((((((R.ok (D.str "out")>=>λv9=>(dF 0 env>=>λv11=>R.ok []>=>λjm=>R.ok (v11::jm))>=>λv10=>R.ok (v9::v10))>=>fit)>=>λds=>R.ok (D.tup ds))>=>λv7=>R.ok []>=>λv8=>R.ok (v7::v8))>=>fit)>=>λv6=>R.ok (Out.lW v6))else(R.ok (Out.nx env))) λv1=>
 (bj (((((aC 1 v1>=>λv20=>aC 2 v1>=>λl9=>R.of (bE v20 l9))>=>λkZ=>R.ok []>=>λni=>R.ok (kZ::ni))>=>λiP=>R.of (lC iP))>=>λj9=>R.ok (D.int 2)>=>λkc=>R.of (HB j9 kc)>=>cQ)>=>λj8=>if j8=true then((((((R.ok (D.str "far")>=>λmf=>(dF 0 v1>=>λnq=>R.ok []>=>λoM=>R.ok (nq::oM))>=>λnv=>R.ok (mf::nv))>=>fit)>=>λds=>R.ok (D.tup ds))>=>λnj=>R.ok []>=>λnk=>R.ok (nj::nk))>=>fit)>=>λik=>R.ok (Out.lW ik))else(R.ok (Out.nx v1))) λgU=>
 ((((((R.ok (D.str "in")>=>λjU=>((aC 0 gU>=>λvU=>R.ok (D.int 2)>=>λvh=>R.of (bE vU vh))>=>λvV=>((aC 1 gU>=>λvY=>R.of (oH vY))>=>λvW=>R.ok []>=>λvX=>R.ok (vW::vX))>=>λvR=>R.ok (vV::vR))>=>λrq=>R.ok (jU::rq))>=>fit)>=>λds=>R.ok (D.tup ds))>=>λv30=>((((R.ok (D.str "in")>=>λsF=>((aC 0 gU>=>λyA=>R.ok (D.int 3)>=>λqD=>R.of (bE yA qD))>=>λwm=>(dF 2 gU>=>λyB=>R.ok []>=>λyD=>R.ok (yB::yD))>=>λwc=>R.ok (wm::wc))>=>λwe=>R.ok (sF::we))>=>fit)>=>λds=>R.ok (D.tup ds))>=>λwq=>((((R.ok (D.str "near")>=>λyH=>((aC 0 gU>=>λxM=>R.ok (D.int 1)>=>λyE=>R.of (bE xM yE))>=>λyG=>R.ok []>=>λnz=>R.ok (yG::nz))>=>λwj=>R.ok (yH::wj))>=>fit)>=>λds=>R.ok (D.tup ds))>=>λvZ=>((((R.ok (D.str "out")>=>λyL=>(dF 0 gU>=>λyI=>R.ok []>=>λyJ=>R.ok (yI::yJ))>=>λuz=>R.ok (yL::uz))>=>fit)>=>λds=>R.ok (D.tup ds))>=>λyF=>R.ok []>=>λyK=>R.ok (yF::yK))>=>λyC=>R.ok (vZ::yC))>=>λwo=>R.ok (wq::wo))>=>λvO=>R.ok (v30::vO))>=>fit)>=>λsE=>R.ok (Out.lW sE))))
def ee:=mF 3 3 mm
noncomputable def jM(env:DE):R Out:=
 (((aC 0 env>=>λv3=>(aC 1 env>=>λv5=>R.of (oH v5))>=>λv4=>R.of (lE v3 v4))>=>λv2=>cQ v2>=>λt=>if t=true then R.ok (D.bl true)else((aC 0 env>=>λv7=>R.ok (D.int 0)>=>λv8=>R.of (vd v7 v8))>=>λv6=>cQ v6>=>λt=>if t=true then(aC 1 env>=>λv9=>R.ok (D.int 0)>=>λv10=>R.of (zx v9 v10))else R.ok (D.bl false)))>=>λv1=>R.ok (Out.rt v1))
def cF:=mS 2 2 jM
noncomputable def kh(env:DE):R Out:=
 (bj ((aC 1 env>=>λv3=>((aC 0 env>=>λv6=>R.ok []>=>λv7=>R.ok (v6::v7))>=>λv5=>R.of (j6 v5))>=>λv4=>R.of (vd v3 v4)>=>cQ)>=>λv2=>if v2=true then((dR 0 env>=>λv9=>aC 1 env>=>λv10=>jS v9 v10)>=>λv8=>R.ok (Out.rt v8))else(R.ok (Out.nx env))) λv1=>
 (R.ok (D.int 0)>=>λv11=>R.ok (Out.rt v11)))
def b9:=mS 2 2 kh
noncomputable def oh(env:DE):R Out:=
 (bj ((dF 1 env>=>λv3=>R.ok (D.int 1)>=>λv4=>kL v3 v4)>=>λv2=>R.ok (Out.nx (List.set env 2 (Sl.val v2)))) λv1=>
 (bj (((dF 1 v1>=>λv9=>R.ok (D.int 0)>=>λv10=>kL v9 v10)>=>λv7=>R.ok (D.str "out")>=>λv8=>R.of (lE v7 v8)>=>cQ)>=>λv6=>if v6=true then(((dR 0 v1>=>λj8=>R.ok none>=>λj9=>(aC 2 v1>=>n9)>=>λkc=>R.ok (cut j8 j9 kc))>=>λjm=>(dR 0 v1>=>λiP=>((aC 2 v1>=>λv20=>R.ok (D.int 2)>=>λl9=>R.of (bE v20 l9))>=>n9)>=>λkZ=>R.ok none>=>λni=>R.ok (cut iP kZ ni))>=>λgU=>fit (jm++gU))>=>λv11=>R.ok (Out.lW v11))else(R.ok (Out.nx v1))) λv5=>
 (bj (((dF 1 v5>=>λnv=>R.ok (D.int 0)>=>λnq=>kL nv nq)>=>λnk=>R.ok (D.str "in")>=>λmf=>R.of (lE nk mf)>=>cQ)>=>λnj=>if nj=true then((((dR 0 v5>=>λrq=>R.ok none>=>λvV=>(aC 2 v5>=>n9)>=>λvR=>R.ok (cut rq vV vR))>=>λvO=>(((dF 1 v5>=>λvW=>R.ok (D.int 2)>=>λvX=>kL vW vX)>=>λvU=>(((dF 1 v5>=>λsF=>R.ok (D.int 2)>=>λwe=>kL sF we)>=>λwo=>R.of (oH wo))>=>λvY=>R.ok []>=>λwq=>R.ok (vY::wq))>=>λvh=>R.ok (vU::vh))>=>fit)>=>λjU=>fit (vO++jU))>=>λsE=>(dR 0 v5>=>λwm=>(aC 2 v5>=>n9)>=>λwc=>R.ok none>=>λyA=>R.ok (cut wm wc yA))>=>λv30=>fit (sE++v30))>=>λoM=>R.ok (Out.lW oM))else(R.ok (Out.nx v5))) λik=>
 (bj (((dF 1 ik>=>λyC=>R.ok (D.int 0)>=>λyH=>kL yC yH)>=>λyD=>R.ok (D.str "far")>=>λvZ=>R.of (lE yD vZ)>=>cQ)>=>λyB=>if yB=true then((((dR 0 ik>=>λyF=>R.ok none>=>λyK=>(aC 2 ik>=>n9)>=>λyL=>R.ok (cut yF yK yL))>=>λxM=>(((dR 0 ik>=>λyJ=>(aC 2 ik>=>λAb=>R.ok (D.int 1)>=>λAc=>R.of (bE Ab Ac))>=>λy4=>jS yJ y4)>=>λuz=>((dR 0 ik>=>λCo=>aC 2 ik>=>λy6=>jS Co y6)>=>λAe=>R.ok []>=>λCw=>R.ok (Ae::Cw))>=>λyI=>R.ok (uz::yI))>=>fit)>=>λyE=>fit (xM++yE))>=>λyG=>(dR 0 ik>=>λCq=>((aC 2 ik>=>λCr=>R.ok (D.int 2)>=>λCs=>R.of (bE Cr Cs))>=>n9)>=>λCu=>R.ok none>=>λCp=>R.ok (cut Cq Cu Cp))>=>λnz=>fit (yG++nz))>=>λwj=>R.ok (Out.lW wj))else(R.ok (Out.nx ik))) λqD=>
 ((((dR 0 qD>=>λEm=>R.ok none>=>λGi=>(aC 2 qD>=>n9)>=>λGj=>R.ok (cut Em Gi Gj))>=>λCz=>(((dR 0 qD>=>λGk=>(aC 2 qD>=>λGm=>R.ok (D.int 1)>=>λGn=>R.of (bE Gm Gn))>=>λGp=>jS Gk Gp)>=>λBp=>((dR 0 qD>=>λGq=>aC 2 qD>=>λGr=>jS Gq Gr)>=>λGs=>((dR 0 qD>=>λEn=>(aC 2 qD>=>λGu=>R.ok (D.int 1)>=>λAo=>R.of (bE Gu Ao))>=>λGv=>jS En Gv)>=>λGw=>R.ok []>=>λGx=>R.ok (Gw::Gx))>=>λGy=>R.ok (Gs::Gy))>=>λGz=>R.ok (Bp::Gz))>=>fit)>=>λGA=>fit (Cz++GA))>=>λCB=>(dR 0 qD>=>λp6=>((aC 2 qD>=>λwz=>R.ok (D.int 3)>=>λwA=>R.of (bE wz wA))>=>n9)>=>λwB=>R.ok none>=>λwC=>R.ok (cut p6 wB wC))>=>λCy=>fit (CB++Cy))>=>λCA=>R.ok (Out.lW CA))))))
def fZ:=aM 2 3 oh
noncomputable def iR(d:D)(env:DE):R Out:=
 (bN 3) d env>=>λl9=>
  (((((aC 3 l9>=>λmf=>uh "int" mf)>=>cQ)>=>λnk=>R.ok (!nk))>=>λnj=>if nj=true then R.ok true else((aC 3 l9>=>λnv=>uh "bool" nv)>=>cQ))>=>λik=>if ik=true then(R.ok (D.bl false)>=>λnq=>R.ok (Out.rt nq))else(R.ok (Out.nx l9)))
noncomputable def p7(env:DE):R Out:=
 (bj (((((aC 2 env>=>λv5=>uh "tuple" v5)>=>cQ)>=>λv4=>R.ok (!v4))>=>λv3=>if v3=true then R.ok true else((((aC 2 env>=>λv10=>R.ok []>=>λv11=>R.ok (v10::v11))>=>λv9=>R.of (j6 v9))>=>λv7=>R.ok (D.int 2)>=>λv8=>R.of (vd v7 v8)>=>cQ)>=>λv6=>if v6=true then R.ok true else((((dF 2 env>=>λj8=>R.ok (D.int 0)>=>λj9=>kL j8 j9)>=>λgU=>uh "str" gU)>=>cQ)>=>λjm=>R.ok (!jm))))>=>λv2=>if v2=true then(R.ok (D.bl false)>=>λkc=>R.ok (Out.rt kc))else(R.ok (Out.nx env))) λv1=>
 (bj (((dF 2 v1>=>λx=>(R.ok (D.int 1)>=>n9)>=>λl=>R.ok none>=>λh=>z8 x l h)>=>Ms)>=>λkZ=>fX iR kZ v1) λiP=>
 (bj ((dF 2 iP>=>λv30=>R.ok (D.int 1)>=>λvO=>kL v30 vO)>=>λsE=>R.ok (Out.nx (List.set iP 4 (Sl.val sE)))) λoM=>
 (bj (((aC 4 oM>=>λvR=>R.ok (D.int 0)>=>λvU=>R.of (vd vR vU)>=>cQ)>=>λvV=>if vV=true then R.ok true else(aC 4 oM>=>λvh=>((aC 0 oM>=>λvY=>R.ok []>=>λwq=>R.ok (vY::wq))>=>λvX=>R.of (j6 vX))>=>λvW=>R.of (zx vh vW)>=>cQ))>=>λrq=>if rq=true then(R.ok (D.bl false)>=>λwo=>R.ok (Out.rt wo))else(R.ok (Out.nx oM))) λjU=>
 (bj (((dR 0 jU>=>λwc=>(aC 4 jU>=>n9)>=>λyA=>((aC 4 jU>=>λyB=>R.ok (D.int 3)>=>λyD=>R.of (bE yB yD))>=>n9)>=>λqD=>R.ok (cut wc yA qD))>=>λwm=>R.ok (D.lst wm))>=>λwe=>R.ok (Out.nx (List.set jU 5 (Sl.val we)))) λsF=>
 (bj (((dF 2 sF>=>λyG=>R.ok (D.int 0)>=>λnz=>kL yG nz)>=>λyH=>R.ok (D.str "in")>=>λwj=>R.of (lE yH wj)>=>cQ)>=>λyC=>if yC=true then(((((aC 2 sF>=>λuz=>R.ok []>=>λyI=>R.ok (uz::yI))>=>λyL=>R.of (j6 yL))>=>λyF=>R.ok (D.int 3)>=>λyK=>R.of (lE yF yK))>=>λyE=>cQ yE>=>λt=>if t=true then(R.ok (D.int 0)>=>λyJ=>(((dF 2 sF>=>λCw=>R.ok (D.int 2)>=>λCo=>kL Cw Co)>=>λAc=>R.ok []>=>λAe=>R.ok (Ac::Ae))>=>λAb=>R.of (lC Ab))>=>λy4=>R.of (vd yJ y4)>=>λd=>cQ d>=>λt=>if t=true then aC 1 sF>=>λz=>R.of (vd y4 z)else R.ok (D.bl false))else R.ok (D.bl false))>=>λxM=>R.ok (Out.rt xM))else(R.ok (Out.nx sF))) λvZ=>
 (bj (((((aC 2 vZ>=>λCA=>R.ok []>=>λCB=>R.ok (CA::CB))>=>λCs=>R.of (j6 Cs))>=>λCp=>R.ok (D.int 2)>=>λCr=>R.of (xA Cp Cr)>=>cQ)>=>λCu=>if Cu=true then R.ok true else(((aC 5 vZ>=>λEm=>R.ok []>=>λGi=>R.ok (Em::Gi))>=>λGA=>R.of (j6 GA))>=>λCy=>R.ok (D.int 2)>=>λCz=>R.of (vd Cy Cz)>=>cQ))>=>λCq=>if Cq=true then(R.ok (D.bl false)>=>λGj=>R.ok (Out.rt Gj))else(R.ok (Out.nx vZ))) λy6=>
 (bj (((dF 2 y6>=>λGm=>R.ok (D.int 0)>=>λGn=>kL Gm Gn)>=>λGk=>R.ok (D.str "out")>=>λGp=>R.of (lE Gk Gp)>=>cQ)>=>λGz=>if Gz=true then(((dR 5 y6>=>λGr=>R.ok (D.int 0)>=>λGw=>jS Gr Gw)>=>λGy=>((dR 5 y6>=>λEn=>R.ok (D.int 1)>=>λGv=>jS En Gv)>=>λGx=>R.of (oH Gx))>=>λGq=>R.of (lE Gy Gq))>=>λGs=>R.ok (Out.rt Gs))else(R.ok (Out.nx y6))) λBp=>
 (bj (((dF 2 Bp>=>λwC=>R.ok (D.int 0)>=>λwz=>kL wC wz)>=>λp6=>R.ok (D.str "far")>=>λwB=>R.of (lE p6 wB)>=>cQ)>=>λAo=>if Ao=true then((((((((dR 5 Bp>=>λGB=>R.ok (D.int 0)>=>λGC=>jS GB GC)>=>λGD=>R.ok []>=>λGF=>R.ok (GD::GF))>=>λGG=>R.of (lC GG))>=>λAq=>(((dR 5 Bp>=>λGH=>R.ok (D.int 1)>=>λGI=>jS GH GI)>=>λGJ=>R.ok []>=>λGK=>R.ok (GJ::GK))>=>λGL=>R.of (lC GL))>=>λGN=>R.of (m8 Aq GN))>=>λAr=>R.ok []>=>λAu=>R.ok (Ar::Au))>=>λAv=>R.of (lC Av))>=>λAw=>R.ok (D.int 1)>=>λAx=>R.of (zx Aw Ax))>=>λwA=>R.ok (Out.rt wA))else(R.ok (Out.nx Bp))) λGu=>
 (bj ((((dF 2 Gu>=>λCC=>R.ok (D.int 0)>=>λGO=>kL CC GO)>=>λGP=>R.ok (D.str "near")>=>λGQ=>R.of (xA GP GQ)>=>cQ)>=>λGR=>if GR=true then R.ok true else(((aC 5 Gu>=>λGU=>R.ok []>=>λGV=>R.ok (GU::GV))>=>λGW=>R.of (j6 GW))>=>λGX=>R.ok (D.int 3)>=>λJv=>R.of (vd GX Jv)>=>cQ))>=>λGY=>if GY=true then(R.ok (D.bl false)>=>λGZ=>R.ok (Out.rt GZ))else(R.ok (Out.nx Gu))) λuB=>
 ((((dR 5 uB>=>λMG=>R.ok (D.int 0)>=>λMH=>jS MG MH)>=>λMI=>(dR 5 uB>=>λMJ=>R.ok (D.int 2)>=>λMK=>jS MJ MK)>=>λML=>R.of (lE MI ML))>=>λMM=>cQ MM>=>λt=>if t=true then((((dR 5 uB>=>λMN=>R.ok (D.int 0)>=>λMO=>jS MN MO)>=>λMP=>(dR 5 uB>=>λMQ=>R.ok (D.int 1)>=>λMR=>jS MQ MR)>=>λMS=>R.of (vG MP MS))>=>λMT=>R.ok (D.int 0)>=>λMU=>R.of (zx MT MU))>=>λMV=>cQ MV>=>λt=>if t=true then(((((dR 5 uB>=>λMX=>R.ok (D.int 0)>=>λMY=>jS MX MY)>=>λMZ=>(dR 5 uB>=>λM0=>R.ok (D.int 1)>=>λM1=>jS M0 M1)>=>λM4=>R.of (m8 MZ M4))>=>λM5=>R.ok []>=>λM6=>R.ok (M5::M6))>=>λM7=>R.of (lC M7))>=>λM8=>R.ok (D.int 1)>=>λM9=>R.of (lE M8 M9))else R.ok (D.bl false))else R.ok (D.bl false))>=>λNa=>R.ok (Out.rt Na))))))))))))
def gV:=mS 3 6 p7
noncomputable def ki(env:DE):R Out:=
 (bj ((((aC 0 env>=>λv6=>R.ok []>=>λv7=>R.ok (v6::v7))>=>λv5=>R.of (j6 v5))>=>λv3=>aC 2 env>=>λv4=>R.of (IG v3 v4)>=>cQ)>=>λv2=>if v2=true then(dF 0 env>=>λv8=>R.ok (Out.rt v8))else(R.ok (Out.nx env))) λv1=>
 (bj ((aC 1 v1>=>λv11=>((((aC 0 v1>=>λkZ=>R.ok []>=>λni=>R.ok (kZ::ni))>=>λiP=>R.of (j6 iP))>=>λj9=>aC 2 v1>=>λkc=>R.of (m8 j9 kc))>=>λgU=>R.ok (D.int 1)>=>λj8=>R.of (bE gU j8))>=>λjm=>R.of (m9 v11 jm))>=>λv10=>R.ok (Out.nx (List.set v1 3 (Sl.val v10)))) λv9=>
 (((dR 0 v9>=>λik=>(aC 3 v9>=>n9)>=>λnj=>((aC 3 v9>=>λmf=>aC 2 v9>=>λnv=>R.of (bE mf nv))>=>n9)>=>λnk=>R.ok (cut ik nj nk))>=>λl9=>R.ok (D.lst l9))>=>λv20=>R.ok (Out.rt v20))))
def cg:=mD 3 4 ki
noncomputable def rA(env:DE):R Out:=
 ((((aC 0 env>=>λv3=>(aC 1 env>=>λv5=>(R.ok (D.int 2)>=>λv7=>R.ok []>=>λv8=>R.ok (v7::v8))>=>λv6=>R.ok (v5::v6))>=>λv4=>R.ok (v3::v4))>=>bz)>=>λv2=>cQ v2>=>λt=>if t=true then((dR 0 env>=>λv11=>aC 1 env>=>λjm=>jS v11 jm)>=>λv9=>((dR 0 env>=>λj8=>(aC 1 env>=>λkc=>R.ok (D.int 1)>=>λiP=>R.of (bE kc iP))>=>λj9=>jS j8 j9)>=>λgU=>R.of (oH gU))>=>λv10=>R.of (lE v9 v10))else R.ok (D.bl false))>=>λv1=>R.ok (Out.rt v1))
def ja:=mS 2 2 rA
noncomputable def uC(env:DE):R Out:=
 ((((aC 1 env>=>λv3=>(aC 2 env>=>λv5=>(R.ok (D.int 0)>=>λv7=>R.ok []>=>λv8=>R.ok (v7::v8))>=>λv6=>R.ok (v5::v6))>=>λv4=>R.ok (v3::v4))>=>bz)>=>λv2=>cQ v2>=>λt=>if t=true then((aC 0 env>=>λv9=>(aC 3 env>=>λv11=>R.ok []>=>λjm=>R.ok (v11::jm))>=>λv10=>R.ok (v9::v10))>=>du)else R.ok (D.bl false))>=>λv1=>R.ok (Out.rt v1))
def kj:=mS 4 4 uC
noncomputable def rB(env:DE):R Out:=
 ((((aC 0 env>=>λv3=>(aC 1 env>=>λv5=>(R.ok (D.int 2)>=>λv7=>R.ok []>=>λv8=>R.ok (v7::v8))>=>λv6=>R.ok (v5::v6))>=>λv4=>R.ok (v3::v4))>=>bz)>=>λv2=>cQ v2>=>λt=>if t=true then(((((((dR 0 env>=>λni=>aC 1 env>=>λv20=>jS ni v20)>=>λiP=>R.ok []>=>λkZ=>R.ok (iP::kZ))>=>λkc=>R.of (lC kc))>=>λj8=>(((dR 0 env>=>λnk=>(aC 1 env>=>λnv=>R.ok (D.int 1)>=>λnq=>R.of (bE nv nq))>=>λmf=>jS nk mf)>=>λik=>R.ok []>=>λnj=>R.ok (ik::nj))>=>λl9=>R.of (lC l9))>=>λj9=>R.of (m8 j8 j9))>=>λjm=>R.ok []>=>λgU=>R.ok (jm::gU))>=>λv11=>R.of (lC v11))>=>λv9=>R.ok (D.int 2)>=>λv10=>R.of (HB v9 v10))else R.ok (D.bl false))>=>λv1=>R.ok (Out.rt v1))
def jb:=mS 2 2 rB
noncomputable def p8(env:DE):R Out:=
 (bj ((((((aC 0 env>=>λv5=>(aC 1 env>=>λv7=>(R.ok (D.int 3)>=>λv9=>R.ok []>=>λv10=>R.ok (v9::v10))>=>λv8=>R.ok (v7::v8))>=>λv6=>R.ok (v5::v6))>=>bz)>=>cQ)>=>λv4=>R.ok (!v4))>=>λv3=>if v3=true then R.ok true else((dR 0 env>=>λgU=>aC 1 env>=>λj8=>jS gU j8)>=>λv11=>(dR 0 env>=>λj9=>(aC 1 env>=>λiP=>R.ok (D.int 2)>=>λkZ=>R.of (bE iP kZ))>=>λkc=>jS j9 kc)>=>λjm=>R.of (xA v11 jm)>=>cQ))>=>λv2=>if v2=true then(R.ok (D.bl false)>=>λni=>R.ok (Out.rt ni))else(R.ok (Out.nx env))) λv1=>
 ((((((dR 0 v1>=>λoM=>aC 1 v1>=>λsE=>jS oM sE)>=>λnv=>(dR 0 v1>=>λv30=>(aC 1 v1>=>λjU=>R.ok (D.int 1)>=>λrq=>R.of (bE jU rq))>=>λvO=>jS v30 vO)>=>λnq=>R.of (m8 nv nq))>=>λnk=>R.ok []>=>λmf=>R.ok (nk::mf))>=>λnj=>R.of (lC nj))>=>λl9=>R.ok (D.int 1)>=>λik=>R.of (lE l9 ik))>=>λv20=>R.ok (Out.rt v20)))
def gW:=mS 2 2 p8
noncomputable def cY(d:D)(env:DE):R Out:=
 (bN 3) d env>=>λv10=>
  (bj (((((aC 0 v10>=>λj8=>(aC 1 v10>=>λkc=>(aC 3 v10>=>λkZ=>R.ok []>=>λni=>R.ok (kZ::ni))>=>λiP=>R.ok (kc::iP))>=>λj9=>R.ok (j8::j9))>=>gV)>=>cQ)>=>λgU=>R.ok (!gU))>=>λjm=>if jm=true then(R.ok D.non>=>λv20=>R.ok (Out.rt v20))else(R.ok (Out.nx v10))) λv11=>
 ((((dF 0 v11>=>λnj=>(dF 3 v11>=>λmf=>R.ok []>=>λnv=>R.ok (mf::nv))>=>λnk=>R.ok (nj::nk))>=>fZ)>=>λik=>R.ok (D.lst ik))>=>λl9=>R.ok (Out.nx (List.set v11 0 (Sl.val l9)))))
def k7(env:DE):R Out:=
 (bj ((((aC 2 env>=>λv4=>uh "list" v4)>=>cQ)>=>λv3=>R.ok (!v3))>=>λv2=>if v2=true then(R.ok D.non>=>λv5=>R.ok (Out.rt v5))else(R.ok (Out.nx env))) λv1=>
 (bj ((dF 2 v1>=>zu)>=>λv7=>fX cY v7 v1) λv6=>
 (dF 0 v6>=>λnq=>R.ok (Out.rt nq))))
def cH:=mD 3 4 k7
def jN(env:DE):R Bool:=
 R.ok true
def gj(env:DE):R D:=
 ((aC 1 env>=>λv7=>(aC 0 env>=>λv9=>(R.ok (D.int 16807)>=>λv11=>R.ok []>=>λjm=>R.ok (v11::jm))>=>λv10=>R.ok (v9::v10))>=>λv8=>R.ok (v7::v8))>=>dH)
def mq(env:DE):R Out:=
 ((((dF 0 env>=>λgU=>zu gU>=>λxs=>R.ok (dS xs))>=>λv3=>pS env []>=>λv4=>R.ne (jJ (bT 2 (jK (bN 0) (jK (bN 1) uo))) jN gj (mR 2 v4) v3)>=>fit)>=>λv2=>R.of (xK v2))>=>λv1=>R.ok (Out.rt v1))
def eg:=mS 1 1 mq
noncomputable def k8(env:DE):R Out:=
 (bj ((dF 2 env>=>λv3=>R.ok (D.int 0)>=>λv4=>kL v3 v4)>=>λv2=>R.ok (Out.nx (List.set env 3 (Sl.val v2)))) λv1=>
 (bj ((dF 2 v1>=>λv7=>R.ok (D.int 1)>=>λv8=>kL v7 v8)>=>λv6=>R.ok (Out.nx (List.set v1 4 (Sl.val v6)))) λv5=>
 (bj ((aC 3 v5>=>λv11=>R.ok (D.str "out")>=>λjm=>R.of (lE v11 jm)>=>cQ)>=>λv10=>if v10=true then(((aC 1 v5>=>λj8=>(aC 4 v5>=>λkc=>R.ok []>=>λiP=>R.ok (kc::iP))>=>λj9=>R.ok (j8::j9))>=>ja)>=>λgU=>R.ok (Out.rt gU))else(R.ok (Out.nx v5))) λv9=>
 (bj ((aC 3 v9>=>λv20=>R.ok (D.str "in")>=>λl9=>R.of (lE v20 l9)>=>cQ)>=>λni=>if ni=true then(((aC 0 v9>=>λnj=>(aC 1 v9>=>λmf=>(aC 4 v9>=>λnq=>((dF 2 v9>=>λvO=>R.ok (D.int 2)>=>λjU=>kL vO jU)>=>λsE=>R.ok []>=>λv30=>R.ok (sE::v30))>=>λoM=>R.ok (nq::oM))>=>λnv=>R.ok (mf::nv))>=>λnk=>R.ok (nj::nk))>=>kj)>=>λik=>R.ok (Out.rt ik))else(R.ok (Out.nx v9))) λkZ=>
 (bj ((aC 3 kZ>=>λvR=>R.ok (D.str "far")>=>λvU=>R.of (lE vR vU)>=>cQ)>=>λvV=>if vV=true then(((aC 1 kZ>=>λvW=>(aC 4 kZ>=>λvY=>R.ok []>=>λwq=>R.ok (vY::wq))>=>λvX=>R.ok (vW::vX))>=>jb)>=>λvh=>R.ok (Out.rt vh))else(R.ok (Out.nx kZ))) λrq=>
 (((aC 1 rq>=>λsF=>(aC 4 rq>=>λwm=>R.ok []>=>λwc=>R.ok (wm::wc))>=>λwe=>R.ok (sF::we))>=>gW)>=>λwo=>R.ok (Out.rt wo)))))))
def dw:=mS 3 5 k8
def iF(env:DE):R Out:=
 (((((aC 0 env>=>λv3=>(aC 1 env>=>λv5=>(aC 2 env>=>λv7=>R.ok []>=>λv8=>R.ok (v7::v8))>=>λv6=>R.ok (v5::v6))>=>λv4=>R.ok (v3::v4))>=>dw)>=>cQ)>=>λv2=>R.ok (!v2))>=>λv1=>if v1=true then(R.bad:R Out)else(R.ok (Out.nx env)))
def bW:=mS 3 3 iF
noncomputable def xO(env:DE):R Out:=
 (bj (((aC 0 env>=>λv3=>(aC 1 env>=>λv5=>(aC 2 env>=>λv7=>R.ok []>=>λv8=>R.ok (v7::v8))>=>λv6=>R.ok (v5::v6))>=>λv4=>R.ok (v3::v4))>=>bW)>=>λv2=>R.ok (Out.nx env)) λv1=>
 (bj ((dF 2 v1>=>λv11=>R.ok (D.int 0)>=>λjm=>kL v11 jm)>=>λv10=>R.ok (Out.nx (List.set v1 3 (Sl.val v10)))) λv9=>
 (bj ((dF 2 v9>=>λj9=>R.ok (D.int 1)>=>λkc=>kL j9 kc)>=>λj8=>R.ok (Out.nx (List.set v9 4 (Sl.val j8)))) λgU=>
 (bj ((aC 3 gU>=>λni=>R.ok (D.str "out")>=>λv20=>R.of (lE ni v20)>=>cQ)>=>λkZ=>if kZ=true then(((dR 1 gU>=>λnk=>R.ok none>=>λmf=>(aC 4 gU>=>n9)>=>λnv=>R.ok (cut nk mf nv))>=>λik=>(dR 1 gU>=>λnq=>((aC 4 gU>=>λv30=>R.ok (D.int 2)>=>λvO=>R.of (bE v30 vO))>=>n9)>=>λoM=>R.ok none>=>λsE=>R.ok (cut nq oM sE))>=>λnj=>fit (ik++nj))>=>λl9=>R.ok (Out.lW l9))else(R.ok (Out.nx gU))) λiP=>
 (bj ((aC 3 iP>=>λvV=>R.ok (D.str "in")>=>λvR=>R.of (lE vV vR)>=>cQ)>=>λrq=>if rq=true then((((dR 1 iP>=>λwq=>R.ok none>=>λwo=>(aC 4 iP>=>n9)>=>λsF=>R.ok (cut wq wo sF))>=>λvX=>(((dF 2 iP>=>λwc=>R.ok (D.int 2)>=>λyA=>kL wc yA)>=>λwe=>(((dF 2 iP>=>λvZ=>R.ok (D.int 2)>=>λyC=>kL vZ yC)>=>λyD=>R.of (oH yD))>=>λqD=>R.ok []>=>λyB=>R.ok (qD::yB))>=>λwm=>R.ok (we::wm))>=>fit)>=>λvY=>fit (vX++vY))>=>λvh=>(dR 1 iP>=>λyH=>(aC 4 iP>=>n9)>=>λwj=>R.ok none>=>λyG=>R.ok (cut yH wj yG))>=>λvW=>fit (vh++vW))>=>λvU=>R.ok (Out.lW vU))else(R.ok (Out.nx iP))) λjU=>
 (bj ((aC 3 jU>=>λyE=>R.ok (D.str "far")>=>λyF=>R.of (lE yE yF)>=>cQ)>=>λxM=>if xM=true then((((dR 1 jU>=>λy4=>R.ok none>=>λAb=>(aC 4 jU>=>n9)>=>λAc=>R.ok (cut y4 Ab Ac))>=>λyI=>(((dR 1 jU>=>λCo=>(aC 4 jU>=>λCq=>R.ok (D.int 1)>=>λCu=>R.of (bE Cq Cu))>=>λy6=>jS Co y6)>=>λAe=>((dR 1 jU>=>λCs=>aC 4 jU>=>λCA=>jS Cs CA)>=>λCp=>R.ok []>=>λCr=>R.ok (Cp::Cr))>=>λCw=>R.ok (Ae::Cw))>=>fit)>=>λyJ=>fit (yI++yJ))>=>λyL=>(dR 1 jU>=>λCB=>((aC 4 jU>=>λGA=>R.ok (D.int 2)>=>λEm=>R.of (bE GA Em))>=>n9)>=>λCy=>R.ok none>=>λCz=>R.ok (cut CB Cy Cz))>=>λuz=>fit (yL++uz))>=>λyK=>R.ok (Out.lW yK))else(R.ok (Out.nx jU))) λnz=>
 ((((dR 1 nz>=>λGp=>R.ok none>=>λGm=>(aC 4 nz>=>n9)>=>λGn=>R.ok (cut Gp Gm Gn))>=>λGz=>(((dR 1 nz>=>λGq=>(aC 4 nz>=>λGw=>R.ok (D.int 1)>=>λGx=>R.of (bE Gw Gx))>=>λGr=>jS Gq Gr)>=>λGs=>((dR 1 nz>=>λGu=>aC 4 nz>=>λAo=>jS Gu Ao)>=>λEn=>((dR 1 nz>=>λwC=>(aC 4 nz>=>λwA=>R.ok (D.int 1)>=>λAw=>R.of (bE wA Aw))>=>λwz=>jS wC wz)>=>λp6=>R.ok []>=>λwB=>R.ok (p6::wB))>=>λGv=>R.ok (En::Gv))>=>λGy=>R.ok (Gs::Gy))>=>fit)>=>λGk=>fit (Gz++Gk))>=>λGj=>(dR 1 nz>=>λAx=>((aC 4 nz>=>λAu=>R.ok (D.int 3)>=>λAq=>R.of (bE Au Aq))>=>n9)>=>λAv=>R.ok none>=>λAr=>R.ok (cut Ax Av Ar))>=>λBp=>fit (Gj++Bp))>=>λGi=>R.ok (Out.lW Gi))))))))
def mr:=aM 3 5 xO
noncomputable def fz(d:D)(env:DE):R Out:=
 (bN 1) d env>=>λv10=>
  (((((aC 1 v10>=>λj8=>uh "int" j8)>=>cQ)>=>λgU=>R.ok (!gU))>=>λjm=>if jm=true then R.ok true else((aC 1 v10>=>λj9=>uh "bool" j9)>=>cQ))>=>λv11=>if v11=true then(R.ok (D.bl false)>=>λkc=>R.ok (Out.rt kc))else(R.ok (Out.nx v10)))
noncomputable def k9(env:DE):R Out:=
 (bj ((((aC 0 env>=>λv4=>uh "list" v4)>=>cQ)>=>λv3=>R.ok (!v3))>=>λv2=>if v2=true then(R.ok (D.bl false)>=>λv5=>R.ok (Out.rt v5))else(R.ok (Out.nx env))) λv1=>
 (bj ((dF 0 v1>=>zu)>=>λv7=>fX fz v7 v1) λv6=>
 (R.ok (D.bl true)>=>λiP=>R.ok (Out.rt iP))))
def dz:=mS 1 2 k9
def fL(env:DE):R Bool:=
 ((aC 4 env>=>λjm=>R.ok (D.int 1)>=>λgU=>R.of (bE jm gU))>=>λv10=>((aC 3 env>=>λj9=>R.ok []>=>λkc=>R.ok (j9::kc))>=>λj8=>R.of (j6 j8))>=>λv11=>R.of (vd v10 v11)>=>cQ)
noncomputable def fM(d:D)(env:DE):R Out:=
 (bN 5) d env>=>λjU=>
  (bj (((aC 0 jU>=>λvR=>(aC 3 jU>=>λvh=>(aC 5 jU>=>λvX=>R.ok []>=>λvY=>R.ok (vX::vY))>=>λvW=>R.ok (vh::vW))>=>λvU=>R.ok (vR::vU))>=>mr)>=>λvV=>R.ok (Out.nx (List.set jU 3 (Sl.own vV)))) λrq=>
 (ownAt 2 rq>=>λwq=>dF 5 rq>=>λwo=>F8 2 rq wq wo))
noncomputable def cJ(env:DE):R Out:=
 (((((dR 3 env>=>λv20=>aC 4 env>=>λl9=>jS v20 l9)>=>λkZ=>((dR 3 env>=>λnk=>(aC 4 env>=>λnv=>R.ok (D.int 1)>=>λnq=>R.of (bE nv nq))>=>λmf=>jS nk mf)>=>λik=>R.ok []>=>λnj=>R.ok (ik::nj))>=>λni=>R.ok (kZ::ni))>=>cF)>=>cQ)>=>λiP=>if iP=true then(bj (((((dF 4 env>=>λwe=>((dR 3 env>=>λqD=>aC 4 env>=>λyB=>jS qD yB)>=>λwc=>((dR 3 env>=>λyC=>(aC 4 env>=>λwj=>R.ok (D.int 1)>=>λyG=>R.of (bE wj yG))>=>λyH=>jS yC yH)>=>λyD=>R.ok []>=>λvZ=>R.ok (yD::vZ))>=>λyA=>R.ok (wc::yA))>=>λwm=>R.ok (we::wm))>=>ee)>=>λsF=>R.ok (D.lst sF))>=>zu)>=>λsE=>fX fM sE env) λoM=>
 ((((aC 4 oM>=>λyK=>R.ok (D.int 1)>=>λyL=>R.of (m8 yK yL))>=>λyE=>(R.ok (D.int 0)>=>λuz=>R.ok []>=>λyI=>R.ok (uz::yI))>=>λyF=>R.ok (yE::yF))>=>λxM=>R.of (t8 xM))>=>λnz=>R.ok (Out.nx (List.set oM 4 (Sl.val nz)))))else(dF 4 env>=>λyJ=>R.ok (D.int 1)>=>λy4=>Cj (λi j=>i+j) 4 env yJ y4))
noncomputable def p9(env:DE):R Out:=
 (bj ((R.ok []>=>fit)>=>λv2=>R.ok (Out.nx (List.set env 2 (Sl.own v2)))) λv1=>
 (bj (dR 1 v1>=>λv4=>R.ok (Out.nx (List.set v1 3 (Sl.own v4)))) λv3=>
 (bj (R.ok (D.int 0)>=>λv6=>R.ok (Out.nx (List.set v3 4 (Sl.val v6)))) λv5=>
 (bj (gf fL cJ (An v5) v5) λv7=>
 (ownAt 2 v7>=>λAb=>(ownAt 3 v7>=>λAc=>R.of (zV Ac))>=>λAe=>R.ok (Out.tX (Ct.tv Ab Ae)))))))
def fA:=mV 2 6 p9
noncomputable def km(d:D)(env:DE):R Out:=
 (bN 8) d env>=>λp6=>
  (((((aC 7 p6>=>λAv=>R.ok (D.int 1)>=>λAr=>kL Av Ar)>=>λAw=>(aC 8 p6>=>λAu=>R.ok (D.int 1)>=>λAq=>R.of (m8 Au Aq))>=>λAx=>kL Aw Ax)>=>λwz=>R.ok (D.int 0)>=>λwA=>R.of (vd wz wA)>=>cQ)>=>λwC=>if wC=true then(((aC 7 p6>=>λGB=>R.ok (D.int 1)>=>λGC=>kL GB GC)>=>λGD=>aC 8 p6>=>λGF=>kL GD GF)>=>λGN=>R.ok (D.int 0)>=>λGG=>R.of (zx GN GG)>=>cQ)else R.ok false)>=>λwB=>if wB=true then(R.ok (D.bl false)>=>λGL=>R.ok (Out.rt GL))else(R.ok (Out.nx p6)))
noncomputable def Eo(env:DE):R Out:=
 (bj ((((aC 0 env>=>λv5=>(R.ok (D.int 0)>=>λv7=>R.ok []>=>λv8=>R.ok (v7::v8))>=>λv6=>R.ok (v5::v6))>=>b9)>=>λv3=>(R.ok (D.int 10)>=>λv9=>R.ok (D.int 9)>=>λv10=>R.of (zw v9 v10))>=>λv4=>R.of (m9 v3 v4))>=>λv2=>R.ok (Out.nx (List.set env 1 (Sl.val v2)))) λv1=>
 (bj (((aC 1 v1>=>λgU=>(R.ok (D.int 1)>=>λj9=>(R.ok (D.int 7)>=>λiP=>R.ok []>=>λkZ=>R.ok (iP::kZ))>=>λkc=>R.ok (j9::kc))>=>λj8=>R.ok (gU::j8))>=>cR)>=>λjm=>R.ok (Out.nx (List.set v1 2 (Sl.val jm)))) λv11=>
 (bj (((dR 0 v11>=>λik=>(R.ok (D.int 1)>=>n9)>=>λnj=>(R.ok (D.int 64)>=>n9)>=>λnk=>R.ok (cut ik nj nk))>=>λl9=>R.ok (D.lst l9))>=>λv20=>R.ok (Out.nx (List.set v11 3 (Sl.val v20)))) λni=>
 (bj (R.ok (D.int 12)>=>λnv=>R.ok (Out.nx (List.set ni 4 (Sl.val nv)))) λmf=>
 (bj ((aC 2 mf>=>λsE=>R.ok (D.int 4)>=>λv30=>R.of (lE sE v30)>=>cQ)>=>λoM=>if oM=true then(R.ok (D.int 8)>=>λvO=>R.ok (Out.nx (List.set mf 4 (Sl.val vO))))else(R.ok (Out.nx mf))) λnq=>
 (bj ((aC 2 nq>=>λvV=>R.ok (D.int 4)>=>λvR=>R.of (zx vV vR)>=>cQ)>=>λrq=>if rq=true then(R.ok (D.int 6)>=>λvU=>R.ok (Out.nx (List.set nq 4 (Sl.val vU))))else(R.ok (Out.nx nq))) λjU=>
 (bj ((((((dF 3 jU>=>λwo=>(dF 2 jU>=>λwe=>(R.ok (D.int 189)>=>λwc=>R.ok []>=>λyA=>R.ok (wc::yA))>=>λwm=>R.ok (we::wm))>=>λsF=>R.ok (wo::sF))>=>ed)>=>λwq=>R.ok (D.lst wq))>=>λvX=>(((aC 3 jU>=>λyD=>R.ok []>=>λvZ=>R.ok (yD::vZ))>=>eg)>=>λqD=>(dF 4 jU>=>λyC=>R.ok []>=>λyH=>R.ok (yC::yH))>=>λyB=>R.ok (qD::yB))>=>λvY=>R.ok (vX::vY))>=>cg)>=>λvW=>R.ok (Out.nx (List.set jU 5 (Sl.val vW)))) λvh=>
 (bj (dR 5 vh>=>λyG=>R.ok (Out.nx (List.set vh 6 (Sl.own yG)))) λwj=>
 (bj ((R.ne (R.bind (aC 2 wj>=>λyE=>(aC 6 wj>=>λyK=>R.ok []>=>λyL=>R.ok (yK::yL))>=>λyF=>R.ok (yE::yF)) (HH fA)))>=>λxM=>R.ok (Out.nx (List.set wj 7 (Sl.deep (Ct.tv (Prod.fst xM) (Prod.snd xM)))))) λnz=>
 (bj (((aC 6 nz>=>λy4=>aC 5 nz>=>λAb=>R.of (xA y4 Ab)>=>cQ)>=>λyJ=>if yJ=true then R.ok true else((((aC 7 nz>=>λCw=>uh "tuple" Cw)>=>cQ)>=>λAe=>R.ok (!Ae))>=>λAc=>if Ac=true then R.ok true else((((aC 7 nz>=>λCp=>R.ok []>=>λCr=>R.ok (Cp::Cr))>=>λCu=>R.of (j6 Cu))>=>λy6=>R.ok (D.int 2)>=>λCq=>R.of (xA y6 Cq)>=>cQ)>=>λCo=>if Co=true then R.ok true else(((((aC 7 nz>=>λCy=>R.ok (D.int 1)>=>λCz=>kL Cy Cz)>=>λCA=>R.ok []>=>λCB=>R.ok (CA::CB))>=>dz)>=>cQ)>=>λCs=>R.ok (!Cs)))))>=>λyI=>if yI=true then(R.ok (D.bl false)>=>λGA=>R.ok (Out.rt GA))else(R.ok (Out.nx nz))) λuz=>
 (bj ((((aC 5 uz>=>λGz=>(aC 2 uz>=>λGp=>((aC 7 uz>=>λGy=>R.ok (D.int 0)>=>λGq=>kL Gy Gq)>=>λGn=>R.ok []>=>λGs=>R.ok (Gn::Gs))>=>λGm=>R.ok (Gp::Gm))>=>λGk=>R.ok (Gz::Gk))>=>cH)>=>λGj=>(aC 7 uz>=>λGr=>R.ok (D.int 1)>=>λGw=>kL Gr Gw)>=>λBp=>R.of (xA Gj Bp)>=>cQ)>=>λGi=>if Gi=true then(R.ok (D.bl false)>=>λGx=>R.ok (Out.rt Gx))else(R.ok (Out.nx uz))) λEm=>
 (bj (((R.ok (D.int 1)>=>λGJ=>((((aC 7 Em>=>λGP=>R.ok (D.int 1)>=>λGQ=>kL GP GQ)>=>λGY=>R.ok []>=>λGR=>R.ok (GY::GR))>=>λuB=>R.of (j6 uB))>=>λGH=>R.ok []>=>λGI=>R.ok (GH::GI))>=>λGK=>R.ok (GJ::GK))>=>zB)>=>λGv=>fX km Gv Em) λEn=>
 (bj (Aa 7 En>=>λGO=>R.ok (D.int 1)>=>λGX=>uv GX>=>λJv=>R.ok (D.int 1)>=>λGW=>vN 7 En GO GW) λCC=>
 ((aC 6 CC>=>λGV=>aC 5 CC>=>λGZ=>R.of (lE GV GZ))>=>λGU=>R.ok (Out.rt GU)))))))))))))))
def qc:=mS 1 9 Eo
theorem R.G0 {α:Type}(a:α):(R.ok a).ne=.ok a:=rfl
def upTo(n:Nat):List Int:=(range n).map λi=>((i:Nat):Int)
theorem aG(n:Nat):(upTo n).length=n:=by simp[upTo]
theorem uD(n j:Nat)(h:j<n):(upTo n)[j]?=some (j:Int):=by simp[upTo,h]
def OD(n:Nat)(r:List Int):Prop:=r.Perm (upTo n)
def aa(ns:List Int)(k:Nat):Int:=(ns[k]?).getD 0
theorem ko{l:List Int}{j:Nat}(h:j<l.length):l[j]?=some (aa l j):=by
 unfold aa
 rw[getElem?_eq_getElem h]
 rfl
theorem bP{a b:List Int}(hl:a.length=b.length)(h:∀j,j<a.length->aa a j=aa b j):a=b:=by
 refine List.ext_getElem? λj=>?_
 by_cases hj:j<a.length
 ·rw[ko hj,ko (hl▸hj),h j hj]
 ·rw[List.getElem?_eq_none (by omega),List.getElem?_eq_none (by omega)]
theorem ao{n j:Nat}(h:j<n):aa (upTo n) j=j:=by unfold aa;rw[uD n j h];rfl
def dZ:List Int->Nat->List Int
 |x::y::l,0=>y::x::l
 |x::l,a+1=>x::dZ l a
 |l,_=>l
theorem uE(x:Int)(l:List Int)(a:Nat):dZ (x::l) (a+1)=x::dZ l a:=by cases l<;>rfl
theorem cu:∀(l:List Int)(a:Nat),(dZ l a).length=l.length
 |[],a=>by cases a<;>rfl
 |[x],0=>rfl
 |x::y::l,0=>rfl
 |x::l,a+1=>by rw[uE,length_cons,length_cons,cu l a]
theorem aW:∀(l:List Int)(a:Nat),a+1<l.length->∀j,aa (dZ l a) j=if j=a then aa l (a+1)else if j=a+1 then aa l a else aa l j
 |[],a,h,j=>by simp at h
 |[x],a,h,j=>by simp at h
 |x::y::l,0,h,j=>by
  match j with
  |0=>rfl
  |1=>rfl
  |j+2=>rw[if_neg (by omega),if_neg (by omega)];rfl
 |x::y::l,a+1,h,j=>by
  rw[uE]
  match j with
  |0=>rw[if_neg (by omega),if_neg (by omega)];rfl
  |j+1=>
   show aa (dZ (y::l) a) j=if j+1=a+1 then aa (y::l) (a+1)else if j+1=a+1+1 then aa (y::l) a else aa (y::l) j
   rw[aW (y::l) a (by simpa using h) j]
   repeat' split
   all_goals first|rfl|omega
def sg(a:Nat)(x:Int):Int:=if x=a then(a:Int)+1 else if x=(a:Int)+1 then a else x
def mw(r:List Int)(a:Nat):List Int:=r.map (sg a)
theorem o6(r:List Int)(a:Nat):(mw r a).length=r.length:=length_map _
theorem aH{r:List Int}{a p:Nat}(h:p<r.length):aa (mw r a) p=sg a (aa r p):=by
 have:=ko h
 unfold mw
 conv=>lhs;unfold aa
 rw[getElem?_map,this]
 rfl
structure Iv(n:Nat)(r s:List Int):Prop where
 lr:r.length=n
 ls:s.length=n
 rs:∀p,p<n->0<=aa r p/\aa r p<n/\aa s (aa r p).toNat=p
 sr:∀v,v<n->0<=aa s v/\aa s v<n/\aa r (aa s v).toNat=v
theorem Iv.symm {n:Nat}{r s:List Int}(h:Iv n r s):Iv n s r:=⟨h.ls,h.lr,h.sr,h.rs⟩
theorem Iv.step {n:Nat}{r s:List Int}(h:Iv n r s){a:Nat}(ha:a+1<n):Iv n (mw r a) (dZ s a):=by
 refine⟨by rw[o6,h.lr],by rw[cu,h.ls],λp hp=>?_,λv hv=>?_⟩
 ·obtain⟨h1,h2,h3⟩:=h.rs p hp
  rw[aH (h.lr.symm▸hp),aW _ _ (h.ls.symm▸ha)]
  generalize aa r p=v at h1 h2 h3
  unfold sg
  by_cases e1:v=a
  ·rw[if_pos e1]
   refine⟨by omega,by omega,?_⟩
   rw[if_neg (by omega),if_pos (by omega),<-h3,show v.toNat=a by omega]
  ·rw[if_neg e1]
   by_cases e2:v=(a:Int)+1
   ·rw[if_pos e2]
    refine⟨by omega,by omega,?_⟩
    rw[if_pos (by omega),<-h3,show v.toNat=a+1 by omega]
   ·rw[if_neg e2]
    refine⟨h1,h2,?_⟩
    rw[if_neg (by omega),if_neg (by omega),h3]
 ·rw[aW _ _ (h.ls.symm▸ha)]
  by_cases e1:v=a
  ·obtain⟨h1,h2,h3⟩:=h.sr (a+1) ha
   rw[if_pos e1]
   refine⟨h1,h2,?_⟩
   rw[aH (by rw[h.lr];omega),h3]
   unfold sg
   rw[if_neg (by omega),if_pos (by omega),e1]
  ·rw[if_neg e1]
   by_cases e2:v=a+1
   ·obtain⟨h1,h2,h3⟩:=h.sr a (by omega)
    rw[if_pos e2]
    refine⟨h1,h2,?_⟩
    rw[aH (by rw[h.lr];omega),h3]
    unfold sg
    rw[if_pos rfl,e2]
    omega
   ·obtain⟨h1,h2,h3⟩:=h.sr v hv
    rw[if_neg e2]
    refine⟨h1,h2,?_⟩
    rw[aH (by rw[h.lr];omega),h3]
    unfold sg
    rw[if_neg (by omega),if_neg (by omega)]
theorem Iv.Ep {n:Nat}{r s:List Int}(h:Iv n r s){v w:Nat}(hv:v<n)(hw:w<n)(e:aa s v=aa s w):v=w:=by
 have h1:=(h.sr v hv).2.2
 have h2:=(h.sr w hw).2.2
 rw[e]at h1
 omega
def G1(l:List Int):List Int:=((range (l.length-1)).map λi=>1+((i:Nat):Int)).filter λk=>decide (aa l k.toNat<aa l (k-1).toNat)
theorem o7{l:List Int}{k:Int}:k∈G1 l↔∃a:Nat,k=(a:Int)+1/\a+1<l.length/\aa l (a+1)<aa l a:=by
 unfold G1
 rw[mem_filter,mem_map]
 constructor
 ·rintro⟨⟨i,hi,rfl⟩,h⟩
  rw[mem_range]at hi
  rw[decide_eq_true_eq,show(1+(i:Int)).toNat=i+1 by omega,show(1+(i:Int)-1).toNat=i by omega]at h
  exact⟨i,by omega,by omega,h⟩
 ·rintro⟨a,rfl,h1,h2⟩
  refine⟨⟨a,mem_range.mpr (by omega),by omega⟩,?_⟩
  rw[decide_eq_true_eq,show((a:Int)+1).toNat=a+1 by omega,show((a:Int)+1-1).toNat=a by omega]
  exact h2
theorem CD{n:Nat}{r s:List Int}(h:Iv n r s)(hd:∀a,a+1<n->¬aa s (a+1)<aa s a):r=upTo n:=by
 have hlt:∀a,a+1<n->aa s a<aa s (a+1):=λa ha=>by
  have h1:=hd a ha
  have h2:aa s a≠aa s (a+1):=λz=>by
   have:=h.Ep (by omega) ha z
   omega
  omega
 have hge:∀a,a<n->(a:Int)<=aa s a:=λa=>by
  induction a with
  |zero=>intro ha;exact(h.sr 0 ha).1
  |succ a ih=>
   intro ha
   have h1:=ih (by omega)
   have h2:=hlt a ha
   omega
 have hle:∀d a,a+d+1=n->aa s a<=a:=λd=>by
  induction d with
  |zero=>
   intro a ha
   have:=(h.sr a (by omega)).2.1
   omega
  |succ d ih=>
   intro a ha
   have h1:=ih (a+1) (by omega)
   have h2:=hlt a (by omega)
   omega
 have hs:∀a,a<n->aa s a=a:=λa ha=>by
  have h1:=hge a ha
  have h2:=hle (n-1-a) a (by omega)
  omega
 refine bP (by rw[h.lr,aG]) λp hp=>?_
 rw[h.lr]at hp
 obtain⟨h1,h2,h3⟩:=h.rs p hp
 rw[hs _ (by omega)]at h3
 rw[ao hp]
 omega
structure Od(n:Nat)(o r z:List Int):Prop where
 lo:o.length=n
 lz:z.length=n
 at_:∀p,p<n->aa o (aa r p).toNat=aa z p
 cr:∀p q,p<q->q<n->aa r q<aa r p->aa z q<aa z p
def S(n:Nat)(f:Nat->Nat):Nat:=((range n).map f).sum
theorem G2(f:Nat->Nat):S 0 f=0:=rfl
theorem gk(n:Nat)(f:Nat->Nat):S (n+1) f=S n f+f n:=by
 unfold S
 rw[range_succ,map_append,List.sum_append]
 simp
theorem xP(n:Nat)(f:Nat->Nat):S (n+1) f=f 0+S n λi=>f (i+1):=by
 unfold S
 rw[List.range_succ_eq_map,map_cons,sum_cons,map_map]
 rfl
theorem fN{n:Nat}{f g:Nat->Nat}(h:∀i,i<n->f i=g i):S n f=S n g:=by
 induction n with
 |zero=>rfl
 |succ n ih=>rw[gk,gk,ih λi hi=>h i (by omega),h n (by omega)]
theorem Ay(n:Nat)(f g:Nat->Nat):S n (λi=>f i+g i)=S n f+S n g:=by
 induction n with
 |zero=>rfl
 |succ n ih=>rw[gk,gk,gk,ih];omega
theorem CF(n c:Nat):S n (λ_=>c)=n*c:=by
 induction n with
 |zero=>rw[Nat.zero_mul];rfl
 |succ n ih=>rw[gk,ih,succ_mul]
theorem Az(n m:Nat)(f:Nat->Nat->Nat):S n (λi=>S m λj=>f i j)=S m λj=>S n λi=>f i j:=by
 induction n with
 |zero=>
  rw[G2,show(λj=>S 0 λi=>f i j)=λ_=>0 from rfl,CF,Nat.mul_zero]
 |succ n ih=>
  rw[gk,ih,<-Ay]
  exact fN λj _=>(gk n λi=>f i j).symm
theorem G3(n q:Nat)(g:Nat->Nat):S n (λp=>if p<q then g p else 0)=S (min n q) g:=by
 induction n with
 |zero=>rw[Nat.zero_min];rfl
 |succ n ih=>
  rw[gk,ih]
  by_cases h:n<q
  ·rw[if_pos h,show min n q=n by omega,show min (n+1) q=n+1 by omega,gk]
  ·rw[if_neg h,show min n q=q by omega,show min (n+1) q=q by omega]
   rfl
theorem AA{n:Nat}{r s:List Int}(h:Iv n r s)(f:Nat->Nat):S n (λv=>f (aa s v).toNat)=S n f:=by
 unfold S
 have p:((range n).map λv=>(aa s v).toNat).Perm (range n):=by
  refine(List.perm_ext_iff_of_nodup ?_ List.nodup_range).mpr λx=>?_
  ·unfold Nodup
   rw[List.pairwise_map]
   refine Pairwise.imp_of_mem ?_ List.nodup_range
   intro a b ha hb hab e
   rw[mem_range]at ha hb
   have h1:=h.sr a ha
   have h2:=h.sr b hb
   exact hab (h.Ep ha hb (by omega))
  ·rw[mem_map]
   constructor
   ·rintro⟨v,hv,rfl⟩
    rw[mem_range]at hv⊢
    have:=h.sr v hv
    omega
   ·intro hx
    rw[mem_range]at hx
    obtain⟨h1,h2,h3⟩:=h.rs x hx
    exact⟨(aa r x).toNat,mem_range.mpr (by omega),by rw[h3,toNat_natCast]⟩
 have:=(p.map f).sum_nat
 rw[map_map]at this
 exact this
def qN(x:Int)(pre:List Int):Nat:=(pre.filter λs=>decide (x<s)).length
theorem wD(x y:Int)(pre:List Int):qN x (pre++[y])=qN x pre+if x<y then 1 else 0:=by
 unfold qN
 rw[List.filter_append,length_append]
 congr 1
 rw[filter_cons]
 by_cases h:x<y
 ·rw[if_pos (decide_eq_true h),if_pos h];rfl
 ·rw[if_neg (by rw[decide_eq_true_eq];exact h),if_neg h];rfl
theorem CG{x:Int}{a b:List Int}(p:a.Perm b):qN x a=qN x b:=(p.filter _).length_eq
def tK:List Int->List Int->Nat
 |_,[]=>0
 |pre,x::l=>qN x pre+tK (pre++[x]) l
theorem uF:∀(l:List Int){a b:List Int},a.Perm b->tK a l=tK b l
 |[],a,b,p=>rfl
 |x::l,a,b,p=>by
  unfold tK
  rw[CG p,uF l (p.append_right [x])]
theorem sG:∀(l:List Int)(a:Nat)(pre:List Int),a+1<l.length->tK pre (dZ l a)+(if aa l (a+1)<aa l a then 1 else 0)=tK pre l+(if aa l a<aa l (a+1)then 1 else 0)
 |[],a,pre,h=>by simp at h
 |[x],a,pre,h=>by simp at h
 |x::y::l,0,pre,h=>by
  show qN y pre+(qN x (pre++[y])+tK (pre++[y]++[x]) l)+(if y<x then 1 else 0)=qN x pre+(qN y (pre++[x])+tK (pre++[x]++[y]) l)+(if x<y then 1 else 0)
  rw[wD,wD,uF l (show(pre++[y]++[x]).Perm (pre++[x]++[y])by
   rw[List.append_assoc,List.append_assoc]
   exact Perm.append_left pre (Perm.swap x y []))]
  omega
 |x::y::l,a+1,pre,h=>by
  rw[uE]
  show qN x pre+tK (pre++[x]) (dZ (y::l) a)+(if aa (y::l) (a+1)<aa (y::l) a then 1 else 0)=qN x pre+tK (pre++[x]) (y::l)+(if aa (y::l) a<aa (y::l) (a+1)then 1 else 0)
  have:=sG (y::l) a (pre++[x]) (by simpa using h)
  omega
theorem Er:∀(l pre:List Int),tK pre l=S l.length λj=>qN (aa l j) (pre++l.take j)
 |[],pre=>rfl
 |x::l,pre=>by
  rw[length_cons,xP]
  show qN x pre+tK (pre++[x]) l=_
  rw[Er l (pre++[x]),show qN (aa (x::l) 0) (pre++(x::l).take 0)=qN x pre by rw[List.take_zero,append_nil];rfl]
  congr 1
  refine fN λi _=>?_
  show qN (aa l i) (pre++[x]++l.take i)=qN (aa l i) (pre++x::l.take i)
  rw[List.append_assoc]
  rfl
theorem Jw(x:Int)(l:List Int):∀q,q<=l.length->qN x (l.take q)=S q λp=>if x<aa l p then 1 else 0
 |0,_=>rfl
 |q+1,h=>by
  have hq:q<l.length:=by omega
  have e:l.take (q+1)=l.take q++[aa l q]:=by
   rw[List.take_succ,ko hq]
   rfl
  rw[e,wD,Jw x l q (by omega),gk]
def kW(l:List Int):Nat:=tK [] l
theorem xQ(l:List Int):kW l=S l.length λq=>S l.length λp=>if p<q then(if aa l q<aa l p then 1 else 0)else 0:=by
 unfold kW
 rw[Er]
 refine fN λq hq=>?_
 rw[nil_append,Jw _ _ q (by omega),G3,show min l.length q=q by omega]
theorem nC{n:Nat}{r s:List Int}(h:Iv n r s):kW r=kW s:=by
 rw[xQ,xQ,h.lr,h.ls,<-AA h (λq=>S n λp=>if p<q then(if aa r q<aa r p then 1 else 0)else 0),Az n n λq p=>if p<q then(if aa s q<aa s p then 1 else 0)else 0]
 refine fN λw hw=>?_
 rw[<-AA h (λp=>if p<(aa s w).toNat then(if aa r (aa s w).toNat<aa r p then 1 else 0)else 0)]
 refine fN λv hv=>?_
 obtain⟨h1,h2,h3⟩:=h.sr w hw
 obtain⟨g1,g2,g3⟩:=h.sr v hv
 rw[h3,g3]
 repeat' split
 all_goals first|rfl|omega
abbrev RP:=List Int×List Int
structure Ad where
 dx:Addr
 kn:Addr
 nu:Addr
 fi:Addr
 la:Addr
 sh:Addr
 lo:Addr
 ke:Addr
 li:Addr
 ks:List Addr
def Ad.hd (A:Ad):List Addr:=[A.dx,A.kn,A.nu,A.fi,A.la,A.sh,A.lo,A.ke,A.li]
def Ad.all (A:Ad):List Addr:=A.hd++A.ks
def QH(A:Ad):List (Str×V):=[("known",.ref A.kn),("numbers",.ref A.nu),("firsts",.ref A.fi),("lasts",.ref A.la),("shorter",.ref A.sh),("longer",.ref A.lo),("kept",.ref A.ke),("line",.ref A.li)]
def kk(r:List Int):List Key:=r.map Sum.inl
def QI(ks:List Int):Int:=ks.foldl (λb k=>Builtin.bitOr b (1*2^(k-1).toNat)) 0
def OE(l:List Int):Int:=QI (G1 l)
def lG(p:RP)(a:Nat):RP:=(dZ p.1 a,mw p.2 a)
def gE(p:RP)(a:Nat):RP:=(mw p.1 a,dZ p.2 a)
def lQ(p q:RP):List Int:=(G1 q.2).filter λk=> !decide (k∈G1 p.1)
def dI:Nat->RP->RP->RP×RP
 |0,p,q=>(p,q)
 |f+1,p,q=>match (lQ p q).getLast? with
  |none=>(p,q)
  |some k=>dI f (lG p (k-1).toNat) (gE q (k-1).toNat)
theorem Iv.uniq {n:Nat}{r r' s:List Int}(h:Iv n r s)(g:Iv n r' s):r=r':=by
 refine bP (by rw[h.lr,g.lr]) λj hj=>?_
 obtain⟨a1,a2,a3⟩:=h.rs j (by rw[h.lr]at hj;exact hj)
 obtain⟨b1,b2,b3⟩:=g.sr (aa r j).toNat (by omega)
 rw[a3,toNat_natCast]at b3
 omega
theorem kq{n:Nat}{p q:RP}(h:Iv n p.1 p.2)(g:Iv n q.1 q.2)(e:p.1=q.1):p=q:=by
 have h':=h.symm
 rw[e]at h'
 exact Prod.ext e (Iv.uniq h' g.symm)
structure HJ(C:Addr)(H:Hp)(a:Addr)(A:Ad)(ex:List (Str×V))(n:Nat)(kn:List RP)(ln:List Int)(B:Nat)(nu sh lo ke:List (List Key×V)):Prop where
 ob:H a=some (.ins C A.dx (QH A++ex))
 dx:∃o,H A.dx=some o
 nd:(a::A.all).Nodup
 hkn:H A.kn=some (.lst (A.ks.map V.ref))
 Ro:A.ks.length=kn.length
 hks:∀(i:Nat)(b:Addr)(p:RP),A.ks[i]?=some b->kn[i]?=some p->H b=some (.lst (p.1.map V.int))
 Rp:H A.nu=some (.dT nu)
 Rq:H A.fi=some (.lst (kn.map λp=>V.int (OE p.2)))
 hla:H A.la=some (.lst (kn.map λp=>V.int (OE p.1)))
 hsh:H A.sh=some (.dT sh)
 hlo:H A.lo=some (.dT lo)
 hke:H A.ke=some (.dT ke)
 hli:H A.li=some (.lst (ln.map V.int))
 rw:∀p∈kn,Iv n p.1 p.2
 n1:∀(i:Nat)(p:RP),kn[i]?=some p->vC nu (kk p.1)=some (.int i)
 n2:∀r:List Int,(∀p∈kn,p.1≠r)->vC nu (kk r)=none
 s1:∀(i:Nat)(k:Int)(v:V),vC sh [.inl (i:Int),.inl k]=some v->∃(j:Nat)(p:RP),kn[i]?=some p/\kn[j]?=some (gE p (k-1).toNat)/\v=.int j
 l1:∀(i:Nat)(k:Int)(v:V),vC lo [.inl (i:Int),.inl k]=some v->∃(j:Nat)(p:RP),kn[i]?=some p/\kn[j]?=some (lG p (k-1).toNat)/\v=.int j
 k1:∀(i j:Nat)(v:V),vC ke [.inl (i:Int),.inl (j:Int)]=some v->∃(t:Addr)(i' j':Nat)(p q:RP),kn[i]?=some p/\kn[j]?=some q/\v=.ref t/\H t=some (.tup [.int i',.int j'])/\kn[i']?=some (dI 50 p q).1/\kn[j']?=some (dI 50 p q).2
 z:kn.length<=B/\nu.length<=B/\sh.length<=B/\lo.length<=B/\ke.length<=B
 li:∀m∈ln,0<=m/\m<kn.length
structure Rt(H H':Hp)(F F':List Addr):Prop where
 kp:∀x o,x∉F->H x=some o->H' x=some o
 nw:∀x∈F',x∈F\/H x=none
 gr:∀x,H' x=none->H x=none
theorem rC:∀(l pre:List Int),tK pre l<=l.length*(pre.length+l.length)
 |[],pre=>by simp[tK]
 |x::l,pre=>by
  have h1:qN x pre<=pre.length:=List.length_filter_le _ _
  have h2:=rC l (pre++[x])
  rw[length_append,length_singleton]at h2
  show qN x pre+tK (pre++[x]) l<=(l.length+1)*(pre.length+(l.length+1))
  rw[Nat.add_mul,show pre.length+(l.length+1)=pre.length+1+l.length by omega]
  omega
theorem yM{n:Nat}{p:RP}(hn:n<=7)(h:Iv n p.1 p.2):kW p.1<=49:=by
 have h1:=rC p.1 []
 rw[h.lr,length_nil,zero_add]at h1
 have h2:n*n<=7*7:=mul_le_mul hn hn
 unfold kW
 omega
theorem mx{n:Nat}{p q:RP}(hp:Iv n p.1 p.2)(hq:Iv n q.1 q.2){k:Int}(h:k∈lQ p q):∃j:Nat,k=(j:Int)+1/\j+1<n/\aa p.1 j<aa p.1 (j+1)/\aa q.2 (j+1)<aa q.2 j:=by
 unfold lQ at h
 obtain⟨h1,h2⟩:=mem_filter.mp h
 obtain⟨j,e,h3,h4⟩:=o7.mp h1
 rw[hq.ls]at h3
 have h5:k∉G1 p.1:=by simpa using h2
 have h6:¬aa p.1 (j+1)<aa p.1 j:=λz=>h5 (o7.mpr ⟨j,e,by rw[hp.lr];exact h3,z⟩)
 have h7:aa p.1 j≠aa p.1 (j+1):=λz=>by
  have:=hp.symm.Ep (v:=j) (w:=j+1) (by omega) h3 z
  omega
 exact⟨j,e,h3,by omega,h4⟩
theorem bQ{n:Nat}{p:RP}(h:Iv n p.1 p.2){j:Nat}(hj:j+1<n):Iv n (lG p j).1 (lG p j).2:=(h.symm.step hj).symm
theorem bR{n:Nat}{p:RP}(h:Iv n p.1 p.2){j:Nat}(hj:j+1<n):Iv n (gE p j).1 (gE p j).2:=h.step hj
theorem my{p q:RP}{k:Int}(f:Nat)(h:(lQ p q).getLast?=some k):dI (f+1) p q=dI f (lG p (k-1).toNat) (gE q (k-1).toNat):=by
 show(match (lQ p q).getLast? with
  |none=>(p,q)
  |some k=>dI f (lG p (k-1).toNat) (gE q (k-1).toNat))=_
 rw[h]
theorem mz{p q:RP}(f:Nat)(h:(lQ p q).getLast?=none):dI f p q=(p,q):=by
 cases f with
 |zero=>rfl
 |succ f=>
  show(match (lQ p q).getLast? with
   |none=>(p,q)
   |some k=>dI f (lG p (k-1).toNat) (gE q (k-1).toNat))=_
  rw[h]
theorem G4{n:Nat}{p:RP}(h:Iv n p.1 p.2){j:Nat}(hj:j+1<n)(hl:aa p.1 j<aa p.1 (j+1)):kW p.1<kW (lG p j).1:=by
 have e:=sG p.1 j [] (by rw[h.lr];exact hj)
 show tK [] p.1<tK [] (dZ p.1 j)
 rw[if_pos hl,if_neg (by omega)]at e
 omega
def nI(ls:List Nat):List Int:=ls.map λ(m:Nat)=>(m:Int)
def QJ(kn:List RP)(ls:List Nat)(R:List RP):Prop:=ls.map (λm=>kn[m]?)=R.map some
def xR:List RP->RP->List RP
 |[],c=>[c]
 |p::ps,c=>if(dI 50 p c).1=p then c::p::ps else(dI 50 p c).2::xR ps (dI 50 p c).1
def yN(R:List RP)(p:RP):List RP:=(xR R.reverse p).reverse
def sH(n:Nat)(R:List RP)(p:RP):List RP:=if(yN R p).getLast?=some (upTo n,upTo n)then(yN R p).dropLast else yN R p
theorem HJ.qd {n:Nat}:∀(f:Nat){p q:RP},Iv n p.1 p.2->Iv n q.1 q.2->Iv n (dI f p q).1.1 (dI f p q).1.2/\Iv n (dI f p q).2.1 (dI f p q).2.2
 |0,p,q,h1,h2=>⟨h1,h2⟩
 |f+1,p,q,h1,h2=>by
  cases hl:(lQ p q).getLast? with
  |none=>rw[mz _ hl];exact⟨h1,h2⟩
  |some k=>
   rw[my f hl]
   obtain⟨j,rfl,hj,_⟩:=mx h1 h2 (mem_of_getLast? hl)
   rw[show((j:Int)+1-1).toNat=j by omega]
   exact HJ.qd f (bQ h1 hj) (bR h2 hj)
def fj(n:Nat):RP:=((upTo n).reverse,(upTo n).reverse)
def dh(n:Nat)(R:List RP):Nat:=(R.takeWhile λr=>decide (r=fj n)).length
def Es(n:Nat)(p y:RP):Prop:=∀i j,i<j->j<n->aa y.2 j<aa y.2 i->aa p.1 i<aa p.1 j
def Et(n:Nat)(w q x:RP):Prop:=∀t,t<n->aa w.2 t=aa x.2 (aa q.2 t).toNat
structure oi(n:Nat)(p0 q0 p q y:RP):Prop where
 iy:Iv n y.1 y.2
 pp:Et n p p0 y
 pq:Et n q0 y q
 ap:Es n p0 y
 aq:Es n y q
 pl:∀t,t<n->aa p.1 t=aa p0.1 (aa y.1 t).toNat
def sw(a t:Nat):Nat:=if t=a then a+1 else if t=a+1 then a else t
theorem om{a t n:Nat}(ha:a+1<n)(ht:t<n):sw a t<n:=by
 unfold sw
 repeat' split
 all_goals omega
theorem xS(a:Nat){x:Int}(h:0<=x):sw a (sg a x).toNat=x.toNat:=by
 unfold sg sw
 repeat' split
 all_goals omega
theorem bX{l:List Int}{a:Nat}(h:a+1<l.length)(t:Nat):aa (dZ l a) t=aa l (sw a t):=by
 rw[aW _ _ h]
 unfold sw
 repeat' split
 all_goals rfl
theorem oi.start {n:Nat}{p q:RP}(ip:Iv n p.1 p.2)(hi:Iv n (upTo n) (upTo n)):oi n p q p q (upTo n,upTo n):=by
 have c:∀t,t<n->(aa (upTo n) t).toNat=t:=λt ht=>by rw[ao ht];exact toNat_natCast t
 refine⟨hi,λt ht=>?_,λt ht=>?_,λi j hij hj h=>?_,λi j hij hj h=>?_,λt ht=>?_⟩
 ·obtain⟨h1,h2,_⟩:=ip.sr t ht
  show _=aa (upTo n) (aa p.2 t).toNat
  rw[ao (by omega)]
  omega
 ·show _=aa q.2 (aa (upTo n) t).toNat
  rw[c t ht]
 ·dsimp only at h
  rw[ao hj,ao (by omega)]at h
  omega
 ·dsimp only
  rw[ao hj,ao (by omega)]
  omega
 ·show _=aa p.1 (aa (upTo n) t).toNat
  rw[c t ht]
theorem oi.step {n:Nat}{p0 q0 p q y:RP}(o:oi n p0 q0 p q y)(uG:Iv n p0.1 p0.2)(ip:Iv n p.1 p.2)(iq:Iv n q.1 q.2){j:Nat}(hj:j+1<n)(hup:aa p.1 j<aa p.1 (j+1))(hdn:aa q.2 (j+1)<aa q.2 j):oi n p0 q0 (lG p j) (gE q j) (lG y j):=by
 have iy:=o.iy
 refine⟨bQ iy hj,λt ht=>?_,λt ht=>?_,λi i' HK y7 h=>?_,λi i' HK y7 h=>?_,λt ht=>?_⟩
 ·obtain⟨h1,h2,_⟩:=uG.sr t ht
  show aa (mw p.2 j) t=aa (mw y.2 j) (aa p0.2 t).toNat
  rw[aH (by rw[ip.ls];exact ht),aH (by rw[iy.ls];omega),o.pp t ht]
 ·obtain⟨h1,h2,_⟩:=iy.sr t ht
  show aa q0.2 t=aa (dZ q.2 j) (aa (mw y.2 j) t).toNat
  rw[aH (by rw[iy.ls];exact ht),bX (by rw[iq.ls];exact hj),xS j h1,o.pq t ht]
 ·have h':aa (mw y.2 j) i'<aa (mw y.2 j) i:=h
  rw[aH (by rw[iy.ls];exact y7),aH (by rw[iy.ls];omega)]at h'
  by_cases hb:aa y.2 i'<aa y.2 i
  ·exact o.ap i i' HK y7 hb
  ·obtain⟨a1,a2,a3⟩:=iy.sr i (by omega)
   obtain⟨b1,b2,b3⟩:=iy.sr i' y7
   have hne:aa y.2 i≠aa y.2 i':=λe=>by
    have:=iy.Ep (v:=i) (w:=i') (by omega) y7 e
    omega
   have hab:aa y.2 i=j/\aa y.2 i'=j+1:=by
    unfold sg at h'
    repeat' split at h'
    all_goals omega
   have e1:=o.pl j (by omega)
   have e2:=o.pl (j+1) hj
   rw[hab.1,toNat_natCast]at a3
   rw[hab.2,show((j:Int)+1).toNat=j+1 by omega]at b3
   rw[a3,toNat_natCast]at e1
   rw[b3,toNat_natCast]at e2
   omega
 ·have h':aa (dZ q.2 j) i'<aa (dZ q.2 j) i:=h
  show aa (dZ y.1 j) i<aa (dZ y.1 j) i'
  rw[bX (by rw[iq.ls];exact hj),bX (by rw[iq.ls];exact hj)]at h'
  rw[bX (by rw[iy.lr];exact hj),bX (by rw[iy.lr];exact hj)]
  by_cases hc:i=j/\i'=j+1
  ·obtain⟨rfl,rfl⟩:=hc
   unfold sw at h'
   rw[if_pos rfl,if_neg (by omega),if_pos rfl]at h'
   omega
  ·refine o.aq (sw j i) (sw j i') ?_ (om hj y7) h'
   unfold sw
   repeat' split
   all_goals omega
 ·obtain⟨h1,h2,_⟩:=iy.rs (sw j t) (om hj ht)
  show aa (dZ p.1 j) t=aa p0.1 (aa (dZ y.1 j) t).toNat
  rw[bX (by rw[ip.lr];exact hj),bX (by rw[iy.lr];exact hj),o.pl _ (om hj ht)]
theorem xT{n:Nat}{p0 q0:RP}(uG:Iv n p0.1 p0.2):∀(f:Nat)(p q y:RP),Iv n p.1 p.2->Iv n q.1 q.2->oi n p0 q0 p q y->∃y',oi n p0 q0 (dI f p q).1 (dI f p q).2 y'
 |0,p,q,y,_,_,o=>⟨y,o⟩
 |f+1,p,q,y,ip,iq,o=>by
  cases h:(lQ p q).getLast? with
  |none=>rw[mz _ h];exact⟨y,o⟩
  |some k=>
   obtain⟨j,rfl,hj,h1,h2⟩:=mx ip iq (mem_of_getLast? h)
   rw[my f h,show((j:Int)+1-1).toNat=j by omega]
   exact xT uG f _ _ _ (bQ ip hj) (bR iq hj) (o.step uG ip iq hj h1 h2)
theorem o8{n:Nat}(hn:n<=7):∀(f:Nat)(p q:RP),Iv n p.1 p.2->Iv n q.1 q.2->49<f+kW p.1->lQ (dI f p q).1 (dI f p q).2=[]
 |0,p,q,ip,iq,h=>by have:=yM hn ip;omega
 |f+1,p,q,ip,iq,h=>by
  cases hk:(lQ p q).getLast? with
  |none=>
   rw[mz _ hk]
   exact List.getLast?_eq_none_iff.mp hk
  |some k=>
   obtain⟨j,rfl,hj,h1,h2⟩:=mx ip iq (mem_of_getLast? hk)
   rw[my f hk,show((j:Int)+1-1).toNat=j by omega]
   have:=G4 ip hj h1
   exact o8 hn f _ _ (bQ ip hj) (bR iq hj) (by omega)
theorem Et.calm {n:Nat}{w q x:RP}(hp:Et n w q x)(iq:Iv n q.1 q.2)(ix:Iv n x.1 x.2)(ad:Es n q x){i j:Nat}(hij:i<=j)(hj:j<n)(h:aa w.2 i<=aa w.2 j):aa q.2 i<=aa q.2 j:=by
 refine byContradiction λhc=>?_
 obtain⟨a1,a2,a3⟩:=iq.sr i (by omega)
 obtain⟨b1,b2,b3⟩:=iq.sr j hj
 rw[hp i (by omega),hp j hj]at h
 have hne:(aa q.2 j).toNat<(aa q.2 i).toNat:=by omega
 have hx:aa x.2 (aa q.2 i).toNat≠aa x.2 (aa q.2 j).toNat:=λe=>by
  have:=ix.Ep (v:=(aa q.2 i).toNat) (w:=(aa q.2 j).toNat) (by omega) (by omega) e
  omega
 have:=ad (aa q.2 j).toNat (aa q.2 i).toNat hne (by omega) (by omega)
 rw[a3,b3]at this
 omega
theorem cG{p q:RP}{n:Nat}(ip:Iv n p.1 p.2)(iq:Iv n q.1 q.2):lQ p q=[]↔∀j,j+1<n->aa q.2 (j+1)<aa q.2 j->aa p.1 (j+1)<aa p.1 j:=by
 constructor
 ·intro h j hj hd
  refine byContradiction λhc=>?_
  have hm:((j:Int)+1)∈lQ p q:=by
   unfold lQ
   rw[mem_filter]
   refine⟨o7.mpr ⟨j,rfl,by rw[iq.ls];exact hj,hd⟩,?_⟩
   have:((j:Int)+1)∉G1 p.1:=λz=>by
    obtain⟨a,e,_,h2⟩:=o7.mp z
    have:a=j:=by omega
    subst this
    exact hc h2
   rw[decide_eq_false this]
   rfl
  rw[h]at hm
  cases hm
 ·intro h
  cases e:lQ p q with
  |nil=>rfl
  |cons k t=>
   obtain⟨j,_,hj,h1,h2⟩:=mx ip iq (k:=k) (by rw[e];exact mem_cons_self)
   have:=h j hj h2
   omega
theorem switch(f:Nat->Bool):∀(d u:Nat),f u=false->f (u+d)=true->∃i,u<=i/\i<u+d/\f i=false/\f (i+1)=true
 |0,u,h1,h2=>by rw[Nat.add_zero,h1]at h2;cases h2
 |d+1,u,h1,h2=>by
  cases h:f (u+d)with
  |true=>
   obtain⟨i,a,b,c,e⟩:=switch f d u h1 h
   exact⟨i,a,by omega,c,e⟩
  |false=>exact⟨u+d,by omega,by omega,h,h2⟩
theorem G5{n:Nat}{r q x s' w y w2 s:RP}(ir:Iv n r.1 r.2)(iq:Iv n q.1 q.2)(ix:Iv n x.1 x.2)(OG:Iv n s'.1 s'.2)(iw:Iv n w.1 w.2)(iy:Iv n y.1 y.2)(Jy:Iv n w2.1 w2.2)
  (QK:lQ r q=[])(hws:lQ w s'=[])(hw:Et n w q x)(OH:Es n q x)(QL:Es n x s')(Kz:Et n w y w2)(OI:Es n y w2)(ary:Es n r y):lQ w2 s'=[]:=by
 refine(cG Jy OG).mpr λj hj hd=>byContradiction λhc=>?_
 have hstop:=(cG iw OG).mp hws j hj hd
 obtain⟨v0,v1,v2⟩:=iw.rs j (by omega)
 obtain⟨u0,u1,u2⟩:=iw.rs (j+1) hj
 generalize hv:(aa w.1 j).toNat=v at*
 generalize hu:(aa w.1 (j+1)).toNat=u at*
 have huv:u<v:=by omega
 have hy:aa y.2 v<aa y.2 u:=by
  refine byContradiction λhz=>?_
  obtain⟨a1,a2,a3⟩:=iy.sr u (by omega)
  obtain⟨b1,b2,b3⟩:=iy.sr v (by omega)
  have e1:=Kz u (by omega)
  have e2:=Kz v (by omega)
  rw[u2]at e1
  rw[v2]at e2
  obtain⟨c1,c2,c3⟩:=Jy.sr (aa y.2 u).toNat (by omega)
  obtain⟨d1,d2,d3⟩:=Jy.sr (aa y.2 v).toNat (by omega)
  rw[<-e1,show(((j+1:Nat):Int)).toNat=j+1 by omega]at c3
  rw[<-e2,toNat_natCast]at d3
  have hne:aa y.2 u≠aa y.2 v:=λe=>by
   have:=iy.Ep (v:=u) (w:=v) (by omega) (by omega) e
   omega
  omega
 have hq:aa q.2 v<aa q.2 u:=by
  refine byContradiction λhz=>?_
  obtain⟨a1,a2,a3⟩:=iq.sr u (by omega)
  obtain⟨b1,b2,b3⟩:=iq.sr v (by omega)
  have e1:=hw u (by omega)
  have e2:=hw v (by omega)
  rw[u2]at e1
  rw[v2]at e2
  have:=QL j (j+1) (by omega) hj hd
  obtain⟨c1,c2,c3⟩:=ix.sr (aa q.2 u).toNat (by omega)
  obtain⟨d1,d2,d3⟩:=ix.sr (aa q.2 v).toNat (by omega)
  rw[<-e1,show(((j+1:Nat):Int)).toNat=j+1 by omega]at c3
  rw[<-e2,toNat_natCast]at d3
  have hne:aa q.2 u≠aa q.2 v:=λe=>by
   have:=iq.Ep (v:=u) (w:=v) (by omega) (by omega) e
   omega
  omega
 obtain⟨i,i1,i2,i3,i4⟩:=switch (λt=>decide (aa w.2 t<=j)) (v-u) u (by rw[decide_eq_false];omega) (by rw[show u+(v-u)=v by omega,decide_eq_true];omega)
 have Ru:=of_decide_eq_false i3
 have Rw:=of_decide_eq_true i4
 have y1:=Kz.calm iy Jy OI (i:=u) (j:=i) i1 (by omega) (by omega)
 have y2:=Kz.calm iy Jy OI (i:=i+1) (j:=v) (by omega) (by omega) (by omega)
 have q1:=hw.calm iq ix OH (i:=u) (j:=i) i1 (by omega) (by omega)
 have q2:=hw.calm iq ix OH (i:=i+1) (j:=v) (by omega) (by omega) (by omega)
 have hr:=(cG ir iq).mp QK i (by omega) (by omega)
 have:=ary i (i+1) (by omega) (by omega) (by omega)
 omega
def qE:List RP->Prop
 |q::p::ps=>lQ p q=[]/\qE (p::ps)
 |_=>True
def aD(n:Nat)(R:List RP):Prop:=∀x∈R,Iv n x.1 x.2
theorem qE.tail {q:RP}{R:List RP}(h:qE (q::R)):qE R:=by
 cases R with
 |nil=>trivial
 |cons p ps=>exact h.2
structure G6(n:Nat)(p c p' c':RP):Prop where
 ip:Iv n p'.1 p'.2
 ic:Iv n c'.1 c'.2
 fr:lQ p' c'=[]
 ex:∃y,oi n p c p' c' y
theorem fO{n:Nat}(hn:n<=7){p c:RP}(ip:Iv n p.1 p.2)(ic:Iv n c.1 c.2)(hi:Iv n (upTo n) (upTo n)):G6 n p c (dI 50 p c).1 (dI 50 p c).2:=
 ⟨(HJ.qd 50 ip ic).1,(HJ.qd 50 ip ic).2,o8 hn 50 p c ip ic (by omega),xT ip 50 p c _ ip ic (oi.start ip hi)⟩
theorem G6.none {n:Nat}{p c p' c':RP}(s:G6 n p c p' c')(ic:Iv n c.1 c.2)(ip:Iv n p.1 p.2)(e:p'=p):c'=c:=by
 obtain⟨y,o⟩:=s.ex
 subst e
 have hy:∀t,t<n->aa y.2 t=t:=λt ht=>by
  have h1:=ip.rs t ht
  have:=o.pp (aa p'.1 t).toNat (by omega)
  rw[h1.2.2,toNat_natCast]at this
  exact this.symm
 refine kq (n:=n) s.ic ic ?_
 refine Iv.uniq (n:=n) (s:=c.2) ?_ ic
 have:c'.2=c.2:=bP (by rw[s.ic.ls,ic.ls]) λt ht=>by
  rw[s.ic.ls]at ht
  rw[o.pq t ht,hy t ht,toNat_natCast]
 rw[<-this]
 exact s.ic
theorem AB{n:Nat}(hn:n<=7)(hi:Iv n (upTo n) (upTo n)):∀(ps:List RP)(p c:RP),aD n (p::ps)->Iv n c.1 c.2->qE (p::ps)->qE ((dI 50 p c).2::xR ps (dI 50 p c).1)
 |[],p,c,hI,ic,_=>by
  have s:=fO hn (hI p (by simp)) ic hi
  exact⟨s.fr,trivial⟩
 |r::ps,p,c,hI,ic,hL=>by
  have ip:=hI p (by simp)
  have ir:=hI r (by simp)
  have s:=fO hn ip ic hi
  have s2:=fO hn ir s.ip hi
  unfold xR
  by_cases e:(dI 50 r (dI 50 p c).1).1=r
  ·rw[if_pos e]
   have e2:=s2.none s.ip ir e
   have f2:=s2.fr
   rw[e,e2]at f2
   exact⟨s.fr,f2,hL.2⟩
  ·rw[if_neg e]
   refine⟨?_,AB hn hi ps r _ (λx hx=>hI x (mem_cons_of_mem _ hx)) s.ip hL.2⟩
   obtain⟨x,o⟩:=s.ex
   obtain⟨y,o2⟩:=s2.ex
   exact G5 (s:=c) ir ip o.iy s.ic s.ip o2.iy s2.ic hL.1 s.fr o.pp o.ap o.aq o2.pq o2.aq o2.ap
theorem G7{n:Nat}(hn:n<=7)(hi:Iv n (upTo n) (upTo n)){R:List RP}{c:RP}(hI:aD n R)(ic:Iv n c.1 c.2)(hL:qE R.reverse):qE (xR R.reverse c):=by
 cases h:R.reverse with
 |nil=>exact trivial
 |cons p ps=>
  rw[h]at hL
  have Eu:aD n (p::ps):=λx hx=>hI x (by rw[<-mem_reverse,h];exact hx)
  have s:=fO hn (Eu p (by simp)) ic hi
  unfold xR
  by_cases e:(dI 50 p c).1=p
  ·rw[if_pos e]
   have e2:=s.none ic (Eu p (by simp)) e
   have f:=s.fr
   rw[e,e2]at f
   exact⟨f,hL⟩
  ·rw[if_neg e]
   exact AB hn hi ps p c Eu ic hL
def AD(n:Nat)(p:RP):Prop:=∃a,a+1<n/\aa p.2 (a+1)<aa p.2 a
theorem kN{n:Nat}{p:RP}(ip:Iv n p.1 p.2)(hi:Iv n (upTo n) (upTo n))(h:¬AD n p):p=(upTo n,upTo n):=
 kq (n:=n) ip hi (CD ip λa ha hd=>h ⟨a,ha,hd⟩)
theorem G8{n:Nat}{p:RP}(h:AD n p):p≠(upTo n,upTo n):=λe=>by
 obtain⟨a,ha,hd⟩:=h
 rw[e]at hd
 dsimp only at hd
 rw[ao ha,ao (by omega)]at hd
 omega
theorem Et.KA {n:Nat}{w q x:RP}(hp:Et n w q x)(iq:Iv n q.1 q.2)(ix:Iv n x.1 x.2)(ad:Es n q x){a:Nat}(ha:a+1<n)(h:aa q.2 (a+1)<aa q.2 a):aa w.2 (a+1)<aa w.2 a:=by
 refine byContradiction λhc=>?_
 have:=hp.calm iq ix ad (i:=a) (j:=a+1) (by omega) ha (by omega)
 omega
theorem AE{n:Nat}(hn:n<=7)(hi:Iv n (upTo n) (upTo n)):∀(ps:List RP)(p c:RP),aD n (p::ps)->Iv n c.1 c.2->qE (p::ps)->(∀x∈p::ps,AD n x)->∀x∈xR ps (dI 50 p c).1,AD n x
 |[],p,c,hI,ic,_,hN,x,hx=>by
  have s:=fO hn (hI p (by simp)) ic hi
  obtain⟨y,o⟩:=s.ex
  obtain⟨a,ha,hd⟩:=hN p (by simp)
  rw[mem_singleton.mp hx]
  exact⟨a,ha,o.pp.KA (hI p (by simp)) o.iy o.ap ha hd⟩
 |r::ps,p,c,hI,ic,hL,hN,x,hx=>by
  have ip:=hI p (by simp)
  have ir:=hI r (by simp)
  have s:=fO hn ip ic hi
  have s2:=fO hn ir s.ip hi
  obtain⟨z,o⟩:=s.ex
  obtain⟨y,o2⟩:=s2.ex
  obtain⟨a,ha,hd⟩:=hN p (by simp)
  have HQ:=o.pp.KA ip o.iy o.ap ha hd
  unfold xR at hx
  by_cases e:(dI 50 r (dI 50 p c).1).1=r
  ·rw[if_pos e]at hx
   rcases mem_cons.mp hx with rfl|hx
   ·exact⟨a,ha,HQ⟩
   ·exact hN x (mem_cons_of_mem _ hx)
  ·rw[if_neg e]at hx
   rcases mem_cons.mp hx with rfl|hx
   ·refine byContradiction λhc=>?_
    have e2:=kN s2.ic hi hc
    have hy:∀t,t<n->aa (dI 50 p c).1.2 t=aa y.2 t:=λt ht=>by
     have h1:=o2.iy.sr t ht
     have:=o2.pq t ht
     rw[e2]at this
     dsimp only at this
     rw[ao (by omega)]at this
     omega
    rw[hy _ ha,hy _ (by omega)]at HQ
    have h1:=o2.ap a (a+1) (by omega) ha HQ
    have h2:=(cG ir ip).mp hL.1 a ha hd
    omega
   ·exact AE hn hi ps r _ (λx hx=>hI x (mem_cons_of_mem _ hx)) s.ip hL.2 (λx hx=>hN x (mem_cons_of_mem _ hx)) x hx
structure qF(n:Nat)(R:List RP):Prop where
 iv:aD n R
 lw:qE R.reverse
 ns:∀x∈R,AD n x
theorem xU{n:Nat}:∀(R:List RP)(p:RP),(∀x∈R,Iv n x.1 x.2)->Iv n p.1 p.2->∀x∈xR R p,Iv n x.1 x.2
 |[],p,_,hp,x,hx=>by rw[mem_singleton.mp hx];exact hp
 |r::R,p,hR,hp,x,hx=>by
  obtain⟨i1,i2⟩:=HJ.qd 50 (hR r (by simp)) hp
  unfold xR at hx
  split at hx
  ·rcases mem_cons.mp hx with rfl|hx
   ·exact hp
   ·exact hR x hx
  ·rcases mem_cons.mp hx with rfl|hx
   ·exact i2
   ·exact xU R _ (λy hy=>hR y (by simp[hy])) i1 x hx
theorem AF{n:Nat}(hn:n<=7)(hi:Iv n (upTo n) (upTo n)){R:List RP}{c:RP}(h:qF n R)(ic:Iv n c.1 c.2):∃d T,xR R.reverse c=d::T/\∀x∈T,AD n x:=by
 cases hr:R.reverse with
 |nil=>exact⟨c,[],rfl,λx hx=>nomatch hx⟩
 |cons p ps=>
  have Eu:aD n (p::ps):=λx hx=>h.iv x (by rw[<-mem_reverse,hr];exact hx)
  have OJ:∀x∈p::ps,AD n x:=λx hx=>h.ns x (by rw[<-mem_reverse,hr];exact hx)
  have hL:=h.lw
  rw[hr]at hL
  unfold xR
  by_cases e:(dI 50 p c).1=p
  ·rw[if_pos e]
   exact⟨c,p::ps,rfl,OJ⟩
  ·rw[if_neg e]
   exact⟨_,_,rfl,AE hn hi ps p c Eu ic hL OJ⟩
theorem G9{n:Nat}(hn:n<=7)(hi:Iv n (upTo n) (upTo n)){R:List RP}{c:RP}(h:qF n R)(ic:Iv n c.1 c.2):qF n (sH n R c):=by
 have Nb:=G7 hn hi h.iv ic h.lw
 have KC:=xU R.reverse c (λx hx=>h.iv x (by simpa using hx)) ic
 obtain⟨d,T,e,hT⟩:=AF hn hi h ic
 have Jz:(yN R c).getLast?=some d:=by unfold yN;rw[e];simp
 have JA:(yN R c).dropLast=T.reverse:=by unfold yN;rw[e];simp
 unfold sH
 rw[Jz]
 by_cases hd:some d=some (upTo n,upTo n)
 ·rw[if_pos hd,JA]
  rw[e]at Nb KC
  exact⟨λx hx=>KC x (mem_cons_of_mem _ (by simpa using hx)),by rw[List.reverse_reverse];exact Nb.tail,λx hx=>hT x (by simpa using hx)⟩
 ·rw[if_neg hd]
  unfold yN
  refine⟨λx hx=>KC x (by simpa using hx),by rw[List.reverse_reverse];exact Nb,λx hx=>?_⟩
  rw[mem_reverse,e]at hx
  rcases mem_cons.mp hx with rfl|hx
  ·refine byContradiction λhc=>hd ?_
   rw[kN (KC x (by rw[e];exact mem_cons_self)) hi hc]
  ·exact hT x hx
theorem rD{n:Nat}{r s:List Int}(h:Iv n r s)(hd:∀j,j+1<n->aa r (j+1)<aa r j):r=(upTo n).reverse:=by
 have up:∀j,j<n->aa r j<=(n:Int)-1-j:=λj=>by
  induction j with
  |zero=>intro h0;have:=(h.rs 0 h0).2.1;omega
  |succ j ih=>intro hj;have:=ih (by omega);have:=hd j hj;omega
 have dn:∀d j,j+d+1=n->(d:Int)<=aa r j:=λd=>by
  induction d with
  |zero=>intro j hj;exact(h.rs j (by omega)).1
  |succ d ih=>intro j hj;have:=ih (j+1) (by omega);have:=hd j (by omega);omega
 refine bP (by rw[h.lr,length_reverse,aG]) λj hj=>?_
 rw[h.lr]at hj
 have h1:=up j hj
 have h2:=dn (n-1-j) j (by omega)
 have h3:aa (upTo n).reverse j=((n-1-j:Nat):Int):=by
  unfold aa
  rw[List.getElem?_reverse (by rw[aG];exact hj),aG,uD n _ (by omega)]
  rfl
 omega
theorem qE.at_:∀{l A B:List RP}{p q:RP},qE l->l=A++q::p::B->lQ p q=[]
 |_,[],B,p,q,h,e=>by rw[e]at h;exact h.1
 |l,a::A,B,p,q,h,e=>by
  rw[e,cons_append]at h
  exact qE.at_ h.tail rfl
theorem mB{n:Nat}(R:List RP):R=replicate (dh n R) (fj n)++R.drop (dh n R):=by
 unfold dh
 induction R with
 |nil=>rfl
 |cons p R ih=>
  by_cases h:p=fj n
  ·rw[List.takeWhile_cons_of_pos (by simpa using h),length_cons,replicate_succ,List.drop_succ_cons,cons_append,<-ih,h]
  ·rw[List.takeWhile_cons_of_neg (by simpa using h)]
   rfl
theorem AG{n:Nat}(R:List RP):∀p B,R.drop (dh n R)=p::B->p≠fj n:=by
 unfold dh
 induction R with
 |nil=>intro p B h;cases h
 |cons q R ih=>
  intro p B h
  by_cases hq:q=fj n
  ·rw[List.takeWhile_cons_of_pos (by simpa using hq),length_cons,List.drop_succ_cons]at h
   exact ih p B h
  ·rw[List.takeWhile_cons_of_neg (by simpa using hq)]at h
   have:q=p:=(List.cons.inj h).1
   rw[<-this];exact hq
theorem qe{n:Nat}{o s:List Int}(h:Iv n o s){a:Nat}(ha:a+1<n):(aa o a<aa o (a+1)->kW (dZ o a)=kW o+1)/\(aa o (a+1)<aa o a->kW (dZ o a)+1=kW o):=by
 have e:=sG o a [] (by rw[h.lr];exact ha)
 unfold kW
 constructor
 ·intro c
  rw[if_neg (by omega),if_pos c]at e
  omega
 ·intro c
  rw[if_pos c,if_neg (by omega)]at e
  omega
end DL
namespace DL.sI
open PySem PySem.Spec PyProof.Rows L2 DL
def top(i:Nat):Stmt:=PySem.Challenge.pw_braidcomb_k41_unfolded_walked.main.body.getD i (.Pass ⟨0,0,0,0⟩)
abbrev kr:Stmt:=top 4
theorem oN:az ["n","k"] ["n","k"] (ah kr):=oK
abbrev lg:Stmt:=top 6
theorem qg:az ["word","p","many"] ["word","p","many"] (ah lg):=oK
abbrev qh:Stmt:=top 7
theorem uH:az ["word","p"] ["word","p"] (ah qh):=oK
abbrev rE:Stmt:=top 8
theorem wF:az ["n","word","p","k"] ["n","word","p","k"] (ah rE):=oK
abbrev qi:Stmt:=top 9
theorem uI:az ["word","p"] ["word","p"] (ah qi):=oK
abbrev ou:Stmt:=top 10
theorem sJ:az ["word","p"] ["word","p"] (ah ou):=oK
abbrev ku:Stmt:=top 11
theorem gm:az ["n","word","move","name","p"] ["n","word","move"] (ah ku):=oK
abbrev gX:Stmt:=top 12
theorem kX:az ["n","word","move"] ["n","word","move"] (ah gX):=oK
abbrev uJ:Stmt:=top 13
theorem nE:az ["n","word","move","name","p"] ["n","word","move"] (ah uJ):=oK
abbrev lh:Stmt:=top 15
theorem qj:az ["p","one","other"] ["p","one","other"] (ah lh):=oK
abbrev jc:Stmt:=top 16
theorem mC:az ["one","other"] ["one","other"] (ah jc):=oK
abbrev oy:Stmt:=top 17
theorem bY:az ["n","word","moves","now","p","move"] ["n","word"] (ah oy):=oK
abbrev oA:Stmt:=top 19
theorem sL:az ["_law_cell","_law_k","_law_factor"] ["_law_cell","_law_k","_law_factor"] (ah oA):=oK
abbrev jO:Stmt:=top 20
theorem nF:az ["_law_script","_law_k"] ["_law_script","_law_k"] (ah jO):=oK
abbrev jP:Stmt:=top 21
theorem jd:az ["_law_seed","_law_least","_law_most"] ["_law_seed","_law_least","_law_most"] (ah jP):=oK
abbrev je:Stmt:=top 22
theorem iG:az ["_law_number","_law_n","_law_k"] ["_law_number","_law_n"] (ah je):=oK
abbrev lj:Stmt:=top 23
theorem gY:az ["_law_number","_law_n","_law_k","_law_other"] ["_law_number","_law_n"] (ah lj):=oK
abbrev lq:Stmt:=top 24
theorem cT:az ["_law_cells","_law_n","_law_most","_law_word","_law_k","_law_cell"] ["_law_cells","_law_n","_law_most"] (ah lq):=oK
abbrev mE:Stmt:=top 26
theorem lu:az ["_law_word","_law_deed_here","_law_p"] ["_law_word","_law_deed_here"] (ah mE):=oK
abbrev oB:Stmt:=top 27
theorem gF:az ["_law_word","_law_n","_law_deed_here","_law_x","_law_p","_law_here"] ["_law_word","_law_n","_law_deed_here"] (ah oB):=oK
abbrev ky:Stmt:=top 29
theorem jQ:az ["_law_found","_law_x"] ["_law_found"] (ah ky):=oK
abbrev kB:Stmt:=top 30
theorem gp:az ["_law_word","_law_n","_law_moves","_law_move"] ["_law_word","_law_n","_law_moves"] (ah kB):=oK
abbrev jR:Stmt:=top 31
theorem jf:az ["_law_word","_law_total_here","_law_most","_law_at"] ["_law_word","_law_total_here","_law_most"] (ah jR):=oK
abbrev iS:Stmt:=top 32
theorem qk:az ["_law_cells"] ["_law_cells"] (ah iS):=oK
abbrev AH:Stmt:=top 33
theorem ej:az ["_law_script","_law_seed","_law_n","_law_cells","_law_most","_law_word","_law_handed","_law_found","_law_p"] ["_law_script"] (ah AH):=oK
set_option genInjectivity false
set_option genSizeOf false
structure Tb(K:PySem.W.Frag)(mg:Str->Option Value) where
 fP:Addr
 fQ:FuncData
 iU:Df K mg "is_crossing" kr ["n","k"] fP fQ
 cA:Addr
 cB:FuncData
 cZ:Df K mg "has_places" lg ["word","p","many"] cA cB
 kO:Addr
 kP:FuncData
 nG:Df K mg "can_out" qh ["word","p"] kO kP
 mG:Addr
 mH:FuncData
 ql:Df K mg "can_in" rE ["n","word","p","k"] mG mH
 kQ:Addr
 kR:FuncData
 nH:Df K mg "can_far" qi ["word","p"] kQ kR
 jn:Addr
 jo:FuncData
 lH:Df K mg "can_near" ou ["word","p"] jn jo
 fR:Addr
 fS:FuncData
 iV:Df K mg "can_be_done" ku ["n","word","move"] fR fS
 cM:Addr
 cO:FuncData
 ek:Df K mg "refuse_undoable" gX ["n","word","move"] cM cO
 o9:Addr
 pe:FuncData
 sM:Df K mg "moved" uJ ["n","word","move"] o9 pe
 gG:Addr
 gH:FuncData
 jq:Df K mg "moves_past" lh ["p","one","other"] gG gH
 dB:Addr
 dC:FuncData
 gq:Df K mg "has_to_change" jc ["one","other"] dB dC
 jr:Addr
 jt:FuncData
 lI:Df K mg "unfolded" oy ["n","word"] jr jt
 gZ:Addr
 g6:FuncData
 ju:Df K mg "_law_mix" oA ["_law_cell","_law_k","_law_factor"] gZ g6
 eB:Addr
 eI:FuncData
 g7:Df K mg "_law_cell_at" jO ["_law_script","_law_k"] eB eI
 eJ:Addr
 eM:FuncData
 g8:Df K mg "_law_strings" jP ["_law_seed","_law_least","_law_most"] eJ eM
 dD:Addr
 dE:FuncData
 gu:Df K mg "_law_crossing" je ["_law_number","_law_n"] dD dE
 gJ:Addr
 gK:FuncData
 jv:Df K mg "_law_piece" lj ["_law_number","_law_n"] gJ gK
 gM:Addr
 gO:FuncData
 jw:Df K mg "_law_drawn" lq ["_law_cells","_law_n","_law_most"] gM gO
 iH:Addr
 iI:FuncData
 kC:Df K mg "_law_done" mE ["_law_word","_law_deed_here"] iH iI
 jx:Addr
 jy:FuncData
 lJ:Df K mg "_law_can" oB ["_law_word","_law_n","_law_deed_here"] jx jy
 fT:Addr
 fU:FuncData
 iW:Df K mg "_law_wholes" ky ["_law_found"] fT fU
 fV:Addr
 fW:FuncData
 iX:Df K mg "_law_walked" kB ["_law_word","_law_n","_law_moves"] fV fW
 eO:Addr
 eQ:FuncData
 g9:Df K mg "_law_part_of" jR ["_law_word","_law_total_here","_law_most"] eO eQ
 gR:Addr
 gS:FuncData
 jz:Df K mg "_law_total" iS ["_law_cells"] gR gS
 AI:Addr
 xV:FuncData
 Ew:Df K mg "law" AH ["_law_script"] AI xV
 jg:mg "abs"=none
 wG:mg "bool"=none
 kD:mg "enumerate"=none
 AJ:mg "int"=none
 bI:mg "isinstance"=none
 iJ:mg "len"=none
 qm:mg "list"=none
 AK:mg "max"=none
 xW:mg "range"=none
 Ex:mg "str"=none
 Ey:mg "sum"=none
 sN:mg "tuple"=none
set_option genInjectivity true
set_option genSizeOf true
end DL.sI
namespace DL.H
open PySem PySem.W L2
noncomputable section
def vi(i:Int)(t:Nat):Value:=.int i t
def vs(s:String)(t:Nat):Value:=.str (Str.ofString s) t
def vr(a:Nat):Value:=.ref a
def vy(s:String):Value:=.type s
def vb(s:String):Value:=.builtin s
def vn:Value:=.none
def vt:Value:=.bool true
def vf:Value:=.bool false
def pl:Data:=.plain
def ob(c:Value)(d:Data)(s:List (Option Value)):Obj:=⟨c,none,d,⟨s⟩⟩
def en(P:Params)(x:String)(t:Nat)(v:Value):DictEntry:=⟨PyData.keyHash P (Str.ofString x),.str (Str.ofString x) t,v⟩
def cd(n:String)(b m:List Value)(s:Addr)(q:String)(hd:Bool)(sn:List Str)(su:List Value)(ab:Bool)(c:Option Bool)(de:Bool):ClassData:=⟨Str.ofString n,b,m,s,Str.ofString q,hd,sn,su,ab,c,de⟩
def E:Obj:=ob (vy "tuple") (.seq ⟨[]⟩ 0) []
def F:Obj:=ob vn (.fields ⟨[]⟩) []
def Z:String:="/claim/cut.py"
def nO(s:Stmt):Str:=match s with|.FunctionDef n _ _ _ _ _ _ _ _ _=>n|_=>Str.empty
def lO(s:Stmt):Nat:=match s with|.FunctionDef _ _ _ _ _ _ _ _ _ p=>p.line|_=>0
def tf(s:Stmt)(q:Str):Obj:=⟨.none,none,.func {name:=nO s,qualname:=q,params:=cW s,body:=.stmts (bF s),scope:=ah s,globals:=0,closure:=[],defaults:=.none,kwdefaults:=.none},⟨[]⟩⟩
def hf(n q:Str)(s:Stmt)(m:Value)(c:Nat):Obj:=⟨.type "function",none,.func (fnOf n q (cW s) (bF s) (ah s) .none .none .none m none (.ref c) .none),⟨[]⟩⟩
def cf(n q:Str)(t l k:Nat)(f:Value)(a b:Nat)(x y z:Value)(u:Nat):Obj:=ob (vy "code") (.fields ⟨[.str n t,.str q (t+1),vs Z (t+2),.int l 0,.int k 0,vi 0 0,vi 0 0,f,vr a,.bool (f !=vi 0 0),vi 181 0,vr b,vn,x,y,z,.int u 0,.int l 0,vs Z (u+1)]⟩) []
def tu:List String->Nat->List Value
 |[],_=>[]
 |x::l,t=>vs x t::tu l (t+1)
def QM(s:Stmt)(q:Str)(a t:Nat)(m:Value)(ns:List String):List Obj:=[E,F,ob (vy "tuple") (.seq ⟨tu ns (t+3)⟩ 0) [],E,tf s q,cf (nO s) q t (lO s) (cW s).args.length (vi 3 0) a (a+1) (vr (a+2)) (vr (a+3)) (vr (a+4)) (t+3+ns.length),hf (nO s) q s m (a+5)]
def QN(s:Stmt)(q:Str)(a t:Nat)(m:Value):List Obj:=[E,F,tf s q,cf (nO s) q t (lO s) (cW s).args.length (vi 3 0) a (a+1) vn vn (vr (a+2)) (t+3),hf (nO s) q s m (a+3)]
noncomputable def xb(P:Params)(n:String)(a t:Nat)(m:Value)(b:Nat)(l:Nat):List Obj:=
 [ob (vy "tuple") (.seq ⟨[vr b]⟩ 0) [],ob (vy "builtin_function_or_method") (.fields ⟨[vb "type.__prepare__",vy "type"]⟩) [],
  ob (vy "dict") (.dict ⟨[en P "__module__" (t+5) m,en P "__qualname__" (t+7) (vs n (t+6)),en P "__firstlineno__" (t+9) (.int l (t+8)),en P "__static_attributes__" (t+10) (vr (a+7))]⟩ 4) [],E,F,
  cf (Str.ofString n) (Str.ofString n) t l 0 (vi 0 0) (a+3) (a+4) vn vn vn (t+3),ob (vy "frame") pl [some (vr (a+5)),some (vr 3),some (vr (a+2)),none,some m,none,some (vr 0)],E,
  ob (vy "dict") (.dict ⟨[en P "__module__" (t+5) m,en P "__firstlineno__" (t+9) (.int l (t+8)),en P "__static_attributes__" (t+10) (vr (a+7)),en P "__doc__" (t+11) vn]⟩ 2) [],
  ob (vy "type") (.cls (cd n [vr b] [vr (a+9),vr b,vy "ValueError",vy "Exception",vy "BaseException",vy "object"] (a+8) n true [] [] false none false)) [some (vr a),none,some (vs n (t-2)),some (vs n (t+6)),some (vb "ValueError.__new__"),some vt],
  ob (vy "super") (.fields ⟨[vr (a+9),vr (a+9),vr (a+9)]⟩) [],ob (vy "builtin_function_or_method") (.fields ⟨[vb "object.__init_subclass__",vr (a+9)]⟩) []]
def sp:List Obj->List Obj×List Obj
 |[]=>([],[])
 |x::l=>(x::(sp l).2,(sp l).1)
def bt:Nat->List Obj->BT
 |0,_=>.nil
 |_+1,[]=>.nil
 |n+1,x::l=>.node x (bt n (sp l).1) (bt n (sp l).2)
end
end DL.H
namespace DL.sI.H
open PySem PySem.W DL.H L2
noncomputable section
abbrev pw:Program:=PySem.Challenge.pw_braidcomb_k41_unfolded_walked
abbrev T(i:Nat):Stmt:=DL.sI.top i
def J(i j:Nat):Stmt:=match T i with|.ClassDef _ _ _ b _ _ _ _ _ _ _=>b.getD j (.Pass ⟨0,0,0,0⟩)|s=>s
noncomputable def M3(P:Params):List DictEntry:=[en P "__doc__" 166 vn,en P "__package__" 167 vn,en P "__loader__" 168 (vb "__main__.__loader__#opaque"),en P "__spec__" 169 vn,en P "__annotations__" 170 (vr 6),en P "__builtins__" 171 (vr 4),en P "__file__" 173 (vs "/claim/cut.py" 172),en P "__cached__" 174 vn,en P "BraidError" 206 (vr 24),en P "NoMove" 222 (vr 37),en P "is_crossing" 232 (vr 46),en P "has_places" 243 (vr 53),en P "can_out" 251 (vr 60),en P "can_in" 261 (vr 67),en P "can_far" 269 (vr 74),en P "can_near" 277 (vr 81),en P "can_be_done" 288 (vr 88),en P "refuse_undoable" 297 (vr 95),en P "moved" 308 (vr 102),en P "moves_past" 319 (vr 109),en P "has_to_change" 327 (vr 116),en P "unfolded" 339 (vr 123),en P "_law_mix" 350 (vr 130),en P "_law_cell_at" 358 (vr 137),en P "_law_strings" 367 (vr 144),en P "_law_crossing" 376 (vr 151),en P "_law_piece" 386 (vr 158),en P "_law_drawn" 398 (vr 165),en P "_law_deed" 410 (vr 172),en P "_law_done" 419 (vr 179),en P "_law_can" 431 (vr 186),en P "_law_stirred" 444 (vr 193),en P "_law_wholes" 452 (vr 200),en P "_law_walked" 462 (vr 207),en P "_law_part_of" 472 (vr 214),en P "_law_total" 478 (vr 219),en P "law" 493 (vr 226)]
def m3(P:Params)(v:Value)(k e:Nat):Obj:=ob (vy "dict") (.dict ⟨en P "__name__" 165 v::(M3 P).take k⟩ e) []
noncomputable def QO:List (Nat×Nat):=[(2,20),(4,33),(7,45),(10,52),(12,59),(14,66),(16,73),(18,80),(22,87),(32,94),(35,101),(47,108),(53,115),(55,122),(69,129),(71,136),(75,143),(80,150),(85,157),(91,164),(97,171),(109,178),(118,185),(139,192),(145,199),(152,206),(160,213),(165,218),(167,225)]
def KD(k:Nat):Obj:=ob vn (.fields ⟨(QO.take k).flatMap λx=>[.int x.1 0,vi 0 0,vr x.2]⟩) []
def w0:Value:=vs "braidcomb.errors" 187
def w1:Value:=vs "braidcomb.words" 223
def w2:Value:=vs "braidcomb.moves" 233
def w3:Value:=vs "braidcomb.unfolding" 309
def w4:Value:=vs "law_braidcomb_k41_unfolded_walked" 340
def f7(i a t:Nat)(m:Value)(ns:List String):List Obj:=QM (T i) (nO (T i)) a t m ns
def f5(i a t:Nat)(m:Value):List Obj:=QN (T i) (nO (T i)) a t m
noncomputable def FL(P:Params):List Obj:=[boot_o_0 P,boot_o_1 P,boot_o_2 P,m3 P w4 37 38,boot_o_4 P,boot_o_5 P,boot_o_6 P,boot_o_7 P,boot_o_8 P,boot_o_9 P,boot_o_10 P]
 ++[E,(KD 29),(ob (vy "code") (.fields ⟨[(vs "<module>" 182),(vs "<module>" 183),(vs "/claim/cut.py" 184),(vi 1 0),(vi 0 0),(vi 0 0),(vi 0 0),(vi 0 0),(vr 11),vf,(vi 181 0),(vr 12),vn,vn,vn,vn,(vi 185 0),(vi 1 0),(vs "/claim/cut.py" 186)]⟩) []),(ob (vy "frame") pl [(some (vr 13)),(some (vr 3)),(some (vr 3)),none,(some (vs "__main__" 164)),none,(some (vr 0))]),(ob (vy "tuple") (.seq ⟨[(vy "ValueError")]⟩ 0) []),(ob (vy "builtin_function_or_method") (.fields ⟨[(vb "type.__prepare__"),(vy "type")]⟩) []),(ob (vy "dict") (.dict ⟨[(en P "__module__" 196 (vs "braidcomb.errors" 187)),(en P "__qualname__" 198 (vs "BraidError" 197)),(en P "__firstlineno__" 200 (vi 2 199)),(en P "__static_attributes__" 201 (vr 22))]⟩ 4) []),E,F,(ob (vy "code") (.fields ⟨[(vs "BraidError" 191),(vs "BraidError" 192),(vs "/claim/cut.py" 193),(vi 2 0),(vi 0 0),(vi 0 0),(vi 0 0),(vi 0 0),(vr 18),vf,(vi 181 0),(vr 19),vn,vn,vn,vn,(vi 194 0),(vi 2 0),(vs "/claim/cut.py" 195)]⟩) []),(ob (vy "frame") pl [(some (vr 20)),(some (vr 3)),(some (vr 17)),none,(some (vs "braidcomb.errors" 187)),none,(some (vr 0))]),E,(ob (vy "dict") (.dict ⟨[(en P "__module__" 196 (vs "braidcomb.errors" 187)),(en P "__firstlineno__" 200 (vi 2 199)),(en P "__static_attributes__" 201 (vr 22)),(en P "__weakref__" 203 (vr 25)),(en P "__doc__" 204 vn)]⟩ 3) []),(ob (vy "type") (.cls (cd "BraidError" [(vy "ValueError")] [(vr 24),(vy "ValueError"),(vy "Exception"),(vy "BaseException"),(vy "object")] 23 "BraidError" true [] [(vr 37)] false none false)) [(some (vr 15)),none,(some (vs "BraidError" 189)),(some (vs "BraidError" 197)),(some (vb "ValueError.__new__")),(some vt)]),(ob (vy "getset_descriptor") (.fields ⟨[(vs "__weakref__" 202),(vr 24),(vb "ExceptionGroup.__weakref__"),vn]⟩) []),(ob (vy "super") (.fields ⟨[(vr 24),(vr 24),(vr 24)]⟩) []),(ob (vy "builtin_function_or_method") (.fields ⟨[(vb "object.__init_subclass__"),(vr 24)]⟩) [])]
 ++xb P "NoMove" 28 209 w0 24 4
 ++f7 4 40 225 w1 ["n","k"]
 ++f7 6 47 235 w2 ["word","p","many"]
 ++f7 7 54 244 w2 ["word","p"]
 ++f7 8 61 252 w2 ["n","word","p","k"]
 ++f7 9 68 262 w2 ["word","p"]
 ++f7 10 75 270 w2 ["word","p"]
 ++f7 11 82 278 w2 ["n","word","move","name","p"]
 ++f7 12 89 289 w2 ["n","word","move"]
 ++f7 13 96 298 w2 ["n","word","move","name","p"]
 ++f7 15 103 311 w3 ["p","one","other"]
 ++f7 16 110 320 w3 ["one","other"]
 ++f7 17 117 328 w3 ["n","word","moves","now","p","move"]
 ++f7 19 124 342 w4 ["_law_cell","_law_k","_law_factor"]
 ++f7 20 131 351 w4 ["_law_script","_law_k"]
 ++f7 21 138 359 w4 ["_law_seed","_law_least","_law_most"]
 ++f7 22 145 368 w4 ["_law_number","_law_n","_law_k"]
 ++f7 23 152 377 w4 ["_law_number","_law_n","_law_k","_law_other"]
 ++f7 24 159 387 w4 ["_law_cells","_law_n","_law_most","_law_word","_law_k","_law_cell"]
 ++f7 25 166 399 w4 ["_law_word","_law_n","_law_number","_law_room","_law_p","_law_here"]
 ++f7 26 173 411 w4 ["_law_word","_law_deed_here","_law_p"]
 ++f7 27 180 420 w4 ["_law_word","_law_n","_law_deed_here","_law_x","_law_p","_law_here"]
 ++f7 28 187 432 w4 ["_law_word","_law_n","_law_cells","_law_room","_law_k","_law_cell","_law_deed_here"]
 ++f7 29 194 445 w4 ["_law_found","_law_x"]
 ++f7 30 201 453 w4 ["_law_word","_law_n","_law_moves","_law_move"]
 ++f7 31 208 463 w4 ["_law_word","_law_total_here","_law_most","_law_at"]
 ++f5 32 215 473 w4
 ++f7 33 220 479 w4 ["_law_script","_law_seed","_law_n","_law_cells","_law_most","_law_word","_law_handed","_law_found","_law_p"]
def as:List Addr:=2::3::(range 216).map (·+11)
def K(P:Params):Frag:=as.map λa=>(a,(FL P).getD a E)
def q:Program:=view pw [1,2,4,6,7,8,9,10,11,12,13,15,16,17,19,20,21,22,23,24,25,26,27,28,29,30,31,32,33]
def env:Env:={scope:=pw.main.scope,locals:=mainNs,globals:=mainNs,cells:=[],code:=vr 13,frame:=some 14}
def bd:List Stmt:=behindTheImports pw
abbrev cE:Code:=.body bd env
abbrev fr:List Frame:=[topFrame ⟨0,0,0,0⟩]
abbrev an:Option Value:=(some (vr 6))
def S(P:Params):Nat->List Obj
 |0=>(((FL P).take 15).set 12 (KD 0)).set 3 (boot_o_3 P)
 |1=>(((FL P).take 47).set 3 (m3 P w1 11 12)).set 12 (KD 3)
 |2=>(((FL P).take 138).set 3 (m3 P w4 24 25)).set 12 (KD 16)
 |3=>(FL P).take 227
 |_=>[]
abbrev st(i n t:Nat)(w:World)(os:OsState):SharedT:=⟨bt 12 (S w.params i),n,(boot_heap w.params).life,⟨[]⟩,boot_drawn,t,os⟩
theorem pre(w:World)(os:OsState):topGo treeTable pw w 11 an 12 ⟨boot_heap w.params,⟨[]⟩,boot_drawn,boot_toks,os⟩ (topStub pw)=some ((st 0 15 187 w os).abs,⟨denote treeTable cE,cE,⟨0,0,0,0⟩,fr⟩):=by kernel_rfl
theorem QP(w:World)(os:OsState):segRun treeTable pw w 11 an 1 1 (st 0 15 187 w os).abs (blockOf bd env cE ⟨0,0,0,0⟩ fr)=some (.next,(st 0 15 187 w os).abs,cE,⟨0,0,0,0⟩):=by kernel_rfl
abbrev Pc(N i n t d k:Nat)(p:Pos)(n2 t2:Nat)(p2:Pos)(w:World)(os:OsState):Prop:=segRunT treeTable pw w 11 an 1 N (st i n t w os) (piecesOf ((bd.drop d).take k) env cE p fr)=some (.next,st (i+1) n2 t2 w os,cE,p2)
theorem QQ(w:World)(os:OsState):Pc 448 0 15 187 0 5 ⟨0,0,0,0⟩ 47 233 ⟨7,0,8,32⟩ w os:=by kernel_rfl
theorem QR(w:World)(os:OsState):Pc 434 1 47 233 5 16 ⟨7,0,8,32⟩ 138 359 ⟨71,0,74,12⟩ w os:=by kernel_rfl
theorem QS(w:World)(os:OsState):Pc 420 2 138 359 21 13 ⟨71,0,74,12⟩ 227 494 ⟨167,0,187,35⟩ w os:=by kernel_rfl
theorem fin(w:World)(os:OsState):topRun treeTable pw w 11 an 2 (st 3 227 494 w os).abs (restOf [] env cE ⟨167,0,187,35⟩ fr)=some (st 3 227 494 w os).abs:=by kernel_rfl
theorem cut:bd=((bd.drop 0).take 5++((bd.drop 5).take 16++((bd.drop 21).take 13++[]))):=by kernel_rfl
theorem rest{tb:String->Option Builtin}{p:Program}{w:World}{n₀ N:Nat}{ann:Option Value}{s r:Shared}{b b':List Stmt}{e:Env}{c:Code}{ps:Pos}{B:List Frame}(h:b=b')(k:topRun tb p w n₀ ann N s (restOf b' e c ps B)=some r):topRun tb p w n₀ ann N s (restOf b e c ps B)=some r:=h▸k
theorem run(w:World)(os:OsState):topRun treeTable pw w 11 an (12+(1+(448+(434+(420+2))))) ⟨boot_heap w.params,⟨[]⟩,boot_drawn,boot_toks,os⟩ (topStub pw)=some (st 3 227 494 w os).abs:=go_top (pre w os) (piece_block (QP w os) (rest cut (piece_app (segRun_of (QQ w os)) (piece_app (segRun_of (QR w os)) (piece_app (segRun_of (QS w os)) (fin w os))))))
def lo:List Str:=[]
def hk:Hook:=kHook K as (λ_=>by kernel_rfl)
def Xt(s:Shared):Bool:=xlAt q [] s&&recOk (OpenLaw.row PySem.Challenge.rw_braidcomb_k41_unfolded_walked).toRowW.records s
abbrev H1(P:Params):Heap:=absHeap (bt 12 (S P 3)) 227 (boot_heap P).life
theorem JB(w:World)(os:OsState):(staticsOk (importedModules pw.main.body) (boot_heap w.params) (H1 w.params)&&namesBound pw (H1 w.params)&&gensDone ⟨H1 w.params,⟨[]⟩,boot_drawn,494,os⟩&&laidKept (boot_heap w.params) (H1 w.params))=true:=by kernel_rfl
theorem JC(w:World)(os:OsState):(openSeen q lo (importedModules pw.main.body) Xt true ⟨H1 w.params,⟨[]⟩,boot_drawn,494,os⟩)=openGood q lo:=by kernel_rfl
theorem JD(w:World)(os:OsState):(hk.obs ⟨H1 w.params,⟨[]⟩,boot_drawn,494,os⟩)=hk.val w:=by kernel_rfl
theorem o1:opening pw=plainProg pw.main.scope.names:=by kernel_rfl
theorem o2(s:Shared):fenceModules? pw s=some s:=by kernel_rfl
theorem o3:ble 600 2724=true:=by kernel_rfl
theorem op(w:World):(fencedOpening treeTable pw w 2724).map (λs=>(s.heap,s.gens,s.drawn,s.toks))=some (boot_heap w.params,⟨[]⟩,boot_drawn,boot_toks):=boot_open o1 o3 o2 w
theorem sz(w:World):((boot_heap w.params).isNs mainGlobals&&(⟨[]⟩:Array GenState).size==0,(boot_heap w.params).objs.size,(boot_heap w.params).nsMap mainGlobals "__annotations__")=(true,11,an):=by kernel_rfl
theorem le:ble (12+(1+(448+(434+(420+2))))) 2724=true:=by kernel_rfl
theorem ab(w:World)(os:OsState):some (st 3 227 494 w os).abs=some ⟨H1 w.params,⟨[]⟩,boot_drawn,494,os⟩:=by kernel_rfl
theorem run'(w:World)(os:OsState):topRun treeTable pw w 11 an (12+(1+(448+(434+(420+2))))) ⟨boot_heap w.params,⟨[]⟩,boot_drawn,boot_toks,os⟩ (topStub pw)=some ⟨H1 w.params,⟨[]⟩,boot_drawn,494,os⟩:=Eq.trans (run w os) (ab w os)
theorem left:LeftO pw q lo Xt hk.obs hk.val 2724 true:=
 @LeftO.of_pieces pw q lo Xt hk.α hk.obs hk.val 2724 true boot_heap H1 ⟨[]⟩ ⟨[]⟩ boot_drawn boot_drawn boot_toks 494 11 an (12+(1+(448+(434+(420+2))))) op sz run' le (λw=>funext λos=>Prod.ext (JB w os) (Prod.ext (JC w os) (JD w os)))
end
end DL.sI.H
namespace DL
open PySem PySem.Spec PyProof.Rows L2
theorem JE(n:Nat):Iv n (upTo n) (upTo n):=⟨aG n,aG n,λp hp=>by rw[ao hp,toNat_natCast];exact⟨by omega,by omega,ao hp⟩,λp hp=>by rw[ao hp,toNat_natCast];exact⟨by omega,by omega,ao hp⟩⟩
theorem CH:∀n:Nat,n<8->kW (upTo n)=0:=by decide +kernel
def fl(n:Nat)(l:List Int):List Int:=l.map λx=>(n:Int)-1-x
theorem uK{l:List Int}{p:Nat}(h:p<l.length):aa l.reverse p=aa l (l.length-1-p):=by
 unfold aa
 rw[List.getElem?_reverse h]
theorem bM(n:Nat):Iv n (upTo n) (upTo n):=⟨aG n,aG n,λp hp=>by rw[ao hp,toNat_natCast];exact⟨by omega,by omega,ao hp⟩,λp hp=>by rw[ao hp,toNat_natCast];exact⟨by omega,by omega,ao hp⟩⟩
inductive Rc (n:Nat):RP->RP->RP->RP->Prop
 |nil (p q:RP):Rc n p q p q
 |step {p q p' q':RP} {j:Nat}:j+1<n->aa p.1 j<aa p.1 (j+1)->aa q.2 (j+1)<aa q.2 j->Rc n (lG p j) (gE q j) p' q'->Rc n p q p' q'
theorem Rc.iv {n:Nat}{p q p' q':RP}(h:Rc n p q p' q'):Iv n p.1 p.2->Iv n q.1 q.2->Iv n p'.1 p'.2/\Iv n q'.1 q'.2:=by
 induction h with
 |nil p q=>exact λa b=>⟨a,b⟩
 |step hj h1 h2 _ ih=>exact λa b=>ih (bQ a hj) (bR b hj)
theorem Rc.QT {n:Nat}{p q p' q' p0 q0:RP}(uG:Iv n p0.1 p0.2)(h:Rc n p q p' q'):∀y,Iv n p.1 p.2->Iv n q.1 q.2->oi n p0 q0 p q y->∃y',oi n p0 q0 p' q' y':=by
 induction h with
 |nil p q=>exact λy _ _ o=>⟨y,o⟩
 |step hj h1 h2 _ ih=>exact λy a b o=>ih _ (bQ a hj) (bR b hj) (o.step uG a b hj h1 h2)
theorem jA{n:Nat}:∀(f:Nat)(p q:RP),Iv n p.1 p.2->Iv n q.1 q.2->Rc n p q (dI f p q).1 (dI f p q).2
 |0,p,q,_,_=>.nil p q
 |f+1,p,q,ip,iq=>by
  cases h:(lQ p q).getLast? with
  |none=>rw[mz _ h];exact .nil p q
  |some k=>
   obtain⟨j,rfl,hj,h1,h2⟩:=mx ip iq (mem_of_getLast? h)
   rw[my f h,show((j:Int)+1-1).toNat=j by omega]
   exact .step hj h1 h2 (jA f _ _ (bQ ip hj) (bR iq hj))
theorem oi.starts {n:Nat}{p q p' c' v:RP}(o:oi n p q p' c' v)(wH:Iv n p'.1 p'.2)(vj:Iv n c'.1 c'.2)(hf:lQ p' c'=[]){a:Nat}(ha:a+1<n)(hp:aa p.1 a<aa p.1 (a+1))(hq:aa q.2 (a+1)<aa q.2 a):aa v.2 (a+1)<aa v.2 a:=by
 refine byContradiction λhc=>?_
 have iv:=o.iy
 obtain⟨x1,x2,x3⟩:=iv.sr a (by omega)
 obtain⟨y1,y2,y3⟩:=iv.sr (a+1) ha
 have qa:=o.pq a (by omega)
 have qb:=o.pq (a+1) ha
 generalize hx:(aa v.2 a).toNat=x at*
 generalize hy:(aa v.2 (a+1)).toNat=y at*
 have hxy:x<y:=by
  have:x≠y:=λe=>by rw[e,y3]at x3;omega
  omega
 obtain⟨i,i1,i2,f1,f2⟩:=switch (λi=>decide (aa c'.2 i<aa q.2 a)) (y-x) x (by rw[decide_eq_false];omega) (by rw[show x+(y-x)=y by omega,decide_eq_true];omega)
 have f1:=of_decide_eq_false f1
 have f2:=of_decide_eq_true f2
 have hin:i+1<n:=by omega
 have t1:=(cG wH vj).mp hf i hin (by omega)
 have t2:=o.aq i (i+1) (by omega) hin (by omega)
 obtain⟨g1,g2,g3⟩:=iv.rs i (by omega)
 obtain⟨h1,h2,h3⟩:=iv.rs (i+1) hin
 rw[o.pl i (by omega),o.pl (i+1) hin]at t1
 generalize hg:(aa v.1 i).toNat=g at*
 generalize hh:(aa v.1 (i+1)).toNat=h at*
 rcases lt_or_ge a g with c|c
 ·have gn:g≠a+1:=λe=>by rw[e]at g3;omega
  have:=o.aq i y (by omega) (by omega) (by omega)
  omega
 ·have tg:aa p.1 g<=aa p.1 a:=by
   rcases lt_or_ge g a with d|d
   ·have:x≠i:=λe=>by rw[e]at x3;omega
    exact Int.le_of_lt (o.ap g a d (by omega) (by omega))
   ·rw[show g=a by omega];exact Int.le_refl _
  rcases lt_or_ge a h with d|d
  ·have th:aa p.1 (a+1)<=aa p.1 h:=by
    rcases lt_or_ge (a+1) h with e|e
    ·have:i+1≠y:=λz=>by rw[<-z]at y3;omega
     exact Int.le_of_lt (o.ap (a+1) h e (by omega) (by omega))
    ·rw[show h=a+1 by omega];exact Int.le_refl _
   omega
  ·have:=o.aq x (i+1) (by omega) hin (by omega)
   omega
theorem xX{a i j:Nat}(h:i<j)(hne:¬(i=a/\j=a+1)):sw a i<sw a j:=by
 unfold sw
 repeat' split
 all_goals omega
theorem ph{a:Nat}{x y:Int}(h:x<y)(hne:¬(x=a/\y=(a:Int)+1)):sg a x<sg a y:=by
 unfold sg
 repeat' split
 all_goals omega
theorem oi.pop {n:Nat}{p q p' c' v:RP}(o:oi n p q p' c' v)(ip:Iv n p.1 p.2)(iq:Iv n q.1 q.2){j:Nat}(hj:j+1<n)(hv:aa v.2 (j+1)<aa v.2 j):oi n (lG p j) (gE q j) p' c' (gE v j):=by
 have iv:=o.iy
 refine⟨bR iv hj,λt ht=>?_,λt ht=>?_,λi i' HK y7 h=>?_,λi i' HK y7 h=>?_,λt ht=>?_⟩
 ·obtain⟨h1,h2,_⟩:=ip.sr t ht
  show aa p'.2 t=aa (dZ v.2 j) (aa (mw p.2 j) t).toNat
  rw[aH (by rw[ip.ls];exact ht),bX (by rw[iv.ls];exact hj),xS _ h1,o.pp t ht]
 ·show aa (dZ q.2 j) t=aa c'.2 (aa (dZ v.2 j) t).toNat
  rw[bX (by rw[iq.ls];exact hj),bX (by rw[iv.ls];exact hj),o.pq _ (om hj ht)]
 ·change aa (dZ v.2 j) i'<aa (dZ v.2 j) i at h
  show aa (dZ p.1 j) i<aa (dZ p.1 j) i'
  rw[bX (by rw[iv.ls];exact hj),bX (by rw[iv.ls];exact hj)]at h
  rw[bX (by rw[ip.lr];exact hj),bX (by rw[ip.lr];exact hj)]
  have hne:¬(i=j/\i'=j+1):=λ⟨a,b⟩=>by
   subst a;subst b
   unfold sw at h
   rw[if_pos rfl,if_neg (by omega),if_pos rfl]at h
   omega
  exact o.ap _ _ (xX HK hne) (om hj y7) h
 ·show aa (mw v.1 j) i<aa (mw v.1 j) i'
  have h2:=o.aq i i' HK y7 h
  rw[aH (by rw[iv.lr];omega),aH (by rw[iv.lr];exact y7)]
  refine ph h2 λ⟨a,b⟩=>?_
  obtain⟨_,_,e1⟩:=iv.rs i (by omega)
  obtain⟨_,_,e2⟩:=iv.rs i' y7
  rw[a,toNat_natCast]at e1
  rw[b,show((j:Int)+1).toNat=j+1 by omega]at e2
  omega
 ·obtain⟨h1,h2,_⟩:=iv.rs t ht
  show aa p'.1 t=aa (dZ p.1 j) (aa (mw v.1 j) t).toNat
  rw[aH (by rw[iv.lr];exact ht),bX (by rw[ip.lr];exact hj),xS _ h1,o.pl t ht]
theorem Rc.to {n:Nat}{p0 q0 p q p' c':RP}(h:Rc n p0 q0 p q):Iv n p0.1 p0.2->Iv n q0.1 q0.2->∀y,oi n p0 q0 p' c' y->Iv n p'.1 p'.2->Iv n c'.1 c'.2->lQ p' c'=[]->∃v,oi n p q p' c' v:=by
 induction h with
 |nil p q=>exact λ_ _ y o _ _ _=>⟨y,o⟩
 |step hj h1 h2 _ ih=>exact λip iq y o wH vj hf=>ih (bQ ip hj) (bR iq hj) _ (o.pop ip iq hj (o.starts wH vj hf hj h1 h2)) wH vj hf
theorem oi.same {n:Nat}{p q p' c' v:RP}(o:oi n p q p' c' v)(ip:Iv n p.1 p.2)(iq:Iv n q.1 q.2)(wH:Iv n p'.1 p'.2)(vj:Iv n c'.1 c'.2)(hf:lQ p q=[]):p'=p/\c'=q:=by
 have iv:=o.iy
 have hs:¬AD n v:=λ⟨a,ha,hd⟩=>by
  have h1:=o.pq.KA iv vj o.aq ha hd
  have h2:=o.ap a (a+1) (by omega) ha hd
  have:=(cG ip iq).mp hf a ha h1
  omega
 have e:=kN iv (bM n) hs
 have c:∀t,t<n->(aa (upTo n) t).toNat=t:=λt ht=>by rw[ao ht];exact toNat_natCast t
 constructor
 ·refine kq wH ip (bP (by rw[wH.lr,ip.lr]) λt ht=>?_)
  rw[wH.lr]at ht
  rw[o.pl t ht,e]
  dsimp only
  rw[c t ht]
 ·have e2:c'.2=q.2:=bP (by rw[vj.ls,iq.ls]) λt ht=>by
   rw[vj.ls]at ht
   rw[o.pq t ht,e]
   dsimp only
   rw[c t ht]
  refine kq vj iq (Iv.uniq (n:=n) (s:=q.2) ?_ iq)
  rw[<-e2]
  exact vj
theorem Rc.one {n:Nat}{p0 q0 p q p' c':RP}(uG:Iv n p0.1 p0.2)(Ez:Iv n q0.1 q0.2)(h:Rc n p0 q0 p q)(hf:lQ p q=[])(h':Rc n p0 q0 p' c')(QU:lQ p' c'=[]):p'=p/\c'=q:=by
 obtain⟨y,o⟩:=h'.QT uG _ uG Ez (oi.start uG (bM n))
 obtain⟨v,o2⟩:=h.to uG Ez y o (h'.iv uG Ez).1 (h'.iv uG Ez).2 QU
 exact o2.same (h.iv uG Ez).1 (h.iv uG Ez).2 (h'.iv uG Ez).1 (h'.iv uG Ez).2 hf
theorem wI(f:Int->Int):∀(l:List Int)(a:Nat),dZ (l.map f) a=(dZ l a).map f
 |[],a=>by cases a<;>rfl
 |[x],0=>rfl
 |[x],a+1=>by cases a<;>rfl
 |x::y::l,0=>rfl
 |x::y::l,a+1=>by
  show dZ (f x::map f (y::l)) (a+1)=_
  rw[uE,uE,wI f (y::l) a]
  rfl
inductive mT (n:Nat):List RP->List RP->Prop
 |here {p q:RP} {B:List RP} {j:Nat}:j+1<n->aa p.1 j<aa p.1 (j+1)->aa q.2 (j+1)<aa q.2 j->mT n (p::q::B) (lG p j::gE q j::B)
 |next {p:RP} {L L':List RP}:mT n L L'->mT n (p::L) (p::L')
inductive fq (n:Nat):List RP->List RP->Prop
 |nil (L:List RP):fq n L L
 |cons {L L' JF:List RP}:mT n L L'->fq n L' JF->fq n L JF
theorem fq.trans {n:Nat}{L L' JF:List RP}(h:fq n L L'):fq n L' JF->fq n L JF:=by
 induction h with
 |nil=>exact id
 |cons s _ ih=>exact λg=>.cons s (ih g)
theorem fq.next {n:Nat}(p:RP){L L':List RP}(h:fq n L L'):fq n (p::L) (p::L'):=by
 induction h with
 |nil=>exact .nil _
 |cons s _ ih=>exact .cons (.next s) ih
theorem fq.app {n:Nat}(A:List RP){L L':List RP}(h:fq n L L'):fq n (A++L) (A++L'):=by
 induction A with
 |nil=>exact h
 |cons p A ih=>exact ih.next p
theorem mT.Bq {n:Nat}(B:List RP){L L':List RP}(h:mT n L L'):mT n (L++B) (L'++B):=by
 induction h with
 |here hj h1 h2=>exact .here hj h1 h2
 |next _ ih=>exact .next ih
theorem fq.Bq {n:Nat}(B:List RP){L L':List RP}(h:fq n L L'):fq n (L++B) (L'++B):=by
 induction h with
 |nil=>exact .nil _
 |cons s _ ih=>exact .cons (s.Bq B) ih
theorem Rc.CI {n:Nat}{p q p' q':RP}(h:Rc n p q p' q')(B:List RP):fq n (p::q::B) (p'::q'::B):=by
 induction h with
 |nil=>exact .nil _
 |step hj h1 h2 _ ih=>exact .cons (.here hj h1 h2) ih
theorem mT.iv {n:Nat}{L L':List RP}(h:mT n L L'):aD n L->aD n L':=by
 induction h with
 |here hj h1 h2=>
  intro hI x hx
  rcases mem_cons.mp hx with rfl|hx
  ·exact bQ (hI _ (by simp)) hj
  ·rcases mem_cons.mp hx with rfl|hx
   ·exact bR (hI _ (by simp)) hj
   ·exact hI x (by simp[hx])
 |next _ ih=>
  intro hI x hx
  rcases mem_cons.mp hx with rfl|hx
  ·exact hI _ (by simp)
  ·exact ih (λy hy=>hI y (by simp[hy])) x hx
theorem fq.iv {n:Nat}{L L':List RP}(h:fq n L L'):aD n L->aD n L':=by
 induction h with
 |nil=>exact id
 |cons s _ ih=>exact λhI=>ih (s.iv hI)
def mU(L:List RP):Nat:=(L.map λp=>kW p.1).sum
def wt:List RP->Nat
 |[]=>0
 |_::L=>wt L+mU L
theorem mT.mU {n:Nat}{L L':List RP}(h:mT n L L'):aD n L->DL.mU L'=DL.mU L/\wt L'<wt L:=by
 induction h with
 | @here p q B j hj h1 h2=>
  intro hI
  have ip:=hI p (by simp)
  have iq:=hI q (by simp)
  have e1:kW (lG p j).1=kW p.1+1:=(qe ip hj).1 h1
  have e2:kW (gE q j).1+1=kW q.1:=by
   rw[nC (bR iq hj),nC iq]
   exact(qe iq.symm hj).2 h2
  unfold DL.mU wt wt DL.mU
  simp_all only [map_cons,sum_cons]
  omega
 | @next p L L' _ ih=>
  intro hI
  obtain⟨a,b⟩:=ih λy hy=>hI y (by simp[hy])
  unfold wt
  rw[a]
  refine⟨?_,by omega⟩
  unfold DL.mU at a⊢
  simp_all only [map_cons,sum_cons]
  omega
theorem CJ(q:RP)(i j:Nat):lG (gE q j) i=gE (lG q i) j:=by
 unfold lG gE mw
 rw[wI,wI]
theorem mT.side {n:Nat}{p q:RP}{B L:List RP}{j:Nat}(hj:j+1<n)(h1:aa p.1 j<aa p.1 (j+1))(h2:aa q.2 (j+1)<aa q.2 j)(iq:Iv n q.1 q.2)(s:mT n (q::B) L):
  ∃M,fq n (lG p j::gE q j::B) M/\fq n (p::L) M:=by
 cases s with
 | @here _ r B' i hi g1 g2=>
  refine⟨lG p j::lG (gE q j) i::gE r i::B',.cons (.next (.here hi ?_ g2)) (.nil _),?_⟩
  ·show aa (mw q.1 j) i<aa (mw q.1 j) (i+1)
   rw[aH (by rw[iq.lr];omega),aH (by rw[iq.lr];exact hi)]
   refine ph g1 λ⟨a,b⟩=>?_
   have e1:=(iq.rs i (by omega)).2.2
   have e2:=(iq.rs (i+1) hi).2.2
   rw[a,toNat_natCast]at e1
   rw[b,show((j:Int)+1).toNat=j+1 by omega]at e2
   omega
  ·rw[CJ]
   refine .cons (.here hj h1 ?_) (.nil _)
   show aa (mw q.2 i) (j+1)<aa (mw q.2 i) j
   rw[aH (by rw[iq.ls];exact hj),aH (by rw[iq.ls];omega)]
   refine ph h2 λ⟨a,b⟩=>?_
   have e1:=(iq.sr (j+1) hj).2.2
   have e2:=(iq.sr j (by omega)).2.2
   rw[a,toNat_natCast]at e1
   rw[b,show((i:Int)+1).toNat=i+1 by omega]at e2
   omega
 | @next _ _ B2 s=>exact⟨lG p j::gE q j::B2,.cons (.next (.next s)) (.nil _),.cons (.here hj h1 h2) (.nil _)⟩
theorem mT.join {n:Nat}(hn:n<=7){L L1:List RP}(h:mT n L L1):∀{L2:List RP},aD n L->mT n L L2->∃M,fq n L1 M/\fq n L2 M:=by
 induction h with
 | @here p q B j hj h1 h2=>
  intro L2 hI s
  have ip:=hI p (by simp)
  have iq:=hI q (by simp)
  cases s with
  | @here _ _ _ i hi g1 g2=>
   have r1:=jA (n:=n) 50 _ _ (bQ ip hj) (bR iq hj)
   have r2:=jA (n:=n) 50 _ _ (bQ ip hi) (bR iq hi)
   obtain⟨a,b⟩:=Rc.one ip iq (.step hj h1 h2 r1) (o8 hn 50 _ _ (bQ ip hj) (bR iq hj) (by omega)) (.step hi g1 g2 r2) (o8 hn 50 _ _ (bQ ip hi) (bR iq hi) (by omega))
   have s2:=r2.CI B
   rw[a,b]at s2
   exact⟨_,r1.CI B,s2⟩
  |next s=>exact mT.side hj h1 h2 iq s
 | @next p L L1 s1 ih=>
  intro L2 hI s
  cases s with
  | @here _ q B j hj h1 h2=>
   obtain⟨M,a,b⟩:=mT.side (p:=p) hj h1 h2 (hI q (by simp)) s1
   exact⟨M,b,a⟩
  |next s=>
   obtain⟨M,a,b⟩:=ih (λy hy=>hI y (by simp[hy])) s
   exact⟨p::M,a.next p,b.next p⟩
def Nf(n:Nat)(L:List RP):Prop:=∀L',¬mT n L L'
theorem JG{n:Nat}:∀(m:Nat)(L:List RP),wt L<=m->aD n L->∃N,fq n L N/\Nf n N:=λm=>by
 induction m with
 |zero=>exact λL h hI=>⟨L,.nil _,λL' s=>by have:=(s.mU hI).2;omega⟩
 |succ m ih=>
  intro L h hI
  rcases Classical.em (∃L',mT n L L')with⟨L',s⟩|hs
  ·obtain⟨N,a,b⟩:=ih L' (by have:=(s.mU hI).2;omega) (s.iv hI)
   exact⟨N,.cons s a,b⟩
  ·exact⟨L,.nil _,λL' s=>hs ⟨L',s⟩⟩
theorem AL{n:Nat}(hn:n<=7):∀(m:Nat)(L:List RP),wt L<=m->aD n L->∀{N1 N2:List RP},fq n L N1->Nf n N1->fq n L N2->Nf n N2->N1=N2:=λm=>by
 induction m with
 |zero=>
  intro L h hI N1 N2 a _ b _
  have z:∀{N},fq n L N->N=L:=λ{N} s=>by
   cases s with
   |nil=>rfl
   |cons s _=>have:=(s.mU hI).2;omega
  rw[z a,z b]
 |succ m ih=>
  intro L h hI N1 N2 a n1 b n2
  cases a with
  |nil=>
   cases b with
   |nil=>rfl
   |cons s _=>exact absurd s (n1 _)
  | @cons _ L1 _ s1 a=>
   cases b with
   |nil=>exact absurd s1 (n2 _)
   | @cons _ L2 _ s2 b=>
    obtain⟨M,u,v⟩:=s1.join hn hI s2
    have w1:=(s1.mU hI).2
    have w2:=(s2.mU hI).2
    obtain⟨N,x,y⟩:=JG (wt M) M (Nat.le_refl _) (u.iv (s1.iv hI))
    rw[ih L1 (by omega) (s1.iv hI) a n1 (u.trans x) y,ih L2 (by omega) (s2.iv hI) b n2 (v.trans x) y]
theorem xY{n:Nat}:∀(ps:List RP)(c:RP),aD n ps->Iv n c.1 c.2->fq n (c::ps).reverse (xR ps c).reverse
 |[],c,_,_=>.nil _
 |p::ps,c,hI,ic=>by
  have ip:=hI p (by simp)
  unfold xR
  split
  ·exact .nil _
  ·obtain⟨i1,_⟩:=HJ.qd (n:=n) 50 ip ic
   have r:=(jA (n:=n) 50 p c ip ic).CI []
   have h:=xY ps (dI 50 p c).1 (λy hy=>hI y (by simp[hy])) i1
   simp -implicitDefEqProofs only [reverse_cons,List.append_assoc]at h⊢
   refine(fq.app ps.reverse r).trans ?_
   have:=h.Bq [(dI 50 p c).2]
   simp -implicitDefEqProofs only [List.append_assoc]at this
   exact this
abbrev Zr(n:Nat):RP:=(upTo n,upTo n)
theorem CK{n:Nat}(hn:n<=7){c:RP}(ic:Iv n c.1 c.2):dI 50 (Zr n) c=(c,Zr n):=by
 have iz:Iv n (Zr n).1 (Zr n).2:=bM n
 have s:=fO hn iz ic (bM n)
 obtain⟨y,o⟩:=s.ex
 have ct:∀t,t<n->(aa (upTo n) t).toNat=t:=λt ht=>by rw[ao ht];exact toNat_natCast t
 have cz:∀t:Int,0<=t->t<n->aa (upTo n) t.toNat=t:=λt h0 ht=>by rw[ao (by omega)];omega
 have e2:(dI 50 (Zr n) c).2=Zr n:=kN s.ic (bM n) λ⟨a,ha,hd⟩=>by
  have h1:=(cG s.ip s.ic).mp s.fr a ha hd
  have h2:=o.aq a (a+1) (by omega) ha hd
  have b1:=o.iy.rs a (by omega)
  have b2:=o.iy.rs (a+1) ha
  rw[o.pl a (by omega),o.pl (a+1) ha]at h1
  dsimp only at h1
  rw[cz _ b1.1 b1.2.1,cz _ b2.1 b2.2.1]at h1
  omega
 have e1:(dI 50 (Zr n) c).1=c:=by
  have h:(dI 50 (Zr n) c).1.2=c.2:=bP (by rw[s.ip.ls,ic.ls]) λt ht=>by
   rw[s.ip.ls]at ht
   have b1:=o.iy.sr t ht
   rw[o.pp t ht,o.pq t ht,e2]
   dsimp only
   rw[ct t ht,cz _ b1.1 b1.2.1]
  refine kq s.ip ic (Iv.uniq (n:=n) (s:=c.2) ?_ ic)
  rw[<-h]
  exact s.ip
 exact Prod.ext e1 e2
theorem wJ{n:Nat}(hn:n<=7):∀(L:List RP),aD n L->fq n (Zr n::L) (L++[Zr n])
 |[],_=>.nil _
 |c::L,hI=>by
  have ic:=hI c (by simp)
  have r:=(jA (n:=n) 50 (Zr n) c (bM n) ic).CI L
  rw[CK hn ic]at r
  exact r.trans ((wJ hn L λy hy=>hI y (by simp[hy])).next c)
theorem mT.at_ {n:Nat}{L L':List RP}(h:mT n L L'):∃A p q B j,L=A++p::q::B/\j+1<n/\aa p.1 j<aa p.1 (j+1)/\aa q.2 (j+1)<aa q.2 j:=by
 induction h with
 | @here p q B j hj h1 h2=>exact⟨[],p,q,B,j,rfl,hj,h1,h2⟩
 | @next p _ _ _ ih=>
  obtain⟨A,x,q,B,j,e,r⟩:=ih
  exact⟨p::A,x,q,B,j,by rw[e];rfl,r⟩
theorem EA{n:Nat}{L:List RP}(h:qE L.reverse)(hI:aD n L):Nf n L:=λL' s=>by
 obtain⟨A,p,q,B,j,e,hj,h1,h2⟩:=s.at_
 have hf:=h.at_ (A:=B.reverse) (B:=A.reverse) (p:=p) (q:=q) (by rw[e];simp)
 have:=(cG (hI p (by rw[e];simp)) (hI q (by rw[e];simp))).mp hf j hj h2
 omega
theorem CL{n:Nat}{p:RP}(ip:Iv n p.1 p.2):lQ p (Zr n)=[]:=(cG ip (bM n)).mpr λj hj h=>by
 dsimp only at h
 rw[ao hj,ao (by omega)]at h
 omega
theorem wK{n:Nat}:∀(k:Nat){R:List RP},aD n R->qE R->qE (replicate k (Zr n)++R)
 |0,R,_,h=>h
 |k+1,R,hI,h=>by
  have ih:=wK k hI h
  rw[replicate_succ,cons_append]
  cases e:replicate k (Zr n)++R with
  |nil=>trivial
  |cons p L=>
   rw[e]at ih
   refine⟨CL (n:=n) ?_,ih⟩
   have:p∈replicate k (Zr n)++R:=by rw[e];simp
   rcases mem_append.mp this with h|h
   ·rw[(mem_replicate.mp h).2];exact bM n
   ·exact hI p h
def cV(n:Nat)(L:List RP):List RP:=L.foldl (sH n) []
theorem uL{n:Nat}(hn:n<=7):∀(L R:List RP),aD n L->qF n R->∃k,fq n (R++L) (L.foldl (sH n) R++replicate k (Zr n))/\qF n (L.foldl (sH n) R)
 |[],R,_,h=>⟨0,by simp_all only [append_nil,List.foldl_nil,replicate_zero];exact .nil _,h⟩
 |c::L,R,hI,h=>by
  have ic:=hI c (by simp)
  have Eu:aD n L:=λy hy=>hI y (by simp[hy])
  obtain⟨k,s,g⟩:=uL hn L (sH n R c) Eu (G9 hn (bM n) h ic)
  have s1:=xY R.reverse c (λy hy=>h.iv y (by simpa using hy)) ic
  rw[reverse_cons,List.reverse_reverse]at s1
  have s2:fq n (R++c::L) (yN R c++L):=by
   have:=s1.Bq L
   simp -implicitDefEqProofs only [List.append_assoc,singleton_append]at this
   exact this
  rw[List.foldl_cons]
  by_cases hd:(yN R c).getLast?=some (upTo n,upTo n)
  ·have e:sH n R c=(yN R c).dropLast:=if_pos hd
   have e2:yN R c=sH n R c++[Zr n]:=by
    rw[e]
    obtain⟨l,hl⟩:=List.getLast?_eq_some_iff.mp hd
    rw[hl,List.dropLast_concat]
   refine⟨k+1,?_,g⟩
   rw[e2,List.append_assoc,singleton_append]at s2
   refine s2.trans ((fq.app _ (wJ hn L Eu)).trans ?_)
   have:=s.Bq [Zr n]
   rw[List.append_assoc,List.append_assoc]at this
   rw[List.replicate_succ']
   exact this
  ·have e:sH n R c=yN R c:=if_neg hd
   refine⟨k,?_,g⟩
   rw[<-e]at s2
   exact s2.trans s
theorem eR{n:Nat}(hn:n<=7){L:List RP}(hI:aD n L):∃k,fq n L (cV n L++replicate k (Zr n))/\qF n (cV n L):=
 uL hn L [] hI ⟨(λx hx=>nomatch hx),trivial,(λx hx=>nomatch hx)⟩
theorem strip{n:Nat}{R:List RP}(h:qF n R)(k:Nat):(R++replicate k (Zr n)).filter (λx=>decide (x≠Zr n))=R:=by
 rw[List.filter_append,List.filter_eq_self.mpr λx hx=>decide_eq_true (G8 (h.ns x hx)),List.filter_eq_nil_iff.mpr λx hx=>by rw[(mem_replicate.mp hx).2];simp,append_nil]
theorem qo{n:Nat}(hn:n<=7){L L':List RP}(hI:aD n L)(s:fq n L L'):cV n L=cV n L':=by
 obtain⟨k,s1,g1⟩:=eR hn hI
 obtain⟨k',s2,g2⟩:=eR hn (s.iv hI)
 have nf:∀{R:List RP}(j:Nat),qF n R->Nf n (R++replicate j (Zr n)):=λ{R} j g=>EA (by
  rw[List.reverse_append,List.reverse_replicate]
  exact wK j (λy hy=>g.iv y (by simpa using hy)) g.lw) λx hx=>by
   rcases mem_append.mp hx with h|h
   ·exact g.iv x h
   ·rw[(mem_replicate.mp h).2];exact bM n
 have e:=AL hn _ L (Nat.le_refl _) hI s1 (nf k g1) (s.trans s2) (nf k' g2)
 rw[<-strip g1 k,e,strip g2 k']
theorem qE.pre:∀{A B:List RP},qE (A++B)->qE A
 |[],_,_=>trivial
 |[_],_,_=>trivial
 |_::q::A,B,h=>⟨h.1,qE.pre (A:=q::A) (B:=B) h.2⟩
theorem sO{l:List Int}{p:Nat}(h:p<l.length):aa l.reverse p=aa l (l.length-1-p):=by
 unfold aa
 rw[List.getElem?_reverse h]
theorem wL{n:Nat}(hn:n<=7){L R:List RP}{k:Nat}(hI:aD n L)(g:qF n R)(s:fq n L (R++replicate k (Zr n))):cV n L=R:=by
 obtain⟨j,s1,g1⟩:=eR hn hI
 have nf:∀{R:List RP}(j:Nat),qF n R->Nf n (R++replicate j (Zr n)):=λ{R} j g=>EA (by
  rw[List.reverse_append,List.reverse_replicate]
  exact wK j (λy hy=>g.iv y (by simpa using hy)) g.lw) λx hx=>by
   rcases mem_append.mp hx with h|h
   ·exact g.iv x h
   ·rw[(mem_replicate.mp h).2];exact bM n
 have e:=AL hn _ L (Nat.le_refl _) hI s1 (nf j g1) s (nf k g)
 rw[<-strip g1 j,e,strip g k]
theorem aD.app {n:Nat}{A B:List RP}(a:aD n A)(b:aD n B):aD n (A++B):=λx hx=>(mem_append.mp hx).elim (a x) (b x)
theorem aD.one {n:Nat}{p:RP}(h:Iv n p.1 p.2):aD n [p]:=λx hx=>by rw[mem_singleton.mp hx];exact h
theorem aD.cons {n:Nat}{p:RP}{L:List RP}(h:Iv n p.1 p.2)(a:aD n L):aD n (p::L):=λx hx=>by
 rcases mem_cons.mp hx with rfl|hx
 ·exact h
 ·exact a x hx
theorem aD.rep {n:Nat}{p:RP}(h:Iv n p.1 p.2)(k:Nat):aD n (replicate k p):=λx hx=>by rw[(mem_replicate.mp hx).2];exact h
theorem sP{n:Nat}(hn:n<=7){A B:List RP}(hA:aD n A)(hB:aD n B):cV n (A++Zr n::B)=cV n (A++B):=by
 obtain⟨k,s,g⟩:=eR hn (hA.app hB)
 refine wL (k:=k+1) hn (hA.app (.cons (bM n) hB)) g ?_
 refine(fq.app A (wJ hn B hB)).trans ?_
 have:=s.Bq [Zr n]
 rw[List.append_assoc,List.append_assoc]at this
 rw[List.replicate_succ']
 exact this
theorem mJ{n:Nat}(hn:n<=7){A B:List RP}(hA:aD n A)(hB:aD n B):∀k,cV n (A++(replicate k (Zr n)++B))=cV n (A++B)
 |0=>rfl
 |k+1=>by
  rw[replicate_succ,cons_append,sP hn hA (aD.app (.rep (bM n) k) hB),mJ hn hA hB k]
theorem qF.tail {n:Nat}{p:RP}{R:List RP}(h:qF n (p::R)):qF n R:=⟨λx hx=>h.iv x (by simp[hx]),by
 have:=h.lw
 rw[reverse_cons]at this
 exact this.pre,λx hx=>h.ns x (by simp[hx])⟩
theorem qF.drop {n:Nat}:∀(k:Nat){R:List RP},qF n R->qF n (R.drop k)
 |0,_,h=>h
 |_+1,[],h=>h
 |k+1,_::_,h=>qF.drop k h.tail
theorem cj{n t:Nat}(h:t<n):aa (upTo n).reverse t=(n:Int)-1-t:=by
 rw[sO (by rw[aG];exact h),aG,ao (by omega)]
 omega
theorem dJ(n:Nat):Iv n (fj n).1 (fj n).2:=by
 have h:∀p,p<n->0<=aa (upTo n).reverse p/\aa (upTo n).reverse p<n/\aa (upTo n).reverse (aa (upTo n).reverse p).toNat=p:=λp hp=>by
  rw[cj hp,cj (by omega)]
  omega
 have l:(upTo n).reverse.length=n:=by rw[length_reverse,aG]
 exact⟨l,l,h,h⟩
theorem AM{n:Nat}{q:RP}(iq:Iv n q.1 q.2):lQ (fj n) q=[]:=(cG (dJ n) iq).mpr λj hj _=>by
 show aa (upTo n).reverse (j+1)<aa (upTo n).reverse j
 rw[cj hj,cj (by omega)]
 omega
theorem AO{n:Nat}(h2:2<=n):AD n (fj n):=⟨0,by omega,by
 show aa (upTo n).reverse 1<aa (upTo n).reverse 0
 rw[cj (by omega),cj (by omega)]
 omega⟩
theorem xZ{p:RP}:∀{L:List RP},qE L->(∀q A,L=A++[q]->lQ p q=[])->qE (L++[p])
 |[],_,_=>trivial
 |[q],_,h=>⟨h q [] rfl,trivial⟩
 |q::r::L,hl,h=>⟨hl.1,xZ (L:=r::L) hl.2 λx A e=>h x (q::A) (by rw[e];rfl)⟩
theorem qF.half {n:Nat}(h2:2<=n){R:List RP}(h:qF n R):qF n (fj n::R):=⟨.cons (dJ n) h.iv,by
 rw[reverse_cons]
 refine xZ h.lw λq A e=>AM (h.iv q ?_)
 have:q∈R.reverse:=by rw[e];simp
 simpa using this,λx hx=>by
  rcases mem_cons.mp hx with rfl|hx
  ·exact AO h2
  ·exact h.ns x hx⟩
theorem qp{n:Nat}(hn:n<=7)(h2:2<=n){L:List RP}(hI:aD n L):cV n (fj n::L)=fj n::cV n L:=by
 obtain⟨k,s,g⟩:=eR hn hI
 exact wL (k:=k) hn (.cons (dJ n) hI) (g.half h2) (s.next _)
def Vl(n:Nat)(h:Int)(L:List RP):Int×List RP:=(h+dh n (cV n L),(cV n L).drop (dh n (cV n L)))
theorem rF{n:Nat}(C:List RP):dh n (fj n::C)=dh n C+1:=by
 unfold dh
 rw[List.takeWhile_cons_of_pos (by simp),length_cons]
theorem sS{n:Nat}(hn:n<=7)(h2:2<=n)(h:Int){L:List RP}(hI:aD n L):Vl n h (fj n::L)=Vl n (h+1) L:=by
 unfold Vl
 rw[qp hn h2 hI,rF,List.drop_succ_cons]
 exact Prod.ext (by show h+((dh n (cV n L)+1:Nat):Int)=h+1+(dh n (cV n L):Nat);omega) rfl
theorem nJ{n:Nat}(hn:n<=7)(h2:2<=n){L:List RP}(hI:aD n L):∀(m:Nat)(h:Int),Vl n h (replicate m (fj n)++L)=Vl n (h+m) L
 |0,h=>by rw[replicate_zero,nil_append,Int.natCast_zero,Int.add_zero]
 |m+1,h=>by
  rw[replicate_succ,cons_append,sS hn h2 h (aD.app (.rep (dJ n) m) hI),nJ hn h2 hI m (h+1),show h+1+(m:Int)=h+((m+1:Nat):Int)by omega]
theorem kE{n:Nat}(hn:n<=7)(h:Int){L L':List RP}(hI:aD n L)(s:fq n L L'):Vl n h L=Vl n h L':=by
 unfold Vl
 rw[qo hn hI s]
theorem sU{n:Nat}(hn:n<=7)(h:Int){A B:List RP}(hA:aD n A)(hB:aD n B):Vl n h (A++Zr n::B)=Vl n h (A++B):=by
 unfold Vl
 rw[sP hn hA hB]
theorem sV{n:Nat}(hn:n<=7)(h:Int){A B:List RP}(hA:aD n A)(hB:aD n B)(k:Nat):Vl n h (A++(replicate k (Zr n)++B))=Vl n h (A++B):=by
 unfold Vl
 rw[mJ hn hA hB]
theorem AQ{n:Nat}(hn:n<=7)(h:Int){L:List RP}(hI:aD n L):∃m k:Nat,(Vl n h L).1=h+m/\aD n (Vl n h L).2/\fq n L (replicate m (fj n)++((Vl n h L).2++replicate k (Zr n))):=by
 obtain⟨k,s,g⟩:=eR hn hI
 refine⟨dh n (cV n L),k,rfl,(qF.drop _ g).iv,?_⟩
 have e:=mB (n:=n) (cV n L)
 rw[<-List.append_assoc]
 show fq n L (replicate (dh n (cV n L)) (fj n)++(cV n L).drop (dh n (cV n L))++_)
 rw[<-e]
 exact s
theorem iY{n:Nat}(hn:n<=7)(h2:2<=n)(h:Int){L B:List RP}(hI:aD n L)(hB:aD n B):Vl n h (L++B)=Vl n (Vl n h L).1 ((Vl n h L).2++B):=by
 obtain⟨m,k,e,hT,s⟩:=AQ hn h hI
 rw[e,kE hn h (hI.app hB) (s.Bq B),List.append_assoc,List.append_assoc,nJ hn h2 (aD.app hT (aD.app (.rep (bM n) k) hB))]
 exact sV hn _ hT hB k
theorem uM{n:Nat}{l:List Int}{p:Nat}(h:p<l.length):aa (fl n l) p=(n:Int)-1-aa l p:=by
 have:=ko h
 unfold fl
 conv=>lhs;unfold aa
 rw[getElem?_map,this]
 rfl
def f6(n:Nat)(p:RP):RP:=(fl n p.1.reverse,fl n p.2.reverse)
theorem bG{n:Nat}{l:List Int}(hl:l.length=n){t:Nat}(h:t<n):aa (fl n l.reverse) t=(n:Int)-1-aa l (n-1-t):=by
 rw[uM (by rw[length_reverse,hl];exact h),sO (by rw[hl];exact h),hl]
theorem bS{n:Nat}{l:List Int}(hl:l.length=n):(fl n l.reverse).length=n:=by unfold fl;rw[length_map,length_reverse,hl]
theorem qq{n:Nat}{p:RP}(h:Iv n p.1 p.2):Iv n (f6 n p).1 (f6 n p).2:=by
 have g:∀{r s:List Int},Iv n r s->∀t,t<n->0<=aa (fl n r.reverse) t/\aa (fl n r.reverse) t<n/\aa (fl n s.reverse) (aa (fl n r.reverse) t).toNat=t:=λ{r s} h t ht=>by
  obtain⟨a,b,c⟩:=h.rs (n-1-t) (by omega)
  rw[bG h.lr ht]
  refine⟨by omega,by omega,?_⟩
  rw[bG h.ls (by omega),show n-1-((n:Int)-1-aa r (n-1-t)).toNat=(aa r (n-1-t)).toNat by omega,c]
  omega
 exact⟨bS h.lr,bS h.ls,g h,g h.symm⟩
theorem x5{n:Nat}{p:RP}(h:Iv n p.1 p.2):f6 n (f6 n p)=p:=by
 have g:∀{l:List Int},l.length=n->fl n (fl n l.reverse).reverse=l:=λ{l} hl=>bP (by rw[bS (bS hl),hl]) λt ht=>by
  rw[bS (bS hl)]at ht
  rw[bG (bS hl) ht,bG hl (by omega),show n-1-(n-1-t)=t by omega]
  omega
 exact Prod.ext (g h.lr) (g h.ls)
theorem x6{n:Nat}{l:List Int}(hl:l.length=n){j:Nat}(hj:j+1<n):fl n (dZ l j).reverse=dZ (fl n l.reverse) (n-2-j):=by
 have h1:(dZ l j).length=n:=by rw[cu,hl]
 refine bP (by rw[bS h1,cu,bS hl]) λt ht=>?_
 rw[bS h1]at ht
 rw[bG h1 ht,aW _ _ (by rw[hl];exact hj),aW _ _ (by rw[bS hl];omega),bG hl (by omega),bG hl (by omega),bG hl ht]
 by_cases c:t=n-2-j
 ·rw[if_pos c,if_neg (by omega),if_pos (by omega),show n-1-(n-2-j+1)=j by omega]
 ·rw[if_neg c]
  by_cases d:t=n-2-j+1
  ·rw[if_pos d,if_pos (by omega),show n-1-(n-2-j)=j+1 by omega]
  ·rw[if_neg d,if_neg (by omega),if_neg (by omega)]
theorem x8{n:Nat}{l:List Int}(hl:l.length=n)(hb:∀t,t<n->0<=aa l t/\aa l t<n){j:Nat}(hj:j+1<n):fl n (mw l j).reverse=mw (fl n l.reverse) (n-2-j):=by
 have h1:(mw l j).length=n:=by rw[o6,hl]
 refine bP (by rw[bS h1,o6,bS hl]) λt ht=>?_
 rw[bS h1]at ht
 have:=hb (n-1-t) (by omega)
 rw[bG h1 ht,aH (by rw[hl];omega),aH (by rw[bS hl];exact ht),bG hl ht]
 unfold sg
 repeat' split
 all_goals omega
theorem CM{n:Nat}{p:RP}(h:Iv n p.1 p.2){j:Nat}(hj:j+1<n):f6 n (lG p j)=lG (f6 n p) (n-2-j):=
 Prod.ext (x6 h.lr hj) (x8 h.ls (λt ht=>⟨(h.sr t ht).1,(h.sr t ht).2.1⟩) hj)
theorem CN{n:Nat}{p:RP}(h:Iv n p.1 p.2){j:Nat}(hj:j+1<n):f6 n (gE p j)=gE (f6 n p) (n-2-j):=
 Prod.ext (x8 h.lr (λt ht=>⟨(h.rs t ht).1,(h.rs t ht).2.1⟩) hj) (x6 h.ls hj)
theorem aD.f6 {n:Nat}{L:List RP}(h:aD n L):aD n (L.map (DL.f6 n)):=λx hx=>by
 obtain⟨y,hy,rfl⟩:=mem_map.mp hx
 exact qq (h y hy)
theorem mT.f6 {n:Nat}{L L':List RP}(h:mT n L L'):aD n L->mT n (L.map (DL.f6 n)) (L'.map (DL.f6 n)):=by
 induction h with
 | @here p q B j hj h1 h2=>
  intro hI
  have ip:=hI p (by simp)
  have iq:=hI q (by simp)
  simp_all only [map_cons]
  rw[CM ip hj,CN iq hj]
  refine .here (by omega) ?_ ?_
  ·show aa (fl n p.1.reverse) (n-2-j)<aa (fl n p.1.reverse) (n-2-j+1)
   rw[bG ip.lr (by omega),bG ip.lr (by omega),show n-1-(n-2-j)=j+1 by omega,show n-1-(n-2-j+1)=j by omega]
   omega
  ·show aa (fl n q.2.reverse) (n-2-j+1)<aa (fl n q.2.reverse) (n-2-j)
   rw[bG iq.ls (by omega),bG iq.ls (by omega),show n-1-(n-2-j)=j+1 by omega,show n-1-(n-2-j+1)=j by omega]
   omega
 |next _ ih=>
  intro hI
  exact .next (ih λy hy=>hI y (by simp[hy]))
theorem fq.f6 {n:Nat}{L L':List RP}(h:fq n L L'):aD n L->fq n (L.map (DL.f6 n)) (L'.map (DL.f6 n)):=by
 induction h with
 |nil=>exact λ_=>.nil _
 |cons s _ ih=>exact λhI=>.cons (s.f6 hI) (ih (s.iv hI))
theorem AR(n:Nat):f6 n (fj n)=fj n:=by
 have:fl n (upTo n).reverse.reverse=(upTo n).reverse:=bP (by rw[bS (by rw[length_reverse,aG]),length_reverse,aG]) λt ht=>by
  rw[bS (by rw[length_reverse,aG])]at ht
  rw[bG (by rw[length_reverse,aG]) ht,cj (by omega),cj ht]
  omega
 exact Prod.ext this this
theorem CO(n:Nat):f6 n (Zr n)=Zr n:=by
 have:fl n (upTo n).reverse=upTo n:=bP (by rw[bS (aG n),aG]) λt ht=>by
  rw[bS (aG n)]at ht
  rw[bG (aG n) ht,ao (by omega),ao ht]
  omega
 exact Prod.ext this this
theorem Ha{n:Nat}(hn:n<=7)(h2:2<=n)(h:Int){L B:List RP}(hI:aD n L)(hB:aD n B)(d:Int):Vl n (h+d) (L.map (f6 n)++B)=Vl n ((Vl n h L).1+d) ((Vl n h L).2.map (f6 n)++B):=by
 obtain⟨m,k,e,hT,s⟩:=AQ hn h hI
 have s2:=s.f6 hI
 simp -implicitDefEqProofs only [map_append,List.map_replicate,AR,CO]at s2
 rw[e,kE hn _ (hI.f6.app hB) (s2.Bq B),List.append_assoc,List.append_assoc,nJ hn h2 (aD.app hT.f6 (aD.app (.rep (bM n) k) hB)),show h+d+(m:Int)=h+m+d by omega]
 exact sV hn _ hT.f6 hB k
theorem sW{n:Nat}{p q:RP}(h:Iv n p.1 p.2)(g:Iv n q.1 q.2)(e:∀t,t<n->aa p.2 t=aa q.2 t):p=q:=by
 have e2:p.2=q.2:=bP (by rw[h.ls,g.ls]) λt ht=>e t (by rw[h.ls]at ht;exact ht)
 refine kq h g (Iv.uniq (n:=n) (s:=q.2) ?_ g)
 rw[<-e2]
 exact h
theorem oi.all {n:Nat}{p q p' c' y:RP}(o:oi n p q p' c' y)(ip:Iv n p.1 p.2){t:Nat}(ht:t<n):aa c'.2 (aa p'.2 t).toNat=aa q.2 (aa p.2 t).toNat:=by
 have:=ip.sr t ht
 rw[o.pp t ht,o.pq _ (by omega)]
theorem uN{n:Nat}(hn:n<=7){p q:RP}(ip:Iv n p.1 p.2)(iq:Iv n q.1 q.2)(hd:∀t,t<n->aa q.2 (aa p.2 t).toNat=(n:Int)-1-t):dI 50 p q=(fj n,Zr n):=by
 have s:=fO hn ip iq (bM n)
 obtain⟨y,o⟩:=s.ex
 have hp:(dI 50 p q).1=fj n:=kq s.ip (dJ n) (rD s.ip λj hj=>by
  obtain⟨a1,a2,a3⟩:=s.ip.rs j (by omega)
  obtain⟨b1,b2,b3⟩:=s.ip.rs (j+1) hj
  have e1:=o.all ip (t:=(aa (dI 50 p q).1.1 j).toNat) (by omega)
  have e2:=o.all ip (t:=(aa (dI 50 p q).1.1 (j+1)).toNat) (by omega)
  rw[a3,toNat_natCast,hd _ (by omega)]at e1
  rw[b3,toNat_natCast,hd _ (by omega)]at e2
  refine byContradiction λhc=>?_
  have hne:aa (dI 50 p q).1.1 j≠aa (dI 50 p q).1.1 (j+1):=λz=>by rw[z,b3]at a3;omega
  have:=(cG s.ip s.ic).mp s.fr j hj (by omega)
  omega)
 refine Prod.ext hp (sW s.ic (bM n) λt ht=>?_)
 have e:=o.all ip (t:=n-1-t) (by omega)
 rw[hp,hd _ (by omega)]at e
 change aa (dI 50 p q).2.2 (aa (upTo n).reverse (n-1-t)).toNat=_ at e
 rw[cj (by omega),show((n:Int)-1-((n-1-t:Nat):Int)).toNat=t by omega]at e
 show _=aa (upTo n) t
 rw[ao ht,e]
 omega
theorem AS{n:Nat}(hn:n<=7){c:RP}(ic:Iv n c.1 c.2):dI 50 c (fj n)=(fj n,f6 n c):=by
 have s:=fO hn ic (dJ n) (bM n)
 obtain⟨y,o⟩:=s.ex
 have hd:∀t,t<n->aa (dI 50 c (fj n)).2.2 (aa (dI 50 c (fj n)).1.2 t).toNat=(n:Int)-1-aa c.2 t:=λt ht=>by
  have:=ic.sr t ht
  rw[o.all ic ht]
  show aa (upTo n).reverse _=_
  rw[cj (by omega)]
  omega
 have hp:(dI 50 c (fj n)).1=fj n:=kq s.ip (dJ n) (rD s.ip λj hj=>by
  obtain⟨a1,a2,a3⟩:=s.ip.rs j (by omega)
  obtain⟨b1,b2,b3⟩:=s.ip.rs (j+1) hj
  have e1:=hd (aa (dI 50 c (fj n)).1.1 j).toNat (by omega)
  have e2:=hd (aa (dI 50 c (fj n)).1.1 (j+1)).toNat (by omega)
  rw[a3,toNat_natCast]at e1
  rw[b3,toNat_natCast]at e2
  refine byContradiction λhc=>?_
  have hne:aa (dI 50 c (fj n)).1.1 j≠aa (dI 50 c (fj n)).1.1 (j+1):=λz=>by rw[z,b3]at a3;omega
  have h3:¬aa (dI 50 c (fj n)).2.2 (j+1)<aa (dI 50 c (fj n)).2.2 j:=λz=>by
   have:=(cG s.ip s.ic).mp s.fr j hj z
   omega
  generalize hs1:(aa (dI 50 c (fj n)).1.1 j).toNat=s1 at*
  generalize hs2:(aa (dI 50 c (fj n)).1.1 (j+1)).toNat=s2 at*
  obtain⟨u1,u2,u3⟩:=ic.sr s1 (by omega)
  obtain⟨v1,v2,v3⟩:=ic.sr s2 (by omega)
  have QV:aa c.2 s1≠aa c.2 s2:=λz=>by rw[z,v3]at u3;omega
  have p1:=o.pp s1 (by omega)
  have p2:=o.pp s2 (by omega)
  rw[a3]at p1
  rw[b3]at p2
  have:=o.ap (aa c.2 s2).toNat (aa c.2 s1).toNat (by omega) (by omega) (by omega)
  rw[u3,v3]at this
  omega)
 refine Prod.ext hp (sW s.ic (qq ic) λt ht=>?_)
 have e:=hd (n-1-t) (by omega)
 rw[hp]at e
 change aa (dI 50 c (fj n)).2.2 (aa (upTo n).reverse (n-1-t)).toNat=_ at e
 rw[cj (by omega),show((n:Int)-1-((n-1-t:Nat):Int)).toNat=t by omega]at e
 rw[e]
 exact(bG ic.ls ht).symm
theorem pv{n:Nat}(hn:n<=7):∀(L:List RP),aD n L->fq n (L++[fj n]) (fj n::L.map (f6 n))
 |[],_=>.nil _
 |c::L,hI=>by
  have ic:=hI c (by simp)
  have r:=(jA (n:=n) 50 c (fj n) ic (dJ n)).CI (L.map (f6 n))
  rw[AS hn ic]at r
  exact((pv hn L λy hy=>hI y (by simp[hy])).next c).trans r
def yO(n:Nat)(r:RP):RP:=(fl n r.2,r.1.reverse)
theorem EB{n:Nat}{r:RP}(h:Iv n r.1 r.2){t:Nat}(ht:t<n):aa (yO n r).1 t=(n:Int)-1-aa r.2 t:=uM (by rw[h.ls];exact ht)
theorem x9{n:Nat}{r:RP}(h:Iv n r.1 r.2){t:Nat}(ht:t<n):aa (yO n r).2 t=aa r.1 (n-1-t):=by
 show aa r.1.reverse t=_
 rw[sO (by rw[h.lr];exact ht),h.lr]
theorem kF{n:Nat}{r:RP}(h:Iv n r.1 r.2):Iv n (yO n r).1 (yO n r).2:=by
 refine⟨by show(fl n r.2).length=n;unfold fl;rw[length_map,h.ls],by show r.1.reverse.length=n;rw[length_reverse,h.lr],λt ht=>?_,λt ht=>?_⟩
 ·obtain⟨a,b,c⟩:=h.sr t ht
  rw[EB h ht]
  refine⟨by omega,by omega,?_⟩
  rw[x9 h (by omega),show n-1-((n:Int)-1-aa r.2 t).toNat=(aa r.2 t).toNat by omega,c]
 ·obtain⟨a,b,c⟩:=h.rs (n-1-t) (by omega)
  rw[x9 h ht]
  refine⟨a,b,?_⟩
  rw[EB h (by omega),c]
  omega
theorem AU{n:Nat}(hn:n<=7){r:RP}(h:Iv n r.1 r.2):dI 50 (yO n r) r=(fj n,Zr n):=uN hn (kF h) h λt ht=>by
 rw[x9 h ht,(h.rs (n-1-t) (by omega)).2.2]
 omega
theorem uO{n:Nat}(hn:n<=7){r:RP}(h:Iv n r.1 r.2):dI 50 (f6 n r) (yO n r)=(fj n,Zr n):=uN hn (qq h) (kF h) λt ht=>by
 have e:aa (f6 n r).2 t=(n:Int)-1-aa r.2 (n-1-t):=bG h.ls ht
 obtain⟨a,b,c⟩:=h.sr (n-1-t) (by omega)
 rw[e,x9 h (by omega),show n-1-((n:Int)-1-aa r.2 (n-1-t)).toNat=(aa r.2 (n-1-t)).toNat by omega,c]
 omega
def Pa(n:Nat)(c:RP)(ω:Int×List RP):Int×List RP:=Vl n ω.1 (ω.2++[c])
def Ma(n:Nat)(r:RP)(ω:Int×List RP):Int×List RP:=Vl n (ω.1+ -1) (ω.2.map (f6 n)++[yO n r])
structure Cv(n:Nat)(ω:Int×List RP):Prop where
 iv:aD n ω.2
 id:Vl n ω.1 ω.2=ω
theorem JH{n:Nat}(hn:n<=7)(h:Int){L:List RP}(hI:aD n L):Cv n (Vl n h L):=by
 obtain⟨k,s,g⟩:=eR hn hI
 have g2:=qF.drop (dh n (cV n L)) g
 have e:cV n (Vl n h L).2=(Vl n h L).2:=wL (k:=0) hn g2.iv g2 (by rw[replicate_zero,append_nil];exact .nil _)
 have c:dh n (Vl n h L).2=0:=by
  have hd:=AG (n:=n) (cV n L)
  show dh n ((cV n L).drop (dh n (cV n L)))=0
  cases e:(cV n L).drop (dh n (cV n L))with
  |nil=>rfl
  |cons p B=>
   unfold dh
   rw[List.takeWhile_cons_of_neg (by simpa using hd p B e)]
   rfl
 refine⟨g2.iv,?_⟩
 generalize Vl n h L=ω at e c
 show(ω.1+((dh n (cV n ω.2):Nat):Int),(cV n ω.2).drop (dh n (cV n ω.2)))=ω
 rw[e,c]
 exact Prod.ext (by show ω.1+((0:Nat):Int)=_;omega) rfl
section
variable{n:Nat}(hn:n<=7)(h2:2<=n)
include hn h2
theorem EC(h:Int){L:List RP}(hI:aD n L){c:RP}(ic:Iv n c.1 c.2):Vl n h (L++[c])=Pa n c (Vl n h L):=iY hn h2 h hI (.one ic)
theorem JI(h:Int){L:List RP}(hI:aD n L){r:RP}(ir:Iv n r.1 r.2):Vl n (h+ -1) (L.map (f6 n)++[yO n r])=Ma n r (Vl n h L):=Ha hn h2 h hI (.one (kF ir)) (-1)
theorem f9{ω:Int×List RP}(hc:Cv n ω){c:RP}(ic:Iv n c.1 c.2):Cv n (Pa n c ω):=JH hn _ (hc.iv.app (.one ic))
theorem CP{ω:Int×List RP}(hc:Cv n ω){p q:RP}(ip:Iv n p.1 p.2)(iq:Iv n q.1 q.2)(e:dI 50 p q=(fj n,Zr n)):Vl n (ω.1+ -1) (ω.2.map (f6 n)++[p,q])=ω:=by
 have r:=(jA (n:=n) 50 p q ip iq).CI []
 rw[e]at r
 have s2:=(pv hn (ω.2.map (f6 n)) hc.iv.f6).Bq [Zr n]
 rw[List.append_assoc]at s2
 have hf:(ω.2.map (f6 n)).map (f6 n)=ω.2:=by
  rw[map_map]
  conv=>rhs;rw[<-List.map_id ω.2]
  exact List.map_congr_left λx hx=>x5 (hc.iv x hx)
 rw[hf]at s2
 rw[kE hn _ (hc.iv.f6.app (.cons ip (.one iq))) ((fq.app _ r).trans s2),cons_append,sS hn h2 _ (hc.iv.app (.one (bM n))),show ω.1+ -1+1=ω.1 by omega]
 have:=sU (A:=ω.2) (B:=[]) hn ω.1 hc.iv (λx hx=>nomatch hx)
 rw[this,append_nil]
 exact hc.id
theorem uP{ω:Int×List RP}(hc:Cv n ω){r:RP}(ir:Iv n r.1 r.2):Ma n r (Pa n r ω)=ω:=by
 have e:Pa n r ω=Vl n ω.1 (ω.2++[r]):=rfl
 rw[e,<-JI hn h2 ω.1 (hc.iv.app (.one ir)) ir,map_append,List.append_assoc]
 exact CP hn h2 hc (qq ir) (kF ir) (uO hn ir)
end
def Xr(n a:Nat):RP:=lG (Zr n) a
theorem aT{n a:Nat}(h:a+1<n):Iv n (Xr n a).1 (Xr n a).2:=bQ (p:=Zr n) (bM n) h
theorem Hb{n a:Nat}(h:a+1<n):gE (Xr n a) a=Zr n:=by
 have iz:Iv n (Zr n).1 (Zr n).2:=bM n
 refine sW (bR (aT h) h) iz λt ht=>?_
 show aa (dZ (mw (upTo n) a) a) t=aa (upTo n) t
 rw[bX (by rw[o6,aG];exact h),aH (by rw[aG];exact om h ht),ao (om h ht),ao ht]
 unfold sw sg
 repeat' split
 all_goals omega
theorem ED{n a:Nat}(h:a+1<n):aa (Xr n a).2 (a+1)<aa (Xr n a).2 a:=by
 show aa (mw (upTo n) a) (a+1)<aa (mw (upTo n) a) a
 rw[aH (by rw[aG];exact h),aH (by rw[aG];omega),ao h,ao (by omega)]
 unfold sg
 repeat' split
 all_goals omega
theorem nK{n:Nat}(hn:n<=7)(h2:2<=n){ω:Int×List RP}(hc:Cv n ω){c:RP}(ic:Iv n c.1 c.2){a:Nat}(ha:a+1<n)(hu:aa c.1 a<aa c.1 (a+1)):Pa n (Xr n a) (Pa n c ω)=Pa n (lG c a) ω:=by
 have e:Pa n c ω=Vl n ω.1 (ω.2++[c]):=rfl
 rw[e,<-EC hn h2 ω.1 (hc.iv.app (.one ic)) (aT ha),List.append_assoc]
 have s:fq n [c,Xr n a] [lG c a,Zr n]:=by
  have:=mT.here (B:=[]) ha hu (ED ha)
  rw[Hb ha]at this
  exact .cons this (.nil _)
 rw[show[c]++[Xr n a]=[c,Xr n a]from rfl,kE hn ω.1 (hc.iv.app (.cons ic (.one (aT ha)))) (fq.app ω.2 s)]
 have:=sU (A:=ω.2++[lG c a]) (B:=[]) hn ω.1 (hc.iv.app (.one (bQ ic ha))) (λx hx=>nomatch hx)
 rw[List.append_assoc,append_nil]at this
 exact this
theorem EE(n:Nat)(f:Nat->Nat):S n (λi=>f (n-1-i))=S n f:=by
 induction n with
 |zero=>rfl
 |succ n ih=>
  rw[xP,gk,<-ih]
  rw[show n+1-1-0=n by omega,Nat.add_comm]
  congr 1
  exact fN λi _=>by rw[show n+1-1-(i+1)=n-1-i by omega]
def T2(n:Nat):Nat:=S n λq=>S n λp=>if p<q then 1 else 0
theorem CQ{n:Nat}{r s:List Int}(h:Iv n r s):kW s.reverse+kW s=T2 n:=by
 have e1:kW s.reverse=S n λq=>S n λp=>if p<q then(if aa s p<aa s q then 1 else 0)else 0:=by
  rw[xQ,length_reverse,h.ls,Az n n λq p=>if p<q then(if aa s p<aa s q then 1 else 0)else 0,<-EE n λp=>S n λq=>if p<q then(if aa s p<aa s q then 1 else 0)else 0]
  refine fN λq hq=>?_
  rw[<-EE n λOO=>if n-1-q<OO then(if aa s (n-1-q)<aa s OO then 1 else 0)else 0]
  refine fN λp hp=>?_
  rw[uK (by rw[h.ls];exact hq),uK (by rw[h.ls];exact hp),h.ls]
  by_cases hpq:p<q
  ·have hq2:n-1-q<n-1-p:=by omega
   rw[if_pos hpq,if_pos hq2]
  ·have hq2:¬n-1-q<n-1-p:=by omega
   rw[if_neg hpq,if_neg hq2]
 rw[e1,xQ,h.ls,<-Ay]
 unfold T2
 refine fN λq hq=>?_
 rw[<-Ay]
 refine fN λp hp=>?_
 by_cases hpq:p<q
 ·rw[if_pos hpq,if_pos hpq,if_pos hpq]
  have hne:aa s p≠aa s q:=λz=>by
   have:=h.Ep hp hq z
   omega
  repeat' split
  all_goals omega
 ·rw[if_neg hpq,if_neg hpq,if_neg hpq]
abbrev hS(qs:List (Int×List Int)):Int:=(qs.map (·.1)).sum
inductive F2 {α β:Type} (R:α->β->Prop):List α->List β->Prop
 |nil:F2 R [] []
 |cons {a:α} {b:β} {l:List α} {m:List β}:R a b->F2 R l m->F2 R (a::l) (b::m)
theorem AV{n:Nat}(hn:n<8):kW (upTo n).reverse=T2 n:=by
 have:=CQ (JE n)
 rw[CH n hn]at this
 omega
def act(n:Nat)(k:Int)(ω:Int×List RP):Int×List RP:=if 0<k then Pa n (Xr n (k-1).toNat) ω else Ma n (Xr n (-k-1).toNat) ω
def nM(n:Nat)(w:List Int)(ω:Int×List RP):Int×List RP:=w.foldl (λω k=>act n k ω) ω
theorem uQ(n:Nat)(u v:List Int)(ω:Int×List RP):nM n (u++v) ω=nM n v (nM n u ω):=List.foldl_append
theorem CS{o:List Int}{a b:Nat}(ha:a+1<o.length)(hb:b+1<o.length)(h:a+2<=b\/b+2<=a):dZ (dZ o a) b=dZ (dZ o b) a:=by
 refine bP (by rw[cu,cu,cu,cu]) λj _=>?_
 simp_all only [aW _ a (show a+1<(dZ o b).length by rw[cu];exact ha),aW _ b (show b+1<(dZ o a).length by rw[cu];exact hb),aW _ a ha,aW _ b hb]
 repeat' split
 all_goals first|omega|(congr 1;omega)|rfl
theorem AW{o:List Int}{a:Nat}(h:a+2<o.length):dZ (dZ (dZ o a) (a+1)) a=dZ (dZ (dZ o (a+1)) a) (a+1):=by
 refine bP (by simp_all only [cu]) λj _=>?_
 have l1:a+1<(dZ (dZ o a) (a+1)).length:=by simp_all only [cu];omega
 have l2:a+1+1<(dZ o a).length:=by simp_all only [cu];omega
 have l3:a+1<o.length:=by omega
 have m1:a+1+1<(dZ (dZ o (a+1)) a).length:=by simp_all only [cu];omega
 have m2:a+1<(dZ o (a+1)).length:=by simp_all only [cu];omega
 have m3:a+1+1<o.length:=by omega
 simp_all only [aW _ a l1,aW _ (a+1) l2,aW _ a l3,aW _ (a+1) m1,aW _ a m2,aW _ (a+1) m3]
 repeat' split
 all_goals first|omega|exact absurd trivial (by assumption)|(congr 1;omega)|rfl
section
variable{n:Nat}(hn:n<=7)(h2:2<=n)
include hn h2
end
theorem dM{n a t:Nat}(ha:a+1<n)(ht:t<n):aa (Xr n a).1 t=if t=a then(a:Int)+1 else if t=a+1 then(a:Int)else t:=by
 show aa (dZ (upTo n) a) t=_
 rw[aW _ _ (by rw[aG];exact ha),ao ha,ao (by omega),ao ht]
 repeat' split
 all_goals omega
section
variable{n:Nat}(hn:n<=7)(h2:2<=n)
include hn h2
theorem EF{a b:Nat}(ha:a+1<n)(hb:b+1<n)(h:a+2<=b\/b+2<=a){ω:Int×List RP}(hc:Cv n ω):Pa n (Xr n a) (Pa n (Xr n b) ω)=Pa n (Xr n b) (Pa n (Xr n a) ω):=by
 rw[nK hn h2 hc (aT hb) ha (by rw[dM hb (by omega),dM hb ha];(repeat' split)<;>omega),nK hn h2 hc (aT ha) hb (by rw[dM ha (by omega),dM ha hb];(repeat' split)<;>omega)]
 congr 1
 exact kq (bQ (aT hb) ha) (bQ (aT ha) hb) (CS (o:=upTo n) (by rw[aG];exact hb) (by rw[aG];exact ha) (by omega))
theorem AX{a:Nat}(ha:a+2<n){ω:Int×List RP}(hc:Cv n ω):Pa n (Xr n a) (Pa n (Xr n (a+1)) (Pa n (Xr n a) ω))=Pa n (Xr n (a+1)) (Pa n (Xr n a) (Pa n (Xr n (a+1)) ω)):=by
 have h1:a+1<n:=by omega
 have h3:a+1+1<n:=by omega
 have c1:∀t,t<n->aa (lG (Xr n a) (a+1)).1 t=if t=a+1 then aa (Xr n a).1 (a+1+1)else if t=a+1+1 then aa (Xr n a).1 (a+1)else aa (Xr n a).1 t:=λt ht=>aW _ _ (by rw[(aT h1).lr];exact h3) t
 have c2:∀t,t<n->aa (lG (Xr n (a+1)) a).1 t=if t=a then aa (Xr n (a+1)).1 (a+1)else if t=a+1 then aa (Xr n (a+1)).1 a else aa (Xr n (a+1)).1 t:=λt ht=>aW _ _ (by rw[(aT h3).lr];exact h1) t
 rw[nK hn h2 hc (aT h1) h3 (by rw[dM h1 h1,dM h1 h3];(repeat' split)<;>omega),
  nK hn h2 hc (bQ (aT h1) h3) h1 (by rw[c1 a (by omega),c1 (a+1) h1,dM h1 h1,dM h1 h3,dM h1 (by omega)];(repeat' split)<;>omega),
  nK hn h2 hc (aT h3) h1 (by rw[dM h3 (by omega),dM h3 h1];(repeat' split)<;>omega),
  nK hn h2 hc (bQ (aT h3) h1) h3 (by rw[c2 (a+1) h1,c2 (a+1+1) h3,dM h3 h1,dM h3 h3,dM h3 (by omega)];(repeat' split)<;>omega)]
 congr 1
 exact kq (bQ (bQ (aT h1) h3) h1) (bQ (bQ (aT h3) h1) h3) (AW (o:=upTo n) (by rw[aG];exact ha))
end
def Lk(n:Nat)(u v:List Int):Prop:=∀ω,Cv n ω->nM n u ω=nM n v ω
section
variable{n:Nat}(hn:n<=7)(h2:2<=n)
include hn h2
end
theorem iK{n:Nat}:Cv n ((0:Int),[]):=⟨λx hx=>(nomatch hx),rfl⟩
section
variable{n:Nat}(hn:n<=7)(h2:2<=n)
include hn h2
end
section
variable{n:Nat}(hn:n<=7)(h2:2<=n)
include hn h2
end
theorem aY:((("out":Str))==(("out":Str)))=true:=by decide
theorem bA:((("out":Str))==(("in":Str)))=false:=by decide
theorem aZ:((("out":Str))==(("far":Str)))=false:=by decide
theorem aI:((("out":Str))==(("near":Str)))=false:=by decide
theorem bB:((("in":Str))==(("out":Str)))=false:=by decide
theorem bU:((("in":Str))==(("in":Str)))=true:=by decide
theorem bC:((("in":Str))==(("far":Str)))=false:=by decide
theorem bc:((("in":Str))==(("near":Str)))=false:=by decide
theorem bf:((("far":Str))==(("out":Str)))=false:=by decide
theorem bD:((("far":Str))==(("in":Str)))=false:=by decide
theorem bg:((("far":Str))==(("far":Str)))=true:=by decide
theorem aJ:((("far":Str))==(("near":Str)))=false:=by decide
theorem aK:((("near":Str))==(("out":Str)))=false:=by decide
theorem bh:((("near":Str))==(("in":Str)))=false:=by decide
theorem aL:((("near":Str))==(("far":Str)))=false:=by decide
theorem aE:((("near":Str))==(("near":Str)))=true:=by decide
def gI(w:List Int)(i:Int):Int:=(w[i.toNat]?).getD 0
theorem dU{w:List Int}{i:Int}(h:0<=i)(h2:i<(w.length:Int)):jH (bp w) i=some (.int (gI w i)):=by
 rw[se,sy h]
 unfold gI
 rw[getElem?_eq_getElem (by omega)]
 rfl
theorem lK{w:List Int}{i:Int}(h:0<=i)(h2:i<(w.length:Int)):gI w i∈w:=by
 unfold gI
 rw[getElem?_eq_getElem (by omega)]
 exact List.getElem_mem _
def cU(k:Int):Int:=if k<0 then-k else k
inductive Mv where
 |out (p:Int)|qG (p k:Int)|ly (p:Int)|near (p:Int)
def Mv.d:Mv->D
 |.out p=>.tup [.str "out",.int p]
 |.qG p k=>.tup [.str "in",.int p,.int k]
 |.ly p=>.tup [.str "far",.int p]
 |.near p=>.tup [.str "near",.int p]
def mW(w:List Int)(p m:Int):Bool:=decide (0<=p)&&decide (p+m<=(w.length:Int))
noncomputable def mK(n:Int)(w:List Int):Mv->Bool
 |.out p=>mW w p 2&&(gI w p== -gI w (p+1))
 |.qG p k=>mW w p 0&&(!(k==0)&&decide (cU k<n))
 |.ly p=>mW w p 2&&decide (2<=cU (cU (gI w p)-cU (gI w (p+1))))
 |.near p=>mW w p 3&&(gI w p==gI w (p+2))&&(cU (gI w p-gI w (p+1))==1)
noncomputable def doneF(w:List Int):Mv->List Int
 |.out p=>w.take p.toNat++w.drop (p+2).toNat
 |.qG p k=>w.take p.toNat++[k,-k]++w.drop p.toNat
 |.ly p=>w.take p.toNat++[gI w (p+1),gI w p]++w.drop (p+2).toNat
 |.near p=>w.take p.toNat++[gI w (p+1),gI w p,gI w (p+1)]++w.drop (p+3).toNat
theorem qr{w:List Int}{p m:Int}(h:mW w p m=true):0<=p/\p+m<=(w.length:Int):=by
 unfold mW at h
 simpa using h
theorem eT(a b:D):jH [a,b] 0=some a:=rfl
theorem eU(a b:D):jH [a,b] 1=some b:=rfl
theorem eY(a b c:D):jH [a,b,c] 0=some a:=rfl
theorem eZ(a b c:D):jH [a,b,c] 1=some b:=rfl
theorem e6(a b c:D):jH [a,b,c] 2=some c:=rfl
theorem qt{n:Int}{w:List Int}{d:Mv}(h:mK n w d=true):(match d with
  |.out p=>0<=p/\p+2<=(w.length:Int)
  |.qG p _=>0<=p/\p<=(w.length:Int)
  |.ly p=>0<=p/\p+2<=(w.length:Int)
  |.near p=>0<=p/\p+3<=(w.length:Int)):=by
 cases d with
 |out p=>
  simp -implicitDefEqProofs only [mK,and_eq_true]at h
  exact qr h.1
 |qG p k=>
  simp -implicitDefEqProofs only [mK,and_eq_true]at h
  have:=qr h.1
  dsimp only;omega
 |ly p=>
  simp -implicitDefEqProofs only [mK,and_eq_true]at h
  exact qr h.1
 |near p=>
  simp -implicitDefEqProofs only [mK,and_eq_true]at h
  exact qr h.1.1
theorem pA(a b:Int):[D.int a,D.int b]=bp [a,b]:=rfl
theorem rG(a b c:Int):[D.int a,D.int b,D.int c]=bp [a,b,c]:=rfl
theorem uR{n:Int}{w:List Int}{d:Mv}(h:mK n w d=true):(doneF w d).length<=w.length+2/\((∀p k,d≠.qG p k)->(doneF w d).length<=w.length):=by
 have hp:=qt h
 cases d with
 |out p=>
  dsimp only at hp
  refine⟨?_,λ_=>?_⟩<;>(show(w.take p.toNat++w.drop (p+2).toNat).length<=_;rw[length_append,length_take,length_drop];omega)
 |qG p k=>
  dsimp only at hp
  refine⟨?_,λhq=>absurd rfl (hq p k)⟩
  show(w.take p.toNat++[k,-k]++w.drop p.toNat).length<=_
  rw[length_append,length_append,length_take,length_drop];simp;omega
 |ly p=>
  dsimp only at hp
  refine⟨?_,λ_=>?_⟩<;>(show(w.take p.toNat++[gI w (p+1),gI w p]++w.drop (p+2).toNat).length<=_;rw[length_append,length_append,length_take,length_drop];simp;omega)
 |near p=>
  dsimp only at hp
  refine⟨?_,λ_=>?_⟩<;>(show(w.take p.toNat++[gI w (p+1),gI w p,gI w (p+1)]++w.drop (p+3).toNat).length<=_;rw[length_append,length_append,length_take,length_drop];simp;omega)
theorem CT{n k:Int}(h1:(k==0)=false)(h2:cU k<n):iB n k:=by
 unfold cU at h2
 unfold iB
 have:k≠0:=by simpa using h1
 split at h2<;>omega
theorem CU{n k:Int}(h:iB n k):iB n (-k):=by unfold iB at*;omega
theorem CV{n:Int}{w:List Int}{d:Mv}(hw:∀k∈w,iB n k)(h:mK n w d=true):∀k∈doneF w d,iB n k:=by
 have hp:=qt h
 cases d with
 |out p=>
  intro k hk
  rcases mem_append.mp (show k∈w.take p.toNat++w.drop (p+2).toNat from hk)with q|q
  ·exact hw k (mem_of_mem_take q)
  ·exact hw k (mem_of_mem_drop q)
 |qG p x=>
  intro k hk
  have hx:iB n x:=by
   simp -implicitDefEqProofs only [mK,and_eq_true,not_eq_true',decide_eq_true_eq]at h
   exact CT h.2.1 h.2.2
  rcases mem_append.mp (show k∈w.take p.toNat++[x,-x]++w.drop p.toNat from hk)with q|q
  ·rcases mem_append.mp q with q|q
   ·exact hw k (mem_of_mem_take q)
   ·simp at q
    rcases q with rfl|rfl
    ·exact hx
    ·exact CU hx
  ·exact hw k (mem_of_mem_drop q)
 |ly p=>
  dsimp only at hp
  intro k hk
  rcases mem_append.mp (show k∈w.take p.toNat++[gI w (p+1),gI w p]++w.drop (p+2).toNat from hk)with q|q
  ·rcases mem_append.mp q with q|q
   ·exact hw k (mem_of_mem_take q)
   ·simp at q
    rcases q with rfl|rfl
    ·exact hw _ (lK (by omega) (by omega))
    ·exact hw _ (lK (by omega) (by omega))
  ·exact hw k (mem_of_mem_drop q)
 |near p=>
  dsimp only at hp
  intro k hk
  rcases mem_append.mp (show k∈w.take p.toNat++[gI w (p+1),gI w p,gI w (p+1)]++w.drop (p+3).toNat from hk)with q|q
  ·rcases mem_append.mp q with q|q
   ·exact hw k (mem_of_mem_take q)
   ·simp at q
    rcases q with rfl|rfl|rfl
    ·exact hw _ (lK (by omega) (by omega))
    ·exact hw _ (lK (by omega) (by omega))
    ·exact hw _ (lK (by omega) (by omega))
  ·exact hw k (mem_of_mem_drop q)
theorem jB{w:List Int}{p i:Int}(hp:0<=p)(hi:0<=i/\i<3)(hl:p+i<(w.length:Int)):jH (bp ((w.drop p.toNat).take 3)) i=some (.int (gI w (p+i))):=by
 rw[se,sy hi.1]
 unfold gI
 rw[List.getElem?_take,if_pos (by omega),List.getElem?_drop,show p.toNat+i.toNat=(p+i).toNat by omega,getElem?_eq_getElem (by omega)]
 rfl
theorem oi.rc {n:Nat}(hn:n<=7):∀(m:Nat){p q p' c' y:RP},kW y.1<=m->oi n p q p' c' y->Iv n p.1 p.2->Iv n q.1 q.2->Iv n p'.1 p'.2->Iv n c'.1 c'.2->Rc n p q p' c':=λm=>by
 induction m with
 |zero=>
  intro p q p' c' y hy o ip iq wH vj
  have hs:¬AD n y:=λ⟨a,ha,hd⟩=>by
   have:=(qe o.iy.symm ha).2 hd
   have:=nC o.iy
   omega
  have e:=kN o.iy (bM n) hs
  have ct:∀t,t<n->(aa (upTo n) t).toNat=t:=λt ht=>by rw[ao ht];exact toNat_natCast t
  have e1:p'=p:=kq wH ip (bP (by rw[wH.lr,ip.lr]) λt ht=>by
   rw[wH.lr]at ht
   rw[o.pl t ht,e]
   dsimp only
   rw[ct t ht])
  have e2:c'=q:=sW vj iq λt ht=>by
   rw[o.pq t ht,e]
   dsimp only
   rw[ct t ht]
  rw[e1,e2]
  exact .nil p q
 |succ m ih=>
  intro p q p' c' y hy o ip iq wH vj
  rcases Classical.em (AD n y)with⟨a,ha,hd⟩|hs
  ·refine .step ha (o.ap a (a+1) (by omega) ha hd) (o.pq.KA o.iy vj o.aq ha hd) (ih ?_ (o.pop ip iq ha hd) (bQ ip ha) (bR iq ha) wH vj)
   have h1:=(qe o.iy.symm ha).2 hd
   have h2:=nC o.iy
   have h3:kW (gE y a).1=kW (dZ y.2 a):=nC (bR o.iy ha)
   omega
  ·refine ih (y:=y) ?_ o ip iq wH vj
   have e:=kN o.iy (bM n) hs
   have h1:=nC o.iy
   by_cases z:kW y.1<=m
   ·exact z
   ·exfalso
    rw[e]at z
    have:=CH n (by omega)
    dsimp only at z
    omega
theorem sX{n i:Nat}(hi:i+1<n){t:Nat}(ht:t<n):aa (Xr n i).1 t=(sw i t:Nat):=by
 rw[dM hi ht]
 unfold sw
 repeat' split
 all_goals omega
theorem CW{n i:Nat}(hi:i+1<n){t:Nat}(ht:t<n):aa (Xr n i).2 t=(sw i t:Nat):=by
 show aa (mw (upTo n) i) t=_
 rw[aH (by rw[aG];exact ht),ao ht]
 unfold sg sw
 repeat' split
 all_goals omega
theorem JJ(i t:Nat):sw i (sw i t)=t:=by
 unfold sw
 repeat' split
 all_goals omega
theorem AY{n:Nat}(hn:n<=7){c:RP}(ic:Iv n c.1 c.2){i:Nat}(hi:i+1<n)(hs:aa c.2 (i+1)<aa c.2 i):Rc n (Xr n i) (gE c i) c (Zr n):=by
 have iq:=bR ic hi
 have q2:∀t,t<n->aa (gE c i).2 t=aa c.2 (sw i t):=λt _=>bX (by rw[ic.ls];exact hi) t
 have q1:∀t,t<n->aa (gE c i).1 t=sg i (aa c.1 t):=λt ht=>aH (by rw[ic.lr];exact ht)
 refine oi.rc hn _ (Nat.le_refl _) (y:=gE c i) ⟨iq,λt ht=>?_,λt ht=>?_,λa b hab hb h=>?_,λa b hab hb h=>?_,λt ht=>?_⟩ (aT hi) iq ic (bM n)
 ·have:=om hi ht
  rw[CW hi ht,toNat_natCast,q2 _ this,JJ]
 ·obtain⟨h1,h2,_⟩:=iq.sr t ht
  show _=aa (upTo n) _
  rw[ao (by omega)]
  omega
 ·rw[q2 a (by omega),q2 b hb]at h
  rw[sX hi (by omega),sX hi hb]
  by_cases e:a=i/\b=i+1
  ·rw[e.1,e.2]at h
   unfold sw at h
   rw[if_pos rfl,if_neg (by omega),if_pos rfl]at h
   omega
  ·have:=xX hab e
   omega
 ·change aa (upTo n) b<aa (upTo n) a at h
  rw[ao hb,ao (by omega)]at h
  omega
 ·obtain⟨h1,h2,_⟩:=ic.rs t ht
  obtain⟨g1,g2,_⟩:=iq.rs t ht
  rw[sX hi (by omega),q1 t ht,xS _ h1]
  omega
section
variable{n:Nat}(hn:n<=7)(h2:2<=n)
include hn h2
theorem qu{c:RP}(ic:Iv n c.1 c.2){i:Nat}(hi:i+1<n)(hs:aa c.2 (i+1)<aa c.2 i){ω:Int×List RP}(hc:Cv n ω):Pa n c ω=Pa n (gE c i) (Pa n (Xr n i) ω):=by
 have e:Pa n (Xr n i) ω=Vl n ω.1 (ω.2++[Xr n i]):=rfl
 have iq:=bR ic hi
 rw[e,<-EC hn h2 ω.1 (hc.iv.app (.one (aT hi))) iq,List.append_assoc]
 have s:=(AY hn ic hi hs).CI []
 rw[show[Xr n i]++[gE c i]=[Xr n i,gE c i]from rfl,kE hn ω.1 (hc.iv.app (.cons (aT hi) (.one iq))) (fq.app ω.2 s)]
 have:=sU (A:=ω.2++[c]) (B:=[]) hn ω.1 (hc.iv.app (.one ic)) (λx hx=>nomatch hx)
 rw[List.append_assoc,append_nil]at this
 exact this.symm
end
def fK(n:Nat)(ω:Int×List RP):Int:=ω.1*(T2 n:Int)+(mU ω.2:Int)
theorem fq.mU {n:Nat}{L L':List RP}(h:fq n L L'):aD n L->DL.mU L'=DL.mU L:=by
 induction h with
 |nil=>exact λ_=>rfl
 |cons s _ ih=>exact λhI=>(ih (s.iv hI)).trans (s.mU hI).1
theorem mL(A B:List RP):mU (A++B)=mU A+mU B:=by unfold mU;rw[map_append,List.sum_append]
theorem ya(k:Nat)(p:RP):mU (replicate k p)=k*kW p.1:=by
 unfold mU
 rw[List.map_replicate,List.sum_replicate_nat]
theorem wM{n:Nat}(hn:n<=7)(h:Int){L:List RP}(hI:aD n L):fK n (Vl n h L)=h*(T2 n:Int)+(mU L:Int):=by
 obtain⟨m,k,e,hT,s⟩:=AQ hn h hI
 have t:=s.mU hI
 rw[mL,mL,ya,ya]at t
 have c1:kW (fj n).1=T2 n:=AV (show n<8 by omega)
 have c2:kW (Zr n).1=0:=CH n (by omega)
 rw[c1,c2,Nat.mul_zero]at t
 unfold fK
 rw[e,<-t,Int.add_mul]
 simp_all only [natCast_add,Int.natCast_mul]
 omega
theorem CY(p:RP):mU [p]=kW p.1:=by unfold mU;simp
theorem AZ{n:Nat}(hn:n<=7){p q:RP}(ip:Iv n p.1 p.2)(iq:Iv n q.1 q.2)(e:dI 50 p q=(fj n,Zr n))(h:Int){A B:List RP}(hA:aD n A)(hB:aD n B):Vl n h (A++p::q::B)=Vl n h (A++fj n::B):=by
 have r:=(jA (n:=n) 50 p q ip iq).CI B
 rw[e]at r
 rw[kE hn h (hA.app (.cons ip (.cons iq hB))) (fq.app A r)]
 have:=sU hn h (A:=A++[fj n]) (B:=B) (hA.app (.one (dJ n))) hB
 rw[List.append_assoc,List.append_assoc]at this
 exact this
theorem CZ{n:Nat}(hn:n<=7)(h2:2<=n)(h:Int){A B:List RP}(hA:aD n A)(hB:aD n B):Vl n h (A++B++[fj n])=Vl n h (A++fj n::B.map (f6 n)):=by
 rw[List.append_assoc]
 exact kE hn h (hA.app (hB.app (.one (dJ n)))) (fq.app A (pv hn B hB))
def Dz(n:Nat)(z ω:Int×List RP):Prop:=∃L,aD n L/\Vl n ω.1 (ω.2++L)=z
abbrev Div(n:Nat)(N:Nat)(ω:Int×List RP):Prop:=Dz n ((N:Int),[]) ω
theorem C0:mU []=0:=rfl
section
variable{n:Nat}(hn:n<=7)(h2:2<=n)
include hn h2
theorem Dz.fK {z ω:Int×List RP}(hc:Cv n ω)(d:Dz n z ω):DL.fK n ω<=DL.fK n z:=by
 obtain⟨L,hL,e⟩:=d
 have:=wM hn ω.1 (hc.iv.app hL)
 rw[e,mL]at this
 unfold DL.fK at this⊢
 omega
theorem Div.fK {N:Nat}{ω:Int×List RP}(hc:Cv n ω)(d:Div n N ω):DL.fK n ω<=(N*T2 n:Nat):=by
 obtain⟨L,hL,e⟩:=d
 have:=wM hn ω.1 (hc.iv.app hL)
 rw[e,mL]at this
 unfold DL.fK at this⊢
 rw[C0]at this
 dsimp only at this
 rw[Int.natCast_mul]
 omega
theorem Div.zero:Div n 0 (0,[]):=⟨[],λ_ h=>(nomatch h),rfl⟩
theorem Div.back {z:Int×List RP}{ω:Int×List RP}(hc:Cv n ω){c:RP}(ic:Iv n c.1 c.2)(d:Dz n z (Pa n c ω)):Dz n z ω:=by
 obtain⟨L,hL,e⟩:=d
 refine⟨c::L,.cons ic hL,?_⟩
 rw[<-e]
 have:=iY hn h2 ω.1 (L:=ω.2++[c]) (B:=L) (hc.iv.app (.one ic)) hL
 rw[List.append_assoc]at this
 exact this
theorem Div.pos {N:Nat}{ω:Int×List RP}(hc:Cv n ω){c:RP}(ic:Iv n c.1 c.2)(d:Div n N ω):Div n (N+1) (Pa n c ω):=by
 obtain⟨L,hL,e⟩:=d
 have OP:=qq ic
 have Nc:=kF OP
 have hf:=uO hn OP
 rw[x5 ic]at hf
 refine⟨yO n (f6 n c)::L.map (f6 n),.cons Nc hL.f6,?_⟩
 have h1:=iY hn h2 ω.1 (L:=ω.2++[c]) (B:=yO n (f6 n c)::L.map (f6 n)) (hc.iv.app (.one ic)) (.cons Nc hL.f6)
 rw[List.append_assoc]at h1
 refine h1.symm.trans ?_
 rw[singleton_append,AZ hn ic Nc hf ω.1 hc.iv hL.f6,<-CZ hn h2 _ hc.iv hL,iY hn h2 _ (hc.iv.app hL) (.one (dJ n)),e]
 show Vl n N (fj n::[])=_
 rw[sS hn h2 _ (L:=[]) (λ_ h=>(nomatch h))]
 rfl
theorem A1{A L:List RP}(hA:aD n A)(hL:aD n L):cV n (A++L)=cV n (A++cV n L):=by
 obtain⟨k,s,g⟩:=eR hn hL
 rw[qo hn (hA.app hL) (fq.app A s)]
 have:=mJ hn (A:=A++cV n L) (B:=[]) (hA.app g.iv) (λ_ h=>(nomatch h)) k
 rw[append_nil,append_nil,List.append_assoc]at this
 exact this
theorem C3{c:RP}(ic:Iv n c.1 c.2){L L':List RP}(hL:aD n L)(KG:aD n L')(e:cV n (c::L)=cV n (c::L')):cV n L=cV n L':=by
 have key:∀{L:List RP},aD n L->cV n ([yO n c]++cV n (c::L))=fj n::cV n L:=λ{L} hL=>by
  rw[<-A1 hn h2 (A:=[yO n c]) (L:=c::L) (.one (kF ic)) (.cons ic hL)]
  have r:=(jA (n:=n) 50 (yO n c) c (kF ic) ic).CI L
  rw[AU hn ic]at r
  rw[singleton_append,qo hn (.cons (kF ic) (.cons ic hL)) r,<-qp hn h2 hL]
  exact sP hn (A:=[fj n]) (.one (dJ n)) hL
 have h1:=key hL
 have h3:=key KG
 rw[e,h3]at h1
 exact(List.cons.inj h1).2.symm
theorem qv:∀{A L L':List RP},aD n A->aD n L->aD n L'->cV n (A++L)=cV n (A++L')->cV n L=cV n L'
 |[],_,_,_,_,_,e=>e
 |c::A,L,L',hA,hL,KG,e=>qv (A:=A) (λx hx=>hA x (by simp[hx])) hL KG (C3 hn h2 (hA c (by simp)) (.app (λx hx=>hA x (by simp[hx])) hL) (.app (λx hx=>hA x (by simp[hx])) KG) e)
omit h2 in
theorem yP{h:Int}{N:Int}{L:List RP}(e:Vl n h L=(N,[])):cV n L=replicate (N-h).toNat (fj n):=by
 have e1:h+((dh n (cV n L):Nat):Int)=N:=congrArg Prod.fst e
 have e2:(cV n L).drop (dh n (cV n L))=[]:=congrArg Prod.snd e
 have t:=mB (n:=n) (cV n L)
 rw[e2,append_nil]at t
 rw[show(N-h).toNat=dh n (cV n L)by omega]
 exact t
omit hn h2 in
theorem Hc{h:Int}{L L':List RP}(e:Vl n h L=Vl n h L'):cV n L=cV n L':=by
 have e1:h+((dh n (cV n L):Nat):Int)=h+((dh n (cV n L'):Nat):Int):=congrArg Prod.fst e
 have e2:(cV n L).drop (dh n (cV n L))=(cV n L').drop (dh n (cV n L')):=congrArg Prod.snd e
 have t:=mB (n:=n) (cV n L)
 have t':=mB (n:=n) (cV n L')
 have c:dh n (cV n L)=dh n (cV n L'):=by omega
 rw[e2,c]at t
 exact t.trans t'.symm
omit hn h2 in
theorem Hd{p:RP}(ip:Iv n p.1 p.2){i j:Nat}(hi:i+1<n)(hj:j+1<n)(hp:aa p.1 j<aa p.1 (j+1))(h:aa p.2 (i+1)<aa p.2 i):aa (lG p j).2 (i+1)<aa (lG p j).2 i:=by
 show aa (mw p.2 j) (i+1)<aa (mw p.2 j) i
 rw[aH (by rw[ip.ls];exact hi),aH (by rw[ip.ls];omega)]
 refine ph h λ⟨e1,e2⟩=>?_
 have h1:=(ip.sr (i+1) hi).2.2
 have h3:=(ip.sr i (by omega)).2.2
 rw[e1,toNat_natCast]at h1
 rw[e2,show((j:Int)+1).toNat=j+1 by omega]at h3
 omega
omit hn h2 in
theorem mT.st {L L':List RP}(s:mT n L L'){i:Nat}(hi:i+1<n):aD n L->(∃p B,L=p::B/\aa p.2 (i+1)<aa p.2 i)->∃p B,L'=p::B/\aa p.2 (i+1)<aa p.2 i:=by
 cases s with
 |here hj h1 _=>
  rintro hI ⟨p,B,e,h⟩
  cases e
  exact⟨_,_,rfl,Hd (hI _ (by simp)) hi hj h1 h⟩
 |next s=>
  rintro hI ⟨p,B,e,h⟩
  cases e
  exact⟨_,_,rfl,h⟩
omit hn h2 in
theorem fq.st {L L':List RP}(s:fq n L L'){i:Nat}(hi:i+1<n):aD n L->(∃p B,L=p::B/\aa p.2 (i+1)<aa p.2 i)->∃p B,L'=p::B/\aa p.2 (i+1)<aa p.2 i:=by
 induction s with
 |nil=>exact λ_ h=>h
 |cons s _ ih=>exact λhI h=>ih (s.iv hI) (s.st hi hI h)
omit h2 in
theorem A2{i:Nat}(hi:i+1<n){L:List RP}(hL:aD n L):∃p B,cV n (Xr n i::L)=p::B/\aa p.2 (i+1)<aa p.2 i:=by
 have hI:aD n (Xr n i::L):=.cons (aT hi) hL
 obtain⟨k,s,g⟩:=eR hn hI
 obtain⟨p,B,e,h⟩:=s.st hi hI ⟨_,_,rfl,ED hi⟩
 cases ec:cV n (Xr n i::L)with
 |nil=>
  rw[ec,nil_append]at e
  cases k with
  |zero=>cases e
  |succ k=>
   rw[replicate_succ]at e
   cases e
   change aa (upTo n) (i+1)<aa (upTo n) i at h
   rw[ao hi,ao (by omega)]at h
   omega
 |cons c R=>
  rw[ec,cons_append]at e
  cases e
  exact⟨_,_,rfl,h⟩
theorem Div.first {z:Int×List RP}{b:Int×List RP}(hb:Cv n b){i j:Nat}(hi:i+1<n)(hj:j+1<n)(di:Dz n z (Pa n (Xr n i) b))(dj:Dz n z (Pa n (Xr n j) b)):
  ∃p B,Iv n p.1 p.2/\aD n B/\aa p.2 (i+1)<aa p.2 i/\aa p.2 (j+1)<aa p.2 j/\Vl n b.1 (b.2++p::B)=z:=by
 obtain⟨L,hL,e⟩:=di
 obtain⟨M,hM,f⟩:=dj
 have h1:=iY hn h2 b.1 (L:=b.2++[Xr n i]) (B:=L) (hb.iv.app (.one (aT hi))) hL
 have h3:=iY hn h2 b.1 (L:=b.2++[Xr n j]) (B:=M) (hb.iv.app (.one (aT hj))) hM
 rw[List.append_assoc,singleton_append]at h1 h3
 replace h1:=h1.trans e
 replace h3:=h3.trans f
 have hI:aD n (Xr n i::L):=.cons (aT hi) hL
 have hJ:aD n (Xr n j::M):=.cons (aT hj) hM
 have q:=qv hn h2 hb.iv hI hJ (Hc (h1.trans h3.symm))
 obtain⟨p,B,e1,s1⟩:=A2 hn hi hL
 obtain⟨p',B',e2,s2⟩:=A2 hn hj hM
 rw[q,e2]at e1
 cases e1
 obtain⟨k,s,g⟩:=eR hn hI
 rw[q,e2]at g s
 refine⟨p,B,g.iv p (by simp),λx hx=>g.iv x (by simp[hx]),s1,s2,?_⟩
 rw[<-h1,kE hn _ (hb.iv.app hI) (fq.app b.2 s)]
 have:=sV hn b.1 (A:=b.2++p::B) (B:=[]) (hb.iv.app g.iv) (λ_ h=>(nomatch h)) k
 rw[append_nil,append_nil,List.append_assoc]at this
 exact this.symm
theorem Div.of {z:Int×List RP}{b:Int×List RP}(hb:Cv n b){p:RP}{B:List RP}(ip:Iv n p.1 p.2)(hB:aD n B)(e:Vl n b.1 (b.2++p::B)=z):Dz n z (Pa n p b):=by
 refine⟨B,hB,?_⟩
 have:=iY hn h2 b.1 (L:=b.2++[p]) (B:=B) (hb.iv.app (.one ip)) hB
 rw[List.append_assoc,singleton_append]at this
 exact this.symm.trans e
theorem Div.ly {z:Int×List RP}{b:Int×List RP}(hb:Cv n b){i j:Nat}(hi:i+1<n)(hj:j+1<n)(hf:i+2<=j\/j+2<=i)(di:Dz n z (Pa n (Xr n i) b))(dj:Dz n z (Pa n (Xr n j) b)):Dz n z (Pa n (Xr n j) (Pa n (Xr n i) b)):=by
 obtain⟨p,B,ip,hB,si,sj,e⟩:=Div.first hn h2 hb hi hj di dj
 have d:=Div.of hn h2 hb ip hB e
 have hb1:=f9 hn h2 hb (aT hi)
 have ia:=bR ip hi
 have Nd:aa (gE p i).2 (j+1)<aa (gE p i).2 j:=by
  show aa (dZ p.2 i) (j+1)<aa (dZ p.2 i) j
  rw[aW _ _ (by rw[ip.ls];exact hi),aW _ _ (by rw[ip.ls];exact hi),if_neg (by omega),if_neg (by omega),if_neg (by omega),if_neg (by omega)]
  exact sj
 rw[qu hn h2 ip hi si hb,qu hn h2 ia hj Nd hb1]at d
 exact Div.back hn h2 (f9 hn h2 hb1 (aT hj)) (bR ia hj) d
theorem Div.near {z:Int×List RP}{b:Int×List RP}(hb:Cv n b){i j:Nat}(hi:i+1<n)(hj:j+1<n)(hf:j=i+1\/i=j+1)(di:Dz n z (Pa n (Xr n i) b))(dj:Dz n z (Pa n (Xr n j) b)):Dz n z (Pa n (Xr n i) (Pa n (Xr n j) (Pa n (Xr n i) b))):=by
 obtain⟨p,B,ip,hB,si,sj,e⟩:=Div.first hn h2 hb hi hj di dj
 have d:=Div.of hn h2 hb ip hB e
 have hb1:=f9 hn h2 hb (aT hi)
 have hb2:=f9 hn h2 hb1 (aT hj)
 have ia:=bR ip hi
 have ib:=bR ia hj
 have c1:∀t,aa (gE p i).2 t=aa (dZ p.2 i) t:=λ_=>rfl
 have c2:∀t,aa (gE (gE p i) j).2 t=aa (dZ (gE p i).2 j) t:=λ_=>rfl
 have w1:∀t,aa (gE p i).2 t=if t=i then aa p.2 (i+1)else if t=i+1 then aa p.2 i else aa p.2 t:=λt=>by
  rw[c1,aW _ _ (by rw[ip.ls];exact hi)]
 have w2:∀t,aa (gE (gE p i) j).2 t=if t=j then aa (gE p i).2 (j+1)else if t=j+1 then aa (gE p i).2 j else aa (gE p i).2 t:=λt=>by
  rw[c2,aW _ _ (by rw[ia.ls];exact hj)]
 have Nd:aa (gE p i).2 (j+1)<aa (gE p i).2 j:=by
  rw[w1,w1]
  rcases hf with rfl|rfl
  ·rw[if_neg (by omega),if_neg (by omega),if_neg (by omega),if_pos rfl]
   omega
  ·rw[if_pos rfl,if_neg (by omega),if_neg (by omega)]
   omega
 have QW:aa (gE (gE p i) j).2 (i+1)<aa (gE (gE p i) j).2 i:=by
  rw[w2,w2,w1,w1,w1,w1]
  rcases hf with rfl|rfl
  ·simp_all only [if_pos,if_neg,show¬i+1+1=i from by omega,show¬i+1=i from by omega,show¬i=i+1 from by omega,show¬i+1+1=i+1 from by omega,show¬i=i+1+1 from by omega,↓reduceIte]
   omega
  ·simp_all only [show¬j+1+1=j from by omega,show¬j+1=j from by omega,show¬j=j+1 from by omega,show¬j+1+1=j+1 from by omega,show¬j=j+1+1 from by omega,show¬j+1=j+1+1 from by omega,↓reduceIte]
   omega
 rw[qu hn h2 ip hi si hb,qu hn h2 ia hj Nd hb1,qu hn h2 ib hi QW hb2]at d
 exact Div.back hn h2 (f9 hn h2 hb2 (aT hi)) (bR ib hi) d
end
def pP(P:List Nat):List Int:=P.map λi:Nat=>(i:Int)+1
def nQ(Q:List Nat):List Int:=(Q.map λi:Nat=> -((i:Int)+1)).reverse
def VL(n:Nat)(Q:List Nat):Prop:=∀i∈Q,i+1<n
theorem sY(A B:List Nat):pP (A++B)=pP A++pP B:=map_append
theorem e7(i:Nat)(Q:List Nat):nQ (i::Q)=nQ Q++[-((i:Int)+1)]:=by unfold nQ;rw[map_cons,reverse_cons]
theorem VL.cons {n i:Nat}{Q:List Nat}(h:i+1<n)(g:VL n Q):VL n (i::Q):=λx hx=>by
 rcases mem_cons.mp hx with rfl|hx
 ·exact h
 ·exact g x hx
theorem VL.tail {n i:Nat}{Q:List Nat}(g:VL n (i::Q)):VL n Q:=λx hx=>g x (by simp[hx])
theorem VL.head {n i:Nat}{Q:List Nat}(g:VL n (i::Q)):i+1<n:=g i (by simp)
theorem VL.app {n:Nat}{A B:List Nat}(a:VL n A)(b:VL n B):VL n (A++B):=λx hx=>(mem_append.mp hx).elim (a x) (b x)
theorem VL.nil {n:Nat}:VL n []:=λ_ h=>(nomatch h)
theorem sZ(n a:Nat)(ω:Int×List RP):act n ((a:Int)+1) ω=Pa n (Xr n a) ω:=by
 unfold act
 rw[if_pos (by omega),show((a:Int)+1-1).toNat=a by omega]
theorem qw(n a:Nat)(ω:Int×List RP):act n (-((a:Int)+1)) ω=Ma n (Xr n a) ω:=by
 unfold act
 rw[if_neg (by omega),show(- -((a:Int)+1)-1).toNat=a by omega]
def rise(n:Nat)(b:Int×List RP)(Q:List Nat):Int×List RP:=nM n (pP Q) b
theorem nN(n:Nat)(b:Int×List RP):rise n b []=b:=rfl
theorem b5(n:Nat)(b:Int×List RP)(i:Nat)(Q:List Nat):rise n b (i::Q)=rise n (Pa n (Xr n i) b) Q:=by
 show nM n (((i:Int)+1)::pP Q) b=_
 show nM n (pP Q) (act n ((i:Int)+1) b)=_
 rw[sZ]
 rfl
theorem nP(n:Nat)(b:Int×List RP)(A B:List Nat):rise n b (A++B)=rise n (rise n b A) B:=by
 unfold rise
 rw[sY,uQ]
inductive Rv:List Nat->List Nat->List Nat->List Nat->Nat->Prop
 |nil (Q:List Nat):Rv Q [] [] Q 0
 |unit (P:List Nat):Rv [] P P [] 0
 |same {i:Nat} {Q P A Q':List Nat} {c:Nat}:Rv Q P A Q' c->Rv (i::Q) (i::P) A Q' (c+1)
 |ly {i y:Nat} {Q P A B Q1 Q2:List Nat} {c d:Nat}:(i+2<=y\/y+2<=i)->Rv Q [y] A Q1 c->Rv (i::Q1) P B Q2 d->Rv (i::Q) (y::P) (A++B) Q2 (c+d+2)
 |near {i y:Nat} {Q P A B Q1 Q2:List Nat} {c d:Nat}:(y=i+1\/i=y+1)->Rv Q [y,i] A Q1 c->Rv (i::y::Q1) P B Q2 d->Rv (i::Q) (y::P) (A++B) Q2 (c+d+6)
def gw:Nat->Nat
 |0=>0
 |1=>1
 |2=>2
 |n+3=>6+2*gw (n+1)+gw n
theorem He:∀d,1<=d->1<=gw d
 |0,h=>by omega
 |1,_=>Nat.le_refl _
 |2,_=>by decide
 |n+3,_=>by unfold gw;omega
theorem Hf:∀d,2+gw d<=gw (d+2)
 |0=>Nat.le_refl _
 |n+1=>by rw[show n+1+2=n+3 from rfl,gw.eq_4];omega
theorem C4(d:Nat):gw (d+3)=6+2*gw (d+1)+gw d:=gw.eq_4 d
def wg(n H:Nat)(ω:Int×List RP):Nat:=gw ((H:Int)-fK n ω).toNat
def mu(n H:Nat):(Int×List RP)->List Int->Nat
 |_,[]=>0
 |ω,k::w=>wg n H ω+mu n H (act n k ω) w
theorem fE(n H:Nat):∀(u v:List Int)(ω:Int×List RP),mu n H ω (u++v)=mu n H ω u+mu n H (nM n u ω) v
 |[],v,ω=>by rw[nil_append];unfold mu;rw[zero_add];cases v<;>rfl
 |k::u,v,ω=>by
  show wg n H ω+mu n H (act n k ω) (u++v)=wg n H ω+mu n H (act n k ω) u+mu n H (nM n u (act n k ω)) v
  rw[fE n H u v]
  omega
section
variable{n:Nat}(hn:n<=7)(h2:2<=n)
include hn h2
theorem kG{ω:Int×List RP}(hc:Cv n ω){a:Nat}(ha:a+1<n):fK n (Pa n (Xr n a) ω)=fK n ω+1:=by
 have e:fK n (Pa n (Xr n a) ω)=_:=wM hn ω.1 (hc.iv.app (.one (aT ha)))
 rw[e,mL,CY]
 have c:kW (Xr n a).1=1:=by
  have h:=(qe (bM n) ha).1 (by rw[ao (by omega),ao ha];omega)
  rw[CH n (by omega)]at h
  exact h
 rw[c]
 unfold fK
 omega
theorem EG{b:Int×List RP}(hc:Cv n b):∀{Q:List Nat},VL n Q->Cv n (rise n b Q):=λ{Q}=>by
 induction Q generalizing b with
 |nil=>exact λ_=>hc
 |cons i Q ih=>exact λh=>by rw[b5];exact ih (f9 hn h2 hc (aT h.head)) h.tail
theorem uS{b:Int×List RP}(hc:Cv n b){Q:List Nat}(h:VL n Q):nM n (nQ Q) (rise n b Q)=b:=by
 induction Q generalizing b with
 |nil=>rfl
 |cons i Q ih=>
  rw[b5,e7,uQ,ih (f9 hn h2 hc (aT h.head)) h.tail]
  show act n (-((i:Int)+1)) (Pa n (Xr n i) b)=b
  rw[qw,uP hn h2 hc (aT h.head)]
theorem Div.down {z:Int×List RP}{b:Int×List RP}(hc:Cv n b){Q:List Nat}(h:VL n Q)(d:Dz n z (rise n b Q)):Dz n z b:=by
 induction Q generalizing b with
 |nil=>exact d
 |cons i Q ih=>
  rw[b5]at d
  exact Div.back hn h2 hc (aT h.head) (ih (f9 hn h2 hc (aT h.head)) h.tail d)
theorem JK{z:Int×List RP}{H:Nat}(hz:fK n z<=H):∀(m:Nat)(b:Int×List RP)(Q P:List Nat),Cv n b->VL n Q->VL n P->Dz n z (rise n b Q)->Dz n z (rise n b P)->mu n H (rise n b Q) (nQ Q++pP P)<=m->
  ∃A Q' c,Rv Q P A Q' c/\VL n A/\VL n Q'/\rise n (rise n b Q) A=rise n (rise n b P) Q'/\Dz n z (rise n (rise n b Q) A)/\c+mu n H (rise n b Q) (pP A++nQ Q')<=mu n H (rise n b Q) (nQ Q++pP P):=λm=>by
 induction m using Nat.strongRecOn with
 |_ m IH=>
 intro b Q P hb vQ vP dQ dP hm
 cases Q with
 |nil=>exact⟨P,[],0,.unit P,vP,.nil,rfl,dP,by rw[zero_add];exact le_of_eq (by simp[nQ])⟩
 |cons i Q=>
 cases P with
 |nil=>exact⟨[],i::Q,0,.nil _,.nil,vQ,rfl,dQ,by rw[zero_add];exact le_of_eq (by simp[pP])⟩
 |cons y P=>
 have hi:=vQ.head
 have hy:=vP.head
 have ci:=f9 hn h2 hb (aT hi)
 have cy:=f9 hn h2 hb (aT hy)
 rw[b5]at dQ dP hm⊢
 rw[b5]
 have di:=Div.down hn h2 ci vQ.tail dQ
 have dy:=Div.down hn h2 cy vP.tail dP
 have dn:=uS hn h2 ci vQ.tail
 have gi:=kG hn h2 hb hi
 have gy:=kG hn h2 hb hy
 have hH:=Dz.fK hn h2 ci di
 have mb:Ma n (Xr n i) (Pa n (Xr n i) b)=b:=uP hn h2 hb (aT hi)
 have Ng:mu n H (rise n (Pa n (Xr n i) b) Q) (nQ (i::Q)++pP (y::P))=mu n H (rise n (Pa n (Xr n i) b) Q) (nQ Q)+wg n H (Pa n (Xr n i) b)+wg n H b+mu n H (Pa n (Xr n y) b) (pP P):=by
  rw[e7,List.append_assoc,fE,dn]
  show _+(wg n H (Pa n (Xr n i) b)+mu n H (act n (-((i:Int)+1)) (Pa n (Xr n i) b)) (((y:Int)+1)::pP P))=_
  rw[qw,mb]
  show _+(_+(wg n H b+mu n H (act n ((y:Int)+1) b) (pP P)))=_
  rw[sZ]
  omega
 have wb:1<=wg n H b:=He _ (by omega)
 rw[Ng]at hm⊢
 by_cases e:i=y
 ·subst e
  have m1:mu n H (rise n (Pa n (Xr n i) b) Q) (nQ Q++pP P)=mu n H (rise n (Pa n (Xr n i) b) Q) (nQ Q)+mu n H (Pa n (Xr n i) b) (pP P):=by rw[fE,dn]
  obtain⟨A,Q',c,r,vA,Nh,eq,d,QX⟩:=IH (mu n H (rise n (Pa n (Xr n i) b) Q) (nQ Q++pP P)) (by omega) (Pa n (Xr n i) b) Q P ci vQ.tail vP.tail dQ dP (Nat.le_refl _)
  exact⟨A,Q',c+1,.same r,vA,Nh,eq,d,by omega⟩
 by_cases hf:i+2<=y\/y+2<=i
 ·have df:=Div.ly hn h2 hb hi hy hf di dy
  have JL:=f9 hn h2 ci (aT hy)
  have g3:=kG hn h2 ci hy
  have QY:=Dz.fK hn h2 JL df
  have w3:2+wg n H (Pa n (Xr n y) (Pa n (Xr n i) b))<=wg n H b:=by
   unfold wg
   have:=Hf ((H:Int)-fK n (Pa n (Xr n y) (Pa n (Xr n i) b))).toNat
   rw[show((H:Int)-fK n b).toNat=((H:Int)-fK n (Pa n (Xr n y) (Pa n (Xr n i) b))).toNat+2 by omega]
   exact this
  have m1:mu n H (rise n (Pa n (Xr n i) b) Q) (nQ Q++pP [y])=mu n H (rise n (Pa n (Xr n i) b) Q) (nQ Q)+wg n H (Pa n (Xr n i) b):=by rw[fE,dn];rfl
  obtain⟨A,Q1,c,r1,vA,JM,eq1,d1,hm1⟩:=IH (mu n H (rise n (Pa n (Xr n i) b) Q) (nQ Q++pP [y])) (by omega) (Pa n (Xr n i) b) Q [y] ci vQ.tail (VL.cons hy .nil) dQ (by rw[b5,nN];exact df) (Nat.le_refl _)
  have e1:rise n (Pa n (Xr n i) b) [y]=Pa n (Xr n y) (Pa n (Xr n i) b):=by rw[b5,nN]
  have e2:rise n (Pa n (Xr n y) b) (i::Q1)=rise n (rise n (Pa n (Xr n i) b) Q) A:=by rw[b5,EF hn h2 hi hy hf hb,eq1,e1]
  have dt:nM n (nQ Q1) (rise n (rise n (Pa n (Xr n i) b) Q) A)=Pa n (Xr n y) (Pa n (Xr n i) b):=by rw[eq1,e1];exact uS hn h2 JL JM
  have m2:mu n H (rise n (Pa n (Xr n y) b) (i::Q1)) (nQ (i::Q1)++pP P)=mu n H (rise n (rise n (Pa n (Xr n i) b) Q) A) (nQ Q1)+wg n H (Pa n (Xr n y) (Pa n (Xr n i) b))+mu n H (Pa n (Xr n y) b) (pP P):=by
   rw[e2,e7,List.append_assoc,fE,dt]
   show _+(wg n H _+mu n H (act n (-((i:Int)+1)) (Pa n (Xr n y) (Pa n (Xr n i) b))) (pP P))=_
   rw[qw,<-EF hn h2 hi hy hf hb,uP hn h2 cy (aT hi)]
   omega
  have m3:mu n H (rise n (Pa n (Xr n i) b) Q) (pP A++nQ Q1)=mu n H (rise n (Pa n (Xr n i) b) Q) (pP A)+mu n H (rise n (rise n (Pa n (Xr n i) b) Q) A) (nQ Q1):=fE _ _ _ _ _
  obtain⟨B,Q2,c2,r2,vB,Ni,eq2,d2,hm2⟩:=IH (mu n H (rise n (Pa n (Xr n y) b) (i::Q1)) (nQ (i::Q1)++pP P)) (by omega) (Pa n (Xr n y) b) (i::Q1) P cy (VL.cons hi JM) vP.tail (by rw[e2];exact d1) dP (Nat.le_refl _)
  rw[e2]at eq2 d2 hm2
  have m4:mu n H (rise n (Pa n (Xr n i) b) Q) (pP (A++B)++nQ Q2)=mu n H (rise n (Pa n (Xr n i) b) Q) (pP A)+mu n H (rise n (rise n (Pa n (Xr n i) b) Q) A) (pP B++nQ Q2):=by
   rw[sY,List.append_assoc]
   exact fE _ _ _ _ _
  rw[e2]at m2
  exact⟨A++B,Q2,c+c2+2,.ly hf r1 r2,vA.app vB,Ni,by rw[nP];exact eq2,by rw[nP];exact d2,by omega⟩
 ·have hr:y=i+1\/i=y+1:=by omega
  have df:=Div.near hn h2 hb hi hy hr di dy
  have JL:=f9 hn h2 ci (aT hy)
  have JN:=f9 hn h2 JL (aT hi)
  have QZ:=f9 hn h2 cy (aT hi)
  have g3:=kG hn h2 ci hy
  have g4:=kG hn h2 JL hi
  have g5:=kG hn h2 cy hi
  have QY:=Dz.fK hn h2 JN df
  have pn:Pa n (Xr n y) (Pa n (Xr n i) (Pa n (Xr n y) b))=Pa n (Xr n i) (Pa n (Xr n y) (Pa n (Xr n i) b)):=by
   rcases hr with rfl|rfl
   ·exact(AX hn h2 (by omega) hb).symm
   ·exact AX hn h2 (by omega) hb
  have w3:6+wg n H (Pa n (Xr n y) (Pa n (Xr n i) b))+wg n H (Pa n (Xr n i) (Pa n (Xr n y) (Pa n (Xr n i) b)))+wg n H (Pa n (Xr n i) (Pa n (Xr n y) b))<=wg n H b:=by
   unfold wg
   have:=C4 ((H:Int)-fK n (Pa n (Xr n i) (Pa n (Xr n y) (Pa n (Xr n i) b)))).toNat
   rw[show((H:Int)-fK n b).toNat=((H:Int)-fK n (Pa n (Xr n i) (Pa n (Xr n y) (Pa n (Xr n i) b)))).toNat+3 by omega,this,
    show((H:Int)-fK n (Pa n (Xr n y) (Pa n (Xr n i) b))).toNat=((H:Int)-fK n (Pa n (Xr n i) (Pa n (Xr n y) (Pa n (Xr n i) b)))).toNat+1 by omega,
    show((H:Int)-fK n (Pa n (Xr n i) (Pa n (Xr n y) b))).toNat=((H:Int)-fK n (Pa n (Xr n i) (Pa n (Xr n y) (Pa n (Xr n i) b)))).toNat+1 by omega]
   omega
  have m1:mu n H (rise n (Pa n (Xr n i) b) Q) (nQ Q++pP [y,i])=mu n H (rise n (Pa n (Xr n i) b) Q) (nQ Q)+(wg n H (Pa n (Xr n i) b)+wg n H (Pa n (Xr n y) (Pa n (Xr n i) b))):=by
   rw[fE,dn]
   show _+(wg n H (Pa n (Xr n i) b)+(wg n H (act n ((y:Int)+1) (Pa n (Xr n i) b))+0))=_
   rw[sZ]
   omega
  have e1:rise n (Pa n (Xr n i) b) [y,i]=Pa n (Xr n i) (Pa n (Xr n y) (Pa n (Xr n i) b)):=by rw[b5,b5,nN]
  obtain⟨A,Q1,c,r1,vA,JM,eq1,d1,hm1⟩:=IH (mu n H (rise n (Pa n (Xr n i) b) Q) (nQ Q++pP [y,i])) (by omega) (Pa n (Xr n i) b) Q [y,i] ci vQ.tail (VL.cons hy (VL.cons hi .nil)) dQ (by rw[e1];exact df) (Nat.le_refl _)
  have e2:rise n (Pa n (Xr n y) b) (i::y::Q1)=rise n (rise n (Pa n (Xr n i) b) Q) A:=by rw[b5,b5,pn,eq1,e1]
  have dt:nM n (nQ Q1) (rise n (rise n (Pa n (Xr n i) b) Q) A)=Pa n (Xr n i) (Pa n (Xr n y) (Pa n (Xr n i) b)):=by rw[eq1,e1];exact uS hn h2 JN JM
  have m2:mu n H (rise n (Pa n (Xr n y) b) (i::y::Q1)) (nQ (i::y::Q1)++pP P)=mu n H (rise n (rise n (Pa n (Xr n i) b) Q) A) (nQ Q1)+wg n H (Pa n (Xr n i) (Pa n (Xr n y) (Pa n (Xr n i) b)))+wg n H (Pa n (Xr n i) (Pa n (Xr n y) b))+mu n H (Pa n (Xr n y) b) (pP P):=by
   rw[e2,e7,e7,List.append_assoc,List.append_assoc,fE,dt]
   show _+(wg n H _+mu n H (act n (-((y:Int)+1)) (Pa n (Xr n i) (Pa n (Xr n y) (Pa n (Xr n i) b)))) (-((i:Int)+1)::pP P))=_
   rw[qw,<-pn,uP hn h2 QZ (aT hy)]
   show _+(_+(wg n H _+mu n H (act n (-((i:Int)+1)) (Pa n (Xr n i) (Pa n (Xr n y) b))) (pP P)))=_
   rw[qw,uP hn h2 cy (aT hi)]
   omega
  have m3:mu n H (rise n (Pa n (Xr n i) b) Q) (pP A++nQ Q1)=mu n H (rise n (Pa n (Xr n i) b) Q) (pP A)+mu n H (rise n (rise n (Pa n (Xr n i) b) Q) A) (nQ Q1):=fE _ _ _ _ _
  obtain⟨B,Q2,c2,r2,vB,Ni,eq2,d2,hm2⟩:=IH (mu n H (rise n (Pa n (Xr n y) b) (i::y::Q1)) (nQ (i::y::Q1)++pP P)) (by omega) (Pa n (Xr n y) b) (i::y::Q1) P cy (VL.cons hi (VL.cons hy JM)) vP.tail (by rw[e2];exact d1) dP (Nat.le_refl _)
  rw[e2]at eq2 d2 hm2
  have m4:mu n H (rise n (Pa n (Xr n i) b) Q) (pP (A++B)++nQ Q2)=mu n H (rise n (Pa n (Xr n i) b) Q) (pP A)+mu n H (rise n (rise n (Pa n (Xr n i) b) Q) A) (pP B++nQ Q2):=by
   rw[sY,List.append_assoc]
   exact fE _ _ _ _ _
  rw[e2]at m2
  exact⟨A++B,Q2,c+c2+6,.near hr r1 r2,vA.app vB,Ni,by rw[nP];exact eq2,by rw[nP];exact d2,by omega⟩
end
theorem Rv.Hg {Q C Q':List Nat}{d:Nat}(h:Rv Q [] C Q' d):C=[]/\Q'=Q/\d=0:=by
 cases h with
 |nil=>exact⟨rfl,rfl,rfl⟩
 |unit=>exact⟨rfl,rfl,rfl⟩
theorem Rv.split {Q X C Q':List Nat}{d:Nat}(h:Rv Q X C Q' d):∀A B,X=A++B->∃C1 C2 Qm d1 d2,Rv Q A C1 Qm d1/\Rv Qm B C2 Q' d2/\C=C1++C2/\d=d1+d2:=by
 induction h with
 |nil Q=>
  intro A B e
  obtain⟨rfl,rfl⟩:=List.append_eq_nil_iff.mp e.symm
  exact⟨[],[],Q,0,0,.nil Q,.nil Q,rfl,rfl⟩
 |unit P=>
  intro A B e
  exact⟨A,B,[],0,0,.unit A,.unit B,e,rfl⟩
 | @same i Q P C Q' c r ih=>
  intro A B e
  cases A with
  |nil=>exact⟨[],C,i::Q,0,c+1,.nil _,by rw[<-show i::P=B from e];exact .same r,rfl,by omega⟩
  |cons a A=>
   cases e
   obtain⟨C1,C2,Qm,d1,d2,r1,r2,e1,e2⟩:=ih A B rfl
   exact⟨C1,C2,Qm,d1+1,d2,.same r1,r2,e1,by omega⟩
 | @ly i y Q P A0 B0 Q1 Q2 c d hf r1 r2 ih1 ih2=>
  intro A B e
  cases A with
  |nil=>exact⟨[],A0++B0,i::Q,0,c+d+2,.nil _,by rw[<-show y::P=B from e];exact .ly hf r1 r2,rfl,by omega⟩
  |cons a A=>
   cases e
   obtain⟨C1,C2,Qm,d1,d2,s1,s2,e1,e2⟩:=ih2 A B rfl
   exact⟨A0++C1,C2,Qm,c+d1+2,d2,.ly hf r1 s1,s2,by rw[e1,List.append_assoc],by omega⟩
 | @near i y Q P A0 B0 Q1 Q2 c d hf r1 r2 ih1 ih2=>
  intro A B e
  cases A with
  |nil=>exact⟨[],A0++B0,i::Q,0,c+d+6,.nil _,by rw[<-show y::P=B from e];exact .near hf r1 r2,rfl,by omega⟩
  |cons a A=>
   cases e
   obtain⟨C1,C2,Qm,d1,d2,s1,s2,e1,e2⟩:=ih2 A B rfl
   exact⟨A0++C1,C2,Qm,c+d1+6,d2,.near hf r1 s1,s2,by rw[e1,List.append_assoc],by omega⟩
theorem Rv.JO {Q P A Q':List Nat}{c:Nat}(h:Rv Q P A Q' c):∀{R B R':List Nat}{d:Nat},Rv R A B R' d->Rv (Q++R) P B (Q'++R') (c+d):=by
 induction h with
 |nil Q=>
   intro R B R' d r
   obtain⟨rfl,rfl,rfl⟩:=r.Hg
   exact .nil _
 |unit P=>exact λ{R B R' d} r=>by rw[zero_add];exact r
 | @same i Q P C Q' c r ih=>
   intro R B R' d s
   have:=Rv.same (i:=i) (ih s)
   rw[show c+1+d=c+d+1 by omega]
   exact this
 | @ly i y Q P A0 B0 Q1 Q2 c d hf r1 r2 ih1 ih2=>
   intro R B R' e s
   obtain⟨C1,C2,Qm,d1,d2,s1,s2,e1,e2⟩:=s.split A0 B0 rfl
   have:=Rv.ly hf (ih1 s1) (ih2 s2)
   rw[e1,show c+d+2+e=c+d1+(d+d2)+2 by omega]
   exact this
 | @near i y Q P A0 B0 Q1 Q2 c d hf r1 r2 ih1 ih2=>
   intro R B R' e s
   obtain⟨C1,C2,Qm,d1,d2,s1,s2,e1,e2⟩:=s.split A0 B0 rfl
   have:=Rv.near hf (ih1 s1) (ih2 s2)
   rw[e1,show c+d+6+e=c+d1+(d+d2)+6 by omega]
   exact this
def xs(n:Nat)(Q:List Nat):List RP:=Q.map (Xr n)
theorem Hh(n:Nat)(A B:List Nat):xs n (A++B)=xs n A++xs n B:=map_append
theorem uT{n:Nat}{Q:List Nat}(h:VL n Q):aD n (xs n Q):=λx hx=>by
 obtain⟨i,hi,rfl⟩:=mem_map.mp hx
 exact aT (h i hi)
structure Sm(n:Nat)(Q:List Nat):Prop where
 vl:VL n Q
 dv:Div n 1 (rise n (0,[]) Q)
section
variable{n:Nat}(hn:n<=7)(h2:2<=n)
include hn h2
theorem C5{b:Int×List RP}(hc:Cv n b){Q:List Nat}(h:VL n Q):rise n b Q=Vl n b.1 (b.2++xs n Q):=by
 induction Q generalizing b with
 |nil=>
  rw[nN,show xs n []=[]from rfl,append_nil]
  exact hc.id.symm
 |cons i Q ih=>
  have ix:=aT h.head
  rw[b5,ih (f9 hn h2 hc ix) h.tail]
  have:=iY hn h2 b.1 (L:=b.2++[Xr n i]) (B:=xs n Q) (hc.iv.app (.one ix)) (uT h.tail)
  rw[List.append_assoc]at this
  exact this.symm
theorem A3{Q:List Nat}(h:VL n Q):Div n 1 (rise n (0,[]) Q)↔∃L,aD n L/\cV n (xs n Q++L)=[fj n]:=by
 have e:rise n (0,[]) Q=Vl n 0 (xs n Q):=C5 hn h2 iK h
 rw[e]
 constructor
 ·rintro⟨L,hL,f⟩
  refine⟨L,hL,?_⟩
  rw[<-iY hn h2 0 (uT h) hL]at f
  exact yP hn f
 ·rintro⟨L,hL,f⟩
  refine⟨L,hL,?_⟩
  rw[<-iY hn h2 0 (uT h) hL]
  have c:dh n [fj n]=1:=rF []
  unfold Vl
  rw[f,c]
  rfl
theorem Sm.suffix {Q A:List Nat}(h:Sm n (Q++A)):Sm n A:=by
 have vQ:VL n Q:=λx hx=>h.vl x (by simp[hx])
 have vA:VL n A:=λx hx=>h.vl x (by simp[hx])
 refine⟨vA,(A3 hn h2 vA).mpr ?_⟩
 obtain⟨L,hL,e⟩:=(A3 hn h2 h.vl).mp h.dv
 rw[Hh,List.append_assoc]at e
 have iQ:=uT vQ
 have iA:=uT vA
 refine⟨L++(xs n Q).map (f6 n),hL.app iQ.f6,?_⟩
 have one:cV n [fj n]=[fj n]:=by
  have:=qp hn h2 (L:=[]) (λ_ h=>(nomatch h))
  exact this
 have h1:cV n (xs n Q++(xs n A++(L++(xs n Q).map (f6 n))))=cV n (xs n Q++[fj n]):=by
  have Nj:=iQ.app (iA.app hL)
  obtain⟨k,s,g⟩:=eR hn Nj
  rw[e]at s
  have s2:=s.Bq ((xs n Q).map (f6 n))
  rw[List.append_assoc,List.append_assoc,List.append_assoc]at s2
  rw[qo hn (iQ.app (iA.app (hL.app iQ.f6))) s2,mJ hn (A:=[fj n]) (.one (dJ n)) iQ.f6]
  exact(qo hn (iQ.app (.one (dJ n))) (pv hn _ iQ)).symm
 exact(qv hn h2 iQ (iA.app (hL.app iQ.f6)) (.one (dJ n)) h1).trans one
theorem Sm.one {i:Nat}(hi:i+1<n):Sm n [i]:=⟨VL.cons hi .nil,by
 rw[b5,nN]
 exact Div.pos hn h2 iK (aT hi) (Div.zero hn h2)⟩
omit hn h2 in
def A4:Nat->Nat
 |0=>0
 |d+1=>gw d+A4 d
theorem EH{H:Nat}:∀{P:List Nat}{b:Int×List RP},Cv n b->VL n P->fK n (rise n b P)<=H->mu n H b (pP P)<=DL.A4 (((H:Int)-fK n b).toNat+1)-DL.A4 (((H:Int)-fK n (rise n b P)).toNat+1)/\fK n b<=fK n (rise n b P)/\DL.A4 (((H:Int)-fK n (rise n b P)).toNat+1)<=DL.A4 (((H:Int)-fK n b).toNat+1):=λ{P}=>by
 induction P with
 |nil=>
  intro b hc _ hh
  rw[nN]
  exact⟨zero_le _,Int.le_refl _,Nat.le_refl _⟩
 |cons i P ih=>
  intro b hc hv hh
  rw[b5]at hh⊢
  have g:=kG hn h2 hc hv.head
  obtain⟨h1,h3,h4⟩:=ih (f9 hn h2 hc (aT hv.head)) hv.tail hh
  have e:((H:Int)-fK n b).toNat=((H:Int)-fK n (Pa n (Xr n i) b)).toNat+1:=by omega
  have es:DL.A4 (((H:Int)-fK n b).toNat+1)=gw ((H:Int)-fK n b).toNat+DL.A4 (((H:Int)-fK n (Pa n (Xr n i) b)).toNat+1):=by rw[<-e];rfl
  have em:mu n H b (pP (i::P))=gw ((H:Int)-fK n b).toNat+mu n H (Pa n (Xr n i) b) (pP P):=by
   show wg n H b+mu n H (act n ((i:Int)+1) b) (pP P)=_
   rw[sZ]
   rfl
  rw[es,em]
  exact⟨by omega,by omega,by omega⟩
end
theorem C6(n:Nat):fK n (0,[])=0:=by
 unfold fK
 show(0:Int)*_+((0:Nat):Int)=0
 rw[Int.zero_mul]
 rfl
def KB(n:Nat):Nat:=A4 (T2 n)+A4 (T2 n+1)
section
variable{n:Nat}(hn:n<=7)(h2:2<=n)
include hn h2
theorem JP{H:Nat}:∀{Q:List Nat}{b:Int×List RP},Cv n b->VL n Q->fK n (rise n b Q)<=H->mu n H (rise n b Q) (nQ Q)<=A4 ((H:Int)-fK n b).toNat:=λ{Q}=>by
 induction Q with
 |nil=>exact λ_ _ _=>zero_le _
 |cons i Q ih=>
  intro b hc hv hh
  rw[b5]at hh⊢
  have ci:=f9 hn h2 hc (aT hv.head)
  have g:=kG hn h2 hc hv.head
  have h1:=ih ci hv.tail hh
  have hl:=(EH hn h2 (P:=Q) ci hv.tail hh).2.1
  have e:((H:Int)-fK n b).toNat=((H:Int)-fK n (Pa n (Xr n i) b)).toNat+1:=by omega
  rw[e7,fE,uS hn h2 ci hv.tail,e]
  show mu n H _ (nQ Q)+(wg n H (Pa n (Xr n i) b)+0)<=gw ((H:Int)-fK n (Pa n (Xr n i) b)).toNat+A4 ((H:Int)-fK n (Pa n (Xr n i) b)).toNat
  unfold wg
  omega
theorem JQ{Q P:List Nat}(hQ:Sm n Q)(hP:Sm n P):∃A Q' c,Rv Q P A Q' c/\Sm n A/\Sm n Q'/\c<=KB n:=by
 obtain⟨A,Q',c,r,vA,Nh,e,d,hm⟩:=JK hn h2 (z:=(((1:Nat):Int),[])) (H:=1*T2 n) (by unfold fK;show((1:Nat):Int)*_+((0:Nat):Int)<=_;omega) _ (0,[]) Q P iK hQ.vl hP.vl hQ.dv hP.dv (Nat.le_refl _)
 have sA:Sm n (Q++A):=⟨hQ.vl.app vA,by rw[nP];exact d⟩
 have sQ:Sm n (P++Q'):=⟨hP.vl.app Nh,by rw[nP,<-e];exact d⟩
 refine⟨A,Q',c,r,Sm.suffix hn h2 sA,Sm.suffix hn h2 sQ,?_⟩
 have gQ:=Div.fK hn h2 (EG hn h2 iK hQ.vl) hQ.dv
 have gP:=Div.fK hn h2 (EG hn h2 iK hP.vl) hP.dv
 have m1:=JP hn h2 (H:=1*T2 n) iK hQ.vl gQ
 have m2:=(EH hn h2 (H:=1*T2 n) iK hP.vl gP).1
 have em:=fE n (1*T2 n) (nQ Q) (pP P) (rise n (0,[]) Q)
 rw[uS hn h2 iK hQ.vl]at em
 rw[em]at hm
 rw[C6,show(((1*T2 n:Nat):Int)-0).toNat=T2 n by omega]at m1 m2
 unfold KB
 omega
theorem uU:∀(Qs:List (List Nat)){P:List Nat},(∀Q∈Qs,Sm n Q)->Sm n P->∃(B:List Nat)(JR:List (List Nat))(c:Nat),Rv Qs.flatten P B JR.flatten c/\Sm n B/\(∀Q∈JR,Sm n Q)/\JR.length=Qs.length/\c<=Qs.length*KB n
 |[],P,_,hP=>⟨P,[],0,.unit P,hP,λ_ h=>(nomatch h),rfl,zero_le _⟩
 |Q::Qs,P,hQ,hP=>by
  obtain⟨A,Q',c,r,sA,sQ,hc⟩:=JQ hn h2 (hQ Q (by simp)) hP
  obtain⟨B,JR,d,r2,sB,Q0,hl,hd⟩:=uU Qs (λX hX=>hQ X (by simp[hX])) sA
  refine⟨B,Q'::JR,c+d,r.JO r2,sB,λX hX=>?_,by rw[length_cons,length_cons,hl],?_⟩
  ·rcases mem_cons.mp hX with rfl|hX
   ·exact sQ
   ·exact Q0 X hX
  ·rw[length_cons,succ_mul]
   omega
end
theorem Nk:∀n,n<=7->KB n<=250000:=by decide +kernel
inductive Pr:List Nat->List Nat->List Int->List Nat->List Nat->Nat->Prop
 |nil (W Q:List Nat):Pr W Q [] W Q 0
 |app {y:Nat} {W W' Q':List Nat} {w:List Int} {m:Nat}:Pr (y::W) [] w W' Q' m->Pr W [] (((y:Int)+1)::w) W' Q' m
 |same {i:Nat} {W Q W' Q':List Nat} {w:List Int} {m:Nat}:Pr W Q w W' Q' m->Pr W (i::Q) (((i:Int)+1)::w) W' Q' (m+1)
 |ly {i y:Nat} {W Q W' Q':List Nat} {w:List Int} {m:Nat}:(i+2<=y\/y+2<=i)->Pr W Q (((y:Int)+1):: -((i:Int)+1)::w) W' Q' m->Pr W (i::Q) (((y:Int)+1)::w) W' Q' (m+1)
 |near {i y:Nat} {W Q W' Q':List Nat} {w:List Int} {m:Nat}:(y=i+1\/i=y+1)->Pr W Q (((y:Int)+1)::((i:Int)+1):: -((y:Int)+1):: -((i:Int)+1)::w) W' Q' m->Pr W (i::Q) (((y:Int)+1)::w) W' Q' (m+4)
 |push {i:Nat} {W Q W' Q':List Nat} {w:List Int} {m:Nat}:(Q=[]->∀V,W≠i::V)->Pr W (i::Q) w W' Q' m->Pr W Q (-((i:Int)+1)::w) W' Q' m
 |out {i:Nat} {W W' Q':List Nat} {w:List Int} {m:Nat}:Pr W [] w W' Q' m->Pr (i::W) [] (-((i:Int)+1)::w) W' Q' (m+1)
theorem Pr.put (i:Nat)(W Q X:List Nat):∃W1 Q1 X1,i::(Q++X)=Q1++X1/\(∀{w:List Int}{W' Q':List Nat}{m:Nat},Pr W1 Q1 w W' Q' m->∃k,k<=1/\Pr W Q (-((i:Int)+1)::w) W' Q' (m+k))/\(Q≠[]->Q1=i::Q/\X1=X/\W1=W)/\(Q=[]->(Q1=[]/\X1=i::X)\/(Q1=[i]/\X1=X)):=by
 rcases Classical.em (Q=[]/\∃V,W=i::V)with⟨rfl,V,rfl⟩|h
 ·exact⟨V,[],i::X,rfl,λr=>⟨1,Nat.le_refl _,.out r⟩,λz=>absurd rfl z,λ_=>.inl ⟨rfl,rfl⟩⟩
 ·refine⟨W,i::Q,X,rfl,λr=>⟨0,zero_le _,.push (λe V z=>h ⟨e,V,z⟩) r⟩,λ_=>⟨rfl,rfl,rfl⟩,λe=>.inr ⟨by rw[e],rfl⟩⟩
theorem Rv.pr {R P A R':List Nat}{c:Nat}(h:Rv R P A R' c):∀(W Q X:List Nat),R=Q++X->∃W1 Q1 X1 m,R'=Q1++X1/\m<=c/\∀{w:List Int}{W' Q':List Nat}{d:Nat},Pr W1 Q1 w W' Q' d->∃k,k<=m/\Pr W Q (pP P++w) W' Q' (d+k):=by
 induction h with
 |nil R=>exact λW Q X e=>⟨W,Q,X,0,e,Nat.le_refl _,λr=>⟨0,Nat.le_refl _,r⟩⟩
 |unit P=>
  intro W Q X e
  obtain⟨rfl,rfl⟩:=List.append_eq_nil_iff.mp e.symm
  refine⟨P.reverse++W,[],[],0,rfl,Nat.le_refl _,λ{w W' Q' d} r=>⟨0,Nat.le_refl _,?_⟩⟩
  induction P generalizing W with
  |nil=>exact r
  |cons y P ih=>
   rw[reverse_cons,List.append_assoc]at r
   exact .app (ih (y::W) r)
 | @same i R P A R' c r ih=>
  intro W Q X e
  cases Q with
  |nil=>
   obtain⟨W1,Q1,X1,m,e1,hm,f⟩:=ih (i::W) [] R rfl
   exact⟨W1,Q1,X1,m,e1,by omega,λs=>(f s).elim λk hk=>⟨k,hk.1,.app hk.2⟩⟩
  |cons j Q=>
   cases e
   obtain⟨W1,Q1,X1,m,e1,hm,f⟩:=ih W Q X rfl
   exact⟨W1,Q1,X1,m+1,e1,by omega,λs=>(f s).elim λk hk=>⟨k+1,by omega,.same hk.2⟩⟩
 | @ly i y R P A B R1 R2 c d hf r1 r2 ih1 ih2=>
  intro W Q X e
  cases Q with
  |nil=>
   obtain⟨W1,Q1,X1,m,e1,hm,f⟩:=ih2 (y::W) [] (i::R1) rfl
   exact⟨W1,Q1,X1,m,e1,by omega,λs=>(f s).elim λk hk=>⟨k,hk.1,.app hk.2⟩⟩
  |cons j Q=>
   cases e
   obtain⟨W1,Q1,X1,m1,e1,hm1,f1⟩:=ih1 W Q X rfl
   obtain⟨W2,Q2,X2,e2,f2,_,_⟩:=Pr.put i W1 Q1 X1
   obtain⟨W3,Q3,X3,m3,e3,Q5,f3⟩:=ih2 W2 Q2 X2 (by rw[e1];exact e2)
   refine⟨W3,Q3,X3,m1+m3+2,e3,by omega,λ{w W' Q' d'} s=>?_⟩
   obtain⟨k3,h3,s3⟩:=f3 s
   obtain⟨k2,h2,s2⟩:=f2 s3
   obtain⟨k1,h1,s1⟩:=f1 s2
   exact⟨k3+k2+k1+1,by omega,by
    have:=Pr.ly hf s1
    rw[show d'+(k3+k2+k1+1)=d'+k3+k2+k1+1 by omega]
    exact this⟩
 | @near i y R P A B R1 R2 c d hf r1 r2 ih1 ih2=>
  intro W Q X e
  cases Q with
  |nil=>
   obtain⟨W1,Q1,X1,m,e1,hm,f⟩:=ih2 (y::W) [] (i::y::R1) rfl
   exact⟨W1,Q1,X1,m,e1,by omega,λs=>(f s).elim λk hk=>⟨k,hk.1,.app hk.2⟩⟩
  |cons j Q=>
   cases e
   obtain⟨W1,Q1,X1,m1,e1,hm1,f1⟩:=ih1 W Q X rfl
   obtain⟨W2,Q2,X2,e2,f2,_,_⟩:=Pr.put y W1 Q1 X1
   obtain⟨W4,Q4,X4,e4,f4,_,_⟩:=Pr.put i W2 Q2 X2
   obtain⟨W3,Q3,X3,m3,e3,Q5,f3⟩:=ih2 W4 Q4 X4 (by rw[e1,e2];exact e4)
   refine⟨W3,Q3,X3,m1+m3+6,e3,by omega,λ{w W' Q' d'} s=>?_⟩
   obtain⟨k3,h3,s3⟩:=f3 s
   obtain⟨k4,h4,s4⟩:=f4 s3
   obtain⟨k2,h2,s2⟩:=f2 s4
   obtain⟨k1,h1,s1⟩:=f1 s2
   exact⟨k3+k4+k2+k1+4,by omega,by
    have:=Pr.near hf s1
    rw[show d'+(k3+k4+k2+k1+4)=d'+k3+k4+k2+k1+4 by omega]
    exact this⟩
def yb(w:List Int):Nat:=(w.filter λk=>decide (k<0)).length
def Br(w:List Int):Nat:=(w.filter λk=>decide (0<k)).length
section
variable{n:Nat}(hn:n<=7)(h2:2<=n)
include hn h2
theorem A5:∀(w:List Int),(∀k∈w,iB n k)->∀(W Q X:List Nat)(Rs:List (List Nat)),(∀R∈Rs,Sm n R)->Q++X=Rs.flatten->∃W' Q' m,Pr W Q w W' Q' m/\m<=yb w+Br w*((Rs.length+yb w)*KB n)
 |[],_,W,Q,X,Rs,_,_=>⟨W,Q,0,.nil W Q,zero_le _⟩
 |k::w,hw,W,Q,X,Rs,hR,e=>by
  have hk:=hw k (by simp)
  unfold iB at hk
  by_cases hs:0<k
  ·obtain⟨y,rfl⟩:∃y:Nat,k=(y:Int)+1:=⟨(k-1).toNat,by omega⟩
   obtain⟨B,Q6,c,r,_,sR,hl,hc⟩:=uU hn h2 Rs hR (Sm.one hn h2 (i:=y) (by omega))
   obtain⟨W1,Q1,X1,m1,e1,hm1,f1⟩:=r.pr W Q X e.symm
   obtain⟨W',Q',m,s,hm⟩:=A5 w (λx hx=>hw x (by simp[hx])) W1 Q1 X1 Q6 sR e1.symm
   obtain⟨k1,hk1,s1⟩:=f1 s
   have a1:yb (((y:Int)+1)::w)=yb w:=by unfold yb;rw[List.filter_cons_of_neg (by simp<;>omega)]
   have a2:Br (((y:Int)+1)::w)=Br w+1:=by unfold Br;rw[List.filter_cons_of_pos (by simp<;>omega),length_cons]
   refine⟨W',Q',m+k1,s1,?_⟩
   rw[a1,a2,succ_mul]
   rw[hl]at hm
   have:Rs.length*KB n<=(Rs.length+yb w)*KB n:=Nat.mul_le_mul_right _ (by omega)
   omega
  ·obtain⟨i,rfl⟩:∃i:Nat,k= -((i:Int)+1):=⟨(-k-1).toNat,by omega⟩
   obtain⟨W1,Q1,X1,e1,f1,_,_⟩:=Pr.put i W Q X
   have Q7:∀R∈[i]::Rs,Sm n R:=λR hr=>by
    rcases mem_cons.mp hr with rfl|hr
    ·exact Sm.one hn h2 (by omega)
    ·exact hR R hr
   obtain⟨W',Q',m,s,hm⟩:=A5 w (λx hx=>hw x (by simp[hx])) W1 Q1 X1 ([i]::Rs) Q7 (by rw[<-e1,e,flatten_cons];rfl)
   obtain⟨k1,hk1,s1⟩:=f1 s
   have a1:yb (-((i:Int)+1)::w)=yb w+1:=by unfold yb;rw[List.filter_cons_of_pos (by simp<;>omega),length_cons]
   have a2:Br (-((i:Int)+1)::w)=Br w:=by unfold Br;rw[List.filter_cons_of_neg (by simp<;>omega)]
   refine⟨W',Q',m+k1,s1,?_⟩
   rw[a1,a2]
   rw[length_cons,show Rs.length+1+yb w=Rs.length+(yb w+1)by omega]at hm
   omega
end
inductive Px:List Nat->List Nat->Prop
 |refl (A:List Nat):Px A A
 |symm {A B:List Nat}:Px A B->Px B A
 |trans {A B C:List Nat}:Px A B->Px B C->Px A C
 |cons (i:Nat) {A B:List Nat}:Px A B->Px (i::A) (i::B)
 |ly {i y:Nat} (L:List Nat):(i+2<=y\/y+2<=i)->Px (i::y::L) (y::i::L)
 |near {i y:Nat} (L:List Nat):(y=i+1\/i=y+1)->Px (i::y::i::L) (y::i::y::L)
section
variable{n:Nat}(hn:n<=7)(h2:2<=n)
include hn h2
end
def Ds(n:Nat)(W W1:List Nat)(v v1 b e:Int×List RP):Prop:=
 ∃U T V v',W=U++V/\W1=T++V/\Cv n v'/\VL n U/\VL n T/\rise n v' U.reverse=v/\rise n v' T.reverse=v1/\(∀z,Dz n z v'->Dz n z e->Dz n z v1)/\(∀z,Dz n z v'->Dz n z b)
section
variable{n:Nat}(hn:n<=7)(h2:2<=n)
include hn h2
end
section
variable{n:Nat}(hn:n<=7)(h2:2<=n)
include hn h2
end
def D0(n:Nat):List Nat:=(range n).reverse.flatMap range
section
variable{n:Nat}(hn:n<=7)(h2:2<=n)
include hn h2
end
section
variable{n:Nat}(hn:n<=7)(h2:2<=n)
include hn h2
end
def tj(x y:Int):Prop:=x= -y\/(x<0/\0<y)
def e9(x y:Int):List Int:=if x= -y then[]else if(2:Int)<=x+y\/x+y<= -2 then[y,x]else[y,-x,-y,x]
def dW(x y:Int):Nat:=if x= -y then 1 else if(2:Int)<=x+y\/x+y<= -2 then 1 else 4
inductive Lp:List Int->Nat->List Int->Nat->Nat->Prop
 |stop {now:List Int} {p:Nat}:¬p+1<now.length->Lp now p now 0 0
 |go {A B r:List Int} {x y:Int} {m k:Nat}:¬tj x y->Lp (A++x::y::B) (A.length+1) r m k->Lp (A++x::y::B) A.length r m (k+1)
 |chg {A B r:List Int} {x y:Int} {m k:Nat}:tj x y->Lp (A++(e9 x y++B)) (A.length-1) r m k->Lp (A++x::y::B) A.length r (m+dW x y) (k+1)
theorem kH(P:List Nat):(pP P).length=P.length:=by unfold pP;exact length_map _
theorem qx(Q:List Nat):(nQ Q).length=Q.length:=by unfold nQ;rw[length_reverse,length_map]
theorem pB(y:Nat)(W:List Nat):pP (y::W).reverse=pP W.reverse++[(y:Int)+1]:=by rw[reverse_cons,sY];rfl
theorem JS{W Q W' Q':List Nat}{w:List Int}{m:Nat}(h:Pr W Q w W' Q' m):∃k,k<=w.length+6*m/\Lp (pP W.reverse++(nQ Q++w)) (W.length+Q.length-1) (pP W'.reverse++nQ Q') m k:=by
 induction h with
 |nil W Q=>
  refine⟨0,zero_le _,?_⟩
  rw[append_nil]
  refine .stop ?_
  rw[length_append,kH,qx,length_reverse]
  omega
 | @app y W W' Q' w m r ih=>
  obtain⟨k,hk,l⟩:=ih
  rw[pB,List.append_assoc]at l
  cases W with
  |nil=>exact⟨k,by rw[length_cons];omega,l⟩
  |cons a W=>
   refine⟨k+1,by rw[length_cons];omega,?_⟩
   rw[pB,List.append_assoc]at l⊢
   have l2:(pP W.reverse).length=W.length:=by rw[kH,length_reverse]
   have:Lp (pP W.reverse++(((a:Int)+1)::((y:Int)+1)::w)) (pP W.reverse).length (pP W'.reverse++nQ Q') m (k+1):=.go (λz=>by unfold tj at z;omega) (by
    rw[l2]
    exact l)
   rw[l2]at this
   exact this
 | @same i W Q W' Q' w m r ih=>
  obtain⟨k,hk,l⟩:=ih
  refine⟨k+1,by rw[length_cons];omega,?_⟩
  have l2:(pP W.reverse++nQ Q).length=W.length+Q.length:=by rw[length_append,kH,qx,length_reverse]
  have e:e9 (-((i:Int)+1)) ((i:Int)+1)=[]:=if_pos rfl
  have em:dW (-((i:Int)+1)) ((i:Int)+1)=1:=if_pos rfl
  have:Lp ((pP W.reverse++nQ Q)++ -((i:Int)+1)::((i:Int)+1)::w) (pP W.reverse++nQ Q).length (pP W'.reverse++nQ Q') (m+dW (-((i:Int)+1)) ((i:Int)+1)) (k+1):=.chg (.inl rfl) (by
   rw[e,nil_append,l2,List.append_assoc]
   exact l)
  rw[em,l2,List.append_assoc]at this
  rw[e7,List.append_assoc,length_cons]
  exact this
 | @ly i y W Q W' Q' w m hf r ih=>
  obtain⟨k,hk,l⟩:=ih
  refine⟨k+1,by simp -implicitDefEqProofs only [length_cons]at*;omega,?_⟩
  have l2:(pP W.reverse++nQ Q).length=W.length+Q.length:=by rw[length_append,kH,qx,length_reverse]
  have n1:¬(-((i:Int)+1)= -((y:Int)+1)):=by omega
  have n2:(2:Int)<= -((i:Int)+1)+((y:Int)+1)\/ -((i:Int)+1)+((y:Int)+1)<= -2:=by omega
  have e:e9 (-((i:Int)+1)) ((y:Int)+1)=[(y:Int)+1,-((i:Int)+1)]:=by unfold e9;rw[if_neg n1,if_pos n2]
  have em:dW (-((i:Int)+1)) ((y:Int)+1)=1:=by unfold dW;rw[if_neg n1,if_pos n2]
  have:Lp ((pP W.reverse++nQ Q)++ -((i:Int)+1)::((y:Int)+1)::w) (pP W.reverse++nQ Q).length (pP W'.reverse++nQ Q') (m+dW (-((i:Int)+1)) ((y:Int)+1)) (k+1):=.chg (.inr ⟨by omega,by omega⟩) (by
   rw[e,l2,List.append_assoc]
   exact l)
  rw[em,l2,List.append_assoc]at this
  rw[e7,List.append_assoc,length_cons]
  exact this
 | @near i y W Q W' Q' w m hf r ih=>
  obtain⟨k,hk,l⟩:=ih
  refine⟨k+1,by simp -implicitDefEqProofs only [length_cons]at*;omega,?_⟩
  have l2:(pP W.reverse++nQ Q).length=W.length+Q.length:=by rw[length_append,kH,qx,length_reverse]
  have n1:¬(-((i:Int)+1)= -((y:Int)+1)):=by omega
  have n2:¬((2:Int)<= -((i:Int)+1)+((y:Int)+1)\/ -((i:Int)+1)+((y:Int)+1)<= -2):=by omega
  have e:e9 (-((i:Int)+1)) ((y:Int)+1)=[(y:Int)+1,(i:Int)+1,-((y:Int)+1),-((i:Int)+1)]:=by unfold e9;rw[if_neg n1,if_neg n2,Int.neg_neg]
  have em:dW (-((i:Int)+1)) ((y:Int)+1)=4:=by unfold dW;rw[if_neg n1,if_neg n2]
  have:Lp ((pP W.reverse++nQ Q)++ -((i:Int)+1)::((y:Int)+1)::w) (pP W.reverse++nQ Q).length (pP W'.reverse++nQ Q') (m+dW (-((i:Int)+1)) ((y:Int)+1)) (k+1):=.chg (.inr ⟨by omega,by omega⟩) (by
   rw[e,l2,List.append_assoc]
   exact l)
  rw[em,l2,List.append_assoc]at this
  rw[e7,List.append_assoc,length_cons]
  exact this
 | @push i W Q W' Q' w m hp r ih=>
  obtain⟨k,hk,l⟩:=ih
  rw[e7,List.append_assoc]at l
  cases Q with
  |nil=>
   cases W with
   |nil=>exact⟨k,by rw[length_cons];omega,l⟩
   |cons a W=>
    have ha:a≠i:=λz=>hp rfl W (by rw[z])
    refine⟨k+1,by rw[length_cons];omega,?_⟩
    have l2:(pP W.reverse).length=W.length:=by rw[kH,length_reverse]
    rw[pB,List.append_assoc]at l⊢
    have:Lp (pP W.reverse++(((a:Int)+1):: -((i:Int)+1)::w)) (pP W.reverse).length (pP W'.reverse++nQ Q') m (k+1):=.go (λz=>by unfold tj at z;omega) (by
     rw[l2]
     exact l)
    rw[l2]at this
    exact this
  |cons q Q=>
   refine⟨k+1,by rw[length_cons];omega,?_⟩
   have l2:(pP W.reverse++nQ Q).length=W.length+Q.length:=by rw[length_append,kH,qx,length_reverse]
   rw[e7,List.append_assoc]at l⊢
   have:Lp ((pP W.reverse++nQ Q)++ -((q:Int)+1):: -((i:Int)+1)::w) (pP W.reverse++nQ Q).length (pP W'.reverse++nQ Q') m (k+1):=.go (λz=>by unfold tj at z;omega) (by
    rw[l2,List.append_assoc]
    exact l)
   rw[l2,List.append_assoc]at this
   exact this
 | @out i W W' Q' w m r ih=>
  obtain⟨k,hk,l⟩:=ih
  refine⟨k+1,by rw[length_cons];omega,?_⟩
  have l2:(pP W.reverse).length=W.length:=by rw[kH,length_reverse]
  have e:e9 ((i:Int)+1) (-((i:Int)+1))=[]:=if_pos (by omega)
  have em:dW ((i:Int)+1) (-((i:Int)+1))=1:=if_pos (by omega)
  have:Lp (pP W.reverse++(((i:Int)+1):: -((i:Int)+1)::w)) (pP W.reverse).length (pP W'.reverse++nQ Q') (m+dW ((i:Int)+1) (-((i:Int)+1))) (k+1):=.chg (.inl (by omega)) (by
   rw[e,nil_append,l2]
   exact l)
  rw[em,l2]at this
  rw[pB,List.append_assoc]
  exact this
theorem mO{ns:List Int}(h:ns.length<=16000000):fit (bp ns)=.ok (bp ns):=lF (by rw[bw];exact le_trans h (by decide))
theorem pC(w:List Int)(p m:Int):bz [.lst (bp w),.int p,.int m]=.ok (.bl (mW w p m)):=by
 unfold bz mj mW
 simp_all [bw]
 by_cases h:0<=p
 ·simp_all only [h,decide_true,mS,mD,mF,aM,ae,reduceAdd,reduceSub,reduceEqDiff,reduceIte,aj,ak,aP,aQ,aR,aS,Bool.true_and]
 ·simp_all only [h,decide_false,mS,mD,mF,aM,ae,reduceAdd,reduceSub,reduceEqDiff,reduceIte,aj,ak,aP,aQ,aR,aS,Bool.false_and]
theorem wN(w:List Int)(p:Int):ja [.lst (bp w),.int p]=.ok (.bl (mW w p 2&&(gI w p== -gI w (p+1)))):=by
 unfold ja rA
 simp_all [pC]
 cases h:mW w p 2 with
 |false=>simp_all [Bool.false_and]
 |true=>
  obtain⟨h1,h2⟩:=qr h
  simp_all [Bool.true_and]
  rw[dU h1 (by omega)]
  simp_all
  rw[dU (by omega) (by omega)]
  simp_all
theorem uV(n k:Int):du [.int n,.int k]=.ok (.bl (!(k==0)&&decide (cU k<n))):=by
 unfold du k6 cU
 simp_all
 cases h:(k==0)with
 |false=>simp_all [Bool.not_false,Bool.true_and]
 |true=>simp_all [Bool.not_true,Bool.false_and]
theorem yQ(n:Int)(w:List Int)(p k:Int):kj [.int n,.lst (bp w),.int p,.int k]=.ok (.bl (mW w p 0&&(!(k==0)&&decide (cU k<n)))):=by
 unfold kj uC
 simp_all [pC]
 cases h:mW w p 0 with
 |false=>simp_all [Bool.false_and]
 |true=>simp_all [Bool.true_and,uV]
theorem wO(w:List Int)(p:Int):jb [.lst (bp w),.int p]=.ok (.bl (mW w p 2&&decide (2<=cU (cU (gI w p)-cU (gI w (p+1)))))):=by
 unfold jb rB cU
 simp_all [pC]
 cases h:mW w p 2 with
 |false=>simp_all [Bool.false_and]
 |true=>
  obtain⟨h1,h2⟩:=qr h
  simp_all [Bool.true_and]
  rw[dU h1 (by omega)]
  simp_all
  rw[dU (by omega) (by omega)]
  simp_all
theorem uW(w:List Int)(p:Int):gW [.lst (bp w),.int p]=.ok (.bl (mW w p 3&&(gI w p==gI w (p+2))&&(cU (gI w p-gI w (p+1))==1))):=by
 unfold gW p8 cU
 simp_all [pC]
 cases h:mW w p 3 with
 |false=>simp_all [Bool.false_and,Bool.not_false]
 |true=>
  obtain⟨h1,h2⟩:=qr h
  simp_all [Bool.true_and,Bool.not_true]
  rw[dU h1 (by omega)]
  simp_all
  rw[dU (by omega) (by omega)]
  simp_all
  cases hq:(gI w p==gI w (p+2))with
  |false=>simp_all [Bool.false_and,Bool.not_false]
  |true=>
   simp_all [Bool.true_and,Bool.not_true]
   rw[dU h1 (by omega)]
   simp_all
   rw[dU (by omega) (by omega)]
   simp_all
theorem uX(n:Int)(w:List Int)(d:Mv):dw [.int n,.lst (bp w),d.d]=.ok (.bl (mK n w d)):=by
 unfold dw k8
 cases d with
 |out p=>
  simp_all only [Mv.d,mS,mD,mF,aM,ae,reduceAdd,reduceSub,reduceEqDiff,reduceIte,aj,ak,aP,aQ,aR,aS,eT,eU,eY,eZ,e6,aY,bA,aZ,aI,bB,bU,bC,bc,bf,bD,bg,aJ,aK,bh,aL,aE,wN]
  rfl
 |qG p k=>
  simp_all only [Mv.d,mS,mD,mF,aM,ae,reduceAdd,reduceSub,reduceEqDiff,reduceIte,aj,ak,aP,aQ,aR,aS,eT,eU,eY,eZ,e6,aY,bA,aZ,aI,bB,bU,bC,bc,bf,bD,bg,aJ,aK,bh,aL,aE,yQ]
  rfl
 |ly p=>
  simp_all only [Mv.d,mS,mD,mF,aM,ae,reduceAdd,reduceSub,reduceEqDiff,reduceIte,aj,ak,aP,aQ,aR,aS,eT,eU,eY,eZ,e6,aY,bA,aZ,aI,bB,bU,bC,bc,bf,bD,bg,aJ,aK,bh,aL,aE,wO]
  rfl
 |near p=>
  simp_all only [Mv.d,mS,mD,mF,aM,ae,reduceAdd,reduceSub,reduceEqDiff,reduceIte,aj,ak,aP,aQ,aR,aS,eT,eU,eY,eZ,e6,aY,bA,aZ,aI,bB,bU,bC,bc,bf,bD,bg,aJ,aK,bh,aL,aE,uW]
  rfl
theorem yR(n:Int)(w:List Int)(d:Mv)(h:mK n w d=true):bW [.int n,.lst (bp w),d.d]=.ok .non:=by
 unfold bW iF
 simp_all [uX,h,Bool.not_true]
theorem A6(n:Int)(w:List Int)(d:Mv)(hw:w.length<=15000000)(h:mK n w d=true):mr [.int n,.lst (bp w),d.d]=.ok (bp (doneF w d)):=by
 have hp:=qt h
 have hr:=yR n w d h
 unfold mr xO
 simp_all [hr]
 cases d with
 |out p=>
  dsimp only at hp
  simp_all only [Mv.d,mS,mD,mF,aM,ae,reduceAdd,reduceSub,reduceEqDiff,reduceIte,aj,ak,aP,aQ,aR,aS,eT,eU,eY,eZ,e6,aY,bA,aZ,aI,bB,bU,bC,bc,bf,bD,bg,aJ,aK,bh,aL,aE,cL]
  rw[jl _ _ hp.1,fY _ _ (by omega),ck,mO (by rw[length_append,length_take,length_drop];omega)]
  simp_all [l7]
  rfl
 |qG p k=>
  dsimp only at hp
  simp_all only [Mv.d,mS,mD,mF,aM,ae,reduceAdd,reduceSub,reduceEqDiff,reduceIte,aj,ak,aP,aQ,aR,aS,eT,eU,eY,eZ,e6,aY,bA,aZ,aI,bB,bU,bC,bc,bf,bD,bg,aJ,aK,bh,aL,aE,cL]
  rw[jl _ _ hp.1,fY _ _ hp.1,pA k (-k),ck,mO (by rw[length_append,length_take];simp;omega)]
  simp_all [ck]
  rw[mO (by rw[length_append,length_append,length_take,length_drop];simp;omega)]
  simp_all [l7]
  rfl
 |ly p=>
  dsimp only at hp
  simp_all only [Mv.d,mS,mD,mF,aM,ae,reduceAdd,reduceSub,reduceEqDiff,reduceIte,aj,ak,aP,aQ,aR,aS,eT,eU,eY,eZ,e6,aY,bA,aZ,aI,bB,bU,bC,bc,bf,bD,bg,aJ,aK,bh,aL,aE,cL]
  rw[dU (by omega) (by omega)]
  simp_all
  rw[dU (by omega) (by omega)]
  simp_all
  rw[jl _ _ hp.1,fY _ _ (by omega),pA (gI w (p+1)) (gI w p),ck,mO (by rw[length_append,length_take];simp;omega)]
  simp_all [ck]
  rw[mO (by rw[length_append,length_append,length_take,length_drop];simp;omega)]
  simp_all [l7]
  rfl
 |near p=>
  dsimp only at hp
  simp_all only [Mv.d,mS,mD,mF,aM,ae,reduceAdd,reduceSub,reduceEqDiff,reduceIte,aj,ak,aP,aQ,aR,aS,eT,eU,eY,eZ,e6,aY,bA,aZ,aI,bB,bU,bC,bc,bf,bD,bg,aJ,aK,bh,aL,aE,cL]
  rw[dU (by omega) (by omega)]
  simp_all
  rw[dU (by omega) (by omega)]
  simp_all
  rw[jl _ _ hp.1,fY _ _ (by omega),rG (gI w (p+1)) (gI w p) (gI w (p+1)),ck,mO (by rw[length_append,length_take];simp;omega)]
  simp_all [ck]
  rw[mO (by rw[length_append,length_append,length_take,length_drop];simp;omega)]
  simp_all [l7]
  rfl
theorem A7(n:Int)(w:List Int)(d:Mv)(hw:w.length<=15000000)(h:mK n w d=true):fZ [.lst (bp w),d.d]=.ok (bp (doneF w d)):=by
 have hp:=qt h
 unfold fZ oh
 simp_all
 cases d with
 |out p=>
  dsimp only at hp
  simp_all only [Mv.d,mS,mD,mF,aM,ae,reduceAdd,reduceSub,reduceEqDiff,reduceIte,aj,ak,aP,aQ,aR,aS,eT,eU,eY,eZ,e6,aY,bA,aZ,aI,bB,bU,bC,bc,bf,bD,bg,aJ,aK,bh,aL,aE,cL]
  rw[jl _ _ hp.1,fY _ _ (by omega),ck,mO (by rw[length_append,length_take,length_drop];omega)]
  simp_all [l7]
  rfl
 |qG p k=>
  dsimp only at hp
  simp_all only [Mv.d,mS,mD,mF,aM,ae,reduceAdd,reduceSub,reduceEqDiff,reduceIte,aj,ak,aP,aQ,aR,aS,eT,eU,eY,eZ,e6,aY,bA,aZ,aI,bB,bU,bC,bc,bf,bD,bg,aJ,aK,bh,aL,aE,cL]
  rw[jl _ _ hp.1,fY _ _ hp.1,pA k (-k),ck,mO (by rw[length_append,length_take];simp;omega)]
  simp_all [ck]
  rw[mO (by rw[length_append,length_append,length_take,length_drop];simp;omega)]
  simp_all [l7]
  rfl
 |ly p=>
  dsimp only at hp
  simp_all only [Mv.d,mS,mD,mF,aM,ae,reduceAdd,reduceSub,reduceEqDiff,reduceIte,aj,ak,aP,aQ,aR,aS,eT,eU,eY,eZ,e6,aY,bA,aZ,aI,bB,bU,bC,bc,bf,bD,bg,aJ,aK,bh,aL,aE,cL]
  rw[dU (by omega) (by omega)]
  simp_all
  rw[dU (by omega) (by omega)]
  simp_all
  rw[jl _ _ hp.1,fY _ _ (by omega),pA (gI w (p+1)) (gI w p),ck,mO (by rw[length_append,length_take];simp;omega)]
  simp_all [ck]
  rw[mO (by rw[length_append,length_append,length_take,length_drop];simp;omega)]
  simp_all [l7]
  rfl
 |near p=>
  dsimp only at hp
  simp_all only [Mv.d,mS,mD,mF,aM,ae,reduceAdd,reduceSub,reduceEqDiff,reduceIte,aj,ak,aP,aQ,aR,aS,eT,eU,eY,eZ,e6,aY,bA,aZ,aI,bB,bU,bC,bc,bf,bD,bg,aJ,aK,bh,aL,aE,cL]
  rw[dU (by omega) (by omega)]
  simp_all
  rw[dU (by omega) (by omega)]
  simp_all
  rw[jl _ _ hp.1,fY _ _ (by omega),rG (gI w (p+1)) (gI w p) (gI w (p+1)),ck,mO (by rw[length_append,length_take];simp;omega)]
  simp_all [ck]
  rw[mO (by rw[length_append,length_append,length_take,length_drop];simp;omega)]
  simp_all [l7]
  rfl
inductive Wl (n:Int):List Int->List Mv->List Int->Prop
 |nil (w:List Int):Wl n w [] w
 |cons {w v:List Int} {d:Mv} {ds:List Mv}:mK n w d=true->Wl n (doneF w d) ds v->Wl n w (d::ds) v
theorem Wl.app {n:Int}{u v:List Int}{ds:List Mv}(h:Wl n u ds v):∀{w:List Int}{es:List Mv},Wl n v es w->Wl n u (ds++es) w:=by
 induction h with
 |nil w=>exact λg=>g
 |cons c _ ih=>exact λg=>.cons c (ih g)
theorem uY(A B:List Int)(x:Int):gI (A++x::B) (A.length:Nat)=x:=by
 unfold gI
 rw[toNat_natCast,getElem?_append_right (Nat.le_refl _),Nat.sub_self]
 rfl
theorem rH(A B:List Int)(x y:Int):gI (A++x::y::B) ((A.length:Nat)+1)=y:=by
 have:=uY (A++[x]) B y
 rw[length_append,length_singleton,List.append_assoc,natCast_add]at this
 exact this
theorem JT(A B:List Int)(x y z:Int):gI (A++x::y::z::B) ((A.length:Nat)+2)=z:=by
 have:=uY (A++[x,y]) B z
 rw[length_append,List.append_assoc,natCast_add]at this
 exact this
theorem tk(A B:List Int):(A++B).take A.length=A:=List.take_left ..
theorem dp(A B:List Int):(A++B).drop A.length=B:=List.drop_left ..
theorem Nm(A C B:List Int){m:Nat}(h:C.length=m):(A++(C++B)).drop (A.length+m)=B:=by
 rw[<-List.append_assoc,<-h,<-length_append]
 exact dp _ _
theorem EI{n:Int}(A B:List Int)(x y:Int)(h:x= -y):Wl n (A++x::y::B) [.out (A.length:Nat)] (A++B):=by
 have hd:doneF (A++x::y::B) (.out (A.length:Nat))=A++B:=by
  show(A++x::y::B).take _++(A++x::y::B).drop _=_
  rw[toNat_natCast,tk,show((A.length:Int)+2).toNat=A.length+2 by omega]
  exact congrArg (A++·) (Nm A [x,y] B rfl)
 refine .cons ?_ (hd▸.nil _)
 show(mW _ _ 2&&(gI _ _== -gI _ _))=true
 rw[uY,rH,and_eq_true]
 refine⟨?_,by rw[h];exact beq_self_eq_true _⟩
 unfold mW
 rw[and_eq_true,decide_eq_true_eq,decide_eq_true_eq,length_append,length_cons,length_cons]
 omega
theorem JU{n:Int}(A B:List Int)(x y:Int)(h:2<=cU (cU x-cU y)):Wl n (A++x::y::B) [.ly (A.length:Nat)] (A++y::x::B):=by
 have hd:doneF (A++x::y::B) (.ly (A.length:Nat))=A++y::x::B:=by
  show(A++x::y::B).take _++[gI _ _,gI _ _]++(A++x::y::B).drop _=_
  rw[toNat_natCast,tk,uY,rH,show((A.length:Int)+2).toNat=A.length+2 by omega,show(A++x::y::B).drop (A.length+2)=B from Nm A [x,y] B rfl]
  simp
 refine .cons ?_ (hd▸.nil _)
 show(mW _ _ 2&&decide (2<=cU (cU (gI _ _)-cU (gI _ _))))=true
 rw[uY,rH,and_eq_true]
 refine⟨?_,decide_eq_true h⟩
 unfold mW
 rw[and_eq_true,decide_eq_true_eq,decide_eq_true_eq,length_append,length_cons,length_cons]
 omega
theorem Hi{n:Int}(A B:List Int)(x y:Int)(h:cU (x-y)=1):Wl n (A++x::y::x::B) [.near (A.length:Nat)] (A++y::x::y::B):=by
 have hd:doneF (A++x::y::x::B) (.near (A.length:Nat))=A++y::x::y::B:=by
  show(A++x::y::x::B).take _++[gI _ _,gI _ _,gI _ _]++(A++x::y::x::B).drop _=_
  rw[toNat_natCast,tk,uY,rH,show((A.length:Int)+3).toNat=A.length+3 by omega,show(A++x::y::x::B).drop (A.length+3)=B from Nm A [x,y,x] B rfl]
  simp
 refine .cons ?_ (hd▸.nil _)
 show(mW _ _ 3&&(gI _ _==gI _ _)&&(cU (gI _ _-gI _ _)==1))=true
 rw[uY,rH,JT,and_eq_true,and_eq_true]
 refine⟨⟨?_,beq_self_eq_true _⟩,by rw[h];rfl⟩
 unfold mW
 rw[and_eq_true,decide_eq_true_eq,decide_eq_true_eq,length_append,length_cons,length_cons,length_cons]
 omega
theorem JV{n:Int}(A B:List Int)(k:Int)(h:iB n k):Wl n (A++B) [.qG (A.length:Nat) k] (A++k:: -k::B):=by
 have hd:doneF (A++B) (.qG (A.length:Nat) k)=A++k:: -k::B:=by
  show(A++B).take _++[k,-k]++(A++B).drop _=_
  rw[toNat_natCast,tk,dp]
  simp
 refine .cons ?_ (hd▸.nil _)
 unfold iB at h
 show(mW _ _ 0&&(!(k==0)&&decide (cU k<n)))=true
 rw[and_eq_true,and_eq_true]
 refine⟨?_,?_,decide_eq_true ?_⟩
 ·unfold mW
  rw[and_eq_true,decide_eq_true_eq,decide_eq_true_eq,length_append]
  omega
 ·rw[not_eq_true',beq_eq_false_iff_ne]
  omega
 ·unfold cU
  split<;>omega
def A8(p:Nat)(x y:Int):List Mv:=if x= -y then[.out p]else if(2:Int)<=x+y\/x+y<= -2 then[.ly p]else[.qG ((p:Int)+2) (-x),.qG ((p:Int)+3) y,.near ((p:Int)+1),.out p]
def oO:List Mv->Nat
 |[]=>0
 |.qG _ _::ds=>oO ds+1
 |_::ds=>oO ds
theorem mP:∀(a b:List Mv),oO (a++b)=oO a+oO b
 |[],b=>by rw[nil_append];show _=0+_;omega
 |.qG p k::a,b=>by
  show oO (a++b)+1=oO a+1+oO b
  rw[mP]
  omega
 |.out _::a,b=>mP a b
 |.ly _::a,b=>mP a b
 |.near _::a,b=>mP a b
theorem Hj(p:Nat)(x y:Int):2*oO (A8 p x y)<=dW x y:=by
 have e1:∀q,oO [.out q]=0:=λ_=>rfl
 have e2:∀q,oO [.ly q]=0:=λ_=>rfl
 have e3:∀a b c d e f,oO [.qG a b,.qG c d,.near e,.out f]=2:=λ_ _ _ _ _ _=>rfl
 unfold A8 dW
 split
 ·rw[e1];omega
 ·split
  ·rw[e2];omega
  ·rw[e3];omega
theorem C7(p:Nat)(x y:Int):(A8 p x y).length=dW x y:=by
 unfold A8 dW
 split
 ·rfl
 ·split<;>rfl
theorem A9(p:Nat)(x y:Int):ee [.int p,.int x,.int y]=.ok ((A8 p x y).map Mv.d):=by
 unfold ee mm A8
 simp_all
 by_cases c:x= -y
 ·rw[if_pos c]
  simp_all [show(x== -y)=true from beq_iff_eq.mpr c]
  rfl
 ·rw[if_neg c]
  simp_all [show(x== -y)=false from beq_eq_false_iff_ne.mpr c]
  by_cases f:(2:Int)<=x+y\/x+y<= -2
  ·rw[if_pos f]
   have f2:(2:Int)<=if x+y<0 then-(x+y)else x+y:=by split<;>omega
   simp_all [decide_eq_true f2]
   rfl
  ·rw[if_neg f]
   have f2:¬(2:Int)<=if x+y<0 then-(x+y)else x+y:=by split<;>omega
   simp_all [decide_eq_false f2]
   rfl
theorem Ba(x y:Int):∃b,cF [.int x,.int y]=.ok (.bl b)/\(b=true↔tj x y):=by
 unfold cF jM tj
 simp_all
 by_cases c:x= -y
 ·simp_all [show(x== -y)=true from beq_iff_eq.mpr c]
  exact⟨true,rfl,λ_=>.inl c,λ_=>rfl⟩
 ·simp_all [show(x== -y)=false from beq_eq_false_iff_ne.mpr c]
  by_cases d:x<0
  ·simp_all [decide_eq_true d]
   refine⟨decide (0<y),rfl,λz=>.inr ⟨d,of_decide_eq_true z⟩,λz=>decide_eq_true ?_⟩
   rcases z with z|z
   ·exact absurd z c
   ·exact z.2
  ·simp_all [decide_eq_false d]
   refine⟨false,rfl,λz=>(by cases z),λz=>?_⟩
   rcases z with z|z
   ·exact absurd z c
   ·exact absurd z.1 d
theorem Hk{n:Nat}(A B:List Int){x y:Int}(hx:iB n x)(hy:iB n y)(h:tj x y):Wl n (A++x::y::B) (A8 A.length x y) (A++(e9 x y++B)):=by
 unfold A8 e9
 unfold tj at h
 unfold iB at hx hy
 by_cases c:x= -y
 ·rw[if_pos c,if_pos c]
  exact EI A B x y c
 ·rw[if_neg c,if_neg c]
  have h1:=h.resolve_left c
  by_cases f:(2:Int)<=x+y\/x+y<= -2
  ·rw[if_pos f,if_pos f]
   exact JU A B x y (by unfold cU;(repeat' split)<;>omega)
  ·rw[if_neg f,if_neg f]
   have e1:=JV (n:=n) (A++[x,y]) B (-x) (by unfold iB;omega)
   have e2:=JV (n:=n) (A++[x,y,-x]) (- -x::B) y (by unfold iB;omega)
   have e3:=Hi (n:=n) (A++[x]) (-y:: - -x::B) y (-x) (by unfold cU;split<;>omega)
   have e4:=EI (n:=n) A (y:: -x:: -y:: - -x::B) x (-x) (by omega)
   simp -implicitDefEqProofs only [List.append_assoc,cons_append,nil_append,length_append,length_cons,length_nil,natCast_add,zero_add,reduceAdd,Int.neg_neg]at e1 e2 e3 e4
   exact(e1.app (e2.app (e3.app e4)))
theorem C8{n:Nat}{x y:Int}(hx:iB n x)(hy:iB n y):∀k∈e9 x y,iB n k:=λk hk=>by
 unfold e9 at hk
 unfold iB at*
 split at hk
 ·cases hk
 ·split at hk
  ·simp -implicitDefEqProofs only [mem_cons,not_mem_nil,or_false]at hk
   omega
  ·simp -implicitDefEqProofs only [mem_cons,not_mem_nil,or_false]at hk
   omega
theorem Nn{i:Nat}{env:DE}{xs:List D}{d:D}(h:xs.length<16000000):F8 i env xs d=.ok (.nx (env.set i (.own (xs++[d])))):=if_pos (lt_of_lt_of_le h (by decide))
theorem Hl{n:Nat}(s1 s4:Sl){now v:List Int}{ms:List Mv}(h:Wl n now ms v):∀(M:List Mv)(s5:Sl),now.length+2*ms.length<=15000000->M.length+ms.length<=15000000->
  ∃Bs,fX fM (ms.map Mv.d) [.val (.int n),s1,.own (M.map Mv.d),.own (bp now),s4,s5]=.ok (.nx [.val (.int n),s1,.own ((M++ms).map Mv.d),.own (bp v),s4,Bs]):=by
 induction h with
 |nil w=>exact λM s5 _ _=>⟨s5,by rw[append_nil];rfl⟩
 | @cons w v d ds c g ih=>
  intro M s5 h1 h2
  rw[length_cons]at h1 h2
  have hl:=(uR c).1
  obtain⟨Bs,e⟩:=ih (M++[d]) (.val d.d) (by omega) (by rw[length_append,length_singleton];omega)
  refine⟨Bs,?_⟩
  have eb:fM d.d [.val (.int n),s1,.own (M.map Mv.d),.own (bp w),s4,s5]=.ok (.nx [.val (.int n),s1,.own ((M++[d]).map Mv.d),.own (bp (doneF w d)),s4,.val d.d]):=by
   unfold fM
   simp_all only [ur,mS,mD,mF,aM,ae,reduceAdd,reduceSub,reduceEqDiff,reduceIte,aj,ak,aP,aQ,aR,aS,A6 n w d (by omega) c]
   rw[Nn (by rw[length_map];omega)]
   simp_all
   rw[map_append]
   rfl
  rw[map_cons]
  conv=>lhs;unfold fX
  rw[eb]
  show fX _ _ _=_
  rw[e,List.append_assoc]
  rfl
theorem JW(A B:List Int)(x:Int):jH (bp (A++x::B)) (A.length:Nat)=some (.int x):=by
 rw[dU (by omega) (by rw[length_append,length_cons];omega),uY]
theorem EJ(A B:List Int)(x y:Int):jH (bp (A++x::y::B)) ((A.length:Nat)+1)=some (.int y):=by
 rw[dU (by omega) (by rw[length_append,length_cons,length_cons];omega),rH]
theorem wQ(n:Nat)(s1 s2 s5:Sl)(now:List Int)(p:Nat):fL [.val (.int n),s1,s2,.own (bp now),.val (.int p),s5]=.ok (decide ((p:Int)+1<now.length)):=by
 unfold fL
 simp_all [bw]
theorem Bb{n:Nat}(s1:Sl){now r:List Int}{p m k:Nat}(h:Lp now p r m k):∀(M:List Mv)(s5:Sl)(fuel:Nat),(∀x∈now,iB n x)->now.length+m+8<=15000000->M.length+m<=15000000->k<fuel->
  ∃ms p' Bs,gf fL cJ fuel [.val (.int n),s1,.own (M.map Mv.d),.own (bp now),.val (.int p),s5]=.ok (.nx [.val (.int n),s1,.own ((M++ms).map Mv.d),.own (bp r),p',Bs])/\ms.length=m/\Wl n now ms r/\(∀x∈r,iB n x)/\r.length<=now.length+m/\2*oO ms<=m:=by
 induction h with
 | @stop now p hp=>
  intro M s5 fuel hx _ _ hf
  obtain⟨f,rfl⟩:∃f,fuel=f+1:=⟨fuel-1,by omega⟩
  refine⟨[],.val (.int p),s5,?_,rfl,.nil _,hx,Nat.le_refl _,Nat.le_refl _⟩
  unfold gf
  rw[wQ,R.bJ,if_neg (by rw[decide_eq_true_eq];omega),append_nil]
 | @go A B r x y m k hc g ih=>
  intro M s5 fuel hx hl hm hf
  obtain⟨f,rfl⟩:∃f,fuel=f+1:=⟨fuel-1,by omega⟩
  obtain⟨ms,p',Bs,e,e1,e2,e3,e4,e5⟩:=ih M s5 f hx hl hm (by omega)
  refine⟨ms,p',Bs,?_,e1,e2,e3,e4,e5⟩
  unfold gf
  rw[wQ,R.bJ,if_pos (by rw[decide_eq_true_eq,length_append,length_cons,length_cons];omega)]
  obtain⟨b,eb,hb⟩:=Ba x y
  have Q8:b=false:=by
   cases b with
   |false=>rfl
   |true=>exact absurd (hb.mp rfl) hc
  have el:cJ [.val (.int n),s1,.own (M.map Mv.d),.own (bp (A++x::y::B)),.val (.int A.length),s5]=.ok (.nx [.val (.int n),s1,.own (M.map Mv.d),.own (bp (A++x::y::B)),.val (.int ((A.length:Nat)+1)),s5]):=by
   unfold cJ
   simp_all [JW,EJ,eb,Q8,Cj]
  rw[el,R.bJ]
  exact e
 | @chg A B r x y m k hc g ih=>
  intro M s5 fuel hx hl hm hf
  obtain⟨f,rfl⟩:∃f,fuel=f+1:=⟨fuel-1,by omega⟩
  have ix:=hx x (by simp)
  have iy:=hx y (by simp)
  have QX:=C7 A.length x y
  have wl:=Hk A B ix iy hc
  have h4:dW x y=1\/dW x y=4:=by
   unfold dW
   split
   ·exact .inl rfl
   ·split
    ·exact .inl rfl
    ·exact .inr rfl
  have hpl:(e9 x y).length<=2+dW x y:=by
   unfold e9 dW
   split
   ·simp
   ·split<;>simp
  rw[length_append,length_cons,length_cons]at hl
  obtain⟨s6,e0⟩:=Hl s1 (.val (.int A.length)) wl M s5 (by rw[length_append,length_cons,length_cons];omega) (by omega)
  have Rx:=Hj A.length x y
  obtain⟨ms,p',Bs,e,e1,e2,e3,e4,e5⟩:=ih (M++A8 A.length x y) s6 f (λk hk=>by
   rcases mem_append.mp hk with hk|hk
   ·exact hx k (by simp[hk])
   ·rcases mem_append.mp hk with hk|hk
    ·exact C8 ix iy k hk
    ·exact hx k (by simp[hk])) (by rw[length_append,length_append];omega) (by rw[length_append];omega) (by omega)
  rw[length_append,length_append]at e4
  refine⟨A8 A.length x y++ms,p',Bs,?_,by rw[length_append];omega,wl.app e2,e3,by rw[length_append,length_cons,length_cons];omega,by rw[mP];omega⟩
  unfold gf
  rw[wQ,R.bJ,if_pos (by rw[decide_eq_true_eq,length_append,length_cons,length_cons];omega)]
  obtain⟨b,eb,hb⟩:=Ba x y
  have hbt:b=true:=hb.mpr hc
  have el:cJ [.val (.int n),s1,.own (M.map Mv.d),.own (bp (A++x::y::B)),.val (.int A.length),s5]=.ok (.nx [.val (.int n),s1,.own ((M++A8 A.length x y).map Mv.d),.own (bp (A++(e9 x y++B))),.val (.int ((A.length-1:Nat):Int)),s6]):=by
   unfold cJ
   simp_all [JW,EJ,eb,hbt,A9,e0]
   rw[show(if(0:Int)>(A.length:Int)-1 then(0:Int)else(A.length:Int)-1)=((A.length-1:Nat):Int)by split<;>omega]
  rw[el,R.bJ]
  rw[List.append_assoc M]at e
  exact e
theorem JX(ms:List Mv):(ms.map Mv.d).all uw=true:=by
 rw[all_eq_true]
 intro x hx
 obtain⟨d,_,rfl⟩:=mem_map.mp hx
 cases d<;>rfl
theorem Hm{n:Nat}{w r:List Int}{m k:Nat}(h:Lp w 0 r m k)(hw:∀x∈w,iB n x)(hl:w.length+m<=14000000)(hk:k<=99000000):∃ms:List Mv,fA [.int n,.lst (bp w)]=.ok (ms.map Mv.d,r)/\ms.length=m/\Wl n w ms r/\(∀x∈r,iB n x)/\r.length<=w.length+m/\2*oO ms<=m:=by
 obtain⟨ms,p',Bs,e,e1,e2,e3,e4,e5⟩:=Bb (.val (.lst (bp w))) h [] .no 100000000 hw (by omega) (by rw[length_nil];omega) (by omega)
 refine⟨ms,?_,e1,e2,e3,e4,e5⟩
 rw[map_nil,nil_append,Int.natCast_zero]at e
 unfold fA mV p9
 rw[if_pos (show([.int n,.lst (bp w)]:List D).length=2 from rfl)]
 simp_all
 unfold An
 rw[e]
 simp_all [zW]
 rw[show Ox (.tX (.tv (ms.map Mv.d) r))=.ok (ms.map Mv.d,r)from if_pos (JX ms)]
 rfl
theorem C9(ns:List Int)(k:Nat):b9 [.lst (bp ns),.int k]=.ok (.int (aa ns k)):=by
 unfold b9 kh aa
 simp_all [bw]
 by_cases h:(k:Int)<(ns.length:Int)
 ·have h':k<ns.length:=by omega
  simp_all only [h,decide_true,mS,mD,mF,aM,ae,reduceAdd,reduceSub,reduceEqDiff,reduceIte,aj,ak,aP,aQ,aR,aS]
  rw[se,sy (by omega),toNat_natCast,getElem?_eq_getElem h']
  simp_all only [map_some,mS,mD,mF,aM,ae,reduceAdd,reduceSub,reduceEqDiff,reduceIte,aj,ak,aP,aQ,aR,aS,getD_some]
 ·have h':ns.length<=k:=by omega
  simp_all only [h,decide_false,mS,mD,mF,aM,ae,reduceAdd,reduceSub,reduceEqDiff,reduceIte,aj,ak,aP,aQ,aR,aS]
  rw[List.getElem?_eq_none h']
  rfl
theorem Bc(cells:List Int)(hc:cells.length<=63):∃t:List Int,t.length<=63/\jJ (bT 2 (jK (bN 0) (jK (bN 1) uo))) jN gj (mR 2 []) (dS (bp cells))=.ok (bp t):=by
 refine⟨(dS (bp cells)).map λd=>match d with|.tup [.int k,.int c]=>wu c k 16807|_=>0,by rw[length_map];unfold dS;rw[length_map,List.length_zipIdx,bw];exact hc,?_⟩
 rw[ri (λd=>.int (match d with|.tup [.int k,.int c]=>wu c k 16807|_=>0)) _ λx hx=>by
  obtain⟨i,hi,e⟩:=List.getElem_of_mem hx
  obtain⟨y,hy,rfl⟩:=ng (i:=i) (d:=x) (by rw[getElem?_eq_getElem hi,e])
  have hz:(bp cells)[i]?=(cells[i]?).map D.int:=by unfold bp;rw[getElem?_map]
  have hi2:i<cells.length:=by
   have:(dS (bp cells)).length=cells.length:=by unfold dS;rw[length_map,List.length_zipIdx,bw]
   omega
  rw[hz,getElem?_eq_getElem hi2]at hy
  obtain rfl:=Option.some.inj hy
  refine⟨_,rfl,rfl,?_⟩
  unfold gj mR
  simp_all [List.append_eq]
  exact Af _ _ _ (by omega) (by decide)]
 unfold bp
 rw[map_map]
 rfl
theorem Bd(cells:List Int)(hc:cells.length<=63):∃t:Int,eg [.lst (bp cells)]=.ok (.int t):=by
 obtain⟨t,ht,e⟩:=Bc cells hc
 unfold eg mq
 simp_all [pS,e,R.G0]
 rw[xH (by omega)]
 simp_all [xK,zW,map_some]
 exact⟨_,rfl⟩
theorem wR{n:Int}{w:List Int}(hw:∀k∈w,iB n k)(t:Int)(mo:Nat):∃v:List Int,cg [.lst (bp w),.int t,.int mo]=.ok (.lst (bp v))/\(∀k∈v,iB n k)/\v.length<=mo:=by
 unfold cg ki
 simp_all [bw]
 by_cases c:(w.length:Int)<=mo
 ·simp_all [decide_eq_true c]
  exact⟨w,rfl,hw,by omega⟩
 ·simp_all [decide_eq_false c,bw]
  rw[iO _ _ (by omega)]
  simp_all
  have m0:=emod_nonneg t (show(w.length:Int)-mo+1≠0 by omega)
  generalize t%((w.length:Int)-mo+1)=a at m0
  rw[cL,pX _ _ _ m0 (by omega)]
  refine⟨_,rfl,λk hk=>hw k (mem_of_mem_drop (mem_of_mem_take hk)),?_⟩
  rw[length_take]
  omega
theorem pD:fx "tuple" "tuple"=true:=rfl
theorem pF:fx "str" "str"=true:=rfl
theorem Dc:fx "int" "int"=true:=rfl
theorem Dg:fx "int" "bool"=false:=rfl
theorem Be(a b:D):z8 (.tup [a,b]) (some 1) none=.ok (.tup [b]):=rfl
theorem JY(a b c:D):z8 (.tup [a,b,c]) (some 1) none=.ok (.tup [b,c]):=rfl
theorem tm(s0 s1 s2 s3 s4 s5:Sl)(p:Int):iR (.int p) [s0,s1,s2,s3,s4,s5]=.ok (.nx [s0,s1,s2,.val (.int p),s4,s5]):=by
 unfold iR
 simp_all only [ur,mS,mD,mF,aM,ae,reduceAdd,reduceSub,reduceEqDiff,reduceIte,aj,ak,aP,aQ,aR,aS,o4,Dc,Dg,Bool.not_true]
theorem jC{b:D->DE->R Out}{x:D}{xs:List D}{e e':DE}(h:b x e=.ok (.nx e')):fX b (x::xs) e=fX b xs e':=by
 conv=>lhs;unfold fX
 rw[h]
 rfl
theorem pG{b:D->DE->R Out}{e:DE}:fX b [] e=.ok (.nx e):=rfl
theorem Hn{n:Int}{w:List Int}{d:Mv}(hw:∀k∈w,iB n k)(hn:n<=7)(h:mK n w d=true):gV [.lst (bp w),.int n,d.d]=.ok (.bl true):=by
 have hp:=qt h
 unfold gV p7
 have n2:decide ((((0+1+1:Nat):Int))<2)=false:=rfl
 have n3:decide ((((0+1+1+1:Nat):Int))<2)=false:=rfl
 have e2:(((0+1+1:Nat):Int)==2)=true:=rfl
 have e3:(((0+1+1+1:Nat):Int)==3)=true:=rfl
 cases d with
 |qG p k=>
  dsimp only at hp
  have h':(mW w p 0&&(!(k==0)&&decide (cU k<n)))=true:=h
  rw[and_eq_true,and_eq_true,not_eq_true',beq_eq_false_iff_ne,decide_eq_true_eq]at h'
  have hk:∃a:Int,(if k<0 then-k else k)=a/\0<a/\a<n:=by
   refine⟨_,rfl,?_,h'.2.2⟩
   have:=h'.2.1
   split<;>omega
  obtain⟨a,ea,a1,a2⟩:=hk
  simp_all only [Mv.d,mS,mD,mF,aM,ae,reduceAdd,reduceSub,reduceEqDiff,reduceIte,aj,ak,aP,aQ,aR,aS,eT,eU,eY,eZ,e6,aY,bA,aZ,aI,bB,bU,bC,bc,bf,bD,bg,aJ,aK,bh,aL,aE,o4,pD,pF,Bool.not_true,n3,JY,xJ,jC (tm _ _ _ _ _ _ _),pG,bw,decide_eq_false (show¬p<0 by omega),decide_eq_false (show¬(w.length:Int)<p by omega),e3,ea,decide_eq_true a1,decide_eq_true a2]
 |out p=>
  dsimp only at hp
  have h':(mW w p 2&&(gI w p== -gI w (p+1)))=true:=h
  rw[and_eq_true]at h'
  simp_all only [Mv.d,mS,mD,mF,aM,ae,reduceAdd,reduceSub,reduceEqDiff,reduceIte,aj,ak,aP,aQ,aR,aS,eT,eU,eY,eZ,e6,aY,bA,aZ,aI,bB,bU,bC,bc,bf,bD,bg,aJ,aK,bh,aL,aE,o4,pD,pF,Bool.not_true,n2,Be,xJ,jC (tm _ _ _ _ _ _ _),pG,bw,decide_eq_false (show¬p<0 by omega),decide_eq_false (show¬(w.length:Int)<p by omega),e2]
  rw[cL,pX _ _ _ hp.1 (by omega),show(p+3).toNat-p.toNat=3 by omega,bw]
  have hq:¬(((w.drop p.toNat).take 3).length:Int)<2:=by rw[length_take,length_drop];omega
  simp_all only [hq,decide_false,mS,mD,mF,aM,ae,reduceAdd,reduceSub,reduceEqDiff,reduceIte,aj,ak,aP,aQ,aR,aS,eT,eU,eY,eZ,e6,aY,bA,aZ,aI,bB,bU,bC,bc,bf,bD,bg,aJ,aK,bh,aL,aE]
  rw[jB hp.1 (by omega) (by omega),jB hp.1 (by omega) (by omega)]
  simp_all [Int.add_zero,h'.2]
 |ly p=>
  dsimp only at hp
  have h':(mW w p 2&&decide (2<=cU (cU (gI w p)-cU (gI w (p+1)))))=true:=h
  rw[and_eq_true,decide_eq_true_eq]at h'
  have h2:=h'.2
  unfold cU at h2
  simp_all only [Mv.d,mS,mD,mF,aM,ae,reduceAdd,reduceSub,reduceEqDiff,reduceIte,aj,ak,aP,aQ,aR,aS,eT,eU,eY,eZ,e6,aY,bA,aZ,aI,bB,bU,bC,bc,bf,bD,bg,aJ,aK,bh,aL,aE,o4,pD,pF,Bool.not_true,n2,Be,xJ,jC (tm _ _ _ _ _ _ _),pG,bw,decide_eq_false (show¬p<0 by omega),decide_eq_false (show¬(w.length:Int)<p by omega),e2]
  rw[cL,pX _ _ _ hp.1 (by omega),show(p+3).toNat-p.toNat=3 by omega,bw]
  have hq:¬(((w.drop p.toNat).take 3).length:Int)<2:=by rw[length_take,length_drop];omega
  simp_all only [hq,decide_false,mS,mD,mF,aM,ae,reduceAdd,reduceSub,reduceEqDiff,reduceIte,aj,ak,aP,aQ,aR,aS,eT,eU,eY,eZ,e6,aY,bA,aZ,aI,bB,bU,bC,bc,bf,bD,bg,aJ,aK,bh,aL,aE]
  rw[jB hp.1 (by omega) (by omega),jB hp.1 (by omega) (by omega)]
  simp_all [Int.add_zero]
  rw[decide_eq_true (by omega)]
 |near p=>
  dsimp only at hp
  have h':(mW w p 3&&(gI w p==gI w (p+2))&&(cU (gI w p-gI w (p+1))==1))=true:=h
  rw[and_eq_true,and_eq_true]at h'
  have h3:=h'.2
  unfold cU at h3
  simp_all only [Mv.d,mS,mD,mF,aM,ae,reduceAdd,reduceSub,reduceEqDiff,reduceIte,aj,ak,aP,aQ,aR,aS,eT,eU,eY,eZ,e6,aY,bA,aZ,aI,bB,bU,bC,bc,bf,bD,bg,aJ,aK,bh,aL,aE,o4,pD,pF,Bool.not_true,n2,Be,xJ,jC (tm _ _ _ _ _ _ _),pG,bw,decide_eq_false (show¬p<0 by omega),decide_eq_false (show¬(w.length:Int)<p by omega),e2]
  rw[cL,pX _ _ _ hp.1 (by omega),show(p+3).toNat-p.toNat=3 by omega,bw]
  have hq:¬(((w.drop p.toNat).take 3).length:Int)<2:=by rw[length_take,length_drop];omega
  have Q9:¬(((w.drop p.toNat).take 3).length:Int)<3:=by rw[length_take,length_drop];omega
  simp_all only [hq,Q9,decide_false,mS,mD,mF,aM,ae,reduceAdd,reduceSub,reduceEqDiff,reduceIte,aj,ak,aP,aQ,aR,aS,eT,eU,eY,eZ,e6,aY,bA,aZ,aI,bB,bU,bC,bc,bf,bD,bg,aJ,aK,bh,aL,aE,bw,Bool.not_true]
  rw[jB hp.1 (by omega) (by omega),jB hp.1 (by omega) (by omega),jB hp.1 (by omega) (by omega)]
  simp_all [Int.add_zero,h'.1.2]
  have xa:=hw _ (lK (w:=w) (i:=p) hp.1 (by omega))
  have xb:=hw _ (lK (w:=w) (i:=p+1) (by omega) (by omega))
  generalize gI w p=a at*
  generalize gI w (p+1)=b at*
  unfold iB at xa xb
  rw[beq_iff_eq]at h3
  rw[r9 _ _ (by omega)]
  have hm:0<a*b:=by
   by_cases c:0<a
   ·exact Int.mul_pos c (by split at h3<;>omega)
   ·exact Int.mul_pos_of_neg_of_neg (by omega) (by split at h3<;>omega)
  simp_all [decide_eq_true hm]
  rw[h3]
  rfl
theorem yS{n:Nat}(hn:n<=7)(s2:Sl){w v:List Int}{ms:List Mv}(h:Wl n w ms v):∀s3:Sl,(∀k∈w,iB n k)->w.length+2*oO ms<=15000000->∃Np,fX cY (ms.map Mv.d) [.val (.lst (bp w)),.val (.int n),s2,s3]=.ok (.nx [.val (.lst (bp v)),.val (.int n),s2,Np]):=by
 induction h with
 |nil w=>exact λs3 _ _=>⟨s3,rfl⟩
 | @cons w v d ds c g ih=>
  intro s3 hx hl
  have HC:=uR c
  have hl2:(doneF w d).length+2*oO ds<=15000000/\w.length<=15000000:=by
   cases d with
   |qG p k=>
    have:oO (.qG p k::ds)=oO ds+1:=rfl
    omega
   |out p=>
    have:oO (.out p::ds)=oO ds:=rfl
    have:=HC.2 λ_ _ z=>by cases z
    omega
   |ly p=>
    have:oO (.ly p::ds)=oO ds:=rfl
    have:=HC.2 λ_ _ z=>by cases z
    omega
   |near p=>
    have:oO (.near p::ds)=oO ds:=rfl
    have:=HC.2 λ_ _ z=>by cases z
    omega
  obtain⟨Np,e⟩:=ih (.val d.d) (CV hx c) hl2.1
  refine⟨Np,?_⟩
  have eb:cY d.d [.val (.lst (bp w)),.val (.int n),s2,s3]=.ok (.nx [.val (.lst (bp (doneF w d))),.val (.int n),s2,.val d.d]):=by
   unfold cY
   simp_all only [ur,mS,mD,mF,aM,ae,reduceAdd,reduceSub,reduceEqDiff,reduceIte,aj,ak,aP,aQ,aR,aS,Hn hx (show(n:Int)<=7 by omega) c,Bool.not_true,A7 n w d hl2.2 c]
  rw[map_cons,jC eb]
  exact e
theorem yT{n:Nat}(hn:n<=7){w v:List Int}{ms:List Mv}(h:Wl n w ms v)(hx:∀k∈w,iB n k)(hl:w.length+2*oO ms<=15000000):cH [.lst (bp w),.int n,.lst (ms.map Mv.d)]=.ok (.lst (bp v)):=by
 have t1:∀xs:List D,fx (o4 (.lst xs)) "list"=true:=λ_=>rfl
 unfold cH k7
 simp_all [t1,Bool.not_true]
 obtain⟨s3,e⟩:=yS hn (.val (.lst (ms.map Mv.d))) h .no hx hl
 rw[e]
 simp_all
theorem Bf{n:Nat}:∀{w:List Int},(∀k∈w,iB n k)->yb w+Br w=w.length
 |[],_=>rfl
 |k::w,h=>by
  have ih:=Bf λx hx=>h x (mem_cons_of_mem k hx)
  have hk:=h k (by simp)
  unfold iB at hk
  unfold yb Br at*
  rw[filter_cons,filter_cons,length_cons]
  by_cases c:k<0
  ·rw[if_pos (decide_eq_true c),if_neg (by rw[decide_eq_true_eq];omega),length_cons]
   omega
  ·rw[if_neg (by rw[decide_eq_true_eq];exact c),if_pos (decide_eq_true (by omega)),length_cons]
   omega
theorem JZ{w:List Int}{W Q:List Nat}{m:Nat}(h:Pr [] [] w W Q m):∃k,k<=w.length+6*m/\Lp w 0 (pP W.reverse++nQ Q) m k:=JS h
theorem Nq:KB 4<=150000:=by decide +kernel
theorem Nr:∀n,n<=3->KB n<=90000:=by decide +kernel
theorem wU{a b s q:Nat}(h:a+b=s)(hq:s<=q+q):b*a<=q*q:=by
 have h1:a<=q\/b<=q:=by omega
 have:∀x y:Nat,x+y<=q+q->x<=q->x*y<=q*q:=λx y h1 h2=>by
  have e:x*y<=x*(q+q-x):=Nat.mul_le_mul_left x (by omega)
  refine le_trans e ?_
  obtain⟨d,rfl⟩:∃d,q=x+d:=⟨q-x,by omega⟩
  rw[show x+d+(x+d)-x=x+d+d by omega]
  have:(x+d)*(x+d)=x*(x+d+d)+d*d:=by
   rw[Nat.add_mul,mul_add,mul_add,mul_add,mul_add,Nat.mul_comm d x]
   omega
  omega
 rcases h1 with z|z
 ·rw[Nat.mul_comm]
  exact this a b (by omega) z
 ·exact this b a (by omega) z
theorem Ho{n:Nat}(hn:n<=7){s:Nat}(hs:(n<4->s<=16)/\(n=4->s<=12)/\(4<n->s<=10))(a b:Nat)(h:a+b=s):a+b*(a*KB n)<=6900000:=by
 rw[<-Nat.mul_assoc]
 by_cases c:n<4
 ·have m1:=wU (q:=8) h (by omega)
  have:=mul_le_mul m1 (Nr n (by omega))
  omega
 ·by_cases d:n=4
  ·have m1:=wU (q:=6) h (by omega)
   subst d
   have:=mul_le_mul m1 Nq
   omega
  ·have m1:=wU (q:=5) h (by omega)
   have:=mul_le_mul m1 (Nk n hn)
   omega
theorem Hq{n:Nat}(hn:1<=n/\n<=7){w:List Int}(hw:∀k∈w,iB n k)(hl:w.length<=60)(hb:∀a b:Nat,a+b=w.length->a+b*(a*KB n)<=6900000):∃W Q m k,Lp w 0 (pP W++nQ Q) m k/\m<=6900000/\k<=60+6*m:=by
 by_cases c:2<=n
 ·obtain⟨W,Q,m,r,b1⟩:=A5 hn.2 c w hw [] [] [] [] (λ_ q=>nomatch q) rfl
  rw[length_nil,zero_add]at b1
  obtain⟨k,c1,l1⟩:=JZ r
  have:=hb (yb w) (Br w) (Bf hw)
  exact⟨W.reverse,Q,m,k,l1,by omega,by omega⟩
 ·have em:w=[]:=by
   cases w with
   |nil=>rfl
   |cons k y=>have:=hw k (by simp);unfold iB at this;omega
  subst em
  exact⟨[],[],0,0,.stop (by simp),by omega,by omega⟩
theorem J0(A Q:List Nat){p:Int}(h1:1<=p)(h2:p<((pP A++nQ Q).length:Int))(h3:gI (pP A++nQ Q) (p-1)<0):¬gI (pP A++nQ Q) p>0:=by
 have hA:(pP A).length=A.length:=length_map _
 obtain⟨q,rfl⟩:∃q:Nat,p=(q:Int)+1:=⟨(p-1).toNat,by omega⟩
 unfold gI at*
 rw[show((q:Int)+1-1).toNat=q by omega]at h3
 rw[show((q:Int)+1).toNat=q+1 by omega]
 by_cases c:q<A.length
 ·rw[getElem?_append_left (by omega)]at h3
  exfalso
  unfold pP at h3
  rw[getElem?_map,getElem?_eq_getElem c]at h3
  simp at h3
  omega
 ·rw[getElem?_append_right (by omega)]
  have hl:q+1-(pP A).length<(nQ Q).length:=by
   rw[length_append]at h2
   omega
  rw[getElem?_eq_getElem hl]
  have hm:=List.getElem_mem hl
  unfold nQ at hm
  rw[mem_reverse]at hm
  obtain⟨i,_,hi⟩:=mem_map.mp hm
  show¬(getD (some _) _)>0
  unfold nQ
  simp_all only [getD_some]
  omega
theorem nR(r:List Int):dz [.lst (bp r)]=.ok (.bl true):=by
 have t1:∀xs:List D,fx (o4 (.lst xs)) "list"=true:=λ_=>rfl
 have lp:∀(r:List Int)(s1:Sl)(s0:Sl),∃s',fX fz (bp r) [s0,s1]=.ok (.nx [s0,s']):=by
  intro r
  induction r with
  |nil=>exact λs1 s0=>⟨s1,rfl⟩
  |cons x r ih=>
   intro s1 s0
   obtain⟨s',e⟩:=ih (.val (.int x)) s0
   refine⟨s',?_⟩
   rw[<-uu,jC (e':=[s0,.val (.int x)])]
   ·exact e
   ·unfold fz
    simp_all only [ur,mS,mD,mF,aM,ae,reduceAdd,reduceSub,reduceEqDiff,reduceIte,aj,ak,aP,aQ,aR,aS,show∀x:Int,fx (o4 (.int x)) "int"=true from λ_=>rfl,show∀x:Int,fx (o4 (.int x)) "bool"=false from λ_=>rfl,Bool.not_true]
 obtain⟨s',e⟩:=lp r .no (.val (.lst (bp r)))
 unfold dz k9
 simp_all [t1,Bool.not_true,e]
theorem tw(ds:List D)(ns:List Int)(r:DE):aC 0 (.deep (.tv ds ns)::r)=.ok (.tup [.lst ds,.lst (bp ns)]):=rfl
theorem Hr(ds:List D)(A Q:List Nat)(s0 s1 s2 s3 s4 s5 s6 s8:Sl){p:Int}(h1:1<=p)(h2:p<((pP A++nQ Q).length:Int)):km (.int p) [s0,s1,s2,s3,s4,s5,s6,.deep (.tv ds (pP A++nQ Q)),s8]=.ok (.nx [s0,s1,s2,s3,s4,s5,s6,.deep (.tv ds (pP A++nQ Q)),.val (.int p)]):=by
 have a1:∀(x y:D),jH [x,y] 1=some y:=λ_ _=>rfl
 have g1:=dU (w:=pP A++nQ Q) (i:=p-1) (by omega) (by omega)
 have g2:=dU (w:=pP A++nQ Q) (i:=p) (by omega) h2
 unfold km
 simp_all only [ur,mS,mD,mF,aM,ae,reduceAdd,reduceSub,reduceEqDiff,reduceIte,aj,ak,aP,aQ,aR,aS,tw,a1,g1,g2]
 by_cases c:gI (pP A++nQ Q) (p-1)<0
 ·have d:=J0 A Q h1 h2 c
  simp_all [decide_eq_true c,decide_eq_false d]
 ·simp_all [decide_eq_false c]
theorem Bg(ds:List D)(A Q:List Nat)(s0 s1 s2 s3 s4 s5 s6:Sl):∀(l:List Int)(s8:Sl),(∀p∈l,1<=p/\p<((pP A++nQ Q).length:Int))->∃s',fX km (bp l) [s0,s1,s2,s3,s4,s5,s6,.deep (.tv ds (pP A++nQ Q)),s8]=.ok (.nx [s0,s1,s2,s3,s4,s5,s6,.deep (.tv ds (pP A++nQ Q)),s'])
 |[],s8,_=>⟨s8,rfl⟩
 |p::l,s8,h=>by
  obtain⟨s',e⟩:=Bg ds A Q s0 s1 s2 s3 s4 s5 s6 l (.val (.int p)) λq hq=>h q (mem_cons_of_mem _ hq)
  refine⟨s',?_⟩
  have hp:=h p (by simp)
  rw[<-uu,jC (Hr ds A Q s0 s1 s2 s3 s4 s5 s6 s8 hp.1 hp.2)]
  exact e
theorem wV{m:List D->R (List D×List Int)}(n:Int)(w:List Int):HH m [.int n,.lst (bp w)]=m [.int n,.lst (bp w)]:=by
 refine if_pos ?_
 have:(bp w).all Bo=true:=by
  unfold bp
  rw[all_eq_true]
  intro x hx
  obtain⟨d,_,rfl⟩:=mem_map.mp hx
  rfl
 show(true&&(List.all (bp w) Bo&&true))=true
 rw[this]
 rfl
theorem J1(ns:List Int)(hl:ns.length<=63):qc [.lst (bp ns)]=.ok (.bl true):=by
 unfold qc Eo
 simp_all [zQ]
 rw[show b9 [.lst (bp ns),.int 0]=.ok (.int (aa ns 0))from C9 ns 0]
 simp_all
 rw[iO _ _ (by decide)]
 simp_all [wx]
 generalize aa ns 0%1000000000=sd
 obtain⟨n1,n7⟩:=uA sd
 generalize i9 sd=n0 at n1 n7
 obtain⟨n,rfl⟩:∃n:Nat,n0=n:=⟨n0.toNat,by omega⟩
 have hn:1<=n/\n<=7:=by omega
 rw[cL,pX _ _ _ (by decide) (by decide)]
 generalize hcs:(ns.drop (toNat 1)).take ((toNat 64)-(toNat 1))=cs
 have hcl:cs.length<=63:=by rw[<-hcs,length_take];omega
 obtain⟨t,et⟩:=Bd cs hcl
 have a0:∀(x y:D),jH [x,y] 0=some x:=λ_ _=>rfl
 have a1:∀(x y:D),jH [x,y] 1=some y:=λ_ _=>rfl
 have tt:∀xs:List D,fx (o4 (.tup xs)) "tuple"=true:=λ_=>rfl
 have fin:∀mo:Nat,(n<4->mo<=16)/\(n=4->mo<=12)/\(4<n->mo<=10)->∃(w:List Int)(ms:List Mv)(A Q:List Nat),cg [.lst (bp (p4 cs n 189)),.int t,.int mo]=.ok (.lst (bp w))/\fA [.int n,.lst (bp w)]=.ok (ms.map Mv.d,pP A++nQ Q)/\cH [.lst (bp w),.int n,.lst (ms.map Mv.d)]=.ok (.lst (bp (pP A++nQ Q)))/\(pP A++nQ Q).length<=7000000:=λmo hm=>by
  obtain⟨w,ew,hx,hw⟩:=wR (n:=n) (w:=p4 cs n 189) Am t mo
  obtain⟨W,Q,m,k,l1,b1,b2⟩:=Hq hn hx (by omega) (Ho hn.2 (by omega))
  obtain⟨ms,u1,u2,u3,u4,u5,u6⟩:=Hm l1 hx (by omega) (by omega)
  exact⟨w,ms,W,Q,ew,u1,yT hn.2 u3 hx (by omega),by omega⟩
 have fin2:∀(w:List Int)(ms:List Mv)(A Q:List Nat)(s0 s1 s2 s3 s4:Sl),(pP A++nQ Q).length<=7000000->∃s',R.bind (zB [.int 1,.int ((pP A++nQ Q).length:Int)]) (λl=>fX km l [s0,s1,s2,s3,s4,.val (.lst (bp w)),.own (bp w),.deep (.tv (ms.map Mv.d) (pP A++nQ Q)),.no])=.ok (.nx [s0,s1,s2,s3,s4,.val (.lst (bp w)),.own (bp w),.deep (.tv (ms.map Mv.d) (pP A++nQ Q)),s']):=λw ms A Q s0 s1 s2 s3 s4 hlen=>by
  rw[F7 _ _ (by omega),R.bJ]
  have e:vI 1 (((pP A++nQ Q).length:Int)-1).toNat=bp ((range (((pP A++nQ Q).length:Int)-1).toNat).map λi:Nat=>(1:Int)+(i:Nat)):=by
   unfold vI bp
   rw[map_map]
   rfl
  rw[e]
  refine Bg _ A Q _ _ _ _ _ _ _ _ _ λp hp=>?_
  obtain⟨i,hi,rfl⟩:=mem_map.mp hp
  rw[mem_range]at hi
  omega
 have ap:∀(w:List Int)(ms:List Mv)(r:List Int)(s0 s1 s2 s3 s4 s8:Sl),r.length<=7000000->vN 7 [s0,s1,s2,s3,s4,.val (.lst (bp w)),.own (bp w),.deep (.tv (ms.map Mv.d) r),s8] (ms.map Mv.d,r) (.int 1)=.ok (.nx [s0,s1,s2,s3,s4,.val (.lst (bp w)),.own (bp w),.no,s8]):=λw ms r s0 s1 s2 s3 s4 s8 h=>if_pos (Nat.lt_of_le_of_lt h (by decide))
 have tv:∀(w:List Int)(ms:List Mv)(r:List Int)(s0 s1 s2 s3 s4 s8:Sl),Aa 7 [s0,s1,s2,s3,s4,.val (.lst (bp w)),.own (bp w),.deep (.tv (ms.map Mv.d) r),s8]=.ok (ms.map Mv.d,r):=λ_ _ _ _ _ _ _ _ _=>rfl
 have one:uv (.int 1)=.ok ():=rfl
 have Nt:(((2:Nat):Int)==2)=true:=rfl
 have END:∀mo:Nat,(n<4->mo<=16)/\(n=4->mo<=12)/\(4<n->mo<=10)->True:=λ_ _=>trivial
 by_cases c4:(n:Int)=4
 ·obtain⟨w,ms,A,Q,ew,eu,wk,hlen⟩:=fin 8 (by omega)
  obtain⟨s',e2⟩:=fin2 w ms A Q (.val (.lst (bp ns))) (.val (.int sd)) (.val (.int n)) (.val (.lst (bp cs))) (.val (.int 8)) hlen
  rw[show((8:Nat):Int)=8 from rfl]at ew
  simp_all [show((n:Int)==4)=true from beq_iff_eq.mpr c4,show decide ((n:Int)>4)=false from decide_eq_false (by omega),et,p5 cs n 189 (by omega) (by omega) (by decide),ew,wV,eu,tw,a0,a1,tt,Nt,nR,wk,zY,zX,decide_true,Bool.not_true,bw,e2,tv,one,ap _ _ _ _ _ _ _ _ _ hlen]
 ·by_cases c5:(n:Int)>4
  ·obtain⟨w,ms,A,Q,ew,eu,wk,hlen⟩:=fin 6 (by omega)
   obtain⟨s',e2⟩:=fin2 w ms A Q (.val (.lst (bp ns))) (.val (.int sd)) (.val (.int n)) (.val (.lst (bp cs))) (.val (.int 6)) hlen
   rw[show((6:Nat):Int)=6 from rfl]at ew
   simp_all [show((n:Int)==4)=false from beq_eq_false_iff_ne.mpr c4,decide_eq_true c5,et,p5 cs n 189 (by omega) (by omega) (by decide),ew,wV,eu,tw,a0,a1,tt,Nt,nR,wk,zY,zX,decide_true,Bool.not_true,bw,e2,tv,one,ap _ _ _ _ _ _ _ _ _ hlen]
  ·obtain⟨w,ms,A,Q,ew,eu,wk,hlen⟩:=fin 12 (by omega)
   obtain⟨s',e2⟩:=fin2 w ms A Q (.val (.lst (bp ns))) (.val (.int sd)) (.val (.int n)) (.val (.lst (bp cs))) (.val (.int 12)) hlen
   rw[show((12:Nat):Int)=12 from rfl]at ew
   simp_all [show((n:Int)==4)=false from beq_eq_false_iff_ne.mpr c4,decide_eq_false c5,et,p5 cs n 189 (by omega) (by omega) (by decide),ew,wV,eu,tw,a0,a1,tt,Nt,nR,wk,zY,zX,decide_true,Bool.not_true,bw,e2,tv,one,ap _ _ _ _ _ _ _ _ _ hlen]
theorem Hs{K:PySem.W.Frag}{H:Hp}{a:Addr}(ns:List Int)(hl:ns.length<=63)(hS:jV K H a (ns.map V.int)):ve K vJ qc [.ref a] H (λv _=>v=.bl true) λ_ _ _=>False:=Ju (J1 ns hl) hS
end DL
namespace DL.sI
open PySem PySem.Spec PyProof.Rows L2 DL
section
variable{P:Program}{w:World}{K:PySem.W.Frag}{mg:Str->Option Value}{base:Heap}(t:Tb K mg)
theorem qy:Ok P w K mg base 1 t.fP t.fQ ["n","k"] du:=by
 have h:=uq (P:=P) (w:=w) (base:=base) (k:=0) oN t.iU λcdv A outer s H E hr=>
  (aX (bZ (rX (PE.ar (j0 (j7 (aV.u6 hr)) iD (nB 1) (PE.ar cI) (au _))) (rW (j0 i7 fu (PE.ar (b8 cC dA t.jg gg (ai (nB 1) aO))) (nB 0) (au _))))))
 exact h
theorem qO:Ok P w K mg base 1 t.cA t.cB ["word","p","many"] bz:=by
 have h:=uq (P:=P) (w:=w) (base:=base) (k:=0) qg t.cZ λcdv A outer s H E hr=>
  (aX (bZ (rX (PE.ar (j0 zh vH (nB 1) (PE.ar cI) (au _))) (rW (j0 Dm zy (PE.ar (bq aU aw (nB 1) (nB 2))) (PE.ar (b8 b6 cX t.iJ fy (ai (nB 0) aO))) (au _))))))
 exact h
theorem qP:zN P w K mg base 1 t.gG t.gH ["p","one","other"] ee:=by
 have h:=Qg (P:=P) (w:=w) (base:=base) (k:=0) qj t.jq λcdv A outer s H E hr=>
  (aA (jT (bx (bL (aV.u6 hr)) br (nB 1) (PE.ar (B6 ji gA (nB 2))) (au _)) (aX (jI (j5 (aB (yu (aB cS (aB (nD 0) d7))) d7)))) cP)
  (aA (jT (bx zh vH (PE.ar (b8 cC dA t.jg gg (ai (PE.ar (bq aU aw (nB 1) (nB 2))) aO))) (PE.ar cI) (au _)) (aX (jI (j5 (aB (yu (aB cS (aB (nD 0) d7))) d7)))) cP)
  (aX (jI (j5 (aB (yu (aB cS (aB (bq aU aw (nB 0) (PE.ar cI)) (aB (B6 ji gA (nB 1)) d7)))) (aB (yu (aB cS (aB (bq aU aw (nB 0) (PE.ar cI)) (aB (nD 2) d7)))) (aB (yu (aB cS (aB (bq aU aw (nB 0) (PE.ar cI)) d7))) (aB (yu (aB cS (aB (nD 0) d7))) d7)))))))))
 exact h
theorem nS:Ok P w K mg base 1 t.dB t.dC ["one","other"] cF:=by
 have h:=uq (P:=P) (w:=w) (base:=base) (k:=0) mC t.gq λcdv A outer s H E hr=>
  (aX (bZ (Pf (PE.ar (j0 (bL (aV.u6 hr)) br (nB 0) (PE.ar (B6 ji gA (nB 1))) (au _))) (rW (rX (PE.ar (j0 i7 fu (nB 0) (PE.ar cI) (au _))) (rW (j0 nZ j3 (nB 1) (PE.ar cI) (au _))))))))
 exact h
theorem uZ:Ok P w K mg base 1 t.gZ t.g6 ["_law_cell","_law_k","_law_factor"] dH:=by
 have h:=uq (P:=P) (w:=w) (base:=base) (k:=0) sL t.ju λcdv A outer s H E hr=>
  (aX (bZ (bq lS lY (PE.ar (bq iN fJ (PE.ar (bq rO oX (PE.ar (bq aU aw (PE.ar (bq aU aw (PE.ar (bq rO oX (PE.ar (bq iN fJ (nB 0) (PE.ar cI))) (PE.ar cI))) (PE.ar (bq rO oX (nB 1) (nB 1))))) (PE.ar cI))) (nB 2))) (PE.ar cI))) (PE.ar cI))))
 exact h
theorem oQ:Ok P w K mg base 1 t.eB t.eI ["_law_script","_law_k"] b9:=by
 have h:=uq (P:=P) (w:=w) (base:=base) (k:=0) nF t.g7 λcdv A outer s H E hr=>
  (aA (jT (bx i7 fu (nB 1) (PE.ar (b8 b6 cX t.iJ fy (ai (nB 0) aO))) (au _)) (aX (bZ (kM (nL 0) (nB 1)))) cP)
  (aX (bZ cI)))
 exact h
theorem oR:Ok P w K mg base 1 t.eJ t.eM ["_law_seed","_law_least","_law_most"] cR:=by
 have h:=uq (P:=P) (w:=w) (base:=base) (k:=0) jd t.g8 λcdv A outer s H E hr=>
  (aA (jT (zA (bx (bL (aV.u6 hr)) br (nB 1) (PE.ar cI) (au _)) (zz (bx (bL (aV.u6 hr)) br (PE.ar (bq iN fJ (nB 0) (PE.ar cI))) (PE.ar cI) (au _)))).pt (aX (bZ cI)) cP)
  (aA (gC 1 (b8 (qV rfl) t9 t.AK zK (ai (PE.ar cI) (ai (nB 1) aO))) jd.nd)
  (aX (bZ (bq aU aw (nB 1) (PE.ar (bq iN fJ (PE.ar (bq lS lY (nB 0) (PE.ar cI))) (PE.ar (bq aU aw (PE.ar (bq iM fI (nB 2) (nB 1))) (PE.ar cI))))))))))
 exact h
theorem nT:Ok P w K mg base 1 t.dD t.dE ["_law_number","_law_n"] cD:=by
 have h:=uq (P:=P) (w:=w) (base:=base) (k:=0) iG t.gu λcdv A outer s H E hr=>
  (aA (gC 2 (bq aU aw (PE.ar cI) (PE.ar (bq iN fJ (nB 0) (PE.ar (bq iM fI (nB 1) (PE.ar cI)))))) iG.nd)
  (aA (jT (bx (bL (aV.u6 hr)) br (PE.ar (bq iN fJ (PE.ar (bq lS lY (nB 0) (PE.ar cI))) (PE.ar cI))) (PE.ar cI) (au _)) (aX (bZ (B6 ji gA (nB 2)))) cP)
  (aX (bZ (nD 2)))))
 exact h
theorem tE:zN P w K mg base 1 t.iH t.iI ["_law_word","_law_deed_here"] fZ:=by
 have h:=Ga (P:=P) (w:=w) (base:=base) (k:=0) lu t.kC λcdv A outer s H E hr=>
  (aA (gC 2 (rf (nD 1) (PE.ar cI)) lu.nd)
  (aA (jT (bx (bL (aV.u6 hr)) br (PE.ar (rf (nD 1) (PE.ar cI))) (PE.ar cS) (au _)) (aX (jI (lB (PE.dY (b7 (nL 0) tJ (gB (nB 2)))) (PE.dY (b7 (nL 0) (gB (PE.ar (bq aU aw (nB 2) (PE.ar cI)))) tJ))))) cP)
  (aA (jT (bx (bL (aV.u6 hr)) br (PE.ar (rf (nD 1) (PE.ar cI))) (PE.ar cS) (au _)) (aX (jI (lB (PE.dY (lB (PE.dY (b7 (nL 0) tJ (gB (nB 2)))) (PE.dY (j5 (aB (rf (nD 1) (PE.ar cI)) (aB (B6 ji gA (PE.ar (rf (nD 1) (PE.ar cI)))) d7)))))) (PE.dY (b7 (nL 0) (gB (nB 2)) tJ))))) cP)
  (aA (jT (bx (bL (aV.u6 hr)) br (PE.ar (rf (nD 1) (PE.ar cI))) (PE.ar cS) (au _)) (aX (jI (lB (PE.dY (lB (PE.dY (b7 (nL 0) tJ (gB (nB 2)))) (PE.dY (j5 (aB (kM (nL 0) (PE.ar (bq aU aw (nB 2) (PE.ar cI)))) (aB (kM (nL 0) (nB 2)) d7)))))) (PE.dY (b7 (nL 0) (gB (PE.ar (bq aU aw (nB 2) (PE.ar cI)))) tJ))))) cP)
  (aX (jI (lB (PE.dY (lB (PE.dY (b7 (nL 0) tJ (gB (nB 2)))) (PE.dY (j5 (aB (kM (nL 0) (PE.ar (bq aU aw (nB 2) (PE.ar cI)))) (aB (kM (nL 0) (nB 2)) (aB (kM (nL 0) (PE.ar (bq aU aw (nB 2) (PE.ar cI)))) d7))))))) (PE.dY (b7 (nL 0) (gB (PE.ar (bq aU aw (nB 2) (PE.ar cI)))) tJ)))))))))
 exact h
theorem u7:Ok P w K mg base 1 t.jx t.jy ["_law_word","_law_n","_law_deed_here"] gV:=by
 have h:=uq (P:=P) (w:=w) (base:=base) (k:=0) gF t.lJ λcdv A outer s H E hr=>
  (aA (jT (oJ (j4 (lZ (PE.ar (rZ ug ui t.bI t.sN (nB 2))))) (oJ (bx i7 fu (PE.ar (b8 b6 cX t.iJ fy (ai (nB 2) aO))) (PE.ar cI) (au _)) (rV (j4 (lZ (PE.ar (rZ FT FY t.bI t.Ex (PE.ar (rf (nD 2) (PE.ar cI)))))))))).pt (aX (bZ y0)) cP)
  (aA (yw PassesOwn.never rfl (iT (Gb (nD 2) (gB (PE.ar cI)) tJ)) (Ck 3 gF.nd) (aX (jT (oJ (j4 (lZ (PE.ar (rZ zI zJ t.bI t.AJ (nB 3))))) (rV (lZ (PE.ar (rZ xt xw t.bI t.wG (nB 3)))))).pt (aX (bZ y0)) cP)))
  (aA (gC 4 (rf (nD 2) (PE.ar cI)) gF.nd)
  (aA (jT (oJ (bx i7 fu (nB 4) (PE.ar cI) (au _)) (rV (bx nZ j3 (nB 4) (PE.ar (b8 b6 cX t.iJ fy (ai (nB 0) aO))) (au _)))).pt (aX (bZ y0)) cP)
  (aA (gC 5 (PE.m7 (b7 (nL 0) (gB (nB 4)) (gB (PE.ar (bq aU aw (nB 4) (PE.ar cI)))))) gF.nd)
  (aA (jT (bx (bL (aV.u6 hr)) br (PE.ar (rf (nD 2) (PE.ar cI))) (PE.ar cS) (au _)) (aX (bZ (rX (PE.ar (j0 (bL (aV.u6 hr)) br (PE.ar (b8 b6 cX t.iJ fy (ai (nB 2) aO))) (PE.ar cI) (au _))) (rW (FH i7 fu i7 fu (PE.ar cI) (PE.ar (b8 cC dA t.jg gg (ai (PE.ar (rf (nD 2) (PE.ar cI))) aO))) (nB 1)))))) cP)
  (aA (jT (oJ (bx (j7 (aV.u6 hr)) iD (PE.ar (b8 b6 cX t.iJ fy (ai (nB 2) aO))) (PE.ar cI) (au _)) (rV (bx i7 fu (PE.ar (b8 b6 cX t.iJ fy (ai (nB 5) aO))) (PE.ar cI) (au _)))).pt (aX (bZ y0)) cP)
  (aA (jT (bx (bL (aV.u6 hr)) br (PE.ar (rf (nD 2) (PE.ar cI))) (PE.ar cS) (au _)) (aX (bZ (j0 (bL (aV.u6 hr)) br (PE.ar (kM (nL 5) (PE.ar cI))) (PE.ar (B6 ji gA (PE.ar (kM (nL 5) (PE.ar cI))))) (au _)))) cP)
  (aA (jT (bx (bL (aV.u6 hr)) br (PE.ar (rf (nD 2) (PE.ar cI))) (PE.ar cS) (au _)) (aX (bZ (j0 nZ j3 (PE.ar (b8 cC dA t.jg gg (ai (PE.ar (bq iM fI (PE.ar (b8 cC dA t.jg gg (ai (PE.ar (kM (nL 5) (PE.ar cI))) aO))) (PE.ar (b8 cC dA t.jg gg (ai (PE.ar (kM (nL 5) (PE.ar cI))) aO))))) aO))) (PE.ar cI) (au _)))) cP)
  (aA (jT (oJ (bx (j7 (aV.u6 hr)) iD (PE.ar (rf (nD 2) (PE.ar cI))) (PE.ar cS) (au _)) (rV (bx i7 fu (PE.ar (b8 b6 cX t.iJ fy (ai (nB 5) aO))) (PE.ar cI) (au _)))).pt (aX (bZ y0)) cP)
  (aX (bZ (rX (PE.ar (j0 (bL (aV.u6 hr)) br (PE.ar (kM (nL 5) (PE.ar cI))) (PE.ar (kM (nL 5) (PE.ar cI))) (au _))) (rX (PE.ar (j0 nZ j3 (PE.ar (bq rO oX (PE.ar (kM (nL 5) (PE.ar cI))) (PE.ar (kM (nL 5) (PE.ar cI))))) (PE.ar cI) (au _))) (rW (j0 (bL (aV.u6 hr)) br (PE.ar (b8 cC dA t.jg gg (ai (PE.ar (bq iM fI (PE.ar (kM (nL 5) (PE.ar cI))) (PE.ar (kM (nL 5) (PE.ar cI))))) aO))) (PE.ar cI) (au _)))))))))))))))))
 exact h
theorem qz:Ok P w K mg base 1 t.fT t.fU ["_law_found"] dz:=by
 have h:=uq (P:=P) (w:=w) (base:=base) (k:=0) jQ t.iW λcdv A outer s H E hr=>
  (aA (jT (j4 (lZ (PE.ar (rZ xu xx t.bI t.qm (nB 0))))) (aX (bZ y0)) cP)
  (aA (yw PassesOwn.never rfl (iL (nD 0)) (Ck 1 jQ.nd) (aX (jT (oJ (j4 (lZ (PE.ar (rZ zI zJ t.bI t.AJ (nB 1))))) (rV (lZ (PE.ar (rZ xt xw t.bI t.wG (nB 1)))))).pt (aX (bZ y0)) cP)))
  (aX (bZ y0))))
 exact h
theorem oU:Ok P w K mg base 1 t.eO t.eQ ["_law_word","_law_total_here","_law_most"] cg:=by
 have h:=Mq (P:=P) (w:=w) (base:=base) (k:=0) jf t.g9 λcdv A outer s H E hr=>
  (aA (jT (bx Dm zy (PE.ar (b8 b6 cX t.iJ fy (ai (nB 0) aO))) (nB 2) (au _)) (aX (bZ (nD 0))) cP)
  (aA (gC 3 (bq iN fJ (nB 1) (PE.ar (bq aU aw (PE.ar (bq iM fI (PE.ar (b8 b6 cX t.iJ fy (ai (nB 0) aO))) (nB 2))) (PE.ar cI)))) jf.nd)
  (aX (bZ (PE.m7 (b7 (nL 0) (gB (nB 3)) (gB (PE.ar (bq aU aw (nB 3) (nB 2))))))))))
 exact h
theorem wW(bu:Ok P w K mg base 1 t.cA t.cB ["word","p","many"] bz):Ok P w K mg base 2 t.kO t.kP ["word","p"] ja:=by
 have h:=uq (P:=P) (w:=w) (base:=base) (k:=1) uH t.nG λcdv A outer s H E hr=>
  (aX (bZ (rX (PE.ar (rh rn t.cZ bu (hr.mono (by decide)) (ai (nB 0) (ai (nB 1) (ai (PE.ar cI) aO))))) (rW (j0 (bL (aV.u6 hr)) br (PE.ar (kM (nL 0) (nB 1))) (PE.ar (B6 ji gA (PE.ar (kM (nL 0) (PE.ar (bq aU aw (nB 1) (PE.ar cI))))))) (au _))))))
 exact h
theorem yU(iZ:Ok P w K mg base 1 t.fP t.fQ ["n","k"] du)(bu:Ok P w K mg base 1 t.cA t.cB ["word","p","many"] bz):Ok P w K mg base 2 t.mG t.mH ["n","word","p","k"] kj:=by
 have h:=uq (P:=P) (w:=w) (base:=base) (k:=1) wF t.ql λcdv A outer s H E hr=>
  (aX (bZ (rX (PE.ar (rh rn t.cZ bu (hr.mono (by decide)) (ai (nB 1) (ai (nB 2) (ai (PE.ar cI) aO))))) (rW (rh rn t.iU iZ (hr.mono (by decide)) (ai (nB 0) (ai (nB 3) aO)))))))
 exact h
theorem wX(bu:Ok P w K mg base 1 t.cA t.cB ["word","p","many"] bz):Ok P w K mg base 2 t.kQ t.kR ["word","p"] jb:=by
 have h:=uq (P:=P) (w:=w) (base:=base) (k:=1) uI t.nH λcdv A outer s H E hr=>
  (aX (bZ (rX (PE.ar (rh rn t.cZ bu (hr.mono (by decide)) (ai (nB 0) (ai (nB 1) (ai (PE.ar cI) aO))))) (rW (j0 zh vH (PE.ar (b8 cC dA t.jg gg (ai (PE.ar (bq iM fI (PE.ar (b8 cC dA t.jg gg (ai (PE.ar (kM (nL 0) (nB 1))) aO))) (PE.ar (b8 cC dA t.jg gg (ai (PE.ar (kM (nL 0) (PE.ar (bq aU aw (nB 1) (PE.ar cI))))) aO))))) aO))) (PE.ar cI) (au _))))))
 exact h
theorem u9(bu:Ok P w K mg base 1 t.cA t.cB ["word","p","many"] bz):Ok P w K mg base 2 t.jn t.jo ["word","p"] gW:=by
 have h:=uq (P:=P) (w:=w) (base:=base) (k:=1) sJ t.lH λcdv A outer s H E hr=>
  (aA (jT (oJ (j4 (lZ (PE.ar (rh rn t.cZ bu (hr.mono (by decide)) (ai (nB 0) (ai (nB 1) (ai (PE.ar cI) aO))))))) (rV (bx (j7 (aV.u6 hr)) iD (PE.ar (kM (nL 0) (nB 1))) (PE.ar (kM (nL 0) (PE.ar (bq aU aw (nB 1) (PE.ar cI))))) (au _)))).pt (aX (bZ y0)) cP)
  (aX (bZ (j0 (bL (aV.u6 hr)) br (PE.ar (b8 cC dA t.jg gg (ai (PE.ar (bq iM fI (PE.ar (kM (nL 0) (nB 1))) (PE.ar (kM (nL 0) (PE.ar (bq aU aw (nB 1) (PE.ar cI))))))) aO))) (PE.ar cI) (au _)))))
 exact h
theorem qQ(gx:Ok P w K mg base 1 t.dD t.dE ["_law_number","_law_n"] cD):Ok P w K mg base 2 t.gJ t.gK ["_law_number","_law_n"] d9:=by
 have h:=Mq (P:=P) (w:=w) (base:=base) (k:=1) gY t.jv λcdv A outer s H E hr=>
  (aA (gC 2 (rh rn t.gu gx (hr.mono (by decide)) (ai (nB 0) (ai (nB 1) aO))) gY.nd)
  (aA (jT (oJ (bx nZ j3 (PE.ar (bq iN fJ (PE.ar (bq lS lY (nB 0) (PE.ar cI))) (PE.ar cI))) (PE.ar cI) (au _)) (rV (bx i7 fu (nB 1) (PE.ar cI) (au _)))).pt (aX (bZ (PE.m7 (j5 (aB (nD 2) d7))))) cP)
  (aA (gC 3 (Pg (zA (bx i7 fu (PE.ar (b8 cC dA t.jg gg (ai (PE.ar (bq aU aw (nB 2) (PE.ar cI))) aO))) (nB 1) (au _)) (zz (bx (j7 (aV.u6 hr)) iD (PE.ar (bq aU aw (nB 2) (PE.ar cI))) (PE.ar cI) (au _)))).pt (bq aU aw (nB 2) (PE.ar cI)) (bq iM fI (nB 2) (PE.ar cI))) gY.nd)
  (aX (bZ (kM (PE.dY (j5 (aB (PE.m7 (j5 (aB (nD 2) (aB (nD 3) (aB (nD 2) d7))))) (aB (PE.m7 (j5 (aB (nD 2) (aB (nD 3) d7)))) (aB (PE.m7 (j5 (aB (nD 2) (aB (nD 2) d7)))) (aB (PE.m7 (j5 (aB (nD 2) (aB (B6 ji gA (nB 3)) (aB (nD 2) d7))))) d7)))))) (PE.ar (bq iN fJ (PE.ar (bq lS lY (nB 0) (PE.ar cI))) (PE.ar cI)))))))))
 exact h
theorem qA(kI:zN P w K mg base 1 t.iH t.iI ["_law_word","_law_deed_here"] fZ)(lL:Ok P w K mg base 1 t.jx t.jy ["_law_word","_law_n","_law_deed_here"] gV):Ok P w K mg base 2 t.fV t.fW ["_law_word","_law_n","_law_moves"] cH:=by
 have h:=Mq (P:=P) (w:=w) (base:=base) (k:=1) gp t.iX λcdv A outer s H E hr=>
  (aA (jT (j4 (lZ (PE.ar (rZ xu xx t.bI t.qm (nB 2))))) (aX (bZ cN)) cP)
  (aA (yw PassesOwn.never rfl (iL (nD 2)) (Ck 3 gp.nd) (aA (jT (j4 (lZ (PE.ar (rh rn t.lJ lL (hr.mono (by decide)) (ai (nB 0) (ai (nB 1) (ai (nB 3) aO))))))) (aX (bZ cN)) cP)
  (aX (gC 0 (PE.m7 (Mj t.kC kI (hr.mono (by decide)) (aB (nD 0) (aB (nD 3) d7)))) gp.nd))))
  (aX (bZ (nD 0)))))
 exact h
theorem qR(fG:Ok P w K mg base 1 t.gZ t.g6 ["_law_cell","_law_k","_law_factor"] dH):Ok P w K mg base 2 t.gR t.gS ["_law_cells"] eg:=by
 have h:=uq (P:=P) (w:=w) (base:=base) (k:=1) qk t.jz λcdv A outer s H E hr=>
  (aX (bZ (Mw rfl t.Ey (PE.dY (IZ (Qe (N:=["_law_k","_law_cell"]) (nt:=2) (caps:=[]) (ah iS) ["_law_cells"] (by decide +kernel)) rfl (LO (iE t.kD (nD 0))) (Kp.ok (Mp 2 (xF (Ji (nt:=2) 0) (xF (Ji (nt:=2) 1) F9)))) (λ_ _ _ _ _=>(Ol 2 rfl (o5 (Ck 0 (by show Nodup (["_law_k","_law_cell"]:List Str);decide +kernel)) (o5 (Ck 1 (by show Nodup (["_law_k","_law_cell"]:List Str);decide +kernel)) zZ)))) (λ_ _ _ _ _=>PH) (λ_ _ _ _ _=>(rh rn t.ju fG (hr.mono (by decide)) (ai (nB 1) (ai (nB 0) (ai (PE.ar cI) aO))))))))))
 exact h
theorem qB(nU:Ok P w K mg base 2 t.kO t.kP ["word","p"] ja)(qC:Ok P w K mg base 2 t.mG t.mH ["n","word","p","k"] kj)(nV:Ok P w K mg base 2 t.kQ t.kR ["word","p"] jb)(lM:Ok P w K mg base 2 t.jn t.jo ["word","p"] gW):Ok P w K mg base 3 t.fR t.fS ["n","word","move"] dw:=by
 have h:=uq (P:=P) (w:=w) (base:=base) (k:=2) gm t.iV λcdv A outer s H E hr=>
  (aA (gC 3 (rf (nD 2) (PE.ar cI)) gm.nd)
  (aA (gC 4 (rf (nD 2) (PE.ar cI)) gm.nd)
  (aA (jT (bx (bL (aV.u6 hr)) br (nB 3) (PE.ar cS) (au _)) (aX (bZ (rh rn t.nG nU (hr.mono (by decide)) (ai (nB 1) (ai (nB 4) aO))))) cP)
  (aA (jT (bx (bL (aV.u6 hr)) br (nB 3) (PE.ar cS) (au _)) (aX (bZ (rh rn t.ql qC (hr.mono (by decide)) (ai (nB 0) (ai (nB 1) (ai (nB 4) (ai (PE.ar (rf (nD 2) (PE.ar cI))) aO))))))) cP)
  (aA (jT (bx (bL (aV.u6 hr)) br (nB 3) (PE.ar cS) (au _)) (aX (bZ (rh rn t.nH nV (hr.mono (by decide)) (ai (nB 1) (ai (nB 4) aO))))) cP)
  (aX (bZ (rh rn t.lH lM (hr.mono (by decide)) (ai (nB 1) (ai (nB 4) aO))))))))))
 exact h
theorem qT(fG:Ok P w K mg base 1 t.gZ t.g6 ["_law_cell","_law_k","_law_factor"] dH)(jD:Ok P w K mg base 2 t.gJ t.gK ["_law_number","_law_n"] d9):zN P w K mg base 3 t.gM t.gO ["_law_cells","_law_n","_law_most"] ed:=by
 have h:=Ga (P:=P) (w:=w) (base:=base) (k:=2) cT t.jw λcdv A outer s H E hr=>
  (aA (gC 3 (PE.m7 (j5 d7)) cT.nd)
  (aA (yw PassesOwn.never rfl (iE t.kD (nD 0)) (Ol 2 rfl (o5 (Ck 4 cT.nd) (o5 (Ck 5 cT.nd) zZ))) (aX (jT (bx nZ j3 (nB 1) (PE.ar cI) (au _)) (aX (gC 3 (PE.m7 (lB (nL 3) (PE.LD (Oe t.jv jD (hr.mono (by decide)) (aB (rh rn t.ju fG (hr.mono (by decide)) (ai (nB 5) (ai (nB 4) (ai (PE.ar cI) aO)))) (aB (nD 1) d7)))))) cT.nd)) cP)))
  (aX (jI (b7 (nL 3) tJ (gB (nB 2)))))))
 exact h
theorem lN(i0:Ok P w K mg base 3 t.fR t.fS ["n","word","move"] dw):Ok P w K mg base 4 t.cM t.cO ["n","word","move"] bW:=by
 have h:=uq (P:=P) (w:=w) (base:=base) (k:=3) kX t.ek λcdv A outer s H E hr=>
  (aX (jT (j4 (lZ (PE.ar (rh rn t.iV i0 (hr.mono (by decide)) (ai (nB 0) (ai (nB 1) (ai (nB 2) aO))))))) (aX Mr) cP))
 exact h
theorem Bh(fg:Ok P w K mg base 4 t.cM t.cO ["n","word","move"] bW):zN P w K mg base 5 t.o9 t.pe ["n","word","move"] mr:=by
 have h:=Ga (P:=P) (w:=w) (base:=base) (k:=4) nE t.sM λcdv A outer s H E hr=>
  (aA (IL (PE.ar (rh rn t.ek fg (hr.mono (by decide)) (ai (nB 0) (ai (nB 1) (ai (nB 2) aO))))))
  (aA (gC 3 (rf (nD 2) (PE.ar cI)) nE.nd)
  (aA (gC 4 (rf (nD 2) (PE.ar cI)) nE.nd)
  (aA (jT (bx (bL (aV.u6 hr)) br (nB 3) (PE.ar cS) (au _)) (aX (jI (lB (PE.dY (b7 (nL 1) tJ (gB (nB 4)))) (PE.dY (b7 (nL 1) (gB (PE.ar (bq aU aw (nB 4) (PE.ar cI)))) tJ))))) cP)
  (aA (jT (bx (bL (aV.u6 hr)) br (nB 3) (PE.ar cS) (au _)) (aX (jI (lB (PE.dY (lB (PE.dY (b7 (nL 1) tJ (gB (nB 4)))) (PE.dY (j5 (aB (rf (nD 2) (PE.ar cI)) (aB (B6 ji gA (PE.ar (rf (nD 2) (PE.ar cI)))) d7)))))) (PE.dY (b7 (nL 1) (gB (nB 4)) tJ))))) cP)
  (aA (jT (bx (bL (aV.u6 hr)) br (nB 3) (PE.ar cS) (au _)) (aX (jI (lB (PE.dY (lB (PE.dY (b7 (nL 1) tJ (gB (nB 4)))) (PE.dY (j5 (aB (kM (nL 1) (PE.ar (bq aU aw (nB 4) (PE.ar cI)))) (aB (kM (nL 1) (nB 4)) d7)))))) (PE.dY (b7 (nL 1) (gB (PE.ar (bq aU aw (nB 4) (PE.ar cI)))) tJ))))) cP)
  (aX (jI (lB (PE.dY (lB (PE.dY (b7 (nL 1) tJ (gB (nB 4)))) (PE.dY (j5 (aB (kM (nL 1) (PE.ar (bq aU aw (nB 4) (PE.ar cI)))) (aB (kM (nL 1) (nB 4)) (aB (kM (nL 1) (PE.ar (bq aU aw (nB 4) (PE.ar cI)))) d7))))))) (PE.dY (b7 (nL 1) (gB (PE.ar (bq aU aw (nB 4) (PE.ar cI)))) tJ)))))))))))
 exact h
theorem vc(tH:zN P w K mg base 5 t.o9 t.pe ["n","word","move"] mr)(jE:zN P w K mg base 1 t.gG t.gH ["p","one","other"] ee)(gz:Ok P w K mg base 1 t.dB t.dC ["one","other"] cF):Kx P w K mg base 6 t.jr t.jt ["n","word"] fA:=by
 have h:=Qq (P:=P) (w:=w) (base:=base) (k:=5) bY t.lI λcdv A outer s H E hr=>
  (aA (xo 2 (j5 d7) bY.nd)
  (aA (xo 3 (DA t.qm (nL 1)) bY.nd)
  (aA (gC 4 cI bY.nd)
  (aA (FP An PassesOwn.never (bx i7 fu (PE.ar (bq aU aw (nB 4) (PE.ar cI))) (PE.ar (b8 b6 cX t.iJ fy (ai (nB 3) aO))) (au _)) (aX (jT (lZ (PE.ar (rh rn t.gq gz (hr.mono (by decide)) (ai (PE.ar (kM (nL 3) (nB 4))) (ai (PE.ar (kM (nL 3) (PE.ar (bq aU aw (nB 4) (PE.ar cI))))) aO))))) (aA (yw PassesOwn.never rfl (iL (PE.m7 (Mj t.jq jE (hr.mono (by decide)) (aB (nD 4) (aB (kM (nL 3) (nB 4)) (aB (kM (nL 3) (PE.ar (bq aU aw (nB 4) (PE.ar cI)))) d7)))))) (Ck 5 bY.nd) (aA (xo 3 (Ml Qf t.sM tH (hr.mono (by decide)) (ai (nB 0) (ai (nB 3) (ai (nB 5) aO)))) bY.nd)
  (aX (Jj 2 (nD 5)))))
  (aX (gC 4 (b8 (qV rfl) t9 t.AK zK (ai (PE.ar (bq iM fI (nB 4) (PE.ar cI))) (ai (PE.ar cI) aO))) bY.nd))) (aX (Jk 4 Fc (PE.ar cI) bY.nd)))))
  (aX (Jq 2 3 (by decide)))))))
 exact h
theorem Ht(lP:Kx P w K mg base 6 t.jr t.jt ["n","word"] fA)(hU:Ok P w K mg base 1 t.eB t.eI ["_law_script","_law_k"] b9)(ie:Ok P w K mg base 1 t.eJ t.eM ["_law_seed","_law_least","_law_most"] cR)(jF:zN P w K mg base 3 t.gM t.gO ["_law_cells","_law_n","_law_most"] ed)(i5:Ok P w K mg base 1 t.fT t.fU ["_law_found"] dz)(i6:Ok P w K mg base 2 t.fV t.fW ["_law_word","_law_n","_law_moves"] cH)(ig:Ok P w K mg base 1 t.eO t.eQ ["_law_word","_law_total_here","_law_most"] cg)(jG:Ok P w K mg base 2 t.gR t.gS ["_law_cells"] eg):Ok P w K mg base 7 t.AI t.xV ["_law_script"] qc:=by
 have h:=uq (P:=P) (w:=w) (base:=base) (k:=6) ej t.Ew λcdv A outer s H E hr=>
  (aA (gC 1 (bq iN fJ (PE.ar (rh rn t.g7 hU (hr.mono (by decide)) (ai (nB 0) (ai (PE.ar cI) aO)))) (PE.ar (bq Fl B7 (PE.ar cI) (PE.ar cI)))) ej.nd)
  (aA (gC 2 (rh rn t.g8 ie (hr.mono (by decide)) (ai (nB 1) (ai (PE.ar cI) (ai (PE.ar cI) aO)))) ej.nd)
  (aA (gC 3 (PE.m7 (b7 (nL 0) (gB (PE.ar cI)) (gB (PE.ar cI)))) ej.nd)
  (aA (gC 4 cI ej.nd)
  (aA (jT (bx (bL (aV.u6 hr)) br (nB 2) (PE.ar cI) (au _)) (aX (gC 4 cI ej.nd)) cP)
  (aA (jT (bx nZ j3 (nB 2) (PE.ar cI) (au _)) (aX (gC 4 cI ej.nd)) cP)
  (aA (gC 5 (Oe t.g9 ig (hr.mono (by decide)) (aB (PE.m7 (Mj t.jw jF (hr.mono (by decide)) (aB (nD 3) (aB (nD 2) (aB cI d7))))) (aB (rh rn t.jz jG (hr.mono (by decide)) (ai (nB 3) aO)) (aB (nD 4) d7)))) ej.nd)
  (aA (xo 6 (DA t.qm (nL 5)) ej.nd)
  (aA (Jp 7 (Qt t.lI lP (hr.mono (by decide)) (ai (nB 2) (ai (nB 6) aO))) ej.nd)
  (aA (jT (oJ (bx (j7 (aV.u6 hr)) iD (nB 6) (nB 5) (au _)) (oJ (j4 (lZ (PE.ar (rZ ug ui t.bI t.sN (nB 7))))) (oJ (bx (j7 (aV.u6 hr)) iD (PE.ar (b8 b6 cX t.iJ fy (ai (nB 7) aO))) (PE.ar cI) (au _)) (rV (j4 (lZ (PE.ar (rh rn t.iW i5 (hr.mono (by decide)) (ai (Dy (nB 7) (PE.ar cI)) aO))))))))).pt (aX (bZ y0)) cP)
  (aA (jT (bx (j7 (aV.u6 hr)) iD (QG t.iX i6 (hr.mono (by decide)) (ai (nB 5) (ai (nB 2) (ai (Dy (nB 7) (PE.ar cI)) aO)))) (Dy (nB 7) (PE.ar cI)) (au _)) (aX (bZ y0)) cP)
  (aA (yw PassesOwn.never rfl (Pz t.xW (ai (PE.ar cI) (ai (PE.ar (b8 b6 cX t.iJ fy (ai (Dy (nB 7) (PE.ar cI)) aO))) aO))) (Ck 8 ej.nd) (aX (jT (zA (bx i7 fu (Dy (Dy (nB 7) (PE.ar cI)) (PE.ar (bq iM fI (nB 8) (PE.ar cI)))) (PE.ar cI) (au _)) (zz (bx nZ j3 (Dy (Dy (nB 7) (PE.ar cI)) (nB 8)) (PE.ar cI) (au _)))).pt (aX (bZ y0)) cP)))
  (aA (Jr 7 (PE.ar cI) (PE.ar cI))
  (aX (bZ (j0 (bL (aV.u6 hr)) br (nB 6) (nB 5) (au _)))))))))))))))))
 exact h
end
@[irreducible] noncomputable def Kw (w:World):PySem.W.Frag:=H.K w.params
theorem EK(w:World):Kw w=H.K w.params:=by kernel_rfl
theorem oV{K:PySem.W.Frag}{h:Heap}{mg:Str->Option Value}{x:String}{st:Stmt}{ps:List Str}{f c:Addr}{m:Value}(X:K.In h)(G:h.Ns mainGlobals mg)
  (e:(nsIn K mainGlobals (Str.ofString x),K.lookup f,codeIn K (.ref c) (Str.ofString x),keepIn K (.ref f))=(some (some (.ref f)),some (DL.H.hf (Str.ofString x) (Str.ofString x) st m c),true,true))
  (hb:∀(kV doc pm:Value)(an:Option Addr)(cdv ct:Value)(us:List Value),us.length=ps.length->bindArgs (PySem.W.fnOf (Str.ofString x) (Str.ofString x) (cW st) (bF st) (ah st) .none kV doc pm an cdv ct) ⟨us,[]⟩=pure (ps.zip us)):
  Df K mg (Str.ofString x) st ps f (PySem.W.fnOf (Str.ofString x) (Str.ofString x) (cW st) (bF st) (ah st) .none .none .none m none (.ref c) .none):=Qp X G (congrArg (·.1) e) (congrArg (·.2.1) e) (congrArg (·.2.2.1) e) (congrArg (·.2.2.2) e) hb
theorem Nu{x q:Str}{a:Arguments}{b:List Stmt}{s:Scope}{p0:Str}(h:∀(kV doc pm:Value)(an:Option Addr)(cdv ct v0:Value),bindArgs (PySem.W.fnOf x q a b s .none kV doc pm an cdv ct) ⟨[v0],[]⟩=pure [(p0,v0)])(kV doc pm:Value)(an:Option Addr)(cdv ct:Value)(us:List Value)(hl:us.length=[p0].length):bindArgs (PySem.W.fnOf x q a b s .none kV doc pm an cdv ct) ⟨us,[]⟩=pure ([p0].zip us):=match us,hl with|[v0],_=>h _ _ _ _ _ _ _
theorem Bt{x q:Str}{a:Arguments}{b:List Stmt}{s:Scope}{p0 p1:Str}(h:∀(kV doc pm:Value)(an:Option Addr)(cdv ct v0 v1:Value),bindArgs (PySem.W.fnOf x q a b s .none kV doc pm an cdv ct) ⟨[v0,v1],[]⟩=pure [(p0,v0),(p1,v1)])(kV doc pm:Value)(an:Option Addr)(cdv ct:Value)(us:List Value)(hl:us.length=[p0,p1].length):bindArgs (PySem.W.fnOf x q a b s .none kV doc pm an cdv ct) ⟨us,[]⟩=pure ([p0,p1].zip us):=match us,hl with|[v0,v1],_=>h _ _ _ _ _ _ _ _
theorem Bj{x q:Str}{a:Arguments}{b:List Stmt}{s:Scope}{p0 p1 p2:Str}(h:∀(kV doc pm:Value)(an:Option Addr)(cdv ct v0 v1 v2:Value),bindArgs (PySem.W.fnOf x q a b s .none kV doc pm an cdv ct) ⟨[v0,v1,v2],[]⟩=pure [(p0,v0),(p1,v1),(p2,v2)])(kV doc pm:Value)(an:Option Addr)(cdv ct:Value)(us:List Value)(hl:us.length=[p0,p1,p2].length):bindArgs (PySem.W.fnOf x q a b s .none kV doc pm an cdv ct) ⟨us,[]⟩=pure ([p0,p1,p2].zip us):=match us,hl with|[v0,v1,v2],_=>h _ _ _ _ _ _ _ _ _
theorem Ra{x q:Str}{a:Arguments}{b:List Stmt}{s:Scope}{p0 p1 p2 p3:Str}(h:∀(kV doc pm:Value)(an:Option Addr)(cdv ct v0 v1 v2 v3:Value),bindArgs (PySem.W.fnOf x q a b s .none kV doc pm an cdv ct) ⟨[v0,v1,v2,v3],[]⟩=pure [(p0,v0),(p1,v1),(p2,v2),(p3,v3)])(kV doc pm:Value)(an:Option Addr)(cdv ct:Value)(us:List Value)(hl:us.length=[p0,p1,p2,p3].length):bindArgs (PySem.W.fnOf x q a b s .none kV doc pm an cdv ct) ⟨us,[]⟩=pure ([p0,p1,p2,p3].zip us):=match us,hl with|[v0,v1,v2,v3],_=>h _ _ _ _ _ _ _ _ _ _
theorem all_mk{l:PySem.W.OpenLaw}{w:World}{h:Heap}{mg:Str->Option Value}{fa:Addr}(X:(Kw w).In h)(G:h.Ns mainGlobals mg)(Rb:mg "law"=some (.ref fa)):
  ∃fd:FuncData,(∀(s:Shared)(v:Value),BindsTo s fd ⟨[v],[]⟩ [("_law_script",v)])/\∀base:Heap,(Kw w).In base->base.Ns mainGlobals mg->gb l.prog w (Kw w) mg base n8 7 fa fd ["_law_script"] (ve (Kw w) vJ qc):=by
 have e:=Rb.symm.trans (mg_of X G (show nsIn (Kw w) mainGlobals "law"=some (some (.ref 226))by kernel_rfl))
 cases e
 let t:Tb (Kw w) mg:={fP:=46,fQ:=_,iU:=oV X G (c:=45) (m:=H.w1) (by kernel_rfl) (Bt λ_ _ _ _ _ _ _ _=>rfl),cA:=53,cB:=_,cZ:=oV X G (c:=52) (m:=H.w2) (by kernel_rfl) (Bj λ_ _ _ _ _ _ _ _ _=>rfl),kO:=60,kP:=_,nG:=oV X G (c:=59) (m:=H.w2) (by kernel_rfl) (Bt λ_ _ _ _ _ _ _ _=>rfl),mG:=67,mH:=_,ql:=oV X G (c:=66) (m:=H.w2) (by kernel_rfl) (Ra λ_ _ _ _ _ _ _ _ _ _=>rfl),kQ:=74,kR:=_,nH:=oV X G (c:=73) (m:=H.w2) (by kernel_rfl) (Bt λ_ _ _ _ _ _ _ _=>rfl),jn:=81,jo:=_,lH:=oV X G (c:=80) (m:=H.w2) (by kernel_rfl) (Bt λ_ _ _ _ _ _ _ _=>rfl),fR:=88,fS:=_,iV:=oV X G (c:=87) (m:=H.w2) (by kernel_rfl) (Bj λ_ _ _ _ _ _ _ _ _=>rfl),cM:=95,cO:=_,ek:=oV X G (c:=94) (m:=H.w2) (by kernel_rfl) (Bj λ_ _ _ _ _ _ _ _ _=>rfl),o9:=102,pe:=_,sM:=oV X G (c:=101) (m:=H.w2) (by kernel_rfl) (Bj λ_ _ _ _ _ _ _ _ _=>rfl),gG:=109,gH:=_,jq:=oV X G (c:=108) (m:=H.w3) (by kernel_rfl) (Bj λ_ _ _ _ _ _ _ _ _=>rfl),dB:=116,dC:=_,gq:=oV X G (c:=115) (m:=H.w3) (by kernel_rfl) (Bt λ_ _ _ _ _ _ _ _=>rfl),jr:=123,jt:=_,lI:=oV X G (c:=122) (m:=H.w3) (by kernel_rfl) (Bt λ_ _ _ _ _ _ _ _=>rfl),gZ:=130,g6:=_,ju:=oV X G (c:=129) (m:=H.w4) (by kernel_rfl) (Bj λ_ _ _ _ _ _ _ _ _=>rfl),eB:=137,eI:=_,g7:=oV X G (c:=136) (m:=H.w4) (by kernel_rfl) (Bt λ_ _ _ _ _ _ _ _=>rfl),eJ:=144,eM:=_,g8:=oV X G (c:=143) (m:=H.w4) (by kernel_rfl) (Bj λ_ _ _ _ _ _ _ _ _=>rfl),dD:=151,dE:=_,gu:=oV X G (c:=150) (m:=H.w4) (by kernel_rfl) (Bt λ_ _ _ _ _ _ _ _=>rfl),gJ:=158,gK:=_,jv:=oV X G (c:=157) (m:=H.w4) (by kernel_rfl) (Bt λ_ _ _ _ _ _ _ _=>rfl),gM:=165,gO:=_,jw:=oV X G (c:=164) (m:=H.w4) (by kernel_rfl) (Bj λ_ _ _ _ _ _ _ _ _=>rfl),iH:=179,iI:=_,kC:=oV X G (c:=178) (m:=H.w4) (by kernel_rfl) (Bt λ_ _ _ _ _ _ _ _=>rfl),jx:=186,jy:=_,lJ:=oV X G (c:=185) (m:=H.w4) (by kernel_rfl) (Bj λ_ _ _ _ _ _ _ _ _=>rfl),fT:=200,fU:=_,iW:=oV X G (c:=199) (m:=H.w4) (by kernel_rfl) (Nu λ_ _ _ _ _ _ _=>rfl),fV:=207,fW:=_,iX:=oV X G (c:=206) (m:=H.w4) (by kernel_rfl) (Bj λ_ _ _ _ _ _ _ _ _=>rfl),eO:=214,eQ:=_,g9:=oV X G (c:=213) (m:=H.w4) (by kernel_rfl) (Bj λ_ _ _ _ _ _ _ _ _=>rfl),gR:=219,gS:=_,jz:=oV X G (c:=218) (m:=H.w4) (by kernel_rfl) (Nu λ_ _ _ _ _ _ _=>rfl),AI:=226,xV:=_,Ew:=oV X G (c:=225) (m:=H.w4) (by kernel_rfl) (Nu λ_ _ _ _ _ _ _=>rfl),jg:=mg_none_of X G (by kernel_rfl),wG:=mg_none_of X G (by kernel_rfl),kD:=mg_none_of X G (by kernel_rfl),AJ:=mg_none_of X G (by kernel_rfl),bI:=mg_none_of X G (by kernel_rfl),iJ:=mg_none_of X G (by kernel_rfl),qm:=mg_none_of X G (by kernel_rfl),AK:=mg_none_of X G (by kernel_rfl),xW:=mg_none_of X G (by kernel_rfl),Ex:=mg_none_of X G (by kernel_rfl),Ey:=mg_none_of X G (by kernel_rfl),sN:=mg_none_of X G (by kernel_rfl)}
 refine⟨_,λs v=>(?_:BindsTo s t.xV ⟨[v],[]⟩ [("_law_script",v)]),λbase _ _=>?_⟩
 ·exact .of_eq rfl
 have iZ:= @qy l.prog w (Kw w) mg base t
 have bu:= @qO l.prog w (Kw w) mg base t
 have jE:= @qP l.prog w (Kw w) mg base t
 have gz:= @nS l.prog w (Kw w) mg base t
 have fG:= @uZ l.prog w (Kw w) mg base t
 have hU:= @oQ l.prog w (Kw w) mg base t
 have ie:= @oR l.prog w (Kw w) mg base t
 have gx:= @nT l.prog w (Kw w) mg base t
 have kI:= @tE l.prog w (Kw w) mg base t
 have lL:= @u7 l.prog w (Kw w) mg base t
 have i5:= @qz l.prog w (Kw w) mg base t
 have ig:= @oU l.prog w (Kw w) mg base t
 have nU:= @wW l.prog w (Kw w) mg base t bu
 have qC:= @yU l.prog w (Kw w) mg base t iZ bu
 have nV:= @wX l.prog w (Kw w) mg base t bu
 have lM:= @u9 l.prog w (Kw w) mg base t bu
 have jD:= @qQ l.prog w (Kw w) mg base t gx
 have i6:= @qA l.prog w (Kw w) mg base t kI lL
 have jG:= @qR l.prog w (Kw w) mg base t fG
 have i0:= @qB l.prog w (Kw w) mg base t nU qC nV lM
 have jF:= @qT l.prog w (Kw w) mg base t fG jD
 have fg:= @lN l.prog w (Kw w) mg base t i0
 have tH:= @Bh l.prog w (Kw w) mg base t fg
 have lP:= @vc l.prog w (Kw w) mg base t tH jE gz
 have J2:= @Ht l.prog w (Kw w) mg base t lP hU ie jF i5 i6 ig jG
 exact J2
theorem walk{l:PySem.W.OpenLaw}{q:Program}{loose:List Str}{XP:(Str->Option Value)->Heap->Prop}{YP:World->Heap->Prop}{d:DefRec}{K:Params->PySem.W.Frag}(hn:l.most=some 63)(Iz:d.params.defaults=[])
  (hY:∀(w:World)(h:Heap),YP w h->(K w.params).In h)
  (F:∀(w:World)(mg:Str->Option Value)(fa:Addr)(h:Heap),(K w.params).In h->h.Ns mainGlobals mg->mg d.name=some (.ref fa)->
   ∃fd:FuncData,(∀(s:Shared)(u:Value),BindsTo s fd ⟨[u],[]⟩ [("_law_script",u)])/\∀base:Heap,(K w.params).In base->base.Ns mainGlobals mg->gb l.prog w (K w.params) mg base n8 7 fa fd ["_law_script"] (ve (K w.params) vJ qc)):
  PySem.W.WalkO q loose XP YP l.row.toRowW d [] (λf vs=>PySem.call f vs):=
 L2.BX (n:=63) (k:=7) (x:="_law_script") (CX:=λ_=>n8) (sp:=λw=>ve (K w.params) vJ qc) hn (by decide) Iz ⟨rfl,by decide,by decide⟩ hY F (λw H a ns hl _ hS=>Hs ns hl hS) λ_ _ _ _ _ z=>z
end DL.sI
open PySem PySem.W PyProof.Rows
set_option maxRecDepth 100000 in
set_option maxHeartbeats 0 in
theorem PySem.Challenge.cw_braidcomb_k41_unfolded_walked_holds : PySem.Challenge.rw_braidcomb_k41_unfolded_walked.Holds := by
 w_on
 refine holds_law (l:=PySem.Challenge.rw_braidcomb_k41_unfolded_walked) (by kernel_rfl) λsaid=>?_
 refine holds_open (q:=DL.sI.H.q) (Xt:=DL.sI.H.Xt) (XP:=XL DL.sI.H.q []) (Yf:=DL.sI.H.hk.obs) (Ya:=DL.sI.H.hk.val) (YP:=DL.sI.H.hk.says) DL.sI.H.left DL.sI.H.hk.of DL.sI.H.hk.keeps (λs e=>xl_of s (Bool.and_eq_true_iff.mp e).1) XL.keeps (by rfl) (by rfl) (by rfl) (λs e=>recFacts_of (Bool.and_eq_true_iff.mp e).2) (by rfl) said (by decide +kernel) ⟨rfl,rfl,rfl,rfl,rfl,by decide +kernel⟩ ?hw ?hc
 case hw=>w_witness2
 refine DL.sI.walk (l:=PySem.Challenge.rw_braidcomb_k41_unfolded_walked) rfl rfl (λw h Y=>kIn_of Y) ?F
 case F=>
  intro w mg fa h KX G hmg
  have hh:=DL.sI.all_mk (l:=PySem.Challenge.rw_braidcomb_k41_unfolded_walked) ((DL.sI.EK w).symm▸KX) G hmg
  rw[DL.sI.EK w]at hh
  exact hh
